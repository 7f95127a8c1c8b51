/- Maps whose keys are strings or structs, as functions of their keys. -/
import Derived.Test.YtdkkpcbebhgbiaaGreatDoorZac
import Derived.Maps.OwnSet
import Derived.DeepKeys4
namespace Go.Proofs.YtdkkpcbebhgbiaaGreatDoor
set_option maxRecDepth 100000
open Go.RowKit Go.MapKept Go.ChangeMaps
open Go.Maps (Keyed)

/-- Block b is a map of n entries that answers as F says; kv, vv: how keys and elements lie. -/
structure MapK {κ ν : Type} (P : Program) (k : TypeId) (kv : κ → Value) (vv : ν → Value) (w : World) (b n : Nat) (F : κ → Option ν) : Prop where
  ex : ∃ es clock, w.heap[b]? = some (.map es clock) ∧ Stamped es clock ∧ es.size = n ∧ n ≤ maxLen ∧ (∀ x ∈ es.toList, ∃ kl, keyOf P k x.key = some kl) ∧ (∀ x ∈ es.toList, ∃ q v, x.key = kv q ∧ x.val = vv v ∧ F q = some v) ∧ (∀ q v, F q = some v → ∃ x, x ∈ es.toList ∧ x.key = kv q ∧ x.val = vv v)

section
variable {κ ν : Type} {P : Program} {k : TypeId} {kv : κ → Value} {vv : ν → Value} {w w' : World} {b n : Nat} {F : κ → Option ν}
theorem MapK.lt (h : MapK P k kv vv w b n F) : b < w.heap.size := by
  obtain ⟨es, clock, hb, _⟩ := h.ex
  exact (Array.getElem?_eq_some_iff.1 hb).1
theorem MapK.of (h : MapK P k kv vv w b n F) (e : w'.heap[b]? = w.heap[b]?) : MapK P k kv vv w' b n F := by
  obtain ⟨es, clock, hb, r⟩ := h.ex
  exact ⟨es, clock, e.trans hb, r⟩
theorem MapK.only {S : Nat → Prop} (h : MapK P k kv vv w b n F) (q : Only S w w') (hS : ¬ S b) : MapK P k kv vv w' b n F := h.of (q.block b h.lt hS)
theorem MapK.below (h : MapK P k kv vv w b n F) (q : Below w.heap.size w w') : MapK P k kv vv w' b n F := h.only (Only.of_below (S := fun _ => False) q) (fun h => h)
theorem MapK.made (w : World) (P : Program) (k : TypeId) (kv : κ → Value) (vv : ν → Value) : MapK P k kv vv (w.alloc (.map #[] 0)) w.heap.size 0 (fun _ => none) :=
  ⟨⟨#[], 0, (MapKept.heap_alloc w _).1, stamped_empty 0, rfl, by simp [maxLen], by simp, by simp, by simp⟩⟩
theorem MapK.ext {G : κ → Option ν} (h : MapK P k kv vv w b n F) (e : ∀ q, F q = G q) : MapK P k kv vv w b n G := by
  have : F = G := funext e
  exact this ▸ h
/-- 'len(m)'. -/
theorem MapK.len {t e : TypeId} (h : MapK P k kv vv w b n F) (ht : P.underlying t = some (.map k e)) (ty : TypeId) : (Builtin.len_ #[t] ty #[.map (some b)]).run P w = .ok (.int .i64 n) w := by
  obtain ⟨es, clock, hb, _, rfl, _⟩ := h.ex
  simp [Builtin.len_, run_underlying ht, MapKept.run_getObj_map hb, goInt, Result.andThen]
theorem MapK.le (h : MapK P k kv vv w b n F) : n ≤ maxLen := by
  obtain ⟨es, clock, _, _, _, h, _⟩ := h.ex
  exact h
/-- 'v, ok := m[k]'. -/
theorem MapK.look {t e : TypeId} (h : MapK P k kv vv w b n F) (K : Keyed P k) (ht : P.underlying t = some (.map k e)) {z : Value} (hz : (zeroValue e).run P w = .ok z w) (hinj : ∀ a b, kv a = kv b → a = b) {q : κ} {kl : Lit} (hkey : keyOf P k (kv q) = some kl) :
    (Instr.lookup t (.map (some b)) (kv q) true).run P w = .ok (match F q with | none => .tuple #[z, .bool false] | some v => .tuple #[vv v, .bool true]) w := by
  obtain ⟨es, clock, hb, _, _, _, hk, h1, h2⟩ := h.ex
  rcases K.find w hkey es.toList hk with ⟨f1, f2⟩ | ⟨j, e0, f1, f2, f3⟩
  · have hF : F q = none := by
      cases hF : F q with
      | none => rfl
      | some v =>
        obtain ⟨x, hx, e1, _⟩ := h2 q v hF
        exact absurd e1 (f2 x hx)
    rw [hF]
    simp [Instr.lookup, run_underlying ht, MapKept.run_getObj_map hb, K.check w _ hkey, f1, hz, Result.andThen]
  · obtain ⟨q', v, e1, e2, e3⟩ := h1 e0 (List.mem_of_getElem? f2)
    obtain rfl := hinj q' q (e1.symm.trans f3)
    rw [e3]
    simp [Instr.lookup, run_underlying ht, MapKept.run_getObj_map hb, K.check w _ hkey, f1, e2, Result.andThen]
theorem only_setBlock (w : World) (b : Nat) (o : Obj) : Only (· = b) w (setBlock w b o) :=
  ⟨rfl, rfl, rfl, by simp [setBlock], fun j _ hj => by simp [setBlock, Array.getElem?_setIfInBounds, Ne.symm hj]⟩
/-- 'm[k] = v'. -/
theorem MapK.store {t e : TypeId} [DecidableEq κ] (h : MapK P k kv vv w b n F) (K : Keyed P k) (ht : P.underlying t = some (.map k e)) (hinj : ∀ a b, kv a = kv b → a = b) (hroom : n < maxLen) {q : κ} {kl : Lit} (hkey : keyOf P k (kv q) = some kl) (v : ν) :
    ∃ w', (Instr.mapUpdate t (.map (some b)) (kv q) (vv v)).run P w = .ok () w' ∧ MapK P k kv vv w' b (if (F q).isSome then n else n + 1) (fun x => if x = q then some v else F x) ∧ Only (· = b) w w' := by
  obtain ⟨es, clock, hb, hst, hn, hm, hk, h1, h2⟩ := h.ex
  rcases K.find w hkey es.toList hk with ⟨f1, f2⟩ | ⟨j, e0, f1, f2, f3⟩
  · have hF : F q = none := by
      cases hF : F q with
      | none => rfl
      | some v =>
        obtain ⟨x, hx, e1, _⟩ := h2 q v hF
        exact absurd e1 (f2 x hx)
    refine ⟨setBlock w b (.map (es.push ⟨kv q, vv v, clock⟩) (clock + 1)), ?_, ⟨es.push ⟨kv q, vv v, clock⟩, clock + 1, ?_, stamped_push hst f2, ?_, ?_, ?_, ?_, ?_⟩, only_setBlock _ _ _⟩
    · simp [Instr.mapUpdate, run_underlying ht, MapKept.run_getObj_map hb, K.check w false hkey, f1, MapKept.run_setObj_map _ hb, Result.andThen, setBlock]
    · exact heap_setBlock_same hb _
    · simp [hF, hn]
    · simp [hF]; omega
    · intro x hx
      simp only [Array.toList_push, List.mem_append, List.mem_singleton] at hx
      rcases hx with hx | rfl
      · exact hk x hx
      · exact ⟨_, hkey⟩
    · intro x hx
      simp only [Array.toList_push, List.mem_append, List.mem_singleton] at hx
      rcases hx with hx | rfl
      · obtain ⟨q', v', e1, e2, e3⟩ := h1 x hx
        refine ⟨q', v', e1, e2, ?_⟩
        have hne : ¬ q' = q := by rintro rfl; exact f2 x hx e1
        rw [if_neg hne]
        exact e3
      · exact ⟨q, v, rfl, rfl, by simp⟩
    · intro q' v' hq
      simp only [Array.toList_push, List.mem_append, List.mem_singleton]
      split at hq
      · rename_i hqq
        subst hqq
        cases hq
        exact ⟨_, Or.inr rfl, rfl, rfl⟩
      · obtain ⟨x, hx, r⟩ := h2 q' v' hq
        exact ⟨x, Or.inl hx, r⟩
  · obtain ⟨q', v0, e1, e2, e3⟩ := h1 e0 (List.mem_of_getElem? f2)
    obtain rfl := hinj q' q (e1.symm.trans f3)
    have hj : es[j]? = some e0 := by simpa using f2
    have hkeyf : ∀ e', es[j]? = some e' → ({ e' with key := kv q', val := vv v } : MapEntry).key = e'.key := fun e' he' => by rw [hj] at he'; cases he'; exact f3.symm
    have hlist : (es.modify j (fun e' => { e' with key := kv q', val := vv v })).toList = es.toList.set j { e0 with key := kv q', val := vv v } := by rw [Array.toList_modify, modify_eq_set _ _ _ _ f2]
    have hnk : es.toList.Pairwise (fun x y => x.key ≠ y.key) := ((stamped_iff es clock).1 hst).2.2
    have hother : ∀ i x, es.toList[i]? = some x → i ≠ j → x.key ≠ kv q' := fun i x hi hne => by
      obtain ⟨hj', ej⟩ := List.getElem?_eq_some_iff.1 f2
      obtain ⟨hi', ei⟩ := List.getElem?_eq_some_iff.1 hi
      rw [← f3]
      rcases Nat.lt_or_gt_of_ne hne with hlt | hlt
      · have := List.pairwise_iff_getElem.1 hnk i j hi' hj' hlt
        rw [ei, ej] at this
        exact this
      · have := List.pairwise_iff_getElem.1 hnk j i hj' hi' hlt
        rw [ei, ej] at this
        exact this.symm
    have who : ∀ x ∈ es.toList.set j { e0 with key := kv q', val := vv v }, x = { e0 with key := kv q', val := vv v } ∨ (x ∈ es.toList ∧ x.key ≠ kv q') := by
      intro x hx
      obtain ⟨i, hi, ex⟩ := List.getElem_of_mem hx
      rw [List.getElem_set] at ex
      split at ex
      · exact Or.inl ex.symm
      · rename_i hne
        have hi' : i < es.toList.length := by simpa using hi
        exact Or.inr ⟨ex ▸ List.getElem_mem hi', hother i x (by rw [List.getElem?_eq_getElem hi', ex]) (fun e1 => hne e1.symm)⟩
    refine ⟨setBlock w b (.map (es.modify j (fun e' => { e' with key := kv q', val := vv v })) clock), ?_, ⟨_, clock, heap_setBlock_same hb _, stamped_modify hst _ _ (fun _ _ => rfl) (fun e' _ he' => hkeyf e' he'), ?_, ?_, ?_, ?_, ?_⟩, only_setBlock _ _ _⟩
    · simp [Instr.mapUpdate, run_underlying ht, MapKept.run_getObj_map hb, K.check w false hkey, f1, hj, f3, K.stays w hkey, MapKept.run_setObj_map _ hb, Result.andThen, setBlock]
    · simp [e3, hn]
    · simp [e3]; omega
    · intro x hx
      rw [hlist] at hx
      rcases who x hx with rfl | ⟨hx', _⟩
      · exact ⟨_, hkey⟩
      · exact hk x hx'
    · intro x hx
      rw [hlist] at hx
      rcases who x hx with rfl | ⟨hx', hne⟩
      · exact ⟨q', v, rfl, rfl, by simp⟩
      · obtain ⟨q2, v2, e4, e5, e6⟩ := h1 x hx'
        refine ⟨q2, v2, e4, e5, ?_⟩
        have hne2 : ¬ q2 = q' := by rintro rfl; exact hne e4
        rw [if_neg hne2]
        exact e6
    · intro q2 v2 hq
      rw [hlist]
      split at hq
      · rename_i hqq
        subst hqq
        cases hq
        exact ⟨_, List.mem_set (i := j) (by exact (List.getElem?_eq_some_iff.1 f2).1) _, rfl, rfl⟩
      · rename_i hqq
        obtain ⟨x, hx, e4, e5⟩ := h2 q2 v2 hq
        refine ⟨x, ?_, e4, e5⟩
        obtain ⟨i, hi, ex⟩ := List.getElem_of_mem hx
        have hij : i ≠ j := fun e => by
          subst e
          rw [List.getElem?_eq_getElem hi, ex] at f2
          cases f2
          exact hqq (hinj _ _ (e4.symm.trans f3))
        have hi2 : i < (es.toList.set j { e0 with key := kv q', val := vv v }).length := by simpa using hi
        have : (es.toList.set j { e0 with key := kv q', val := vv v })[i] = x := by rw [List.getElem_set_ne (fun e => hij e.symm)]; exact ex
        exact this ▸ List.getElem_mem hi2
end

/-- The last one of a list of pairs that has a key. -/
def lastA {κ ν : Type} [DecidableEq κ] (L : List (κ × ν)) (q : κ) : Option ν := (L.reverse.find? (fun p => p.1 = q)).map (·.2)
theorem lastA_snoc {κ ν : Type} [DecidableEq κ] (L : List (κ × ν)) (k : κ) (v : ν) (q : κ) : lastA (L ++ [(k, v)]) q = if q = k then some v else lastA L q := by
  unfold lastA
  rw [List.reverse_append, List.reverse_singleton, List.singleton_append, List.find?_cons]
  by_cases h : q = k
  · subst h; simp
  · rw [if_neg h]
    have : decide (k = q) = false := by simpa using fun e => h e.symm
    simp only [this]
theorem lastA_nil {κ ν : Type} [DecidableEq κ] (q : κ) : lastA ([] : List (κ × ν)) q = none := rfl
theorem lastA_isSome {κ ν : Type} [DecidableEq κ] (L : List (κ × ν)) (q : κ) : (lastA L q).isSome = true ↔ q ∈ L.map (·.1) := by
  unfold lastA
  rw [Option.isSome_map, List.find?_isSome]
  simp
/-- How many keys a list has. -/
def cntR {κ : Type} [DecidableEq κ] : List κ → Nat
  | [] => 0
  | k :: r => if k ∈ r then cntR r else cntR r + 1
def cntA {κ : Type} [DecidableEq κ] (l : List κ) : Nat := cntR l.reverse
theorem cntR_le {κ : Type} [DecidableEq κ] : ∀ l : List κ, cntR l ≤ l.length
  | [] => Nat.le_refl _
  | k :: r => by unfold cntR; have := cntR_le r; split <;> simp <;> omega
theorem cntR_eq {κ : Type} [DecidableEq κ] : ∀ l : List κ, cntR l = l.length ↔ l.Nodup
  | [] => by simp [cntR]
  | k :: r => by
    have h1 := cntR_le r
    have h2 := cntR_eq r
    unfold cntR
    rw [List.nodup_cons]
    split
    · rename_i h
      simp
      exact ⟨fun e => by omega, fun e => absurd h e.1⟩
    · rename_i h
      simp [h2, h]
theorem cntA_le {κ : Type} [DecidableEq κ] (l : List κ) : cntA l ≤ l.length := by
  have := cntR_le l.reverse
  simpa [cntA] using this
theorem cntA_eq {κ : Type} [DecidableEq κ] (l : List κ) : cntA l = l.length ↔ l.Nodup := by
  have := cntR_eq l.reverse
  have hr : l.reverse.Nodup ↔ l.Nodup := by
    unfold List.Nodup
    rw [List.pairwise_reverse]
    exact ⟨fun h => h.imp Ne.symm, fun h => h.imp Ne.symm⟩
  rw [List.length_reverse, hr] at this
  exact this
theorem cntA_snoc {κ : Type} [DecidableEq κ] (l : List κ) (k : κ) : cntA (l ++ [k]) = if k ∈ l then cntA l else cntA l + 1 := by
  unfold cntA
  rw [List.reverse_append, List.reverse_singleton, List.singleton_append]
  simp [cntR]

end Go.Proofs.YtdkkpcbebhgbiaaGreatDoor
