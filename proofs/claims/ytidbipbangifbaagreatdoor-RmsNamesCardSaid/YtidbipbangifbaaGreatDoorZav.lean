/- A store's map: blobs and their sectors by keys, as plain data; the map's operations. -/
import Derived.Test.YtidbipbangifbaaGreatDoorZau
import Derived.Maps.Own
import Derived.Maps.OwnSet
import Derived.Maps.Ext
import Derived.Maps.RangeWalk
import Derived.Sort.KeysCollected
import Derived.Test.YtidbipbangifbaaGreatDoorZat
import Derived.Deep.RegionHeld3
import Derived.Test.YtidbipbangifbaaGreatDoorZac
import Derived.Test.YtidbipbangifbaaGreatDoorZaf
import Derived.Test.YtidbipbangifbaaGreatDoorZap
namespace Go.Proofs.YtidbipbangifbaaGreatDoor
set_option maxRecDepth 100000
open Go.RowKit Go.Maps

/-! ### Rows of keys and what stands under them, in the order of keys -/
section
variable {α β : Type}
abbrev Al (α : Type) := List (List UInt8 × α)
def ains (p : List UInt8 × α) : Al α → Al α
  | [] => [p]
  | q :: r => if bytesBefore p.1 q.1 then p :: q :: r else q :: ains p r
def adel (M : Al α) (k : List UInt8) : Al α := M.filter fun p => !(p.1 == k)
def aput (M : Al α) (k : List UInt8) (v : α) : Al α := ains (k, v) (adel M k)
def afind (M : Al α) (k : List UInt8) : Option α := (M.find? fun p => p.1 == k).map (·.2)
def amap (f : α → β) (M : Al α) : Al β := M.map fun p => (p.1, f p.2)

theorem ains_map (f : α → β) (k : List UInt8) (v : α) : ∀ M : Al α, amap f (ains (k, v) M) = ains (k, f v) (amap f M)
  | [] => rfl
  | q :: r => by
    unfold amap ains
    simp only [List.map_cons]
    split
    · rfl
    · rw [List.map_cons]
      congr 1
      exact ains_map f k v r
theorem adel_map (f : α → β) (M : Al α) (k : List UInt8) : amap f (adel M k) = adel (amap f M) k := by
  unfold amap adel
  rw [List.filter_map]
  rfl
theorem aput_map (f : α → β) (M : Al α) (k : List UInt8) (v : α) : amap f (aput M k v) = aput (amap f M) k (f v) := by
  unfold aput
  rw [ains_map, adel_map]
theorem afind_map (f : α → β) (M : Al α) (k : List UInt8) : afind (amap f M) k = (afind M k).map f := by
  unfold afind amap
  rw [List.find?_map, Option.map_map, Option.map_map]
  rfl
theorem ains_mem (p q : List UInt8 × α) : ∀ M : Al α, q ∈ ains p M ↔ q = p ∨ q ∈ M
  | [] => by simp [ains]
  | r :: M => by
    unfold ains
    split
    · simp
    · rw [List.mem_cons, ains_mem p q M, List.mem_cons]
      constructor
      · rintro (h | h | h)
        · exact Or.inr (Or.inl h)
        · exact Or.inl h
        · exact Or.inr (Or.inr h)
      · rintro (h | h | h)
        · exact Or.inr (Or.inl h)
        · exact Or.inl h
        · exact Or.inr (Or.inr h)
theorem adel_mem (M : Al α) (k : List UInt8) (q : List UInt8 × α) : q ∈ adel M k ↔ q ∈ M ∧ q.1 ≠ k := by simp [adel]
theorem aput_mem (M : Al α) (k : List UInt8) (v : α) (q : List UInt8 × α) : q ∈ aput M k v ↔ q = (k, v) ∨ (q ∈ M ∧ q.1 ≠ k) := by
  unfold aput
  rw [ains_mem, adel_mem]
theorem afind_mem {M : Al α} {k : List UInt8} {v : α} (h : afind M k = some v) : (k, v) ∈ M := by
  unfold afind at h
  rw [Option.map_eq_some_iff] at h
  obtain ⟨p, hp, rfl⟩ := h
  have h1 := List.mem_of_find?_eq_some hp
  have h2 := List.find?_some hp
  simp at h2
  rw [← h2]
  exact h1
end

/-! ### A stand in a map -/
/-- A blob as it lies in memory (its row, if there is one), the sector it stands in, and what it reads as. -/
structure Sv where
  sec : Int
  g : Option Nat
  n : Nat
  cap : Nat
  xs : List UInt8
def adr (g : Option Nat) : Option Addr := g.map fun b => ⟨b, 0, none⟩
def Sv.v (f : Sv) : Value := .agg #[.int .i64 f.sec, .slice (adr f.g) f.n f.cap]
def optD : Option Nat → DataW Unit
  | none => .nil
  | some b => .lit (.int .i64 (b : Int))
def stD (a : Int) (g : Option Nat) (n cap : Nat) : DataW Unit := .agg [.lit (.int .i64 a), optD g, .lit (.int .i64 (n : Int)), .lit (.int .i64 (cap : Int))]
def Sv.d (f : Sv) : DataW Unit := stD f.sec f.g f.n f.cap
def standElem : Value → Option (DataW Unit × List MemPlace)
  | .agg ⟨[.int .i64 a, .slice none n cap]⟩ => some (stD a none n cap, [])
  | .agg ⟨[.int .i64 a, .slice (some ⟨b, 0, none⟩) n cap]⟩ => some (stD a (some b) n cap, [])
  | _ => none
theorem standElem_mk (f : Sv) : standElem f.v = some (f.d, []) := by
  obtain ⟨a, g, n, cap, xs⟩ := f
  cases g <;> rfl
theorem stD_inj {a a' : Int} {g g' : Option Nat} {n n' cap cap' : Nat} (h : stD a g n cap = stD a' g' n' cap') : a = a' ∧ g = g' ∧ n = n' ∧ cap = cap' := by
  unfold stD at h
  simp only [DataW.agg.injEq, List.cons.injEq, DataW.lit.injEq, Lit.int.injEq, true_and, and_true] at h
  obtain ⟨h1, h2, h3, h4⟩ := h
  refine ⟨h1, ?_, by omega, by omega⟩
  cases g <;> cases g' <;> simp [optD] at h2 ⊢
  omega
theorem standElem_inv {v : Value} {f : Sv} {ps : List MemPlace} (h : standElem v = some (f.d, ps)) : v = f.v := by
  unfold standElem at h
  split at h
  · simp only [Option.some.injEq, Prod.mk.injEq] at h
    obtain ⟨h1, h2, h3, h4⟩ := stD_inj h.1
    unfold Sv.v
    rw [← h1, ← h2, ← h3, ← h4]
    rfl
  · simp only [Option.some.injEq, Prod.mk.injEq] at h
    obtain ⟨h1, h2, h3, h4⟩ := stD_inj h.1
    unfold Sv.v
    rw [← h1, ← h2, ← h3, ← h4]
    rfl
  · cases h
theorem standElem_some {v : Value} {y : DataW Unit × List MemPlace} (h : standElem v = some y) : ∃ f : Sv, v = f.v ∧ y = (f.d, []) := by
  unfold standElem at h
  split at h
  · rename_i a n cap
    cases h
    exact ⟨⟨a, none, n, cap, []⟩, rfl, rfl⟩
  · rename_i a b n cap
    cases h
    exact ⟨⟨a, some b, n, cap, []⟩, rfl, rfl⟩
  · cases h

/-- The datum of a store's map. -/
def smD (M : Al Sv) : DataW Unit := .map (M.map fun p => (.string p.1, p.2.d))
theorem insert_sm (k : List UInt8) (f : Sv) : ∀ M : Al Sv, DataW.insert (.string k, f.d) (M.map fun p => ((.string p.1 : Lit), p.2.d)) = (ains (k, f) M).map fun p => ((.string p.1 : Lit), p.2.d)
  | [] => rfl
  | q :: r => by
    unfold ains
    rw [List.map_cons]
    unfold DataW.insert
    by_cases hb : bytesBefore k q.1 = true
    · have hb2 : (Lit.string k).before (Lit.string q.1) = true := hb
      rw [if_pos hb2, if_pos hb]
      rfl
    · have hb2 : ¬ (Lit.string k).before (Lit.string q.1) = true := hb
      rw [if_neg hb2, if_neg hb, List.map_cons, insert_sm k f r]
theorem filter_sm (k : List UInt8) (M : Al Sv) : (M.map fun p => ((.string p.1 : Lit), p.2.d)).filter (fun p => !p.1.sameKey (.string k)) = (adel M k).map fun p => ((.string p.1 : Lit), p.2.d) := by
  unfold adel
  rw [List.filter_map]
  rfl
theorem put_sm (M : Al Sv) (k : List UInt8) (f : Sv) : (smD M).put (.string k) f.d = smD (aput M k f) := by
  unfold smD aput
  rw [← insert_sm, ← filter_sm]
  rfl
theorem del_sm (M : Al Sv) (k : List UInt8) : (smD M).del (.string k) = smD (adel M k) := by
  unfold smD
  rw [← filter_sm]
  rfl
theorem atKey_sm (M : Al Sv) (k : List UInt8) (z : DataW Unit) : (smD M).atKey (.string k) z = match afind M k with | some f => f.d | none => z := by
  unfold smD DataW.atKey afind
  simp only
  rw [List.find?_map]
  have e : ((fun p : Lit × DataW Unit => p.1.sameKey (.string k)) ∘ fun p : List UInt8 × Sv => ((.string p.1 : Lit), p.2.d)) = fun p => p.1 == k := rfl
  rw [e]
  cases M.find? (fun p => p.1 == k) <;> rfl
theorem has_sm (M : Al Sv) (k : List UInt8) : Maps.has (smD M) (.string k) = (afind M k).isSome := by
  unfold smD afind
  rw [Maps.has_eq, List.any_map]
  have e : ((fun p : Lit × DataW Unit => p.1.sameKey (.string k)) ∘ fun p : List UInt8 × Sv => ((.string p.1 : Lit), p.2.d)) = fun p => p.1 == k := rfl
  rw [e, Option.isSome_map]
  induction M with
  | nil => rfl
  | cons q r ih =>
    rw [List.any_cons, List.find?_cons]
    cases q.1 == k
    · exact ih
    · rfl
theorem strKeys_sm (M : Al Sv) : strKeys (smD M) = M.map (·.1) := by
  show (M.map fun p => ((.string p.1 : Lit), p.2.d)).map (fun p => strOf p.1) = _
  rw [List.map_map]
  rfl

theorem Tryz.standKeyed : Keyed Tryz.prog 9 := string_keyed Tryz.underlying9
def Sv.zero : Sv := ⟨0, none, 0, 0, []⟩
theorem Tryz.standZero (w : World) : (zeroValue 128).run Tryz.prog w = .ok Sv.zero.v w := by kernel_rfl

/-- Block b is a map of stands. -/
def StM (w : World) (b n : Nat) (M : Al Sv) : Prop := w.ownsMap Tryz.prog 9 standElem b n (smD M)

section
variable {w w' : World} {b n : Nat} {M : Al Sv}
theorem StM.made (w : World) : StM (w.alloc (.map #[] 0)) w.heap.size 0 [] := World.ownsMap_made _ _ _ _
theorem StM.lt (h : StM w b n M) : b < w.heap.size := World.ownsMap.lt h
theorem StM.only {S : Nat → Prop} (h : StM w b n M) (k : Only S w w') (hS : ¬ S b) : StM w' b n M := by
  obtain ⟨es, clock, hb, F, hs, hD⟩ := h
  exact ⟨es, clock, (k.block b (Array.getElem?_eq_some_iff.1 hb).1 hS).trans hb, F, hs, hD⟩
theorem StM.below (h : StM w b n M) (k : Below w.heap.size w w') : StM w' b n M := h.only (Only.of_below (S := Empty) k) (fun h => h)
theorem StM.alloc (h : StM w b n M) (o : Obj) : StM (w.alloc o) b n M := World.ownsMap.alloc h o
/-- The map's bound is how many keys it has. -/
theorem StM.tight (h : StM w b n M) : StM w b M.length M := by
  obtain ⟨es, clock, hb, F, hs, hD⟩ := h
  refine ⟨es, clock, hb, F, ?_, hD⟩
  have h1 : Maps.size (smD M) = M.length := by unfold smD; rw [Maps.size_eq, List.length_map]
  rw [hD, Maps.size_eq, length_sorted] at h1
  simp at h1
  omega
theorem StM.mono (h : StM w b n M) {m : Nat} (hm : n ≤ m) : StM w b m M := World.ownsMap.mono h hm
theorem StM.sorted (h : StM w b n M) : M.Pairwise (fun p q => bytesBefore p.1 q.1 = true) := by
  obtain ⟨es, he, hs, _⟩ := World.ownsMap.canon h Tryz.standKeyed
  unfold smD at he
  cases he
  rw [List.pairwise_map] at hs
  exact hs
theorem StM.blk_ne (h : StM w b n M) {g : Nat} {t : TypeId} {cs : Array Value} (hb : Blk w g t cs) : b ≠ g := by
  rintro rfl
  obtain ⟨es, clock, hb2, _⟩ := h
  have : some (Obj.cells cs t (0, 0)) = some (Obj.map es clock) := by
    rw [← show w.heap[b]? = some (.cells cs t (0, 0)) from hb, hb2]
  cases this

/-- What a look-up at a key answers. -/
def svAt (M : Al Sv) (k : List UInt8) : Sv := (afind M k).getD Sv.zero
theorem svAt_d (M : Al Sv) (k : List UInt8) : (smD M).atKey (.string k) Sv.zero.d = (svAt M k).d := by
  rw [atKey_sm]
  unfold svAt
  cases afind M k <;> rfl
theorem svAt_v {M : Al Sv} {k : List UInt8} {f : Sv} (h : afind M k = some f) : svAt M k = f := by unfold svAt; rw [h]; rfl

theorem StM.look (h : StM w b n M) (s : ByteArray) (hs : s.size ≤ maxLen) : (Instr.lookup 94 (.map (some b)) (.string s) false).run Tryz.prog w = .ok (svAt M s.data.toList).v w := by
  obtain ⟨v, ps, hrun, hv⟩ := World.ownsMap.lookup h Tryz.standKeyed Tryz.underlying94 (Tryz.standZero w) (standElem_mk Sv.zero) (Go.WideMaps.keyOf_string_mk Tryz.underlying9 hs)
  rw [svAt_d] at hv
  rw [hrun, standElem_inv hv]

theorem wpList_st_look_ok {ops : Array Oper} {rest : List Oper} {o : Oper} {a : Act} {Q : Exit → Act → World → Prop} (hg : o.guard = none) (m x : Operand) (hop : o.op = Op.lookup 94 m x true)
    (hm : a.eval m = .map (some b)) (hM : StM w b n M) (s : ByteArray) (hs : s.size ≤ maxLen) (hx : a.eval x = .string s)
    (hK : wpList Tryz.prog ops Q rest (a.put o.dst (.tuple #[(svAt M s.data.toList).v, .bool (afind M s.data.toList).isSome])) w) : wpList Tryz.prog ops Q (o :: rest) a w := by
  refine wpList_lookup_own_ok w hg m x 94 hop 9 128 Tryz.standKeyed Tryz.underlying94 standElem (Tryz.standZero w) Sv.zero.d [] (standElem_mk Sv.zero) b n (smD M) hm hM _ _ hx (Go.WideMaps.keyOf_string_mk Tryz.underlying9 hs) ?_
  intro v ps hv
  rw [svAt_d] at hv
  rw [standElem_inv hv, has_sm]
  exact hK

theorem wpList_st_put {ops : Array Oper} {rest : List Oper} {o : Oper} {a : Act} {Q : Exit → Act → World → Prop} (hg : o.guard = none) (m x v : Operand) (hop : o.op = Op.mapUpdate 94 m x v)
    (hm : a.eval m = .map (some b)) (hM : StM w b n M) (hn : n < maxLen) (s : ByteArray) (hs : s.size ≤ maxLen) (f : Sv) (hx : a.eval x = .string s) (hv : a.eval v = f.v)
    (hK : ∀ w', StM w' b (n + 1) (aput M s.data.toList f) → Only (· = b) w w' → wpList Tryz.prog ops Q rest (a.put o.dst undef) w') : wpList Tryz.prog ops Q (o :: rest) a w := by
  refine wpList_mapUpdate_own w hg m x v 94 hop 9 128 Tryz.standKeyed Tryz.underlying94 standElem b n (smD M) hm hM hn _ _ _ hx hv (Go.WideMaps.keyOf_string_mk Tryz.underlying9 hs) f.d [] (standElem_mk f) ?_
  intro w' h1 h2
  rw [put_sm] at h1
  exact hK w' h1 (Only.of_grown h2 (fun k e _ => by cases e; rfl))

theorem wpList_st_del {ops : Array Oper} {rest : List Oper} {o : Oper} {a : Act} {Q : Exit → Act → World → Prop} (hg : o.guard = none) (m x : Operand) (hop : o.op = Op.call { callee := Callee.builtin Builtin.delete, args := #[m, x], argTypes := #[94, 9] })
    (hm : a.eval m = .map (some b)) (hM : StM w b n M) (s : ByteArray) (hs : s.size ≤ maxLen) (hx : a.eval x = .string s)
    (hK : ∀ w', StM w' b n (adel M s.data.toList) → Only (· = b) w w' → wpList Tryz.prog ops Q rest (a.put o.dst (.tuple #[])) w') : wpList Tryz.prog ops Q (o :: rest) a w := by
  refine wpList_delete_own w hg m x 94 9 hop 128 Tryz.standKeyed Tryz.underlying94 standElem b n (smD M) hm hM _ _ hx (Go.WideMaps.keyOf_string_mk Tryz.underlying9 hs) ?_
  intro w' h1 h2
  rw [del_sm] at h1
  exact hK w' h1 (Only.of_grown h2.grown (fun k e _ => by cases e; rfl))
end

end Go.Proofs.YtidbipbangifbaaGreatDoor

/- A store in memory; the walks over blob's apply and Get. -/
namespace Go.Proofs.YtidbipbangifbaaGreatDoor
set_option maxRecDepth 100000
open Go.RowKit Go.Maps

/-- The blobs of a map read as they should; their rows lie in no block of S. -/
def BlobsAt (w : World) (S : Nat → Prop) (M : Al Sv) : Prop := ∀ q ∈ M, ByteSl w S (adr q.2.g) q.2.n q.2.cap q.2.xs ∧ (adr q.2.g = none → q.2.n = 0 ∧ q.2.cap = 0)
/-- The blocks that a store's calls turn. -/
def Mut (s mb p c e : Nat) : Nat → Prop := fun k => k = s ∨ k = mb ∨ Three p c e k

section
variable {w w' : World} {S T : Nat → Prop} {M : Al Sv}
theorem BlobsAt.only (h : BlobsAt w S M) (k : Only T w w') (hT : ∀ i, i < w.heap.size → T i → S i) : BlobsAt w' S M := fun q hq => ⟨(h q hq).1.only k hT, (h q hq).2⟩
theorem BlobsAt.below (h : BlobsAt w S M) (k : Below w.heap.size w w') : BlobsAt w' S M := h.only (Only.of_below (S := Empty) k) (fun _ _ h => h.elim)
theorem BlobsAt.put (h : BlobsAt w S M) (k : List UInt8) (f : Sv) (hf : ByteSl w S (adr f.g) f.n f.cap f.xs ∧ (adr f.g = none → f.n = 0 ∧ f.cap = 0)) : BlobsAt w S (aput M k f) := fun q hq => by
  rcases (aput_mem M k f q).1 hq with rfl | ⟨h1, _⟩
  · exact hf
  · exact h q h1
theorem BlobsAt.del (h : BlobsAt w S M) (k : List UInt8) : BlobsAt w S (adel M k) := fun q hq => h q ((adel_mem M k q).1 hq).1
theorem BlobsAt.at_ (h : BlobsAt w S M) (k : List UInt8) : ByteSl w S (adr (svAt M k).g) (svAt M k).n (svAt M k).cap (svAt M k).xs ∧ (adr (svAt M k).g = none → (svAt M k).n = 0 ∧ (svAt M k).cap = 0) := by
  unfold svAt
  cases hf : afind M k with
  | none => exact ⟨ByteSl.nil_ _ _ _ _ (by simp [Sv.zero, maxLen]), fun _ => ⟨rfl, rfl⟩⟩
  | some f => exact h _ (afind_mem hf)
end

/-- A store lies in memory. -/
structure StoreAt (w : World) (s mb p c e : Nat) (M : Al Sv) (h : HeadV) (d : Bool) : Prop where
  blk : Blk w s 98 (storeC p mb h d)
  map : StM w mb M.length M
  bl : BlobsAt w (Mut s mb p c e) M

section
variable {w w' : World} {s mb p c e : Nat} {M : Al Sv} {h : HeadV} {d : Bool} {T : Nat → Prop}
theorem StoreAt.ne (k : StoreAt w s mb p c e M h d) : mb ≠ s := k.map.blk_ne k.blk
theorem StoreAt.below (k : StoreAt w s mb p c e M h d) (b : Below w.heap.size w w') : StoreAt w' s mb p c e M h d :=
  ⟨k.blk.of (b.block s k.blk.lt), k.map.below b, k.bl.below b⟩
/-- Whatever turned was neither the store nor its map, nor a blob's row. -/
theorem StoreAt.only (k : StoreAt w s mb p c e M h d) (b : Only T w w') (hs : ¬ T s) (hm : ¬ T mb) (hT : ∀ i, i < w.heap.size → T i → Mut s mb p c e i) : StoreAt w' s mb p c e M h d :=
  ⟨b.blk k.blk hs, k.map.only b hm, k.bl.only b hT⟩
end

/-- A store into a map, as an equation. -/
theorem StM.put_run {w : World} {b n : Nat} {M : Al Sv} (hM : StM w b n M) (hn : n < maxLen) (s : ByteArray) (hs : s.size ≤ maxLen) (f : Sv) :
    ∃ w', (Instr.mapUpdate 94 (.map (some b)) (.string s) f.v).run Tryz.prog w = .ok () w' ∧ StM w' b (n + 1) (aput M s.data.toList f) ∧ Only (· = b) w w' := by
  obtain ⟨w', hrun, r1, r2⟩ := World.ownsMap.update (P := Tryz.prog) hM Tryz.standKeyed Tryz.underlying94 hn (WideMaps.keyOf_string_mk Tryz.underlying9 hs) (standElem_mk f)
  rw [put_sm] at r1
  exact ⟨w', hrun, r1, Only.of_grown r2 (fun k e _ => by cases e; rfl)⟩
theorem StM.del_run {w : World} {b n : Nat} {M : Al Sv} (hM : StM w b n M) (s : ByteArray) (hs : s.size ≤ maxLen) (ty : TypeId) :
    ∃ w', (Builtin.delete_ #[94, 9] ty #[.map (some b), .string s]).run Tryz.prog w = .ok (.tuple #[]) w' ∧ StM w' b n (adel M s.data.toList) ∧ Only (· = b) w w' := by
  obtain ⟨w', hrun, r1, r2⟩ := World.ownsMap.drop (P := Tryz.prog) hM Tryz.standKeyed Tryz.underlying94 (WideMaps.keyOf_string_mk Tryz.underlying9 hs) ty
  rw [del_sm] at r1
  exact ⟨w', hrun, r1, Only.of_grown r2.grown (fun k e _ => by cases e; rfl)⟩

/-- What a change makes of a map. -/
def applyA (M : Al (Int × List UInt8)) (f : Ch) (sec : Int) : Al (Int × List UInt8) := if f.del then adel M f.s.data.toList else aput M f.s.data.toList (sec, f.blob)
def Sv.a (f : Sv) : Int × List UInt8 := (f.sec, f.xs)
theorem ains_len {α : Type} (p : List UInt8 × α) : ∀ M : Al α, (ains p M).length = M.length + 1
  | [] => rfl
  | q :: r => by
    unfold ains
    split
    · rfl
    · rw [List.length_cons, ains_len p r, List.length_cons]
theorem aput_len {α : Type} (M : Al α) (k : List UInt8) (v : α) : (aput M k v).length ≤ M.length + 1 := by
  unfold aput
  rw [ains_len]
  have := List.length_filter_le (fun p : List UInt8 × α => !(p.1 == k)) M
  unfold adel
  omega
theorem adel_len {α : Type} (M : Al α) (k : List UInt8) : (adel M k).length ≤ M.length := List.length_filter_le _ _

/-- A copy of bytes, as a map keeps it. -/
theorem clone_sv (A : Option Addr) (n cap : Nat) (xs : List UInt8) (S : Nat → Prop) (w : World) (hB : ByteSl w S A n cap xs) (hA : A = none → n = 0 ∧ cap = 0) (hm : n ≤ 16777216) (hS : ∀ W, Below w.heap.size w W → ∀ q, w.heap.size ≤ q → q < W.heap.size → ¬ S q) :
    Calls Tryz.prog 103 #[.slice A n cap] w fun e w' => (∃ g cap', e = .returned (.slice (adr g) n cap') ∧ ByteSl w' S (adr g) n cap' xs ∧ (adr g = none → n = 0 ∧ cap' = 0)) ∧ Below w.heap.size w w' := by
  refine (clone_any A n cap xs w (hB.mono (fun _ _ h => h.elim)) hA hm).mono ?_
  rintro e1 w1 ⟨⟨A1, cap1, rfl, hG⟩, hb⟩
  obtain ⟨A', cap', he, hB1, _⟩ := ByteSl.of_own (S := S) hG.own (fun q h1 h2 => hS w1 hb q h1 h2)
  cases he
  refine ⟨?_, hb⟩
  rcases hG.own.2 with ⟨he, h0⟩ | ⟨g, cap2, cur, he, _⟩
  · cases he
    exact ⟨none, 0, rfl, hB1, fun _ => ⟨h0, rfl⟩⟩
  · cases he
    exact ⟨some g, cap1, rfl, hB1, fun h => by cases h⟩

/-- How a change ends in a store. -/
def Applied (s mb p c e : Nat) (M : Al Sv) (h : HeadV) (d : Bool) (f : Ch) (sec : Int) (w w' : World) (e1 : Ending) : Prop :=
  e1 = .returned (.tuple #[]) ∧ (∃ M', StoreAt w' s mb p c e M' h d ∧ amap Sv.a M' = applyA (amap Sv.a M) f sec ∧ M'.length ≤ M.length + 1) ∧ Only (· = mb) w w'

set_option maxHeartbeats 2000000 in
theorem apply_put (s mb p c e : Nat) (M : Al Sv) (h : HeadV) (d : Bool) (f : Ch) (sec : Int) (w : World) (hS : StoreAt w s mb p c e M h d) (hf : ByteSl w (Mut s mb p c e) f.A f.n f.cap f.blob ∧ (f.A = none → f.n = 0 ∧ f.cap = 0)) (hd : f.del = false) (hk : f.s.size ≤ 64) (hn : f.n ≤ 4096) (hM : M.length ≤ 1048576) (hlt : Three p c e s → False) (hlt2 : ∀ q, w.heap.size ≤ q → ¬ Mut s mb p c e q) :
    Calls Tryz.prog 80 #[.pointer (some ⟨s, 0, none⟩), f.v, .int .i64 sec] w fun e1 w' => Applied s mb p c e M h d f sec w w' e1 := by
  obtain ⟨dl, key, A, n, cap, xs⟩ := f
  simp only at hd hk hn hf
  subst hd
  unfold Ch.v
  have HS := Lib.hid hS
  have hb0 := (Below.refl w.heap.size w).alloc (Nat.le_refl _) (.cells #[.bool false, .string key, .slice A n cap] 103)
  have Hcl := Lib.hid (fun W (hW : Only Empty (w.alloc (.cells #[.bool false, .string key, .slice A n cap] 103)) W) => clone_sv A n cap xs (Mut s mb p c e) W (hf.1.only ((Only.of_below (S := Empty) hb0).trans hW) (fun _ _ h => h.elim)) hf.2 (by omega) (fun W2 _ q h1 _ => hlt2 q (by have := hW.size; simp at this; omega)))
  have hbox := Blk.new w 103 #[.bool false, .string key, .slice A n cap]
  have s1' : w.cell? ⟨s, 1, none⟩ = some (.map (some mb)) := hS.blk.cell 1
  have hsl : s < w.heap.size := hS.blk.lt
  have hne := hS.ne
  have hml : mb < w.heap.size := hS.map.lt
  have HSx : Hid (∀ W, Only (· = mb) (w.alloc (.cells #[.bool false, .string key, .slice A n cap] 103)) W → W.cell? ⟨s, 1, none⟩ = some (.map (some mb)) ∧ W.cell? ⟨w.heap.size, 1, none⟩ = some (.string key) ∧ W.cell? ⟨w.heap.size, 2, none⟩ = some (.slice A n cap)) := Lib.hid (fun W hW => by
    have h1 := hW.blk hbox (by omega)
    exact ⟨(hW.blk (hS.blk.alloc _) (fun h => hne h.symm)).cell 1, h1.cell 1, h1.cell 2⟩)
  have HM : Hid (∀ W, Only Empty (w.alloc (.cells #[.bool false, .string key, .slice A n cap] 103)) W → StM W mb M.length M) := Lib.hid (fun W hW => (hS.map.alloc _).only hW (fun h => h))
  have Hb0 := Lib.hid hb0
  have Hend : Hid (∀ (g : Option Nat) (cap' : Nat) (W1 W2 : World), Only Empty (w.alloc (.cells #[.bool false, .string key, .slice A n cap] 103)) W1 → ByteSl W1 (Mut s mb p c e) (adr g) n cap' xs ∧ (adr g = none → n = 0 ∧ cap' = 0) → StM W2 mb (M.length + 1) (aput M key.data.toList ⟨sec, g, n, cap', xs⟩) → Only (· = mb) W1 W2 →
      (∃ M', StoreAt W2 s mb p c e M' h d ∧ amap Sv.a M' = applyA (amap Sv.a M) ⟨false, key, A, n, cap, xs⟩ sec ∧ M'.length ≤ M.length + 1) ∧ Only (· = mb) w W2) := Lib.hid (fun g cap' W1 W2 h1 h2 h3 h4 => by
    have h0 := (Only.of_below (S := Empty) hb0).trans h1
    have h5 : Only (· = mb) w W2 := (h0.mono (T := (· = mb)) (fun _ _ h => h.elim)).trans h4
    refine ⟨⟨_, ⟨h5.blk hS.blk (fun h => hne h.symm), h3.tight, ?_⟩, ?_, aput_len _ _ _⟩, h5⟩
    · exact BlobsAt.put (hS.bl.only h5 (fun i _ h => Or.inr (Or.inl h))) _ _ ⟨h2.1.only h4 (fun i _ h => Or.inr (Or.inl h)), h2.2⟩
    · rw [aput_map]
      rfl)
  have hk2 : Hid (key.size ≤ maxLen) := Lib.hid (by unfold maxLen; omega)
  have hM2 : Hid (M.length < maxLen) := Lib.hid (by unfold maxLen; omega)
  clear hS hf hlt2 hbox hb0
  go_enter Tryz.func80, Tryz.ntmps80
  go_wp2_with fail
  have hD : Only Empty (w.alloc (.cells #[.bool false, .string key, .slice A n cap] 103)) (w.alloc (.cells #[.bool false, .string key, .slice A n cap] 103)).drew := (Only.refl _ _).drew
  have hs1 := HSx.out _ (hD.mono (fun _ _ h => h.elim))
  have HD := Lib.hid hD
  clear hD
  go_region_held3 (fun W => W.cell? ⟨s, 1, none⟩ = some (.map (some mb)) ∧ W.cell? ⟨w.heap.size, 1, none⟩ = some (.string key) ∧ W.cell? ⟨w.heap.size, 2, none⟩ = some (.slice A n cap)) (first | with_reducible exact hs1 | with_reducible exact hs10 | with_reducible exact hs11)
    ((go_at_call 103; (with_reducible refine (Hcl.out _ HD.out).mono ?_); rintro e10 w10 ⟨⟨g10, cap10, rfl, hG10⟩, hb10⟩; have hO10 := HD.out.trans (Only.of_below (S := Empty) hb10); have hs10 := HSx.out _ (hO10.mono (fun _ _ h => h.elim)); obtain ⟨w11, hr11, hm11, ho11⟩ := (HM.out _ hO10).put_run hM2.out key hk2.out ⟨sec, g10, n, cap10, xs⟩; unfold Sv.v at hr11; simp only at hr11; have hs11 := HSx.out _ ((hO10.mono (fun _ _ h => h.elim)).trans ho11)))
  go_wp2
  go_end0
  exact ⟨rfl, Hend.out g10 cap10 w10 w11 hO10 hG10 hm11 ho11⟩

set_option maxHeartbeats 2000000 in
theorem apply_del (s mb p c e : Nat) (M : Al Sv) (h : HeadV) (d : Bool) (f : Ch) (sec : Int) (w : World) (hS : StoreAt w s mb p c e M h d) (hd : f.del = true) (hk : f.s.size ≤ 64) :
    Calls Tryz.prog 80 #[.pointer (some ⟨s, 0, none⟩), f.v, .int .i64 sec] w fun e1 w' => Applied s mb p c e M h d f sec w w' e1 := by
  obtain ⟨dl, key, A, n, cap, xs⟩ := f
  simp only at hd hk
  subst hd
  unfold Ch.v
  have hb0 := (Below.refl w.heap.size w).alloc (Nat.le_refl _) (.cells #[.bool true, .string key, .slice A n cap] 103)
  have s1 : w.cell? ⟨s, 1, none⟩ = some (.map (some mb)) := hS.blk.cell 1
  have hsl : s < w.heap.size := hS.blk.lt
  have hne := hS.ne
  have hO0 := (Only.of_below (S := Empty) hb0).drew
  obtain ⟨w2, hr2, hm2, ho2⟩ := (hS.map.only hO0 (fun h => h)).del_run key (by unfold maxLen; omega) 0
  have hend : (∃ M', StoreAt w2 s mb p c e M' h d ∧ amap Sv.a M' = applyA (amap Sv.a M) ⟨true, key, A, n, cap, xs⟩ sec ∧ M'.length ≤ M.length + 1) ∧ Only (· = mb) w w2 := by
    have h5 : Only (· = mb) w w2 := (hO0.mono (T := (· = mb)) (fun _ _ h => h.elim)).trans ho2
    refine ⟨⟨_, ⟨h5.blk hS.blk (fun h => hne h.symm), hm2.tight, ?_⟩, ?_, Nat.le_succ_of_le (adel_len _ _)⟩, h5⟩
    · exact BlobsAt.del (hS.bl.only h5 (fun i _ h => Or.inr (Or.inl h))) _
    · rw [adel_map]
      rfl
  have Hend := Lib.hid hend
  clear hS hend hm2 ho2 hO0 hb0
  go_enter Tryz.func80, Tryz.ntmps80
  go_wp2_with fail
  go_region
  go_wp2
  exact bodyPost_ret (v := .tuple #[]) (by simp [results, Tryz.results80, go_sem]) rfl ⟨rfl, Hend.out⟩

theorem apply_any (s mb p c e : Nat) (M : Al Sv) (h : HeadV) (d : Bool) (f : Ch) (sec : Int) (w : World) (hS : StoreAt w s mb p c e M h d) (hf : ByteSl w (Mut s mb p c e) f.A f.n f.cap f.blob ∧ (f.A = none → f.n = 0 ∧ f.cap = 0)) (hF : f.s.size ≤ 64 ∧ f.rN ≤ 4096) (hM : M.length ≤ 1048576) (hlt : Three p c e s → False) (hlt2 : ∀ q, w.heap.size ≤ q → ¬ Mut s mb p c e q) :
    Calls Tryz.prog 80 #[.pointer (some ⟨s, 0, none⟩), f.v, .int .i64 sec] w fun e1 w' => Applied s mb p c e M h d f sec w w' e1 := by
  cases hd : f.del
  · refine apply_put s mb p c e M h d f sec w hS hf hd hF.1 ?_ hM hlt hlt2
    have := hF.2
    unfold Ch.rN at this
    rw [hd] at this
    exact this
  · exact apply_del s mb p c e M h d f sec w hS hd hF.1

set_option maxHeartbeats 2000000 in
theorem get_any (s mb p c e : Nat) (M : Al Sv) (h : HeadV) (d : Bool) (key : ByteArray) (S : Nat → Prop) (w : World) (hS : StoreAt w s mb p c e M h d) (hk : key.size ≤ maxLen) (hn : (svAt M key.data.toList).n ≤ 16777216) :
    Calls Tryz.prog 73 #[.pointer (some ⟨s, 0, none⟩), .string key] w fun e1 w' => (∃ A' cap', e1 = .returned (.tuple #[.slice A' (svAt M key.data.toList).n cap', .bool (afind M key.data.toList).isSome]) ∧ Got w.heap.size w' A' (svAt M key.data.toList).n cap' (svAt M key.data.toList).xs) ∧ Below w.heap.size w w' := by
  have s1 : w.cell? ⟨s, 1, none⟩ = some (.map (some mb)) := hS.blk.cell 1
  have HS := Lib.hid hS
  have Hk := Lib.hid hk
  have hb := hS.bl.at_ key.data.toList
  have Hb := Lib.hid hb
  have hla : Hid (∀ {ops rest o a Q}, o.guard = none → ∀ (m x : Operand), o.op = Op.lookup 94 m x true → a.eval m = .map (some mb) → a.eval x = .string key →
      wpList Tryz.prog ops Q rest (a.put o.dst (.tuple #[(svAt M key.data.toList).v, .bool (afind M key.data.toList).isSome])) w → wpList Tryz.prog ops Q (o :: rest) a w) :=
    Lib.hid (fun hg m x hop hm hx hK => wpList_st_look_ok hg m x hop hm hS.map key hk hx hK)
  obtain ⟨f, hf⟩ : ∃ f, f = svAt M key.data.toList := ⟨_, rfl⟩
  obtain ⟨ok, hok⟩ : ∃ ok, ok = (afind M key.data.toList).isSome := ⟨_, rfl⟩
  rw [← hf, ← hok] at hla
  rw [← hf] at Hb hn
  rw [← hf, ← hok]
  clear hS hk hb hf hok
  obtain ⟨sec, g, n, cap, xs⟩ := f
  unfold Sv.v at hla
  simp only at hla Hb hn ⊢
  go_enter Tryz.func73, Tryz.ntmps73
  go_wp2_with (at_lookup; refine hla.out rfl _ _ rfl rfl rfl ?_)
  have hb0 := (Below.refl w.heap.size w).alloc (Nat.le_refl _) (.cells #[.int .i64 sec, .slice (adr g) n cap] 128)
  have hB1 := (Hb.out.1.only (Only.of_below (S := Empty) hb0) (fun _ _ h => h.elim)).mono (T := Empty) (fun _ _ h => h.elim)
  have Hb0 := Lib.hid hb0
  refine (clone_any (adr g) n cap xs _ hB1 Hb.out.2 hn).mono ?_
  rintro e1 w1 ⟨⟨A1, cap1, rfl, hG⟩, hb1⟩
  have HE := Lib.hid (And.intro (hG.lower hb0.size) (Hb0.out.trans (hb1.mono hb0.size)))
  clear hG hb1 hb0 hB1
  go_wp2_with fail
  go_ret2
  exact ⟨⟨A1, cap1, rfl, HE.out.1⟩, HE.out.2⟩

end Go.Proofs.YtidbipbangifbaaGreatDoor

/- The walks over rms.reader: number, data, entry. -/
namespace Go.Proofs.YtidbipbangifbaaGreatDoor
set_option maxRecDepth 100000
open Go.RowKit

/-- A reader: what is left, whether something wasn't all there. -/
structure RdQ where
  rest : List UInt8
  short : Bool
def numQ (s : RdQ) (k : Nat) : Nat × RdQ := if k ≤ s.rest.length then (getV (s.rest.take k), ⟨s.rest.drop k, s.short⟩) else (0, ⟨s.rest, true⟩)
def dataQ (s : RdQ) (n : Nat) : List UInt8 × RdQ := if s.rest.length < n then ([], ⟨s.rest, true⟩) else (s.rest.take n, ⟨s.rest.drop n, s.short⟩)
/-- A reader in memory. -/
def RdM (b : Nat) (w : World) (g : Nat) (s : RdQ) : Prop := ∃ A n cap, Blk w g 159 #[.slice A n cap, .bool s.short] ∧ ByteSl w (fun k => k = g ∨ b ≤ k) A n cap s.rest ∧ n ≤ 1048576 ∧ (A = none → n = 0 ∧ cap = 0)
theorem numQ_lt (s : RdQ) (k : Nat) : (numQ s k).1 < 256 ^ k := by
  unfold numQ
  split
  · have := getV_lt (s.rest.take k)
    rwa [List.length_take, Nat.min_eq_left (by assumption)] at this
  · exact Nat.pow_pos (by decide)
theorem RdM.only {b : Nat} {w w' : World} {g : Nat} {s : RdQ} {S : Nat → Prop} (h : RdM b w g s) (hg : g < b) (k : Only S w w') (hS : ∀ i, i < w.heap.size → S i → b ≤ i) : RdM b w' g s := by
  obtain ⟨A, n, cap, hb, hB, hn, hA⟩ := h
  exact ⟨A, n, cap, k.blk hb (fun hs => by have := hS g hb.lt hs; omega), hB.only k (fun i hi hs => Or.inr (hS i hi hs)), hn, hA⟩
theorem RdM.below {b : Nat} {w w' : World} {g : Nat} {s : RdQ} (h : RdM b w g s) (hg : g < b) (k : Below w.heap.size w w') : RdM b w' g s := h.only hg (Only.of_below (S := Empty) k) (fun _ _ h => h.elim)

/-- What is behind k bytes. -/
theorem RdM.moved {w : World} {b g n cap k m c' : Nat} {ad ad' : Addr} {s : RdQ} (hm : m = n - k) (hc' : c' = cap - k) (hb : Blk w g 159 #[.slice (some ad) n cap, .bool s.short]) (hB : ByteSl w (fun k => k = g ∨ b ≤ k) (some ad) n cap s.rest) (hn : n ≤ 1048576) (hk : k ≤ n) (h' : ad' = ad.add k ∨ n = k) :
    RdM b (w.setCell ⟨g, 0, none⟩ (.slice (some ad') m c')) g ⟨s.rest.drop k, s.short⟩ := by
  subst hm hc'
  have hO : Only (· = g) w (w.setCell ⟨g, 0, none⟩ (.slice (some ad') (n - k) (cap - k))) := (Only.refl (· = g) w).setCell (p := ⟨g, 0, none⟩) (Or.inl rfl) _
  have h := hb.set_ 0 (.slice (some ad') (n - k) (cap - k))
  have hl := hB.1
  refine ⟨some ad', n - k, cap - k, by simpa using h, ?_, by omega, fun h => by cases h⟩
  rcases h' with rfl | rfl
  · have hd := (hB.drop_ k (n - k) (by omega)).only hO (fun _ _ h => Or.inl h)
    rwa [List.take_of_length_le (by simp; omega)] at hd
  · have : s.rest.drop n = [] := List.drop_of_length_le (by omega)
    show ByteSl _ _ _ _ _ (s.rest.drop n)
    rw [this, Nat.sub_self]
    exact ByteSl.nil_ _ _ _ _ (by have := hB.2.2.1; omega)

theorem getG_yes (A : Option Addr) (m cap n : Nat) (xs : List UInt8) (S : Nat → Prop) (w : World) (hB : ByteSl w S A m cap xs) (h1 : 1 ≤ n) (h2 : n ≤ 8) (hm : m ≤ 1048576) (ha : n ≤ m) :
    Calls Tryz.prog 151 #[.slice A m cap, .int .i64 0, .int .i64 (n : Int)] w fun e w' => e = .returned (.tuple #[.int .u64 (getV (xs.take n) : Int), .int .i64 0]) ∧ w = w' := by
  have := get_yes A m cap 0 n xs w (hB.mono (fun _ _ h => h.elim)) h1 h2 hm (by omega)
  simpa using this

set_option maxHeartbeats 2000000 in
theorem rmNumber_any (b g k : Nat) (s : RdQ) (w : World) (hR : RdM b w g s) (h1 : 1 ≤ k) (h2 : k ≤ 8) :
    Calls Tryz.prog 116 #[.pointer (some ⟨g, 0, none⟩), .int .i64 (k : Int)] w fun e w' => e = .returned (.int .u64 ((numQ s k).1 : Int)) ∧ RdM b w' g (numQ s k).2 ∧ Only (· = g) w w' := by
  obtain ⟨A, n, cap, hb, hB, hn, hA⟩ := hR
  have hl := hB.1
  have hnc := hB.2.1
  have hcm := hB.2.2.1
  unfold maxLen at hcm
  have c0 := hb.cell 0
  have c1 := hb.cell 1
  have f0 := hb.frozen 0
  have f1 := hb.frozen 1
  have hlt := hb.lt
  simp at c0 c1
  by_cases hk : k ≤ n
  · have hq : numQ s k = (getV (s.rest.take k), ⟨s.rest.drop k, s.short⟩) := by unfold numQ; rw [if_pos (by omega)]
    rw [hq]
    obtain ⟨ad, rfl⟩ : ∃ ad, A = some ad := by
      cases A with
      | none => have := (hA rfl).1; omega
      | some ad => exact ⟨ad, rfl⟩
    have HG := Lib.hid (getG_yes (some ad) n cap k s.rest _ w hB h1 h2 hn hk)
    obtain ⟨v, hv⟩ : ∃ v, v = getV (s.rest.take k) := ⟨_, rfl⟩
    rw [← hv] at HG ⊢
    have Hb := Lib.hid hb
    have HB := Lib.hid hB
    clear hb hB hq hv
    go_enter Tryz.func116, Tryz.ntmps116
    go_wp2_with fail
    refine HG.out.mono ?_
    rintro e1 w1 ⟨rfl, rfl⟩
    go_wp2
    all_goals
      go_ret
      refine ⟨rfl, RdM.moved (cap := cap) (ad := ad) (n := n) ?_ ?_ Hb.out HB.out hn hk ?_, (Only.refl (· = g) _).setCell (p := ⟨g, 0, none⟩) (Or.inl rfl) _⟩
      · omega
      · omega
      first
        | exact Or.inl rfl
        | exact Or.inr (by omega)
  · have hq : numQ s k = (0, ⟨s.rest, true⟩) := by unfold numQ; rw [if_neg (by omega)]
    rw [hq]
    have HG := Lib.hid (get_short A n cap 0 (k : Int) w (by omega) (by omega) (by omega) (Or.inr (by omega)))
    have Hb := Lib.hid hb
    have HB := Lib.hid hB
    clear hb hB hq
    go_enter Tryz.func116, Tryz.ntmps116
    go_wp2_with fail
    refine HG.out.mono ?_
    rintro e1 w1 ⟨rfl, rfl⟩
    go_wp2
    go_ret
    refine ⟨rfl, ⟨A, n, cap, ?_, ?_, hn, hA⟩, (Only.refl (· = g) _).setCell (p := ⟨g, 1, none⟩) (Or.inl rfl) _⟩
    · have h := Hb.out.set_ 1 (.bool true)
      simpa using h
    · exact HB.out.only ((Only.refl (· = g) w).setCell (p := ⟨g, 1, none⟩) (Or.inl rfl) _) (fun _ _ h => Or.inl h)

theorem Got.only_ {base : Nat} {W W' : World} {A : Option Addr} {n cap : Nat} {xs : List UInt8} {S : Nat → Prop} (h : Got base W A n cap xs) (k : Only S W W') (hS : ∀ q, base ≤ q → q < W.heap.size → ¬ S q) : Got base W' A n cap xs := by
  obtain ⟨A', cap', e, hG⟩ := Got.of_own (own_only h.own k hS)
  cases e
  exact hG
/-- Data that a call has made. -/
def GotD (base : Nat) (w : World) (v : Value) (xs : List UInt8) : Prop := ∃ A cap, v = .slice A xs.length cap ∧ Got base w A xs.length cap xs

set_option maxHeartbeats 2000000 in
theorem rmData_any (b g k : Nat) (s : RdQ) (w : World) (hR : RdM b w g s) (hk0 : k ≤ 65535) :
    Calls Tryz.prog 152 #[.pointer (some ⟨g, 0, none⟩), .int .i64 (k : Int)] w fun e w' => (∃ v, e = .returned v ∧ GotD w.heap.size w' v (dataQ s k).1) ∧ RdM b w' g (dataQ s k).2 ∧ Only (· = g) w w' := by
  obtain ⟨A, n, cap, hb, hB, hn, hA⟩ := hR
  have hl := hB.1
  have hnc := hB.2.1
  have hcm := hB.2.2.1
  unfold maxLen at hcm
  have c0 := hb.cell 0
  have c1 := hb.cell 1
  have f0 := hb.frozen 0
  have f1 := hb.frozen 1
  have hlt := hb.lt
  simp at c0 c1
  by_cases hk : n < k
  · have hq : dataQ s k = ([], ⟨s.rest, true⟩) := by unfold dataQ; rw [if_pos (by omega)]
    rw [hq]
    have Hb := Lib.hid hb
    have HB := Lib.hid hB
    have hd : decide (n < k) = true := decide_eq_true hk
    clear hb hB hq hk
    go_enter Tryz.func152, Tryz.ntmps152
    go_wp2
    go_ret
    refine ⟨⟨_, rfl, none, 0, rfl, Got.nil_ _ _⟩, ⟨A, n, cap, ?_, ?_, hn, hA⟩, (Only.refl (· = g) _).setCell (p := ⟨g, 1, none⟩) (Or.inl rfl) _⟩
    · have h := Hb.out.set_ 1 (.bool true)
      simpa using h
    · exact HB.out.only ((Only.refl (· = g) w).setCell (p := ⟨g, 1, none⟩) (Or.inl rfl) _) (fun _ _ h => Or.inl h)
  · have hq : dataQ s k = (s.rest.take k, ⟨s.rest.drop k, s.short⟩) := by unfold dataQ; rw [if_neg (by omega)]
    rw [hq]
    have hkn : k ≤ n := by omega
    have hxl : (s.rest.take k).length = k := by simp; omega
    have HCl := Lib.hid (clone_any A k cap (s.rest.take k) w ((hB.mono (fun _ _ h => h.elim)).take_ k hkn) (fun h => by have := hA h; omega) (by omega))
    have Hb := Lib.hid hb
    have HB := Lib.hid hB
    have hd : decide (n < k) = false := decide_eq_false hk
    clear hb hB hq hk
    go_enter Tryz.func152, Tryz.ntmps152
    go_wp2_with fail
    refine HCl.out.mono ?_
    rintro e1 w1 ⟨⟨A1, cap1, rfl, hG⟩, hb1⟩
    have HG := Lib.hid hG
    have Hb1 := Lib.hid hb1
    have hbl : Blk w1 g 159 #[.slice A n cap, .bool s.short] := Hb.out.of (hb1.block g hlt)
    have hBl : ByteSl w1 (fun k => k = g ∨ b ≤ k) A n cap s.rest := HB.out.only (Only.of_below (S := Empty) hb1) (fun _ _ h => h.elim)
    have HB1 := Lib.hid hBl
    have HL1 := Lib.hid hbl
    have d0 := hbl.cell 0
    have d1 := hbl.cell 1
    have e0 := hbl.frozen 0
    have e1 := hbl.frozen 1
    have hlt1 := hbl.lt
    simp at d0 d1
    clear hG hb1 hbl hBl c0 c1 f0 f1
    have hend : ∀ (ad' : Option Addr) (m c' : Nat), m = n - k → c' = cap - k → (∀ ad, A = some ad → ∃ x, ad' = some x ∧ (x = ad.add k ∨ n = k)) → (A = none → ad' = none) →
        RdM b (w1.setCell ⟨g, 0, none⟩ (.slice ad' m c')) g ⟨s.rest.drop k, s.short⟩ := by
      intro ad' m c' hm hc' h1 h2
      cases A with
      | some ad =>
        obtain ⟨x, rfl, hx⟩ := h1 ad rfl
        exact RdM.moved hm hc' HL1.out HB1.out hn hkn hx
      | none =>
        obtain rfl := h2 rfl
        obtain ⟨hn0, hc0⟩ := hA rfl
        have hO : Only (· = g) w1 (w1.setCell ⟨g, 0, none⟩ (.slice none m c')) := (Only.refl (· = g) w1).setCell (p := ⟨g, 0, none⟩) (Or.inl rfl) _
        have h := HL1.out.set_ 0 (.slice none m c')
        have hz : m = 0 := by omega
        have hz2 : c' = 0 := by omega
        subst hz hz2
        have hr : s.rest.drop k = [] := List.drop_of_length_le (by omega)
        refine ⟨none, 0, 0, by simpa using h, ?_, by omega, fun _ => ⟨rfl, rfl⟩⟩
        show ByteSl _ _ _ _ _ (s.rest.drop k)
        rw [hr]
        exact ByteSl.nil_ _ _ _ _ (by unfold maxLen; omega)
    have Hend := Lib.hid hend
    clear hend
    cases A with
    | some ad =>
      go_wp2
      all_goals
        go_ret
        refine ⟨⟨_, rfl, A1, cap1, by rw [hxl]; rfl, by rw [hxl]; exact HG.out.only_ ((Only.refl (· = g) w1).setCell (p := ⟨g, 0, none⟩) (Or.inl rfl) _) (fun q hq _ h => by have h : q = g := h; omega)⟩, Hend.out _ _ _ ?_ ?_ (fun ad' h => ?_) (fun h => by cases h), (Only.of_below (S := (· = g)) Hb1.out).setCell (p := ⟨g, 0, none⟩) (Or.inl rfl) _⟩
        · omega
        · omega
        · cases h
          first
            | exact ⟨_, rfl, Or.inl rfl⟩
            | exact ⟨_, rfl, Or.inr (by omega)⟩
    | none =>
      obtain ⟨hn0, hcap0⟩ := hA rfl
      subst hn0 hcap0
      have hk00 : k = 0 := by omega
      subst hk00
      go_wp2
      all_goals
        go_ret
        exact ⟨⟨_, rfl, A1, cap1, by rw [hxl]; rfl, by rw [hxl]; exact HG.out.only_ ((Only.refl (· = g) w1).setCell (p := ⟨g, 0, none⟩) (Or.inl rfl) _) (fun q hq _ h => by have h : q = g := h; omega)⟩, Hend.out _ _ _ (by omega) (by omega) (fun ad h => by cases h) (fun _ => rfl), (Only.of_below (S := (· = g)) Hb1.out).setCell (p := ⟨g, 0, none⟩) (Or.inl rfl) _⟩

end Go.Proofs.YtidbipbangifbaaGreatDoor

/- The walk over rms.reader's entry. -/
namespace Go.Proofs.YtidbipbangifbaaGreatDoor
set_option maxRecDepth 100000
open Go.RowKit

def entQ (s : RdQ) : Ent × RdQ := (((numQ s 4).1, (dataQ (numQ (numQ s 4).2 2).2 (numQ (numQ s 4).2 2).1).1), (dataQ (numQ (numQ s 4).2 2).2 (numQ (numQ s 4).2 2).1).2)
/-- An entry that a call has made. -/
def GotE (base : Nat) (w : World) (v : Value) (e : Ent) : Prop := ∃ m : EntM, v = m.v ∧ m.p = e ∧ Got base w m.A m.n m.cap m.xs ∧ m.id ≤ 4294967295

set_option maxHeartbeats 2000000 in
theorem rmEntry_any (b g : Nat) (s : RdQ) (w : World) (hR : RdM b w g s) (hgb : g < b) (hbw : b ≤ w.heap.size) :
    Calls Tryz.prog 117 #[.pointer (some ⟨g, 0, none⟩)] w fun e w' => (∃ v, e = .returned v ∧ GotE w.heap.size w' v (entQ s).1) ∧ RdM b w' g (entQ s).2 ∧ Only (· = g) w w' := by
  have hgl : g < w.heap.size := by obtain ⟨A, n, cap, hb, _⟩ := hR; exact hb.lt
  obtain ⟨i, s1, h1⟩ : ∃ i s1, numQ s 4 = (i, s1) := ⟨_, _, rfl⟩
  obtain ⟨n, s2, h2⟩ : ∃ n s2, numQ s1 2 = (n, s2) := ⟨_, _, rfl⟩
  obtain ⟨d, s3, h3⟩ : ∃ d s3, dataQ s2 n = (d, s3) := ⟨_, _, rfl⟩
  have hE : entQ s = ((i, d), s3) := by unfold entQ; rw [h1]; simp only; rw [h2]; simp only; rw [h3]
  rw [hE]
  have hi : i < 4294967296 := by have := numQ_lt s 4; rw [h1] at this; exact this
  have hn : n < 65536 := by have := numQ_lt s1 2; rw [h2] at this; exact this
  have hi2 : i ≤ 4294967295 := by omega
  have hn2 : n ≤ 65535 := by omega
  have hiw : IntKind.u32.wrap (i : Int) = (i : Int) := by rw [IntKind.wrap_u32]; omega
  have hal := (Below.refl w.heap.size w).alloc (Nat.le_refl _) (.cells #[.int .u32 0, .slice none 0 0] 91)
  have C1 := Lib.hid (rmNumber_any b g 4 s _ (hR.below hgb hal) (by omega) (by omega))
  rw [h1] at C1
  have C2 : Hid (∀ W, RdM b W g s1 → Calls Tryz.prog 116 #[.pointer (some ⟨g, 0, none⟩), .int .i64 2] W fun e w' => e = .returned (.int .u64 (n : Int)) ∧ RdM b w' g s2 ∧ Only (· = g) W w') := Lib.hid (fun W h => by have := rmNumber_any b g 2 s1 W h (by omega) (by omega); rw [h2] at this; exact this)
  have C3 : Hid (∀ W, RdM b W g s2 → Calls Tryz.prog 152 #[.pointer (some ⟨g, 0, none⟩), .int .i64 (n : Int)] W fun e w' => (∃ v, e = .returned v ∧ GotD W.heap.size w' v d) ∧ RdM b w' g s3 ∧ Only (· = g) W w') := Lib.hid (fun W h => by have := rmData_any b g n s2 W h hn2; rw [h3] at this; exact this)
  have Hal := Lib.hid hal
  clear hR h1 h2 h3 hE hi hn hal
  go_enter Tryz.func117, Tryz.ntmps117
  go_wp2_with fail
  refine C1.out.mono ?_
  rintro e1 w1 ⟨rfl, hR1, hO1⟩
  have HR1 := Lib.hid hR1
  have HO1 := Lib.hid hO1
  clear hR1 hO1
  go_wp2_with fail
  refine (C2.out _ HR1.out).mono ?_
  rintro e2 w2 ⟨rfl, hR2, hO2⟩
  have HR2 := Lib.hid hR2
  have HO2 := Lib.hid (HO1.out.trans hO2)
  clear hR2 hO2
  go_wp2_with fail
  refine (C3.out _ HR2.out).mono ?_
  rintro e3 w3 ⟨⟨v, rfl, A3, c3, rfl, hG3⟩, hR3, hO3⟩
  have HR3 := Lib.hid hR3
  have HO3 := Lib.hid (HO2.out.trans hO3)
  have hs2 : w.heap.size + 1 ≤ w2.heap.size := by have := HO2.out.size; simp at this; omega
  have HG3 := Lib.hid (hG3.lower (base' := w.heap.size + 1) hs2)
  have hblk : Blk w3 w.heap.size 91 #[.int .u32 0, .slice none 0 0] := HO3.out.blk (Blk.new w 91 _) (fun h => by have h : w.heap.size = g := h; omega)
  have c0 := hblk.cell 0
  have c1 := hblk.cell 1
  have f0 := hblk.frozen 0
  have f1 := hblk.frozen 1
  have hlt := hblk.lt
  simp at c0 c1
  clear hR3 hO3 hG3 hblk
  go_wp2
  have hO4 : Only (· = w.heap.size) w3 ((w3.setCell ⟨w.heap.size, 0, none⟩ (.int .u32 (i : Int))).setCell ⟨w.heap.size, 1, none⟩ (.slice A3 d.length c3)) := ((Only.refl (· = w.heap.size) w3).setCell (p := ⟨w.heap.size, 0, none⟩) (Or.inl rfl) _).setCell (p := ⟨w.heap.size, 1, none⟩) (Or.inl rfl) _
  refine bodyPost_ret (v := .agg #[.int .u32 (i : Int), .slice A3 d.length c3]) (by simp [results, Tryz.results117, go_sem, c0, c1]) rfl ⟨⟨_, rfl, ⟨i, A3, d.length, c3, d⟩, rfl, rfl, (HG3.out.only_ hO4 (fun q hq _ h => by have h : q = w.heap.size := h; omega)).lower (by omega), hi2⟩, HR3.out.only hgb hO4 (fun q hq h => by have h : q = w.heap.size := h; omega), ?_⟩
  exact ((((Only.refl (· = g) w).alloc _).trans HO3.out).setCell (p := ⟨w.heap.size, 0, none⟩) (Or.inr (Nat.le_refl _)) _).setCell (p := ⟨w.heap.size, 1, none⟩) (Or.inr (Nat.le_refl _)) _

end Go.Proofs.YtidbipbangifbaaGreatDoor

/- The walks over blob's behindHeader, limit, Room, look, Sectors. -/
namespace Go.Proofs.YtidbipbangifbaaGreatDoor
set_option maxRecDepth 100000
open Go.RowKit

section
variable {p c e Z L : Nat} {ss : List (Nat × List UInt8)} {w : World}
theorem FS.geo (hs : FS w p c e Z L ss) : Calls Tryz.prog 30 #[.pointer (some ⟨p, 0, none⟩)] w fun e1 w' => e1 = .returned (.agg #[.int .i64 (ss.length : Int), .int .i64 (Z : Int), .int .i64 (L : Int)]) ∧ Below w.heap.size w w' := by
  obtain ⟨fl, hf, hu, hfu, hS, rfl, rfl, _⟩ := hs
  rw [← hS]
  exact geometry_any p c e fl w hf
end
theorem geo_field2 (a b c : Int) (W : World) : (Instr.field 66 (.agg #[.int .i64 a, .int .i64 b, .int .i64 c]) 2).run Tryz.prog W = .ok (.int .i64 c) W := by kernel_rfl

set_option maxHeartbeats 1000000 in
theorem behind_any (p c e Z L : Nat) (ss : List (Nat × List UInt8)) (w : World) (hs : FS w p c e Z L ss) :
    Calls Tryz.prog 75 #[.pointer (some ⟨p, 0, none⟩)] w fun e1 w' => e1 = .returned (.int .i64 ((Z - 12 : Nat) : Int)) ∧ Below w.heap.size w w' := by
  have hz := hs.bz
  have hg := geo_field1 (ss.length : Int) (Z : Int) (L : Int)
  have hv : IntKind.i64.wrap ((Z : Int) - 12) = ((Z - 12 : Nat) : Int) := by rw [IntKind.wrap_i64]; omega
  have HS := Lib.hid hs
  obtain ⟨V, hV⟩ : ∃ V, V = Z - 12 := ⟨_, rfl⟩
  rw [← hV] at hv ⊢
  clear hs hV hz
  go_enter Tryz.func75, Tryz.ntmps75
  go_wp2_with fail
  refine HS.out.geo.mono ?_
  rintro e1 w1 ⟨rfl, hb1⟩
  go_wp2
  go_ret
  exact ⟨rfl, hb1⟩

/-- Room, of a geometry. -/
def roomMax (S Z : Nat) : Nat := (S - 2) * (Z - 12) / 4


/-- append of sectors onto a row of the call's own. -/
theorem wpList_append_sc {ops : Array Oper} {rest : List Oper} {q : Oper} {u : Act} {w : World} {S : Nat → Prop} {Q : Exit → Act → World → Prop} (hgd : q.guard = none) (s x : Operand) (hq : q.op = .call { callee := .builtin .append, args := #[s, x], argTypes := #[68, 68] })
    (base : Nat) (B : Option Addr) (m0 c0 : Nat) (zs : List Sc) (hs : u.eval s = .slice B m0 c0) (hown : GotR Sc.cells 3 81 base w B m0 c0 zs) (A : Option Addr) (m c : Nat) (l : List Sc)
    (hx : u.eval x = .slice A m c) (hB : RowSl Sc.cells 3 w S A m c l) (hn : A = none → m = 0 ∧ c = 0) (hm : m0 + m ≤ 16777216) (hbase : base ≤ w.heap.size)
    (h : ∀ A' c' w', GotR Sc.cells 3 81 base w' A' (m0 + m) c' (zs ++ l) → w.grownBy w' (Value.slice B m0 c0).ownBlock → (∀ g, (Value.slice B m0 c0).ownBlock = some g → base ≤ g) → wpList Tryz.prog ops Q rest (u.put q.dst (.slice A' (m0 + m) c')) w') : wpList Tryz.prog ops Q (q :: rest) u w :=
  wpList_append_rows Sc.cells_len (fun f v hv => secs_one [f] v (by simpa using hv)) (by decide) 68 81 _ 24 Tryz.underlying68 Tryz.infoSector (by simp [Value.cells]) (by decide) hgd s x hq base B m0 c0 zs hs hown A m c l hx hB hn hm hbase (fun A' c' w' h1 h2 h3 _ => h A' c' w' h1 h2 h3)

/-- What is known of a sector, of its bytes and its count. -/
def secOf (x : Nat × List UInt8) : Sc := ⟨stS x.2, stQ x.2, (x.1 : Int)⟩
def secsOf (ss : List (Nat × List UInt8)) : List Sc := ss.map secOf

set_option maxHeartbeats 1000000 in
theorem look_any (p c e Z L : Nat) (ss : List (Nat × List UInt8)) (w : World) (hs : FS w p c e Z L ss) (hM : Mark w) :
    Calls Tryz.prog 26 #[.pointer (some ⟨p, 0, none⟩)] w fun e1 w' => (∃ A cap, e1 = .returned (.tuple #[.slice A ss.length cap, .int .i64 0]) ∧ GotR Sc.cells 3 81 w.heap.size w' A ss.length cap (secsOf ss)) ∧ Below w.heap.size w w' := by
  have hz := hs.bz
  have hg := geo_field0 (ss.length : Int) (Z : Int) (L : Int)
  have HS := Lib.hid hs
  have HM := Lib.hid hM
  obtain ⟨n, hn⟩ : ∃ n, n = ss.length := ⟨_, rfl⟩
  rw [← hn] at hg hz ⊢
  have Hn := Lib.hid hn
  clear hs hM hn
  go_enter Tryz.func26, Tryz.ntmps26
  go_wp2_with fail
  refine HS.out.geo.mono ?_
  rw [← Hn.out]
  rintro e1 w1 ⟨rfl, hb1⟩
  have Hb1 := Lib.hid hb1
  clear hb1
  go_wp2_with fail
  go_loopw [2, 10] (fun r v wr => ∃ (i : Nat) (A : Option Addr) (cap : Nat), i ≤ n ∧ v = .int .i64 (i : Int) ∧ r = .slice A i cap ∧ Hid (GotR Sc.cells 3 81 w.heap.size wr A i cap (secsOf (ss.take i))) ∧ Hid (Below w.heap.size w wr)) (fun _ v _ => n - (intOf v).toNat)
  case atStart => exact ⟨0, none, 0, Nat.zero_le _, rfl, rfl, Lib.hid (GotR.nil_ _ _ _ _ _), Hb1⟩
  case round =>
    obtain ⟨i, A, cap, hi, rfl, rfl, HG, HB⟩ := hrel
    by_cases hlt : i < n
    · obtain ⟨m, xs, hx⟩ := sec_at (ss := ss) (k := i) (by rw [← Hn.out]; exact hlt)
      have htk := take_snoc ss i (m, xs) hx
      have Htk : Hid (secsOf (ss.take (i + 1)) = secsOf (ss.take i) ++ [⟨stS xs, stQ xs, (m : Int)⟩]) := Lib.hid (by rw [htk]; unfold secsOf; rw [List.map_append]; rfl)
      have Hl := Lib.hid (look_sec p c e ss.length Z L i m xs wr ((HS.out.below HB.out).sec hx) (HM.out.below HB.out))
      obtain ⟨st, hst⟩ : ∃ st, st = stS xs := ⟨_, rfl⟩
      obtain ⟨q, hq⟩ : ∃ q, q = stQ xs := ⟨_, rfl⟩
      rw [← hst, ← hq] at Hl Htk
      clear hx htk hst hq
      go_wp2_with fail
      refine Hl.out.mono ?_
      rintro e2 w2 ⟨rfl, hb2⟩
      have HB2 := Lib.hid (HB.out.trans (hb2.mono HB.out.size))
      have HG2 := Lib.hid (HG.out.below Sc.cells_len hb2)
      clear hb2
      have HB3 := Lib.hid (HB2.out.alloc HB2.out.size (.cells #[.int .i64 st, .int .u32 q, .int .i64 (m : Int)] 81))
      have HG3 := Lib.hid (HG2.out.alloc Sc.cells_len (.cells #[.int .i64 st, .int .u32 q, .int .i64 (m : Int)] 81))
      have hrow := RowSl.lit Sc.cells_len (w2.alloc (.cells #[.int .i64 st, .int .u32 q, .int .i64 (m : Int)] 81)) Empty 81 [⟨st, q, (m : Int)⟩] 1 [.int .i64 st, .int .u32 q, .int .i64 (m : Int)] rfl rfl (by decide) (fun h => h)
      have hsz2 : (w2.alloc (.cells #[.int .i64 st, .int .u32 q, .int .i64 (m : Int)] 81)).heap.size = w2.heap.size + 1 := by simp
      rw [hsz2] at hrow
      have Hrow := Lib.hid hrow
      clear hrow hsz2
      go_wp2_with (at_builtin; refine wpList_append_sc rfl _ _ rfl w.heap.size A i cap (secsOf (ss.take i)) rfl (HG3.out.alloc Sc.cells_len _) _ 1 1 _ rfl Hrow.out (fun h => by cases h) (by omega) (by have := HB3.out.size; simp at this ⊢; omega) ?_; intro A3 c3 w3 hg3 hgr3 hr3)
      have HB4 := Lib.hid (below_gotR (HB3.out.alloc HB3.out.size (.cells #[.int .i64 st, .int .u32 q, .int .i64 (m : Int)] 81)) (by have := HB3.out.size; simp at this ⊢; omega) hgr3 hr3 (Nat.le_refl _))
      have HG4 := Lib.hid hg3
      clear hg3 hgr3 hr3
      go_roundw
      case rel => exact ⟨i + 1, A3, c3, by omega, by simp, rfl, by rw [Htk.out]; exact HG4, HB4⟩
      case measure => simp [intOf]; omega
    · have hin : i = n := by omega
      subst hin
      have ht : ss.take i = ss := List.take_of_length_le (by have := Hn.out; omega)
      rw [ht] at HG
      go_wp2_with fail
      go_ret2
      exact ⟨⟨A, cap, rfl, HG.out⟩, HB.out⟩

end Go.Proofs.YtidbipbangifbaaGreatDoor
