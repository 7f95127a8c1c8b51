/- Txns in a map, as plain data; the walk over scan.countTxns. -/
import Derived.Test.YtidcgobnhfganaaIc
import Derived.Maps.Own
import Derived.Maps.OwnSet
namespace Go.Proofs.Ytidcgobnhfganaa
open Go.RowKit Go.Maps

def txnV (p : Nat × Bool) : Value := .agg #[.int .i64 (p.1 : Int), .bool p.2]
def txnD (p : Nat × Bool) : DataW Unit := .agg [.lit (.int .i64 (p.1 : Int)), .lit (.bool p.2)]
/-- How a txn reads. -/
def txnElem : Value → Option (DataW Unit × List MemPlace)
  | .agg ⟨[.int .i64 a, .bool b]⟩ => some (.agg [.lit (.int .i64 a), .lit (.bool b)], [])
  | _ => none
theorem txnElem_mk (p : Nat × Bool) : txnElem (txnV p) = some (txnD p, []) := rfl
theorem txnElem_inv {v : Value} {p : Nat × Bool} {ps : List MemPlace} (h : txnElem v = some (txnD p, ps)) : v = txnV p := by
  unfold txnElem at h
  split at h
  · simp only [txnD, Option.some.injEq, Prod.mk.injEq, DataW.agg.injEq, List.cons.injEq, DataW.lit.injEq, Lit.int.injEq, Lit.bool.injEq, true_and, and_true] at h
    obtain ⟨⟨h1, h2⟩, _⟩ := h
    unfold txnV
    rw [h1, h2]
  · cases h

theorem Try.txnKeyed : Keyed Try.prog 26 := int_keyed Try.underlying26
theorem Try.txnZero (w : World) : (zeroValue 57).run Try.prog w = .ok (txnV (0, false)) w := by kernel_rfl
theorem u32_wf {t : Nat} (h : t ≤ 4294967295) : (Lit.int .u32 (t : Int)).wf = true := by
  simp [Lit.wf, IntKind.min, IntKind.max, IntKind.bits, IntKind.signed]
  omega

/-- Block b is a map that has f t under each t. -/
def TxM (w : World) (b n : Nat) (f : Nat → Nat × Bool) : Prop :=
  ∃ D : DataW Unit, w.ownsMap Try.prog 26 txnElem b n D ∧ ∀ t : Nat, t ≤ 4294967295 → D.atKey (.int .u32 (t : Int)) (txnD (0, false)) = txnD (f t)
def put (f : Nat → Nat × Bool) (t : Nat) (p : Nat × Bool) : Nat → Nat × Bool := fun u => if u = t then p else f u

section
variable {w w' : World} {b n : Nat} {f : Nat → Nat × Bool}
theorem TxM.made (w : World) : TxM (w.alloc (.map #[] 0)) w.heap.size 0 (fun _ => (0, false)) := ⟨_, World.ownsMap_made _ _ _ _, fun _ _ => rfl⟩
theorem TxM.lt (h : TxM w b n f) : b < w.heap.size := by obtain ⟨D, h, _⟩ := h; exact h.lt
theorem TxM.kept {row : Option Nat} (h : TxM w b n f) (hg : w.grownBy w' row) (hne : some b ≠ row) : TxM w' b n f := by
  obtain ⟨D, h, hf⟩ := h
  exact ⟨D, h.kept hg hne, hf⟩
theorem TxM.alloc (h : TxM w b n f) (o : Obj) : TxM (w.alloc o) b n f := h.kept (World.grownBy_alloc w o none) (by simp)
theorem TxM.only {S : Nat → Prop} (h : TxM w b n f) (k : Only S w w') (hS : ¬ S b) : TxM w' b n f := by
  obtain ⟨D, ⟨es, clock, hb, F, hs, hD⟩, hf⟩ := h
  exact ⟨D, ⟨es, clock, (k.block b (Array.getElem?_eq_some_iff.1 hb).1 hS).trans hb, F, hs, hD⟩, hf⟩
theorem TxM.look (h : TxM w b n f) {t : Nat} (ht : t ≤ 4294967295) : (Instr.lookup 54 (.map (some b)) (.int .u32 (t : Int)) false).run Try.prog w = .ok (txnV (f t)) w := by
  obtain ⟨D, h, hf⟩ := h
  obtain ⟨v, ps, hrun, hv⟩ := h.lookup Try.txnKeyed Try.underlying54 (Try.txnZero w) (txnElem_mk (0, false)) (keyOf_int_mk Try.underlying26 (u32_wf ht))
  rw [hf t ht] at hv
  rw [hrun, txnElem_inv hv]

theorem wpList_txn_put {ops : Array Oper} {rest : List Oper} {o : Oper} {a : Act} {Q : Exit → Act → World → Prop} (hg : o.guard = none) (m x v : Operand) (hop : o.op = Op.mapUpdate 54 m x v)
    (b n : Nat) (f : Nat → Nat × Bool) (hm : a.eval m = .map (some b)) (hM : TxM w b n f) (hn : n < maxLen) (t : Nat) (ht : t ≤ 4294967295) (p : Nat × Bool) (hx : a.eval x = .int .u32 (t : Int)) (hv : a.eval v = txnV p)
    (hK : ∀ w', TxM w' b (n + 1) (put f t p) → w.grownBy w' (some b) → wpList Try.prog ops Q rest (a.put o.dst undef) w') : wpList Try.prog ops Q (o :: rest) a w := by
  obtain ⟨D, hown, hf⟩ := hM
  refine wpList_mapUpdate_own w hg m x v 54 hop 26 57 Try.txnKeyed Try.underlying54 txnElem b n D hm hown hn _ _ _ hx hv (keyOf_int_mk Try.underlying26 (u32_wf ht)) (txnD p) [] (txnElem_mk p) ?_
  intro w' h1 h2
  refine hK w' ⟨_, h1, fun u hu => ?_⟩ h2
  by_cases hut : u = t
  · subst hut
    rw [atKey_put_same hown.isMap (show WideAt.IsKeyLit (Lit.int .u32 (u : Int)) from trivial)]
    simp [put]
  · rw [atKey_put_other (by simp; omega), hf u hu]
    simp [put, hut]
end

/-- What a found record makes of the Txns. -/
def stepT (f : Nat → Nat × Bool) (d : FD) : Nat → Nat × Bool :=
  put f d.t (if d.k = 3 then (if d.c = ((f d.t).1 : Int) then ((f d.t).1, true) else f d.t) else ((f d.t).1 + 1, false))
def countT (l : List FD) : Nat → Nat × Bool := l.foldl stepT (fun _ => (0, false))
theorem countT_snoc (l : List FD) (d : FD) : countT (l ++ [d]) = stepT (countT l) d := by simp [countT, List.foldl_append]
theorem stepT_le (f : Nat → Nat × Bool) (d : FD) (m : Nat) (h : ∀ t, (f t).1 ≤ m) (t : Nat) : (stepT f d t).1 ≤ m + 1 := by
  have h1 := h t
  have h2 := h d.t
  unfold stepT put
  split
  · split
    · split
      · show (f d.t).1 ≤ m + 1
        omega
      · omega
    · show (f d.t).1 + 1 ≤ m + 1
      omega
  · omega
theorem foldT_le : ∀ (l : List FD) (f : Nat → Nat × Bool) (m : Nat), (∀ t, (f t).1 ≤ m) → ∀ t, (l.foldl stepT f t).1 ≤ m + l.length
  | [], f, m, h, t => h t
  | d :: l, f, m, h, t => by
    have := foldT_le l (stepT f d) (m + 1) (stepT_le f d m h) t
    rw [List.foldl_cons, List.length_cons]
    omega
theorem countT_le (l : List FD) (t : Nat) : (countT l t).1 ≤ l.length := by
  have := foldT_le l (fun _ => (0, false)) 0 (fun _ => Nat.le_refl _) t
  rw [Nat.zero_add] at this
  exact this

set_option maxHeartbeats 4000000 in
theorem count6_any (A : Option Addr) (n cap : Nat) (l : List Fd) (w : World) (hF : Founds w Empty A n cap l) (ht : ∀ f ∈ l, f.t ≤ 4294967295) (hm : n ≤ 1048576) :
    Calls Try.prog 19 #[.slice A n cap] w fun e w' => (e = .returned (.map (some w.heap.size)) ∧ TxM w' w.heap.size n (countT (l.map Fd.d))) ∧ Below w.heap.size w w' := by
  have hmm := @run_makeMap Try.prog
  have HF := Lib.hid hF
  have Ht := Lib.hid ht
  have hcap := hF.2.1
  have hcap2 : cap ≤ 9223372036854775807 := by have := hF.2.2.1; unfold maxLen at this; omega
  clear hF ht
  go_enter Try.func19, Try.ntmps19
  go_wp2_with fail
  clear hmm
  go_loopw [10] (fun v wr => ∃ i : Nat, i ≤ n ∧ v = .int .i64 (i : Int) ∧ Hid (TxM wr w.heap.size i (countT ((l.take i).map Fd.d))) ∧ Hid (Below w.heap.size w wr)) (fun v _ => n - (intOf v).toNat)
  case atStart => exact ⟨0, Nat.zero_le _, rfl, Lib.hid (TxM.made w), Lib.hid ((Below.refl _ _).alloc (Nat.le_refl _) _)⟩
  case round =>
    obtain ⟨i, hi, rfl, HM, HB⟩ := hrel
    by_cases hlt : i < n
    · obtain ⟨b, o, rfl, hb, -, hcl⟩ := HF.out.2.2.2.1 (by omega)
      obtain ⟨f, hf⟩ : ∃ f, l[i]? = some f := ⟨_, List.getElem?_eq_getElem (by have := HF.out.1; omega)⟩
      have hc := hcl i f hf
      have hft := Ht.out f (List.mem_of_getElem? hf)
      have htake := congrArg (fun z => z.map Fd.d) (take_one l i f hf)
      rw [List.map_append, List.map_cons, List.map_nil] at htake
      have hcnt : countT ((l.take (i + 1)).map Fd.d) = stepT (countT ((l.take i).map Fd.d)) f.d := by rw [htake, countT_snoc]
      have hle := countT_le ((l.take i).map Fd.d) f.t
      rw [List.length_map, List.length_take] at hle
      obtain ⟨pl, k, t, s, A1, m1, p1, c, xs⟩ := f
      obtain ⟨F, hFd⟩ : ∃ F, F = countT ((l.take i).map Fd.d) := ⟨_, rfl⟩
      rw [← hFd] at hcnt HM hle
      have hst : stepT F (Fd.mk pl k t s A1 m1 p1 c xs).d = put F t (if k = 3 then (if c = ((F t).1 : Int) then ((F t).1, true) else F t) else ((F t).1 + 1, false)) := rfl
      rw [hst] at hcnt
      simp only at hft hle
      have hcell : ∀ j, j < 6 → wr.cell? ⟨b, o + i * 6 + j, none⟩ = (Fd.mk pl k t s A1 m1 p1 c xs).cells[j]? := fun j hj => (HB.out.cell (p := ⟨b, o + i * 6 + j, none⟩) hb).trans (hc j hj)
      have d0 : wr.cell? ⟨b, o + i * 6, none⟩ = some (.int .i64 pl) := hcell 0 (by omega)
      have d1 : wr.cell? ⟨b, o + i * 6 + 1, none⟩ = some (.int .i64 k) := hcell 1 (by omega)
      have d2 : wr.cell? ⟨b, o + i * 6 + 2, none⟩ = some (.int .u32 (t : Int)) := hcell 2 (by omega)
      have d3 : wr.cell? ⟨b, o + i * 6 + 3, none⟩ = some (.string s) := hcell 3 (by omega)
      have d4 : wr.cell? ⟨b, o + i * 6 + 4, none⟩ = some (.slice A1 m1 p1) := hcell 4 (by omega)
      have d5 : wr.cell? ⟨b, o + i * 6 + 5, none⟩ = some (.int .i64 c) := hcell 5 (by omega)
      obtain ⟨x, y, hxy⟩ : ∃ x y, F t = (x, y) := ⟨_, _, rfl⟩
      rw [hxy] at hle hcnt
      simp only at hle hcnt
      have hlook := fun ob => (HM.out.alloc ob).look hft
      rw [hxy] at hlook
      unfold txnV at hlook
      clear hc hcl hf hst hcell hFd htake hxy
      have Hi : Hid (i < maxLen) := Lib.hid (by unfold maxLen; omega)
      by_cases hk : k = 3
      · by_cases hcx : c = (x : Int)
        · have q1 : (c == (x : Int)) = true := by simpa using hcx
          rw [if_pos hk, if_pos hcx] at hcnt
          have Hcnt := Lib.hid hcnt
          subst hk
          clear hcx hcnt
          go_wp2_with (at_mapUpdate; refine wpList_txn_put rfl _ _ _ rfl w.heap.size i F rfl ((HM.out.alloc _).alloc _) Hi.out t hft (x, true) rfl rfl ?_; intro w7 hm7 hg7)
          have HM7 := Lib.hid hm7
          rw [← Hcnt.out] at HM7
          have HB7 := Lib.hid (below_grown ((HB.out.alloc HB.out.size _).alloc (Nat.le_trans HB.out.size (by simp)) _) (Nat.le_trans HB.out.size (by simp; omega)) hg7 (fun q hq => by cases hq; exact Nat.le_refl _))
          clear hm7 hg7 hlook d0 d1 d2 d3 d4 d5
          go_roundw
          case rel => exact ⟨i + 1, by omega, by go_num, HM7, HB7⟩
          case measure => simp [intOf]; omega
        · have q1 : (c == (x : Int)) = false := by simpa using hcx
          rw [if_pos hk, if_neg hcx] at hcnt
          have Hcnt := Lib.hid hcnt
          subst hk
          clear hcx hcnt
          go_wp2_with (at_mapUpdate; refine wpList_txn_put rfl _ _ _ rfl w.heap.size i F rfl ((HM.out.alloc _).alloc _) Hi.out t hft (x, y) rfl rfl ?_; intro w7 hm7 hg7)
          have HM7 := Lib.hid hm7
          rw [← Hcnt.out] at HM7
          have HB7 := Lib.hid (below_grown ((HB.out.alloc HB.out.size _).alloc (Nat.le_trans HB.out.size (by simp)) _) (Nat.le_trans HB.out.size (by simp; omega)) hg7 (fun q hq => by cases hq; exact Nat.le_refl _))
          clear hm7 hg7 hlook d0 d1 d2 d3 d4 d5
          go_roundw
          case rel => exact ⟨i + 1, by omega, by go_num, HM7, HB7⟩
          case measure => simp [intOf]; omega
      · have q1 : (k == 3) = false := by simpa using hk
        have q2 : (k != 3) = true := by simp only [bne, q1]; rfl
        rw [if_neg hk] at hcnt
        have Hcnt := Lib.hid hcnt
        clear hk hcnt
        go_wp2_with (at_mapUpdate; refine wpList_txn_put rfl _ _ _ rfl w.heap.size i F rfl ((HM.out.alloc _).alloc _) Hi.out t hft (x + 1, false) rfl rfl ?_; intro w7 hm7 hg7)
        have HM7 := Lib.hid hm7
        rw [← Hcnt.out] at HM7
        have HB7 := Lib.hid (below_grown ((HB.out.alloc HB.out.size _).alloc (Nat.le_trans HB.out.size (by simp)) _) (Nat.le_trans HB.out.size (by simp; omega)) hg7 (fun q hq => by cases hq; exact Nat.le_refl _))
        clear hm7 hg7 hlook d0 d1 d2 d3 d4 d5
        go_roundw
        case rel => exact ⟨i + 1, by omega, by go_num, HM7, HB7⟩
        case measure => simp [intOf]; omega
    · obtain rfl : i = n := by omega
      rw [List.take_of_length_le (by rw [HF.out.1]; omega)] at HM
      go_wp2_with fail
      go_ret
      exact ⟨⟨rfl, HM.out⟩, HB.out⟩

end Go.Proofs.Ytidcgobnhfganaa
