/- Rows of ints of a call's own: append, the library's sort and Compact of at most two; the walk over flow.Nexts. -/
import Derived.Test.YtdkkpcbebhgbiaaGreatDoorZat
import Derived.Test.YtdkkpcbebhgbiaaGreatDoorZau
import Derived.Test.YtdkkpcbebhgbiaaGreatDoorZaw
import Derived.Sort.OwnSortedInts
import Derived.Lib.SliceRun
import Derived.Shelf.Slices.In.SortNone
namespace Go.Proofs.YtdkkpcbebhgbiaaGreatDoor
set_option maxRecDepth 100000
open Go.RowKit Go.Sort

def iC (n : Int) : List Value := [.int .i64 n]
theorem iC_len : ∀ x, (iC x).length = 1 := fun _ => rfl
theorem iC_one : ∀ x, ∀ v ∈ iC x, v.oneCell' = true := fun x v hv => by
  simp only [iC, List.mem_singleton] at hv
  subst hv
  rfl
theorem flat_iC : ∀ l : List Int, l.flatMap iC = l.map (Value.int .i64)
  | [] => rfl
  | x :: r => by rw [List.flatMap_cons, flat_iC r]; rfl
theorem Tryz.infoInt2 : (Tryz.prog.info? 3).map (fun i => (i.zero, i.size, i.bytes)) = some (some (.int .i64 0), 1, 8) := by kernel_rfl
abbrev IntR := GotR iC 1 3
theorem iC_lit (x : Int) (w : World) : RowSl iC 1 (w.alloc (.cells #[.int .i64 x] 3)) Empty (some ⟨w.heap.size, 0, none⟩) 1 1 [x] :=
  RowSl.lit iC_len w Empty 3 [x] 1 [.int .i64 x] rfl rfl (by decide) (fun h => h)
theorem wpList_append_i {ops : Array Oper} {rest : List Oper} {q : Oper} {u : Act} {w : World} {S : Nat → Prop} {Q : Exit → Act → World → Prop} (hgd : q.guard = none) (s x : Operand) (hq : q.op = .call { callee := .builtin .append, args := #[s, x], argTypes := #[71, 71] })
    (base : Nat) (B : Option Addr) (m0 c0 : Nat) (zs : List Int) (hs : u.eval s = .slice B m0 c0) (hown : IntR base w B m0 c0 zs) (A : Option Addr) (k c : Nat) (l : List Int)
    (hx : u.eval x = .slice A k c) (hB : RowSl iC 1 w S A k c l) (hn : A = none → k = 0 ∧ c = 0) (hm : m0 + k ≤ 16777216) (hbase : base ≤ w.heap.size)
    (h : ∀ A' c' w', IntR base w' A' (m0 + k) c' (zs ++ l) → w.grownBy w' (Value.slice B m0 c0).ownBlock → (∀ g, (Value.slice B m0 c0).ownBlock = some g → base ≤ g) → wpList Tryz.prog ops Q rest (u.put q.dst (.slice A' (m0 + k) c')) w') : wpList Tryz.prog ops Q (q :: rest) u w :=
  wpList_append_rows iC_len iC_one (by decide) 71 3 _ 8 Tryz.underlying71 Tryz.infoInt2 (by simp [Value.cells]) (by decide) hgd s x hq base B m0 c0 zs hs hown A k c l hx hB hn hm hbase (fun A' c' w' h1 h2 h3 _ => h A' c' w' h1 h2 h3)

def leI (x y : Int) : Bool := decide (x ≤ y)
/-- A row of ints of the call's own is sorted. -/
theorem sort_ints (base : Nat) (A : Option Addr) (n cap : Nat) (l : List Int) (w : World) (h : IntR base w A n cap l) (hn : n ≤ 1048576) :
    Calls Tryz.prog 91 #[.slice A n cap] w fun e w' => e = .returned (.tuple #[]) ∧ IntR base w' A n cap (l.mergeSort leI) ∧ Only (fun q => base ≤ q) w w' := by
  rcases h.own.2 with ⟨hnil, h0⟩ | ⟨g, cap', cur, hv, hbase, hb, h1, h2, h3, h4⟩
  · have hl : l = [] := List.eq_nil_of_length_eq_zero (by rw [h.row.1, h0])
    subst hl
    cases hnil
    refine (Any.slices_Sort_int_none lays189 none 0 w).mono ?_
    rintro e w' ⟨rfl, rfl⟩
    exact ⟨rfl, by simpa using h, Only.refl _ _⟩
  · cases hv
    have hlen := h.row.1
    rw [flat_iC] at h4
    have hH : Holds (Value.int .i64) w g 0 l.toArray := holds_of_blockI hb (by rw [hlen]; simpa using h4)
    have hgl : g < w.heap.size := (Array.getElem?_eq_some_iff.1 hb).1
    have hs := slices_Sort_int g 0 cap l w hH hgl (by omega)
    rw [hlen] at hs
    refine hs.mono ?_
    rintro e w' ⟨rfl, nn, os, rfl⟩
    have ho := ownsRow_sortedI (n := nn) (os := os) (base := base) (cap := cap) (ss := l) (ts := l.mergeSort leI) (by simp) hbase hb (by rw [hlen]; exact h1) h2 h3
    rw [hlen, ← flat_iC] at ho
    obtain ⟨A', c', he, hG⟩ := GotR.of_own iC_len ho (by simp [hlen])
    cases he
    exact ⟨rfl, hG, Only.of_grown (grownBy_sortedI _) (fun k e _ => by cases e; exact hbase)⟩

/-- What is left when doubles are taken out of at most two. -/
def compact2 : List Int → List Int
  | [a, b] => if a = b then [a] else [a, b]
  | l => l
theorem compact_any (base : Nat) (A : Option Addr) (n cap : Nat) (l : List Int) (w : World) (h : IntR base w A n cap l) (hn : n ≤ 2) :
    Calls Tryz.prog 92 #[.slice A n cap] w fun e w' => (∃ A' n' c', e = .returned (.slice A' n' c') ∧ RowSl iC 1 w' Empty A' n' c' (compact2 l)) ∧ Only (fun q => base ≤ q) w w' := by
  have hlen := h.row.1
  have hc1 := h.row.2.1
  have hc2 := h.row.2.2.1
  unfold maxLen at hc2
  by_cases h2 : n < 2
  · have he : compact2 l = l := by
      rcases l with _ | ⟨a, _ | ⟨b, _ | ⟨c, r⟩⟩⟩
      · rfl
      · rfl
      · simp at hlen; omega
      · rfl
    have HE : Hid (RowSl iC 1 w Empty A n cap (compact2 l)) := Lib.hid (by rw [he]; exact h.row)
    clear h he hlen
    go_enter Tryz.func92, Tryz.ntmps92
    go_wp2
    go_ret
    exact ⟨⟨A, n, cap, rfl, HE.out⟩, Only.refl _ _⟩
  · obtain rfl : n = 2 := by omega
    obtain ⟨a, b, rfl⟩ : ∃ a b, l = [a, b] := by
      rcases l with _ | ⟨a, _ | ⟨b, _ | ⟨c, r⟩⟩⟩
      · simp at hlen
      · simp at hlen
      · exact ⟨a, b, rfl⟩
      · simp at hlen
    rcases h.own.2 with ⟨hnil, h0⟩ | ⟨g, cap', cur, hv, hbase, hb, h1, h2', h3, h4⟩
    · omega
    · cases hv
      have kb : Blk w g 3 cur := hb
      have e0 : w.cell? ⟨g, 0, none⟩ = some (.int .i64 a) := by
        obtain ⟨b', o', f, e, _, _, hf, hc⟩ := h.row.at_ (i := 0) (by omega)
        cases e
        simp at hf; subst hf
        have := hc 0 (by omega)
        simpa [iC] using this
      have e1 : w.cell? ⟨g, 1, none⟩ = some (.int .i64 b) := by
        obtain ⟨b', o', f, e, _, _, hf, hc⟩ := h.row.at_ (i := 1) (by omega)
        cases e
        simp at hf; subst hf
        have := hc 0 (by omega)
        simpa [iC] using this
      have HR := Lib.hid h.row
      have hgl := kb.lt
      have f1 := kb.frozen 1
      clear h hb h3 h4
      by_cases hab : a = b
      · subst hab
        have hz0 : (w.drew.cell? ⟨g, 1 + 0, none⟩).isSome = true := by
          have e2 : w.drew.cell? ⟨g, 1 + 0, none⟩ = some (.int .i64 a) := e1
          rw [e2]; rfl
        have hclr : ∀ (ty : TypeId), (Builtin.clear_ #[71] ty #[.slice (some ⟨g, 1, none⟩) 1 (cap - 1)]).run Tryz.prog w.drew = .ok (.tuple #[]) (w.drew.setCells g 1 (List.replicate 1 (.int .i64 0))) := fun ty =>
          Lib.run_clear_slice w.drew 71 3 ty (.int .i64 0) Tryz.underlying71 (fun _ => by kernel_rfl) rfl rfl g 1 1 (cap - 1) (by decide) (fun j hj => (show j = 0 by omega) ▸ hz0) (fun j hj => kb.drew.frozen _)
        clear hz0
        go_enter Tryz.func92, Tryz.ntmps92
        go_wp2_with fail
        refine wp_loop_rounds 1 ?_
        rw [rounds_succ]
        go_wp2_with fail
        go_region
        go_wp2_with fail
        refine wp_loop_rounds 1 ?_
        rw [rounds_succ]
        go_wp2_with fail
        go_ret
        have e2 : w.drew.setCells g 1 [Value.int .i64 0] = w.drew.setCell ⟨g, 1, none⟩ (.int .i64 0) := rfl
        have k2 : Blk (w.drew.setCell ⟨g, 1, none⟩ (.int .i64 0)) g 3 (cur.setIfInBounds 1 (.int .i64 0)) := kb.drew.set_ 1 _
        rw [e2]
        refine ⟨⟨_, _, _, rfl, ?_⟩, ((Only.refl _ w).drew).setCell (Or.inl hbase) _⟩
        have h0 : compact2 [a, a] = [a] := by simp [compact2]
        rw [h0]
        refine RowSl.of_blk iC_len k2 rfl (by omega) (by unfold maxLen; omega) (fun j hj => ?_) (fun h => h)
        obtain rfl : j = 0 := by omega
        have : cur[0]? = some (.int .i64 a) := by rw [← kb.cell]; exact e0
        simpa [iC] using this
      · go_enter Tryz.func92, Tryz.ntmps92
        go_wp2_with fail
        refine wp_loop_rounds 2 ?_
        rw [rounds_succ]
        go_wp2_with fail
        go_region
        go_wp2_with fail
        rw [rounds_succ]
        go_wp2_with fail
        go_ret
        have h0 : compact2 [a, b] = [a, b] := by simp [compact2, hab]
        exact ⟨⟨_, _, _, rfl, by rw [h0]; exact HR.out.only ((Only.refl Empty w).drew) (fun _ _ h => h)⟩, (Only.refl _ w).drew⟩

end Go.Proofs.YtdkkpcbebhgbiaaGreatDoor

/- The walk over flow.Nexts; printed by gen/gen_oj.py. -/
namespace Go.Proofs.YtdkkpcbebhgbiaaGreatDoor
set_option maxRecDepth 100000
open Go.RowKit

theorem sort_two (a b : Int) : [a, b].mergeSort leI = if a ≤ b then [a, b] else [b, a] := by
  unfold leI
  by_cases h : a ≤ b
  · rw [if_pos h, List.mergeSort_of_pairwise (by simpa using h)]
  · rw [if_neg h]
    simp [List.mergeSort, List.merge, h]
/-- What stands in Nexts' row ahead of the sort. -/
def nextsL (at_ : Int) (n : Nat) (x : InD) : List Int := (if !endsB x.op && inI (at_ + 1) n then [at_ + 1] else []) ++ (if branchB x.op && inI x.n n then [x.n] else [])
theorem nexts_eq {m : MeD} {k : Nat} {x : InD} (hx : m.code[k]? = some x) : compact2 ((nextsL (k : Int) m.code.length x).mergeSort leI) = nextsF m (k : Int) := by
  have hk : k < m.code.length := (List.getElem?_eq_some_iff.1 hx).1
  have hin : inPl (k : Int) m.code.length = true := inPl_iff.2 ⟨by omega, by omega⟩
  unfold nextsF nextsL
  rw [if_pos hin, Int.toNat_natCast, hx]
  change compact2 (((if !endsB x.op && inPl ((k : Int) + 1) m.code.length then [(k : Int) + 1] else []) ++ (if branchB x.op && inPl x.n m.code.length then [x.n] else [])).mergeSort leI) = _
  cases h1 : (!endsB x.op && inPl ((k : Int) + 1) m.code.length) <;> cases h2 : (branchB x.op && inPl x.n m.code.length)
  · simp only [h1, h2, Bool.false_eq_true, if_false, if_true, List.append_nil]
    simp [compact2]
  · simp only [h1, h2, Bool.false_eq_true, if_false, if_true, List.nil_append]
    simp [compact2]
  · simp only [h1, h2, Bool.false_eq_true, if_false, if_true, List.append_nil]
    simp [compact2]
  · simp only [h1, h2, if_true, List.cons_append, List.nil_append]
    rw [sort_two]
    by_cases h3 : (k : Int) + 1 < x.n
    · rw [if_pos (by omega), if_pos h3]
      simp only [compact2]
      rw [if_neg (by omega)]
    · by_cases h4 : x.n < (k : Int) + 1
      · rw [if_neg (by omega), if_neg h3, if_pos h4]
        simp only [compact2]
        rw [if_neg (by omega)]
      · have h5 : x.n = (k : Int) + 1 := by omega
        rw [if_pos (by omega), if_neg h3, if_neg h4]
        simp only [compact2]
        rw [if_pos h5.symm, h5]

set_option maxHeartbeats 4000000 in
theorem flNexts_any (m : MeD) (Ac : Option Addr) (nc cc : Nat) (At : Option Addr) (nt ct : Nat) (Ap : Option Addr) (np cp : Nat) (at_ : Int) (w : World) (h : MeAt w m Ac nc cc At nt ct Ap np cp) (hT : Spans w) (ha : -9223372036854775808 ≤ at_ ∧ at_ ≤ 9223372036854775807) :
    Calls Tryz.prog 38 #[.agg #[.bool m.static, .string (strB m.name), .string (strB m.desc), .int .i64 m.stack, .int .i64 m.locals, .slice Ac nc cc, .slice At nt ct, .slice Ap np cp], .int .i64 at_] w fun e w' => (∃ A n c, e = .returned (.slice A n c) ∧ RowSl iC 1 w' Empty A n c (nextsF m at_)) ∧ Below w.heap.size w w' := by
  obtain ⟨hco, htr, hma⟩ := h
  obtain ⟨W1, hW1⟩ : ∃ W1, w.alloc (.cells #[.bool m.static, .string (strB m.name), .string (strB m.desc), .int .i64 m.stack, .int .i64 m.locals, .slice Ac nc cc, .slice At nt ct, .slice Ap np cp] 41) = W1 := ⟨_, rfl⟩
  have hbb : Below w.heap.size w W1 := by rw [← hW1]; exact (Below.refl _ _).alloc (Nat.le_refl _) _
  have k0 : Blk W1 w.heap.size 41 #[.bool m.static, .string (strB m.name), .string (strB m.desc), .int .i64 m.stack, .int .i64 m.locals, .slice Ac nc cc, .slice At nt ct, .slice Ap np cp] := by rw [← hW1]; exact Blk.new w _ _
  have hsz : w.heap.size < W1.heap.size := k0.lt
  have K1 : Hid (∀ W : World, Below W1.heap.size W1 W → W.cell? ⟨w.heap.size, 0, none⟩ = some (.bool m.static) ∧ W.cell? ⟨w.heap.size, 1, none⟩ = some (.string (strB m.name)) ∧ W.cell? ⟨w.heap.size, 2, none⟩ = some (.string (strB m.desc)) ∧ W.cell? ⟨w.heap.size, 3, none⟩ = some (.int .i64 m.stack) ∧ W.cell? ⟨w.heap.size, 4, none⟩ = some (.int .i64 m.locals) ∧ W.cell? ⟨w.heap.size, 5, none⟩ = some (.slice Ac nc cc) ∧ W.cell? ⟨w.heap.size, 6, none⟩ = some (.slice At nt ct) ∧ W.cell? ⟨w.heap.size, 7, none⟩ = some (.slice Ap np cp)) := Lib.hid (fun W h => ⟨(k0.of (h.block _ hsz)).cell 0, (k0.of (h.block _ hsz)).cell 1, (k0.of (h.block _ hsz)).cell 2, (k0.of (h.block _ hsz)).cell 3, (k0.of (h.block _ hsz)).cell 4, (k0.of (h.block _ hsz)).cell 5, (k0.of (h.block _ hsz)).cell 6, (k0.of (h.block _ hsz)).cell 7⟩)
  have HCO := Lib.hid (hco.below hbb)
  have HTR := Lib.hid (htr.below hbb)
  have HMA := Lib.hid (hma.below hbb)
  have HT := Lib.hid (hT.below hbb)
  have HBB := Lib.hid hbb
  have HW1 := Lib.hid hW1
  have hnc := hco.2.1
  have hcc := hco.2.2.1
  have hnt := htr.2.1
  have hct := htr.2.2.1
  have hnp := hma.2.1
  have hcp := hma.2.2.1
  unfold maxLen at hcc hct hcp
  have HLC := Lib.hid hco.1
  have hlc := hco.1
  have CP0 := Lib.hid (fun (W : World) => flPlaceI_any at_ (nc : Int) W)
  obtain ⟨p0, p1, p2, p3, p4, p5, p6, p7⟩ := K1.out _ (Below.refl _ _)
  cases hin : inI at_ nc with
  | false =>
    have HN : Hid (nextsF m at_ = []) := Lib.hid (by unfold nextsF; rw [hlc, if_neg (by show ¬ inI at_ (nc : Int) = true; rw [hin]; decide)])
    rw [hin] at CP0
    clear hco htr hma hT hbb k0 hW1 hin hlc
    go_enter Tryz.func38, Tryz.ntmps38
    go_wp2_with fail
    rw [HW1.out]
    go_wp2_with fail
    refine (CP0.out _).mono ?_
    rintro e w2 ⟨rfl, rfl⟩
    go_wp2
    go_ret
    exact ⟨⟨none, 0, 0, rfl, by rw [HN.out]; exact RowSl.nil_ _ _ _ _ (by decide)⟩, HBB.out⟩
  | true =>
    have hin2 := hin
    unfold inI at hin2
    simp only [Bool.and_eq_true, decide_eq_true_eq] at hin2
    obtain ⟨k, rfl⟩ : ∃ k : Nat, at_ = (k : Int) := ⟨at_.toNat, by omega⟩
    have hkn : k < nc := by omega
    rw [hin] at CP0
    obtain ⟨b, o, x, rfl, hb, hx, d0, d1, d2, d3, d4, d5, d6⟩ := inRow_at HCO.out hkn
    have HN : Hid (compact2 ((nextsL (k : Int) nc x).mergeSort leI) = nextsF m (k : Int)) := Lib.hid (by rw [← nexts_eq hx, hlc])
    obtain ⟨W2, hW2⟩ : ∃ W2, W1.alloc (.cells (inA x) 98) = W2 := ⟨_, rfl⟩
    have hb2 : Below W1.heap.size W1 W2 := by rw [← hW2]; exact (Below.refl _ _).alloc (Nat.le_refl _) _
    have kx : Blk W2 W1.heap.size 98 (inA x) := by rw [← hW2]; exact Blk.new _ _ _
    have KX : Hid (∀ W, Below W2.heap.size W2 W → W.cell? ⟨W1.heap.size, 0, none⟩ = some (.int .u8 (x.op.toNat : Int)) ∧ W.cell? ⟨W1.heap.size, 1, none⟩ = some (.int .i64 x.n)) := Lib.hid (fun W q => ⟨(kx.of (q.block _ kx.lt)).cell 0, (kx.of (q.block _ kx.lt)).cell 1⟩)
    have CE := Lib.hid (fun (W : World) => flEnds_any x.op W)
    have CP1 := Lib.hid (fun (W : World) => flPlaceI_any ((k : Int) + 1) (nc : Int) W)
    have CB := Lib.hid (fun (W : World) (q : Below W2.heap.size W2 W) => flBranch_any x.op W ((HT.out.below hb2).below q))
    have CP2 := Lib.hid (fun (W : World) => flPlaceL_any x.n (nc : Int) W (by omega))
    have HW2 := Lib.hid hW2
    unfold inA at HW2
    have HB2 : Hid (Below w.heap.size w W2) := Lib.hid (HBB.out.trans (hb2.mono HBB.out.size))
    obtain ⟨t0, t1⟩ := KX.out _ (Below.refl _ _)
    have hgl : W1.heap.size < W2.heap.size := kx.lt
    have HG0 : Hid (∀ W, IntR w.heap.size W none 0 0 []) := Lib.hid (fun W => GotR.nil_ _ _ _ _ _)
    have HSO := Lib.hid (fun (A : Option Addr) (n cap : Nat) (l : List Int) (W : World) (q : IntR w.heap.size W A n cap l) (hn : n ≤ 1048576) => sort_ints w.heap.size A n cap l W q hn)
    have HCM := Lib.hid (fun (A : Option Addr) (n cap : Nat) (l : List Int) (W : World) (q : IntR w.heap.size W A n cap l) (hn : n ≤ 2) => compact_any w.heap.size A n cap l W q hn)
    have HL : Hid (nextsL (k : Int) nc x = (if !endsB x.op && inI ((k : Int) + 1) nc then [(k : Int) + 1] else []) ++ (if branchB x.op && inI x.n nc then [x.n] else [])) := Lib.hid rfl
    clear hco htr hma hT hbb k0 hW1 hin hlc hin2 hx hW2 hb2 kx t1
    cases he : endsB x.op with
    | true =>
      rw [he] at CE HL
      cases hbr : branchB x.op with
      | false =>
        rw [hbr] at CB HL
        go_enter Tryz.func38, Tryz.ntmps38
        go_wp2_with fail
        rw [HW1.out]
        go_wp2_with fail
        refine (CP0.out _).mono ?_
        rintro e w2 ⟨rfl, rfl⟩
        go_wp2_with fail
        rw [HW2.out]
        clear d0 d1 d2 d3 d4 d5 d6 p0 p1 p2 p3 p4 p5 p6 p7
        go_wp2_with fail
        refine (CE.out _).mono ?_
        rintro e w2 ⟨rfl, rfl⟩
        have HB3 : Hid (Below W2.heap.size W2 W2) := Lib.hid (Below.refl _ _)
        have HG3 := Lib.hid (HG0.out W2)
        go_wp2_with fail
        refine (CB.out _ HB3.out).mono ?_
        rintro e w5 ⟨rfl, hb5⟩
        have HB5 := Lib.hid (HB3.out.trans (hb5.mono HB3.out.size))
        obtain ⟨u0, u1⟩ := KX.out _ HB5.out
        have HG5 := Lib.hid (HG3.out.below iC_len hb5)
        clear hb5
        have HLL : Hid (nextsL (k : Int) nc x = []) := Lib.hid (by rw [HL.out]; simp)
        go_wp2_with fail
        refine (HSO.out none 0 0 [] _ HG5.out (by omega)).mono ?_
        rintro e w7 ⟨rfl, hG7, ho7⟩
        have HG7 := Lib.hid hG7
        have HB7 := Lib.hid ((HB2.out.trans (HB5.out.mono HB2.out.size)).trans (ho7.below (B := w.heap.size) (by have := HB2.out.size; have := HB5.out.size; omega) (fun k h1 h2 => by omega)))
        clear hG7 ho7
        go_wp2_with fail
        refine (HCM.out none 0 0 (([] : List Int).mergeSort leI) _ HG7.out (by omega)).mono ?_
        rintro e w8 ⟨⟨A8, n8, c8, rfl, hR8⟩, ho8⟩
        have HE8 := Lib.hid (And.intro hR8 (HB7.out.trans (ho8.below (B := w.heap.size) HB7.out.size (fun k h1 h2 => by omega))))
        clear hR8 ho8
        go_wp2
        go_ret
        exact ⟨⟨A8, n8, c8, rfl, by rw [← HN.out, HLL.out]; exact HE8.out.1⟩, HE8.out.2⟩
      | true =>
        rw [hbr] at CB HL
        cases hi2 : inI x.n nc with
        | false =>
          rw [hi2] at CP2 HL
          go_enter Tryz.func38, Tryz.ntmps38
          go_wp2_with fail
          rw [HW1.out]
          go_wp2_with fail
          refine (CP0.out _).mono ?_
          rintro e w2 ⟨rfl, rfl⟩
          go_wp2_with fail
          rw [HW2.out]
          clear d0 d1 d2 d3 d4 d5 d6 p0 p1 p2 p3 p4 p5 p6 p7
          go_wp2_with fail
          refine (CE.out _).mono ?_
          rintro e w2 ⟨rfl, rfl⟩
          have HB3 : Hid (Below W2.heap.size W2 W2) := Lib.hid (Below.refl _ _)
          have HG3 := Lib.hid (HG0.out W2)
          go_wp2_with fail
          refine (CB.out _ HB3.out).mono ?_
          rintro e w5 ⟨rfl, hb5⟩
          have HB5 := Lib.hid (HB3.out.trans (hb5.mono HB3.out.size))
          obtain ⟨u0, u1⟩ := KX.out _ HB5.out
          have HG5 := Lib.hid (HG3.out.below iC_len hb5)
          clear hb5
          go_wp2_with fail
          refine (CP2.out _).mono ?_
          rintro e w6 ⟨rfl, rfl⟩
          have HLL : Hid (nextsL (k : Int) nc x = []) := Lib.hid (by rw [HL.out]; simp)
          go_wp2_with fail
          refine (HSO.out none 0 0 [] _ HG5.out (by omega)).mono ?_
          rintro e w7 ⟨rfl, hG7, ho7⟩
          have HG7 := Lib.hid hG7
          have HB7 := Lib.hid ((HB2.out.trans (HB5.out.mono HB2.out.size)).trans (ho7.below (B := w.heap.size) (by have := HB2.out.size; have := HB5.out.size; omega) (fun k h1 h2 => by omega)))
          clear hG7 ho7
          go_wp2_with fail
          refine (HCM.out none 0 0 (([] : List Int).mergeSort leI) _ HG7.out (by omega)).mono ?_
          rintro e w8 ⟨⟨A8, n8, c8, rfl, hR8⟩, ho8⟩
          have HE8 := Lib.hid (And.intro hR8 (HB7.out.trans (ho8.below (B := w.heap.size) HB7.out.size (fun k h1 h2 => by omega))))
          clear hR8 ho8
          go_wp2
          go_ret
          exact ⟨⟨A8, n8, c8, rfl, by rw [← HN.out, HLL.out]; exact HE8.out.1⟩, HE8.out.2⟩
        | true =>
          rw [hi2] at CP2 HL
          go_enter Tryz.func38, Tryz.ntmps38
          go_wp2_with fail
          rw [HW1.out]
          go_wp2_with fail
          refine (CP0.out _).mono ?_
          rintro e w2 ⟨rfl, rfl⟩
          go_wp2_with fail
          rw [HW2.out]
          clear d0 d1 d2 d3 d4 d5 d6 p0 p1 p2 p3 p4 p5 p6 p7
          go_wp2_with fail
          refine (CE.out _).mono ?_
          rintro e w2 ⟨rfl, rfl⟩
          have HB3 : Hid (Below W2.heap.size W2 W2) := Lib.hid (Below.refl _ _)
          have HG3 := Lib.hid (HG0.out W2)
          go_wp2_with fail
          refine (CB.out _ HB3.out).mono ?_
          rintro e w5 ⟨rfl, hb5⟩
          have HB5 := Lib.hid (HB3.out.trans (hb5.mono HB3.out.size))
          obtain ⟨u0, u1⟩ := KX.out _ HB5.out
          have HG5 := Lib.hid (HG3.out.below iC_len hb5)
          clear hb5
          go_wp2_with fail
          refine (CP2.out _).mono ?_
          rintro e w6 ⟨rfl, rfl⟩
          have HLIT5 := Lib.hid (iC_lit x.n w5)
          have HAL5 := Lib.hid ((Below.refl w5.heap.size w5).alloc (Nat.le_refl _) (.cells #[.int .i64 x.n] 3))
          have HGA5 := Lib.hid (HG5.out.alloc iC_len (.cells #[.int .i64 x.n] 3))
          go_wp2_with (at_builtin; refine wpList_append_i rfl _ _ rfl w.heap.size none 0 0 [] rfl HGA5.out (some ⟨w5.heap.size, 0, none⟩) 1 1 [x.n] rfl HLIT5.out (fun h => by cases h) (by omega) (by have := HAL5.out.size; have := HB5.out.size; omega) ?_; intro A6 c6 w6 hG6 hg6 hr6; have HW6 := Lib.hid (below_gotR (B := w.heap.size) (HB2.out.trans ((HB5.out.trans (HAL5.out.mono HB5.out.size)).mono HB2.out.size)) (by have := HAL5.out.size; have := HB5.out.size; have := HB2.out.size; omega) hg6 hr6 (Nat.le_refl _)); have HG6 := Lib.hid hG6; clear hG6 hg6 hr6)
          have HLL : Hid (nextsL (k : Int) nc x = ([] ++ [x.n])) := Lib.hid (by rw [HL.out]; simp)
          go_wp2_with fail
          refine (HSO.out A6 (0 + 1) c6 ([] ++ [x.n]) _ HG6.out (by omega)).mono ?_
          rintro e w7 ⟨rfl, hG7, ho7⟩
          have HG7 := Lib.hid hG7
          have HB7 := Lib.hid (HW6.out.trans (ho7.below (B := w.heap.size) HW6.out.size (fun k h1 h2 => by omega)))
          clear hG7 ho7
          go_wp2_with fail
          refine (HCM.out A6 (0 + 1) c6 ((([] ++ [x.n]) : List Int).mergeSort leI) _ HG7.out (by omega)).mono ?_
          rintro e w8 ⟨⟨A8, n8, c8, rfl, hR8⟩, ho8⟩
          have HE8 := Lib.hid (And.intro hR8 (HB7.out.trans (ho8.below (B := w.heap.size) HB7.out.size (fun k h1 h2 => by omega))))
          clear hR8 ho8
          go_wp2
          go_ret
          exact ⟨⟨A8, n8, c8, rfl, by rw [← HN.out, HLL.out]; exact HE8.out.1⟩, HE8.out.2⟩
    | false =>
      rw [he] at CE HL
      cases hp : inI ((k : Int) + 1) nc with
      | false =>
        rw [hp] at CP1 HL
        cases hbr : branchB x.op with
        | false =>
          rw [hbr] at CB HL
          go_enter Tryz.func38, Tryz.ntmps38
          go_wp2_with fail
          rw [HW1.out]
          go_wp2_with fail
          refine (CP0.out _).mono ?_
          rintro e w2 ⟨rfl, rfl⟩
          go_wp2_with fail
          rw [HW2.out]
          clear d0 d1 d2 d3 d4 d5 d6 p0 p1 p2 p3 p4 p5 p6 p7
          go_wp2_with fail
          refine (CE.out _).mono ?_
          rintro e w2 ⟨rfl, rfl⟩
          go_wp2_with fail
          refine (CP1.out _).mono ?_
          rintro e w2 ⟨rfl, rfl⟩
          have HB3 : Hid (Below W2.heap.size W2 W2) := Lib.hid (Below.refl _ _)
          have HG3 := Lib.hid (HG0.out W2)
          go_wp2_with fail
          refine (CB.out _ HB3.out).mono ?_
          rintro e w5 ⟨rfl, hb5⟩
          have HB5 := Lib.hid (HB3.out.trans (hb5.mono HB3.out.size))
          obtain ⟨u0, u1⟩ := KX.out _ HB5.out
          have HG5 := Lib.hid (HG3.out.below iC_len hb5)
          clear hb5
          have HLL : Hid (nextsL (k : Int) nc x = []) := Lib.hid (by rw [HL.out]; simp)
          go_wp2_with fail
          refine (HSO.out none 0 0 [] _ HG5.out (by omega)).mono ?_
          rintro e w7 ⟨rfl, hG7, ho7⟩
          have HG7 := Lib.hid hG7
          have HB7 := Lib.hid ((HB2.out.trans (HB5.out.mono HB2.out.size)).trans (ho7.below (B := w.heap.size) (by have := HB2.out.size; have := HB5.out.size; omega) (fun k h1 h2 => by omega)))
          clear hG7 ho7
          go_wp2_with fail
          refine (HCM.out none 0 0 (([] : List Int).mergeSort leI) _ HG7.out (by omega)).mono ?_
          rintro e w8 ⟨⟨A8, n8, c8, rfl, hR8⟩, ho8⟩
          have HE8 := Lib.hid (And.intro hR8 (HB7.out.trans (ho8.below (B := w.heap.size) HB7.out.size (fun k h1 h2 => by omega))))
          clear hR8 ho8
          go_wp2
          go_ret
          exact ⟨⟨A8, n8, c8, rfl, by rw [← HN.out, HLL.out]; exact HE8.out.1⟩, HE8.out.2⟩
        | true =>
          rw [hbr] at CB HL
          cases hi2 : inI x.n nc with
          | false =>
            rw [hi2] at CP2 HL
            go_enter Tryz.func38, Tryz.ntmps38
            go_wp2_with fail
            rw [HW1.out]
            go_wp2_with fail
            refine (CP0.out _).mono ?_
            rintro e w2 ⟨rfl, rfl⟩
            go_wp2_with fail
            rw [HW2.out]
            clear d0 d1 d2 d3 d4 d5 d6 p0 p1 p2 p3 p4 p5 p6 p7
            go_wp2_with fail
            refine (CE.out _).mono ?_
            rintro e w2 ⟨rfl, rfl⟩
            go_wp2_with fail
            refine (CP1.out _).mono ?_
            rintro e w2 ⟨rfl, rfl⟩
            have HB3 : Hid (Below W2.heap.size W2 W2) := Lib.hid (Below.refl _ _)
            have HG3 := Lib.hid (HG0.out W2)
            go_wp2_with fail
            refine (CB.out _ HB3.out).mono ?_
            rintro e w5 ⟨rfl, hb5⟩
            have HB5 := Lib.hid (HB3.out.trans (hb5.mono HB3.out.size))
            obtain ⟨u0, u1⟩ := KX.out _ HB5.out
            have HG5 := Lib.hid (HG3.out.below iC_len hb5)
            clear hb5
            go_wp2_with fail
            refine (CP2.out _).mono ?_
            rintro e w6 ⟨rfl, rfl⟩
            have HLL : Hid (nextsL (k : Int) nc x = []) := Lib.hid (by rw [HL.out]; simp)
            go_wp2_with fail
            refine (HSO.out none 0 0 [] _ HG5.out (by omega)).mono ?_
            rintro e w7 ⟨rfl, hG7, ho7⟩
            have HG7 := Lib.hid hG7
            have HB7 := Lib.hid ((HB2.out.trans (HB5.out.mono HB2.out.size)).trans (ho7.below (B := w.heap.size) (by have := HB2.out.size; have := HB5.out.size; omega) (fun k h1 h2 => by omega)))
            clear hG7 ho7
            go_wp2_with fail
            refine (HCM.out none 0 0 (([] : List Int).mergeSort leI) _ HG7.out (by omega)).mono ?_
            rintro e w8 ⟨⟨A8, n8, c8, rfl, hR8⟩, ho8⟩
            have HE8 := Lib.hid (And.intro hR8 (HB7.out.trans (ho8.below (B := w.heap.size) HB7.out.size (fun k h1 h2 => by omega))))
            clear hR8 ho8
            go_wp2
            go_ret
            exact ⟨⟨A8, n8, c8, rfl, by rw [← HN.out, HLL.out]; exact HE8.out.1⟩, HE8.out.2⟩
          | true =>
            rw [hi2] at CP2 HL
            go_enter Tryz.func38, Tryz.ntmps38
            go_wp2_with fail
            rw [HW1.out]
            go_wp2_with fail
            refine (CP0.out _).mono ?_
            rintro e w2 ⟨rfl, rfl⟩
            go_wp2_with fail
            rw [HW2.out]
            clear d0 d1 d2 d3 d4 d5 d6 p0 p1 p2 p3 p4 p5 p6 p7
            go_wp2_with fail
            refine (CE.out _).mono ?_
            rintro e w2 ⟨rfl, rfl⟩
            go_wp2_with fail
            refine (CP1.out _).mono ?_
            rintro e w2 ⟨rfl, rfl⟩
            have HB3 : Hid (Below W2.heap.size W2 W2) := Lib.hid (Below.refl _ _)
            have HG3 := Lib.hid (HG0.out W2)
            go_wp2_with fail
            refine (CB.out _ HB3.out).mono ?_
            rintro e w5 ⟨rfl, hb5⟩
            have HB5 := Lib.hid (HB3.out.trans (hb5.mono HB3.out.size))
            obtain ⟨u0, u1⟩ := KX.out _ HB5.out
            have HG5 := Lib.hid (HG3.out.below iC_len hb5)
            clear hb5
            go_wp2_with fail
            refine (CP2.out _).mono ?_
            rintro e w6 ⟨rfl, rfl⟩
            have HLIT5 := Lib.hid (iC_lit x.n w5)
            have HAL5 := Lib.hid ((Below.refl w5.heap.size w5).alloc (Nat.le_refl _) (.cells #[.int .i64 x.n] 3))
            have HGA5 := Lib.hid (HG5.out.alloc iC_len (.cells #[.int .i64 x.n] 3))
            go_wp2_with (at_builtin; refine wpList_append_i rfl _ _ rfl w.heap.size none 0 0 [] rfl HGA5.out (some ⟨w5.heap.size, 0, none⟩) 1 1 [x.n] rfl HLIT5.out (fun h => by cases h) (by omega) (by have := HAL5.out.size; have := HB5.out.size; omega) ?_; intro A6 c6 w6 hG6 hg6 hr6; have HW6 := Lib.hid (below_gotR (B := w.heap.size) (HB2.out.trans ((HB5.out.trans (HAL5.out.mono HB5.out.size)).mono HB2.out.size)) (by have := HAL5.out.size; have := HB5.out.size; have := HB2.out.size; omega) hg6 hr6 (Nat.le_refl _)); have HG6 := Lib.hid hG6; clear hG6 hg6 hr6)
            have HLL : Hid (nextsL (k : Int) nc x = ([] ++ [x.n])) := Lib.hid (by rw [HL.out]; simp)
            go_wp2_with fail
            refine (HSO.out A6 (0 + 1) c6 ([] ++ [x.n]) _ HG6.out (by omega)).mono ?_
            rintro e w7 ⟨rfl, hG7, ho7⟩
            have HG7 := Lib.hid hG7
            have HB7 := Lib.hid (HW6.out.trans (ho7.below (B := w.heap.size) HW6.out.size (fun k h1 h2 => by omega)))
            clear hG7 ho7
            go_wp2_with fail
            refine (HCM.out A6 (0 + 1) c6 ((([] ++ [x.n]) : List Int).mergeSort leI) _ HG7.out (by omega)).mono ?_
            rintro e w8 ⟨⟨A8, n8, c8, rfl, hR8⟩, ho8⟩
            have HE8 := Lib.hid (And.intro hR8 (HB7.out.trans (ho8.below (B := w.heap.size) HB7.out.size (fun k h1 h2 => by omega))))
            clear hR8 ho8
            go_wp2
            go_ret
            exact ⟨⟨A8, n8, c8, rfl, by rw [← HN.out, HLL.out]; exact HE8.out.1⟩, HE8.out.2⟩
      | true =>
        rw [hp] at CP1 HL
        cases hbr : branchB x.op with
        | false =>
          rw [hbr] at CB HL
          go_enter Tryz.func38, Tryz.ntmps38
          go_wp2_with fail
          rw [HW1.out]
          go_wp2_with fail
          refine (CP0.out _).mono ?_
          rintro e w2 ⟨rfl, rfl⟩
          go_wp2_with fail
          rw [HW2.out]
          clear d0 d1 d2 d3 d4 d5 d6 p0 p1 p2 p3 p4 p5 p6 p7
          go_wp2_with fail
          refine (CE.out _).mono ?_
          rintro e w2 ⟨rfl, rfl⟩
          go_wp2_with fail
          refine (CP1.out _).mono ?_
          rintro e w2 ⟨rfl, rfl⟩
          have HLIT := Lib.hid (iC_lit ((k : Int) + 1) W2)
          have HAL := Lib.hid ((Below.refl W2.heap.size W2).alloc (Nat.le_refl _) (.cells #[.int .i64 ((k : Int) + 1)] 3))
          go_wp2_with (at_builtin; refine wpList_append_i rfl _ _ rfl w.heap.size none 0 0 [] rfl (HG0.out _) (some ⟨W2.heap.size, 0, none⟩) 1 1 [(k : Int) + 1] rfl HLIT.out (fun h => by cases h) (by omega) (by have := HAL.out.size; omega) ?_; intro A3 c3 w3 hG3 hg3 hr3; have HB3 := Lib.hid (HAL.out.grown hg3 HAL.out.size (fun q hq => by simp [Value.ownBlock] at hq)); have HG3 := Lib.hid hG3; obtain ⟨v0, v1⟩ := KX.out _ HB3.out; clear hG3 hg3 hr3)
          go_wp2_with fail
          refine (CB.out _ HB3.out).mono ?_
          rintro e w5 ⟨rfl, hb5⟩
          have HB5 := Lib.hid (HB3.out.trans (hb5.mono HB3.out.size))
          obtain ⟨u0, u1⟩ := KX.out _ HB5.out
          have HG5 := Lib.hid (HG3.out.below iC_len hb5)
          clear hb5
          have HLL : Hid (nextsL (k : Int) nc x = ([] ++ [(k : Int) + 1])) := Lib.hid (by rw [HL.out]; simp)
          go_wp2_with fail
          refine (HSO.out A3 (0 + 1) c3 ([] ++ [(k : Int) + 1]) _ HG5.out (by omega)).mono ?_
          rintro e w7 ⟨rfl, hG7, ho7⟩
          have HG7 := Lib.hid hG7
          have HB7 := Lib.hid ((HB2.out.trans (HB5.out.mono HB2.out.size)).trans (ho7.below (B := w.heap.size) (by have := HB2.out.size; have := HB5.out.size; omega) (fun k h1 h2 => by omega)))
          clear hG7 ho7
          go_wp2_with fail
          refine (HCM.out A3 (0 + 1) c3 ((([] ++ [(k : Int) + 1]) : List Int).mergeSort leI) _ HG7.out (by omega)).mono ?_
          rintro e w8 ⟨⟨A8, n8, c8, rfl, hR8⟩, ho8⟩
          have HE8 := Lib.hid (And.intro hR8 (HB7.out.trans (ho8.below (B := w.heap.size) HB7.out.size (fun k h1 h2 => by omega))))
          clear hR8 ho8
          go_wp2
          go_ret
          exact ⟨⟨A8, n8, c8, rfl, by rw [← HN.out, HLL.out]; exact HE8.out.1⟩, HE8.out.2⟩
        | true =>
          rw [hbr] at CB HL
          cases hi2 : inI x.n nc with
          | false =>
            rw [hi2] at CP2 HL
            go_enter Tryz.func38, Tryz.ntmps38
            go_wp2_with fail
            rw [HW1.out]
            go_wp2_with fail
            refine (CP0.out _).mono ?_
            rintro e w2 ⟨rfl, rfl⟩
            go_wp2_with fail
            rw [HW2.out]
            clear d0 d1 d2 d3 d4 d5 d6 p0 p1 p2 p3 p4 p5 p6 p7
            go_wp2_with fail
            refine (CE.out _).mono ?_
            rintro e w2 ⟨rfl, rfl⟩
            go_wp2_with fail
            refine (CP1.out _).mono ?_
            rintro e w2 ⟨rfl, rfl⟩
            have HLIT := Lib.hid (iC_lit ((k : Int) + 1) W2)
            have HAL := Lib.hid ((Below.refl W2.heap.size W2).alloc (Nat.le_refl _) (.cells #[.int .i64 ((k : Int) + 1)] 3))
            go_wp2_with (at_builtin; refine wpList_append_i rfl _ _ rfl w.heap.size none 0 0 [] rfl (HG0.out _) (some ⟨W2.heap.size, 0, none⟩) 1 1 [(k : Int) + 1] rfl HLIT.out (fun h => by cases h) (by omega) (by have := HAL.out.size; omega) ?_; intro A3 c3 w3 hG3 hg3 hr3; have HB3 := Lib.hid (HAL.out.grown hg3 HAL.out.size (fun q hq => by simp [Value.ownBlock] at hq)); have HG3 := Lib.hid hG3; obtain ⟨v0, v1⟩ := KX.out _ HB3.out; clear hG3 hg3 hr3)
            go_wp2_with fail
            refine (CB.out _ HB3.out).mono ?_
            rintro e w5 ⟨rfl, hb5⟩
            have HB5 := Lib.hid (HB3.out.trans (hb5.mono HB3.out.size))
            obtain ⟨u0, u1⟩ := KX.out _ HB5.out
            have HG5 := Lib.hid (HG3.out.below iC_len hb5)
            clear hb5
            go_wp2_with fail
            refine (CP2.out _).mono ?_
            rintro e w6 ⟨rfl, rfl⟩
            have HLL : Hid (nextsL (k : Int) nc x = ([] ++ [(k : Int) + 1])) := Lib.hid (by rw [HL.out]; simp)
            go_wp2_with fail
            refine (HSO.out A3 (0 + 1) c3 ([] ++ [(k : Int) + 1]) _ HG5.out (by omega)).mono ?_
            rintro e w7 ⟨rfl, hG7, ho7⟩
            have HG7 := Lib.hid hG7
            have HB7 := Lib.hid ((HB2.out.trans (HB5.out.mono HB2.out.size)).trans (ho7.below (B := w.heap.size) (by have := HB2.out.size; have := HB5.out.size; omega) (fun k h1 h2 => by omega)))
            clear hG7 ho7
            go_wp2_with fail
            refine (HCM.out A3 (0 + 1) c3 ((([] ++ [(k : Int) + 1]) : List Int).mergeSort leI) _ HG7.out (by omega)).mono ?_
            rintro e w8 ⟨⟨A8, n8, c8, rfl, hR8⟩, ho8⟩
            have HE8 := Lib.hid (And.intro hR8 (HB7.out.trans (ho8.below (B := w.heap.size) HB7.out.size (fun k h1 h2 => by omega))))
            clear hR8 ho8
            go_wp2
            go_ret
            exact ⟨⟨A8, n8, c8, rfl, by rw [← HN.out, HLL.out]; exact HE8.out.1⟩, HE8.out.2⟩
          | true =>
            rw [hi2] at CP2 HL
            go_enter Tryz.func38, Tryz.ntmps38
            go_wp2_with fail
            rw [HW1.out]
            go_wp2_with fail
            refine (CP0.out _).mono ?_
            rintro e w2 ⟨rfl, rfl⟩
            go_wp2_with fail
            rw [HW2.out]
            clear d0 d1 d2 d3 d4 d5 d6 p0 p1 p2 p3 p4 p5 p6 p7
            go_wp2_with fail
            refine (CE.out _).mono ?_
            rintro e w2 ⟨rfl, rfl⟩
            go_wp2_with fail
            refine (CP1.out _).mono ?_
            rintro e w2 ⟨rfl, rfl⟩
            have HLIT := Lib.hid (iC_lit ((k : Int) + 1) W2)
            have HAL := Lib.hid ((Below.refl W2.heap.size W2).alloc (Nat.le_refl _) (.cells #[.int .i64 ((k : Int) + 1)] 3))
            go_wp2_with (at_builtin; refine wpList_append_i rfl _ _ rfl w.heap.size none 0 0 [] rfl (HG0.out _) (some ⟨W2.heap.size, 0, none⟩) 1 1 [(k : Int) + 1] rfl HLIT.out (fun h => by cases h) (by omega) (by have := HAL.out.size; omega) ?_; intro A3 c3 w3 hG3 hg3 hr3; have HB3 := Lib.hid (HAL.out.grown hg3 HAL.out.size (fun q hq => by simp [Value.ownBlock] at hq)); have HG3 := Lib.hid hG3; obtain ⟨v0, v1⟩ := KX.out _ HB3.out; clear hG3 hg3 hr3)
            go_wp2_with fail
            refine (CB.out _ HB3.out).mono ?_
            rintro e w5 ⟨rfl, hb5⟩
            have HB5 := Lib.hid (HB3.out.trans (hb5.mono HB3.out.size))
            obtain ⟨u0, u1⟩ := KX.out _ HB5.out
            have HG5 := Lib.hid (HG3.out.below iC_len hb5)
            clear hb5
            go_wp2_with fail
            refine (CP2.out _).mono ?_
            rintro e w6 ⟨rfl, rfl⟩
            have HLIT5 := Lib.hid (iC_lit x.n w5)
            have HAL5 := Lib.hid ((Below.refl w5.heap.size w5).alloc (Nat.le_refl _) (.cells #[.int .i64 x.n] 3))
            have HGA5 := Lib.hid (HG5.out.alloc iC_len (.cells #[.int .i64 x.n] 3))
            go_wp2_with (at_builtin; refine wpList_append_i rfl _ _ rfl w.heap.size A3 (0 + 1) c3 ([] ++ [(k : Int) + 1]) rfl HGA5.out (some ⟨w5.heap.size, 0, none⟩) 1 1 [x.n] rfl HLIT5.out (fun h => by cases h) (by omega) (by have := HAL5.out.size; have := HB5.out.size; omega) ?_; intro A6 c6 w6 hG6 hg6 hr6; have HW6 := Lib.hid (below_gotR (B := w.heap.size) (HB2.out.trans ((HB5.out.trans (HAL5.out.mono HB5.out.size)).mono HB2.out.size)) (by have := HAL5.out.size; have := HB5.out.size; have := HB2.out.size; omega) hg6 hr6 (Nat.le_refl _)); have HG6 := Lib.hid hG6; clear hG6 hg6 hr6)
            have HLL : Hid (nextsL (k : Int) nc x = (([] ++ [(k : Int) + 1]) ++ [x.n])) := Lib.hid (by rw [HL.out]; simp)
            go_wp2_with fail
            refine (HSO.out A6 ((0 + 1) + 1) c6 (([] ++ [(k : Int) + 1]) ++ [x.n]) _ HG6.out (by omega)).mono ?_
            rintro e w7 ⟨rfl, hG7, ho7⟩
            have HG7 := Lib.hid hG7
            have HB7 := Lib.hid (HW6.out.trans (ho7.below (B := w.heap.size) HW6.out.size (fun k h1 h2 => by omega)))
            clear hG7 ho7
            go_wp2_with fail
            refine (HCM.out A6 ((0 + 1) + 1) c6 (((([] ++ [(k : Int) + 1]) ++ [x.n]) : List Int).mergeSort leI) _ HG7.out (by omega)).mono ?_
            rintro e w8 ⟨⟨A8, n8, c8, rfl, hR8⟩, ho8⟩
            have HE8 := Lib.hid (And.intro hR8 (HB7.out.trans (ho8.below (B := w.heap.size) HB7.out.size (fun k h1 h2 => by omega))))
            clear hR8 ho8
            go_wp2
            go_ret
            exact ⟨⟨A8, n8, c8, rfl, by rw [← HN.out, HLL.out]; exact HE8.out.1⟩, HE8.out.2⟩


end Go.Proofs.YtdkkpcbebhgbiaaGreatDoor
