/- Units that come in as an argument, opened, with the reach of what is read: methods, units. -/
import Derived.Test.YtkcjgcogoicffaaDoorRi
namespace Go.Proofs.YtkcjgcogoicffaaDoor
set_option maxRecDepth 100000
open Go.ChangeShapes Go.WideShapes Go.ChangeAt Go.RowKit Go.Joins

section
variable {H : Type} {enc : TypeId × Value → H} {W : World} {base : Nat}
theorem oneW_sT {fuel : Nat} {cs : List Value} {x : DataW H × List MemPlace} (hl : cs.length = 1) (ht : TC enc W 9 fuel cs x) (hw : Wt 9 x.1) : ∃ y, (andT strT SB).rep W (fun q => W.heap.size ≤ q) cs y := by
  match cs, hl with
  | [c0], _ =>
    obtain ⟨s, rfl, hs⟩ := oneW_str ht hw
    exact ⟨s, rfl, hs⟩
theorem oneW_tr {fuel : Nat} {cs : List Value} {x : DataW H × List MemPlace} (hl : cs.length = 4) (ht : TC enc W 56 fuel cs x) (hw : Wt 56 x.1) : ∃ y, (andT trT trB).rep W (fun q => W.heap.size ≤ q) cs y := by
  obtain ⟨ys, m, _, hx, _, hyl, hg⟩ := DataW.trod_struct Tryd.underlying56 ht
  subst hx
  match cs, hl with
  | [c0, c1, c2, c3], _ =>
    match ys, hyl with
    | [y0, y1, y2, y3], _ =>
      obtain ⟨a, rfl⟩ := oneW_int (hg 0 _ rfl : TC enc W 3 m [c0] y0)
      obtain ⟨b, rfl⟩ := oneW_int (hg 1 _ rfl : TC enc W 3 m [c1] y1)
      obtain ⟨c, rfl⟩ := oneW_int (hg 2 _ rfl : TC enc W 3 m [c2] y2)
      obtain ⟨d, rfl, hd⟩ := oneW_str (hg 3 _ rfl : TC enc W 9 m [c3] y3) (Wt.field Tryd.underlying56 hw (j := 3) rfl rfl)
      exact ⟨⟨a, b, c, d⟩, rfl, hd⟩
theorem oneW_in {fuel : Nat} {cs : List Value} {x : DataW H × List MemPlace} (hl : cs.length = 7) (ht : TC enc W 32 fuel cs x) (hw : Wt 32 x.1) : ∃ y, (andT inT inB).rep W (fun q => W.heap.size ≤ q) cs y := by
  obtain ⟨ys, m, _, hx, _, hyl, hg⟩ := DataW.trod_struct Tryd.underlying32 ht
  subst hx
  match cs, hl with
  | [c0, c1, c2, c3, c4, c5, c6], _ =>
    match ys, hyl with
    | [y0, y1, y2, y3, y4, y5, y6], _ =>
      have g0 : TC enc W 5 m [c0] y0 := hg 0 _ rfl
      have g1 : TC enc W 2 m [c1] y1 := hg 1 _ rfl
      obtain ⟨a, e0, _, w0⟩ := DataW.trod_int Tryd.underlying5 g0
      obtain ⟨b, e1, _, _⟩ := DataW.trod_int Tryd.underlying2 g1
      simp at e0 e1
      subst e0 e1
      obtain ⟨o, ho⟩ := bd_u8 w0
      obtain ⟨c, rfl⟩ := oneW_int (hg 2 _ rfl : TC enc W 3 m [c2] y2)
      obtain ⟨s3, rfl, h3⟩ := oneW_str (hg 3 _ rfl : TC enc W 9 m [c3] y3) (Wt.field Tryd.underlying32 hw (j := 3) rfl rfl)
      obtain ⟨s4, rfl, h4⟩ := oneW_str (hg 4 _ rfl : TC enc W 9 m [c4] y4) (Wt.field Tryd.underlying32 hw (j := 4) rfl rfl)
      obtain ⟨s5, rfl, h5⟩ := oneW_str (hg 5 _ rfl : TC enc W 9 m [c5] y5) (Wt.field Tryd.underlying32 hw (j := 5) rfl rfl)
      obtain ⟨s6, rfl, h6⟩ := oneW_str (hg 6 _ rfl : TC enc W 9 m [c6] y6) (Wt.field Tryd.underlying32 hw (j := 6) rfl rfl)
      rw [ho]
      exact ⟨⟨o, b, c, s3, s4, s5, s6⟩, rfl, h3, h4, h5, h6⟩
theorem strsW_cell {fuel : Nat} {v : Value} {x : DataW H × List MemPlace} (h : TC enc W 36 fuel [v] x) (hw : Wt 36 x.1) : ∃ A n cap l, v = .slice A n cap ∧ RowS strT W (fun q => W.heap.size ≤ q) A n cap l ∧ l.length ≤ M47 ∧ ∀ s ∈ l, SB s := by
  obtain ⟨A, n, cap, l, rfl, hR, hn⟩ := rowsS_cellW (andT strT SB) [] 36 9 Tryd.underlying36 (by kernel_rfl) (by decide) (by decide +kernel) (fun _ _ _ hl ht hw => oneW_sT hl ht hw) h hw
  obtain ⟨h1, h2⟩ := hR.all
  exact ⟨A, n, cap, l, rfl, h1, by rw [h1.1]; exact hn, h2⟩
theorem oneW_mp {fuel : Nat} {cs : List Value} {x : DataW H × List MemPlace} (hl : cs.length = 3) (ht : TC enc W 38 fuel cs x) (hw : Wt 38 x.1) : ∃ y, (andT mpT mpB).rep W (fun q => W.heap.size ≤ q) cs y := by
  obtain ⟨ys, m, _, hx, _, hyl, hg⟩ := DataW.trod_struct Tryd.underlying38 ht
  subst hx
  match cs, hl with
  | [c0, c1, c2], _ =>
    match ys, hyl with
    | [y0, y1, y2], _ =>
      obtain ⟨a, rfl⟩ := oneW_int (hg 0 _ rfl : TC enc W 3 m [c0] y0)
      obtain ⟨A1, n1, p1, l1, rfl, h1, b1, s1⟩ := strsW_cell (hg 1 _ rfl : TC enc W 36 m [c1] y1) (Wt.field Tryd.underlying38 hw (j := 1) rfl rfl)
      obtain ⟨A2, n2, p2, l2, rfl, h2, b2, s2⟩ := strsW_cell (hg 2 _ rfl : TC enc W 36 m [c2] y2) (Wt.field Tryd.underlying38 hw (j := 2) rfl rfl)
      exact ⟨⟨a, l1, l2⟩, ⟨_, _, rfl, ⟨_, _, _, rfl, h1⟩, ⟨_, _, _, rfl, h2⟩⟩, b1, b2, s1, s2⟩
theorem oneW_me {fuel : Nat} {cs : List Value} {x : DataW H × List MemPlace} (hl : cs.length = 8) (ht : TC enc W 26 fuel cs x) (hw : Wt 26 x.1) : ∃ y, (andT meF meB).rep W (fun q => W.heap.size ≤ q) cs y := by
  obtain ⟨ys, m, _, hx, _, hyl, hg⟩ := DataW.trod_struct Tryd.underlying26 ht
  subst hx
  match cs, hl with
  | [c0, c1, c2, c3, c4, c5, c6, c7], _ =>
    match ys, hyl with
    | [y0, y1, y2, y3, y4, y5, y6, y7], _ =>
      obtain ⟨t, rfl⟩ := oneW_bool (hg 0 _ rfl : TC enc W 4 m [c0] y0)
      obtain ⟨s1, rfl, b1⟩ := oneW_str (hg 1 _ rfl : TC enc W 9 m [c1] y1) (Wt.field Tryd.underlying26 hw (j := 1) rfl rfl)
      obtain ⟨s2, rfl, b2⟩ := oneW_str (hg 2 _ rfl : TC enc W 9 m [c2] y2) (Wt.field Tryd.underlying26 hw (j := 2) rfl rfl)
      obtain ⟨i3, rfl⟩ := oneW_int (hg 3 _ rfl : TC enc W 3 m [c3] y3)
      obtain ⟨i4, rfl⟩ := oneW_int (hg 4 _ rfl : TC enc W 3 m [c4] y4)
      obtain ⟨A5, n5, p5, l5, rfl, h5, b5⟩ := rowsS_cellW (andT inT inB) ⟨0, 0, 0, [], [], [], []⟩ 22 32 Tryd.underlying22 (by kernel_rfl) (by decide) (by decide +kernel) (fun _ _ _ hl ht hw => oneW_in hl ht hw) (hg 5 _ rfl : TC enc W 22 m [c5] y5) (Wt.field Tryd.underlying26 hw (j := 5) rfl rfl)
      obtain ⟨A6, n6, p6, l6, rfl, h6, b6⟩ := rowsS_cellW (andT trT trB) ⟨0, 0, 0, []⟩ 23 56 Tryd.underlying23 (by kernel_rfl) (by decide) (by decide +kernel) (fun _ _ _ hl ht hw => oneW_tr hl ht hw) (hg 6 _ rfl : TC enc W 23 m [c6] y6) (Wt.field Tryd.underlying26 hw (j := 6) rfl rfl)
      obtain ⟨A7, n7, p7, l7, rfl, h7, b7⟩ := rowsS_cellW (andT mpT mpB) ⟨0, [], []⟩ 24 38 Tryd.underlying24 (by kernel_rfl) (by decide) (by decide +kernel) (fun _ _ _ hl ht hw => oneW_mp hl ht hw) (hg 7 _ rfl : TC enc W 24 m [c7] y7) (Wt.field Tryd.underlying26 hw (j := 7) rfl rfl)
      obtain ⟨r5, a5⟩ := h5.all
      obtain ⟨r6, a6⟩ := h6.all
      obtain ⟨r7, a7⟩ := h7.all
      exact ⟨⟨t, s1, s2, i3, i4, l5, l6, l7⟩, ⟨_, _, _, _, _, _, _, _, _, rfl, r6, fun _ => ⟨r5, r7⟩⟩, b1, b2, by rw [r5.1]; exact b5, by rw [r6.1]; exact b6, by rw [r7.1]; exact b7, a5, a6, a7⟩
theorem oneW_un {fuel : Nat} {cs : List Value} {x : DataW H × List MemPlace} (hl : cs.length = 4) (ht : TC enc W 45 fuel cs x) (hw : Wt 45 x.1) : ∃ y, (andT unF unB).rep W (fun q => W.heap.size ≤ q) cs y := by
  obtain ⟨ys, m, _, hx, _, hyl, hg⟩ := DataW.trod_struct Tryd.underlying45 ht
  subst hx
  match cs, hl with
  | [c0, c1, c2, c3], _ =>
    match ys, hyl with
    | [y0, y1, y2, y3], _ =>
      obtain ⟨s0, rfl, b0⟩ := oneW_str (hg 0 _ rfl : TC enc W 9 m [c0] y0) (Wt.field Tryd.underlying45 hw (j := 0) rfl rfl)
      obtain ⟨s1, rfl, b1⟩ := oneW_str (hg 1 _ rfl : TC enc W 9 m [c1] y1) (Wt.field Tryd.underlying45 hw (j := 1) rfl rfl)
      obtain ⟨A2, n2, p2, l2, rfl, h2, b2⟩ := rowsS_cellW (andT fdT fdB) ⟨false, [], []⟩ 43 54 Tryd.underlying43 (by kernel_rfl) (by decide) (by decide +kernel) (fun _ _ _ hl ht hw => oneW_fd hl ht hw) (hg 2 _ rfl : TC enc W 43 m [c2] y2) (Wt.field Tryd.underlying45 hw (j := 2) rfl rfl)
      obtain ⟨A3, n3, p3, l3, rfl, h3, b3⟩ := rowsS_cellW (andT meF meB) ⟨false, [], [], 0, 0, [], [], []⟩ 42 26 Tryd.underlying42 (by kernel_rfl) (by decide) (by decide +kernel) (fun _ _ _ hl ht hw => oneW_me hl ht hw) (hg 3 _ rfl : TC enc W 42 m [c3] y3) (Wt.field Tryd.underlying45 hw (j := 3) rfl rfl)
      obtain ⟨r2, a2⟩ := h2.all
      obtain ⟨r3, a3⟩ := h3.all
      exact ⟨⟨s0, s1, l2, l3⟩, ⟨_, _, _, _, _, _, rfl, r2, r3⟩, b0, b1, by rw [r2.1]; exact b2, by rw [r3.1]; exact b3, a2, a3⟩
end

end Go.Proofs.YtkcjgcogoicffaaDoor
