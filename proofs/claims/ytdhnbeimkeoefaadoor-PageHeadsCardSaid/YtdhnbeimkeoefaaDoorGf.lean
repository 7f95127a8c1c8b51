/- The walk over PageHeads. -/
import Derived.Test.YtdhnbeimkeoefaaDoorGe
namespace Go.Proofs.YtdhnbeimkeoefaaDoor
open Go.RowKit

set_option maxHeartbeats 4000000 in
theorem pageHeads_calls (s : Nat) (A : Option Addr) (n cap : Nat) (xs : List UInt8) (w : World) (hB0 : ByteSl w (fun k => w.heap.size ≤ k) A n cap xs) (hM : Mark w) (hs : s ≤ 4294967295) :
    Calls Tryd.prog 3 #[.int .u32 (s : Int), .slice A n cap] w fun e w' => e = .returned (.bool true) ∧ Below w.heap.size w w' := by
  have hB := hB0.mono (T := Empty) (fun _ _ h => h.elim)
  have hn9 : n ≤ 9223372036854775807 := by have := hB.2.1; have := hB.2.2.1; unfold maxLen at this; omega
  have HM := Lib.hid hM
  have HB := Lib.hid hB
  have HS := Lib.hid hs
  clear hB0 hB hM
  by_cases h5 : n ≤ 500
  · go_enter Tryd.func3, Tryd.ntmps3
    go_wp2_with fail
    refine (fixed4_any w HM.out).mono ?_
    rintro e1 w1 ⟨rfl, hb1⟩
    have HM1 := Lib.hid (HM.out.below hb1)
    have HB1 := Lib.hid (HB.out.only (Only.of_below (S := Empty) hb1) (fun _ _ h => h))
    have Hb1 := Lib.hid hb1
    clear hb1
    obtain ⟨q, l, v, hv⟩ : ∃ (q : Int) (l v : Bool), (parseH xs).v = .agg #[.int .u32 q, .bool l, .bool v] := ⟨_, _, _, rfl⟩
    obtain ⟨c, hc⟩ : ∃ c, parseC xs = c := ⟨_, rfl⟩
    have Hvc := Lib.hid (And.intro hv hc)
    clear hv hc
    go_wp2_with fail
    refine (parse_any A n cap xs _ HB1.out HM1.out (by omega)).mono ?_
    rintro e1 w2 ⟨he, hb2⟩
    rw [Hvc.out.1, Hvc.out.2] at he
    subst he
    have HM2 := Lib.hid (HM1.out.below hb2)
    have HB2 := Lib.hid (HB1.out.only (Only.of_below (S := Empty) hb2) (fun _ _ h => h))
    have Hb2 := Lib.hid (Hb1.out.trans (hb2.mono Hb1.out.size))
    clear hb2
    go_wp2_with fail
    have HB3 := Lib.hid (HB2.out.only ((Only.refl Empty w2).alloc (.cells #[.int .u32 q, .bool l, .bool v] 26)) (fun _ _ h => h))
    have Hk2 := Lib.hid (Blk.new w2 26 #[.int .u32 q, .bool l, .bool v])
    refine (refParse_any A n cap xs _ HB3.out (by omega)).mono ?_
    rintro e1 w3 ⟨he, hb3⟩
    rw [Hvc.out.1, Hvc.out.2] at he
    subst he
    have Hb3 := Lib.hid ((Hb2.out.alloc Hb2.out.size (.cells #[.int .u32 q, .bool l, .bool v] 26)).trans (hb3.mono (by have := Hb2.out.size; simp; omega)))
    have Hk3 := Lib.hid ((Hk2.out).of (hb3.block w2.heap.size (by simp)))
    have HM3 := Lib.hid ((HM2.out.below ((Below.refl _ _).alloc (Nat.le_refl _) (.cells #[.int .u32 q, .bool l, .bool v] 26))).below hb3)
    have hz : w2.heap.size < w3.heap.size := Hk3.out.lt
    clear hb3
    go_wp2_with fail
    have Hk4 := Lib.hid (Hk3.out.alloc (.cells #[.int .u32 q, .bool l, .bool v] 26))
    have Hk5 := Lib.hid (Blk.new w3 26 #[.int .u32 q, .bool l, .bool v])
    have HM4 := Lib.hid (HM3.out.below ((Below.refl _ _).alloc (Nat.le_refl _) (.cells #[.int .u32 q, .bool l, .bool v] 26)))
    have Hb4 := Lib.hid (Hb3.out.alloc Hb3.out.size (.cells #[.int .u32 q, .bool l, .bool v] 26))
    obtain ⟨w4, hw4⟩ : ∃ w4, w4 = w3.alloc (.cells #[.int .u32 q, .bool l, .bool v] 26) := ⟨_, rfl⟩
    rw [← hw4] at Hk4 Hk5 HM4 Hb4 ⊢
    have Hw4 := Lib.hid hw4
    clear hw4
    have hI : ∀ W, Only Empty w4 W → W.cell? ⟨w2.heap.size, 0, none⟩ = some (.int .u32 q) ∧ W.cell? ⟨w2.heap.size, 1, none⟩ = some (.bool l) ∧ W.cell? ⟨w2.heap.size, 2, none⟩ = some (.bool v) ∧
        W.cell? ⟨w3.heap.size, 0, none⟩ = some (.int .u32 q) ∧ W.cell? ⟨w3.heap.size, 1, none⟩ = some (.bool l) ∧ W.cell? ⟨w3.heap.size, 2, none⟩ = some (.bool v) := fun W hW =>
      ⟨(hW.blk Hk4.out (fun h => h)).cell 0, (hW.blk Hk4.out (fun h => h)).cell 1, (hW.blk Hk4.out (fun h => h)).cell 2, (hW.blk Hk5.out (fun h => h)).cell 0, (hW.blk Hk5.out (fun h => h)).cell 1, (hW.blk Hk5.out (fun h => h)).cell 2⟩
    have hY1 : ∀ W, Only Empty w4 W → Calls Tryd.prog 9 #[.int .u32 (s : Int)] W fun e W' => (∃ u, e = .returned u ∧ ∀ W2, Only Empty W' W2 → (convert 23 9 u).run Tryd.prog W2 = .ok (.string (strB (headB s))) W2) ∧ Only Empty w4 W' ∧ Only Empty W W' := fun W hW =>
      (pgBytes_any s W HS.out (HM4.out.only hW (fun h => h))).mono fun e W' ⟨⟨u, he, ho⟩, hb⟩ => ⟨⟨u, he, fun W2 hW2 => by
          obtain ⟨A2, c2, rfl, hB2, -⟩ := ByteSl.of_own (S := Empty) ho (fun _ _ _ h => h)
          exact conv_bytes (hB2.only hW2 (fun _ _ h => h))⟩, hW.trans (Only.of_below hb), Only.of_below hb⟩
    have hY2 : ∀ W, Only Empty w4 W → Calls Tryd.prog 10 #[.int .u32 (s : Int)] W fun e W' => (∃ u, e = .returned u ∧ ∀ W2, Only Empty W' W2 → (convert 23 9 u).run Tryd.prog W2 = .ok (.string (strB (headB s))) W2) ∧ Only Empty w4 W' ∧ Only Empty W W' := fun W hW =>
      (refBytes_any s W HS.out).mono fun e W' ⟨⟨u, he, ho⟩, hb⟩ => ⟨⟨u, he, fun W2 hW2 => by
          obtain ⟨A2, c2, rfl, hB2, -⟩ := ByteSl.of_own (S := Empty) ho (fun _ _ _ h => h)
          exact conv_bytes (hB2.only hW2 (fun _ _ h => h))⟩, hW.trans (Only.of_below hb), Only.of_below hb⟩
    have HI := Lib.hid hI
    have HY1 := Lib.hid hY1
    have HY2 := Lib.hid hY2
    clear hI hY1 hY2 hs hn9 h5 hz
    have hO0 : Only Empty w4 w4 := Only.refl _ _
    have hO1 : Only Empty w4 w4.drew := hO0.drew
    have hs0 := HI.out _ hO0
    have hs1 := HI.out _ hO1
    go_region_held (fun W => W.cell? ⟨w2.heap.size, 0, none⟩ = some (.int .u32 q) ∧ W.cell? ⟨w2.heap.size, 1, none⟩ = some (.bool l) ∧ W.cell? ⟨w2.heap.size, 2, none⟩ = some (.bool v) ∧
        W.cell? ⟨w3.heap.size, 0, none⟩ = some (.int .u32 q) ∧ W.cell? ⟨w3.heap.size, 1, none⟩ = some (.bool l) ∧ W.cell? ⟨w3.heap.size, 2, none⟩ = some (.bool v)) (first | exact hs0 | exact hs1 | exact hs10 | exact hs20)
      (first | (go_at_call 9; (with_reducible refine (HY1.out _ hO1).mono ?_); rintro e10 w10 ⟨⟨u10, rfl, hcv10⟩, hO10, hP10⟩; have hs10 := HI.out _ hO10; have hc10 := hcv10 _ (Only.refl _ _); have Hcv := Lib.hid hcv10; clear hcv10) | (go_at_call 10; (with_reducible refine (HY2.out _ hO10).mono ?_); rintro e20 w20 ⟨⟨u20, rfl, hcv20⟩, hO20, hP20⟩; have hs20 := HI.out _ hO20; have hc20 := hcv20 _ (Only.refl _ _); have hd20 := Hcv.out _ hP20; clear hcv20))
    all_goals
      go_wp2
      go_ret
      exact ⟨rfl, Hb4.out.trans (hO20.below Hb4.out.size (fun _ _ h => h))⟩
  · go_enter Tryd.func3, Tryd.ntmps3
    go_wp2_with fail
    refine (fixed4_any w HM.out).mono ?_
    rintro e1 w1 ⟨rfl, hb1⟩
    go_wp2
    go_ret
    exact ⟨rfl, hb1⟩

end Go.Proofs.YtdhnbeimkeoefaaDoor
