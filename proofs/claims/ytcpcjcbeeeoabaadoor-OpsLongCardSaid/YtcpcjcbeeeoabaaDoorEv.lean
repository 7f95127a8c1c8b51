/- The law's fixed (layer 13); OpsForms' walk. -/
import Derived.Test.YtcpcjcbeeeoabaaDoorEt
namespace Go.Proofs.YtcpcjcbeeeoabaaDoor
set_option maxRecDepth 100000
open Go.RowKit

theorem fix13_dec1 : Dec [132, 1, 255] 0 [⟨0, 132, 1, -1⟩] := by
  have h1 : readE [132, 1, 255] 0 = 0 := by kernel_rfl
  have h2 : readR [132, 1, 255] 0 = ⟨0, 132, 1, -1⟩ := by kernel_rfl
  have h3 : lenN (opN [132, 1, 255] 0) = 3 := by kernel_rfl
  refine .ok (by decide) (.go (by decide) h1 ?_) (by kernel_rfl)
  rw [h2, h3]
  exact .stop (by decide)
theorem fix13_dec2 : Dec [255] 8 [] := by
  have h1 : readE [255] 0 = 8 := by kernel_rfl
  have h : Cuts [255] 0 [] (readE [255] 0) [] := .bad (by decide) (by rw [h1]; decide)
  rw [h1] at h
  exact .bad (by decide) h (by decide)
theorem fix13_enc : Enc [⟨0, 167, 1, 0⟩] 2 [] := .range (m := 3) (by kernel_rfl) (by kernel_rfl)

set_option maxHeartbeats 2000000 in
theorem fixed13_any (w : World) (hT : Tables w) : Calls Tryd.prog 7 #[] w fun e w' => e = .returned (.bool true) ∧ Below w.heap.size w w' := by
  have HB1 : Hid (ByteSl (w.alloc (.cells #[.int .u8 132, .int .u8 1, .int .u8 255] 5)) Empty (some ⟨w.heap.size, 0, none⟩) 3 3 [132, 1, 255]) := Lib.hid (ByteSl.lit w Empty [132, 1, 255] 3 rfl (fun h => h) (by unfold maxLen; omega))
  have HW1 : Hid (Below w.heap.size w (w.alloc (.cells #[.int .u8 132, .int .u8 1, .int .u8 255] 5))) := Lib.hid ((Below.refl _ _).alloc (Nat.le_refl _) _)
  have HT := Lib.hid hT
  clear hT
  go_enter Tryd.func7, Tryd.ntmps7
  go_wp2_with fail
  refine (decode_any _ 3 3 [132, 1, 255] 0 _ _ (HT.out.below HW1.out) HB1.out fix13_dec1).mono ?_
  rintro e1 w1 ⟨⟨B, c, rfl, hG⟩, hb1⟩
  have HW2 := Lib.hid (HW1.out.trans (hb1.mono HW1.out.size))
  have HG := Lib.hid hG.row
  clear hG hb1
  have HB2 : Hid (ByteSl (w1.alloc (.cells #[.int .u8 255] 5)) Empty (some ⟨w1.heap.size, 0, none⟩) 1 1 [255]) := Lib.hid (ByteSl.lit w1 Empty [255] 1 rfl (fun h => h) (by unfold maxLen; omega))
  have HW3 : Hid (Below w.heap.size w (w1.alloc (.cells #[.int .u8 255] 5))) := Lib.hid (HW2.out.alloc HW2.out.size _)
  have HG3 := Lib.hid (HG.out.below ((Below.refl _ _).alloc (Nat.le_refl _) (.cells #[.int .u8 255] 5)))
  go_wp2_with fail
  refine (decode_any _ 1 1 [255] 8 _ _ (HT.out.below HW3.out) HB2.out fix13_dec2).mono ?_
  rintro e2 w2 ⟨⟨B2, c2, rfl, hG2⟩, hb2⟩
  have HW4 := Lib.hid (HW3.out.trans (hb2.mono HW3.out.size))
  have HG4 := Lib.hid (HG3.out.below hb2)
  clear hG2 hb2
  have HX : Hid (RawSl (w2.alloc (.cells #[.int .i64 0, .int .u8 167, .int .i64 1, .int .i64 0] 36)) (some ⟨w2.heap.size, 0, none⟩) 1 1 [⟨0, 167, 1, 0⟩]) := Lib.hid (raw_lit ⟨0, 167, 1, 0⟩ w2)
  have HW5 : Hid (Below w.heap.size w (w2.alloc (.cells #[.int .i64 0, .int .u8 167, .int .i64 1, .int .i64 0] 36))) := Lib.hid (HW4.out.alloc HW4.out.size _)
  have HG5 := Lib.hid (HG4.out.below ((Below.refl _ _).alloc (Nat.le_refl _) (.cells #[.int .i64 0, .int .u8 167, .int .i64 1, .int .i64 0] 36)))
  go_wp2_with fail
  refine (encode_any _ 1 1 [⟨0, 167, 1, 0⟩] 2 [] _ (HT.out.below HW5.out) HX.out (by omega) (fun r hr => by
    simp at hr
    subst hr
    exact ⟨by decide, by decide, by decide, by decide⟩) fix13_enc).mono ?_
  rintro e3 w3 ⟨⟨u, rfl, hu⟩, hb3⟩
  have HW6 := Lib.hid (HW5.out.trans (hb3.mono HW5.out.size))
  have HG6 : Hid (RawSl w3 B 1 c [⟨0, 132, 1, -1⟩]) := Lib.hid (HG5.out.below hb3)
  clear hb3 hu
  obtain ⟨bb, o, r, rfl, hr, hbb, c0, c1, c2', c3⟩ := raw_at HG6.out (show 0 < 1 by omega)
  obtain rfl : (⟨0, 132, 1, -1⟩ : RawD) = r := by simpa using hr
  have hE := eq_raw ⟨0, 132, 1, -1⟩
  have hcap := HG6.out.2.1
  have hL : lenN 167 = 3 := by kernel_rfl
  have HLn : Hid (Calls Tryd.prog 10 #[.int .u8 167] w3 fun e w' => e = .returned (.int .i64 3) ∧ Below w3.heap.size w3 w') := Lib.hid (by
    have h := oLen_any 167 (by omega) w3 (HT.out.below HW6.out)
    rw [hL] at h
    exact h)
  simp at c0 c1 c2' c3 hE
  clear hr hL
  go_wp2_with fail
  refine HLn.out.mono ?_
  rintro e4 w4 ⟨rfl, hb4⟩
  have HW7 := Lib.hid (HW6.out.trans (hb4.mono HW6.out.size))
  clear hb4
  go_wp2
  go_ret
  exact ⟨rfl, HW7.out⟩

set_option maxHeartbeats 1000000 in
theorem opsForms_calls (x : Nat) (hx : x < 256) (w : World) (hT : Tables w) : Calls Tryd.prog 3 #[.int .u8 (x : Int)] w fun e w' => e = .returned (.bool true) ∧ Below w.heap.size w w' := by
  have HFx : Hid (Calls Tryd.prog 7 #[] w fun e w' => e = .returned (.bool true) ∧ Below w.heap.size w w') := Lib.hid (fixed13_any w hT)
  have HF : Hid (∀ W, Below w.heap.size w W → Calls Tryd.prog 8 #[.int .u8 (x : Int)] W fun e w' => e = .returned (.int .i64 (formN x : Int)) ∧ Below W.heap.size W w') := Lib.hid (fun W h => oForm_any x hx W (hT.below h))
  have HL : Hid (∀ W, Below w.heap.size w W → Calls Tryd.prog 10 #[.int .u8 (x : Int)] W fun e w' => e = .returned (.int .i64 (lenN x : Int)) ∧ Below W.heap.size W w') := Lib.hid (fun W h => oLen_any x hx W (hT.below h))
  have HRF : Hid (∀ W, Calls Tryd.prog 9 #[.int .u8 (x : Int)] W fun e w' => e = .returned (.int .i64 (formN x : Int)) ∧ W = w') := Lib.hid (fun W => refForm_any x hx W)
  have HRL : Hid (∀ W, Calls Tryd.prog 11 #[.int .u8 (x : Int)] W fun e w' => e = .returned (.int .i64 (lenN x : Int)) ∧ W = w') := Lib.hid (fun W => refLen_any x hx W)
  generalize formN x = f at *
  generalize lenN x = ln at *
  clear hT
  go_enter Tryd.func3, Tryd.ntmps3
  go_wp2_with fail
  refine HFx.out.mono ?_
  rintro e1 w1 ⟨rfl, hb1⟩
  have HW1 := Lib.hid hb1
  clear hb1
  go_wp2_with fail
  refine (HF.out _ HW1.out).mono ?_
  rintro e2 w2 ⟨rfl, hb2⟩
  have HW2 := Lib.hid (HW1.out.trans (hb2.mono HW1.out.size))
  clear hb2
  go_wp2_with fail
  refine (HRF.out _).mono ?_
  rintro e3 w3 ⟨rfl, rfl⟩
  go_wp2_with fail
  refine (HL.out _ HW2.out).mono ?_
  rintro e4 w4 ⟨rfl, hb4⟩
  have HW4 := Lib.hid (HW2.out.trans (hb4.mono HW2.out.size))
  clear hb4
  go_wp2_with fail
  refine (HRL.out _).mono ?_
  rintro e5 w5 ⟨rfl, rfl⟩
  go_wp2
  go_ret
  exact ⟨rfl, HW4.out⟩

end Go.Proofs.YtcpcjcbeeeoabaaDoor
