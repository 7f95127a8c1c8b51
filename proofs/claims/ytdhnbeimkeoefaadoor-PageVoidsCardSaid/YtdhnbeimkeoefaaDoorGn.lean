/- The walk over page.Open, told of one sector. -/
import Derived.Test.YtdhnbeimkeoefaaDoorGm
namespace Go.Proofs.YtdhnbeimkeoefaaDoor
open Go.RowKit

/-- The bytes of a sector of Z bytes that was opened. -/
def openB (Z s : Nat) : List UInt8 := splice (splice (List.replicate Z 255) 0 (headB s)) 8 [0]

theorem and_none (x : UInt8) : x &&& ~~~(255 : UInt8) = 0 := by
  have e : ~~~(255 : UInt8) = 0 := by decide
  rw [e, UInt8.and_zero]
theorem fits_blank (Z o : Nat) (ys : List UInt8) (h : o + ys.length ≤ Z) : Fits (List.replicate Z 255) o ys := by
  intro j hj
  rw [List.getElem?_replicate, if_pos (by omega)]
  exact and_none _

theorem all_255 (xs : List UInt8) (h : xs.count 255 = xs.length) : xs = List.replicate xs.length 255 := by
  rw [List.eq_replicate_iff]
  exact ⟨rfl, fun b hb => (List.count_eq_length.1 h b hb).symm⟩

theorem Sec.three (w : World) (p c e S Z L k m : Nat) (xs : List UInt8) (hs : Sec w p c e S Z L k m xs) (q : Nat) (h : w.heap.size ≤ q) : ¬ Three p c e q := by
  obtain ⟨fl, hf, _⟩ := hs
  have h1 := hf.hd.lt
  have h2 := hf.ce.lt
  have h3 := hf.er.lt
  intro h
  rcases h with h | h | h <;> omega

set_option maxHeartbeats 4000000 in
theorem open_sec (p c e S Z L k m s : Nat) (xs : List UInt8) (w : World) (hs : Sec w p c e S Z L k m xs) (hM : Mark w) (hp0 : ¬ Three p c e 0) (hu : stU xs = false) (hml : m < L) (hs32 : s ≤ 4294967295) :
    Calls Tryd.prog 12 #[.pointer (some ⟨p, 0, none⟩), .int .i64 (k : Int), .int .u32 (s : Int)] w fun e1 w' => e1 = .returned (.int .i64 0) ∧ (∃ m', m' ≤ m + 1 ∧ Sec w' p c e S Z L k m' (openB Z s)) ∧ Only (Three p c e) w w' := by
  have HS := Lib.hid hs
  have HM := Lib.hid hM
  have HP0 := Lib.hid hp0
  have hxl := Lib.hid hs.len
  have hz := hs.bz
  have hst : stS xs = if xs.count 255 = xs.length then 0 else 1 := by rw [stS, if_neg (by rw [hu]; decide)]
  have hsq : stQ xs = 0 := by rw [stQ, if_neg (by rw [hu]; decide)]
  have Hst := Lib.hid (And.intro hst hsq)
  have Hml := Lib.hid hml
  clear hs hM hu hst hsq hml hp0
  by_cases hb : xs.count 255 = xs.length
  · have Hb := Lib.hid hb
    have Hz : Hid (stS xs = 0 ∧ stQ xs = 0) := Lib.hid ⟨by rw [Hst.out.1, if_pos hb], Hst.out.2⟩
    have Hxs : Hid (xs = List.replicate Z 255) := Lib.hid (by have := all_255 xs hb; rw [hxl.out] at this; exact this)
    clear hb
    go_enter Tryd.func12, Tryd.ntmps12
    go_wp2_with fail
    refine (look_sec p c e S Z L k m xs _ HS.out HM.out).mono ?_
    rintro e1 w1 ⟨he, hb1⟩
    rw [Hz.out.1, Hz.out.2] at he
    subst he
    have Hb1 := Lib.hid (hb1.alloc hb1.size (.cells #[.int .i64 0, .int .u32 0, .int .i64 (m : Int)] 43))
    clear hb1
    have HS1 := Lib.hid (HS.out.below Hb1.out)
    have HO1 := Lib.hid (Only.of_below (S := Three p c e) Hb1.out)
    have HM1 := Lib.hid (HM.out.only HO1.out HP0.out)
    rw [Hxs.out] at HS1
    go_wp2_with fail
    refine (start_sec p c e S Z L k m _ _ HS1.out).mono ?_
    rintro e1 w2 ⟨rfl, hb2⟩
    have HS2 := Lib.hid (HS1.out.below hb2)
    have HO2 := Lib.hid (HO1.out.trans (Only.of_below (S := Three p c e) hb2))
    have HM2 := Lib.hid (HM.out.only HO2.out HP0.out)
    obtain ⟨T, hTe⟩ : ∃ T, T = k * Z := ⟨_, rfl⟩
    rw [← hTe]
    have HTe := Lib.hid hTe
    clear hb2 hTe
    go_wp2_with fail
    refine (pgBytes_any s _ hs32 HM2.out).mono ?_
    rintro e1 w3 ⟨⟨u3, rfl, hown3⟩, hb3⟩
    obtain ⟨A3, cap3, rfl, hB3, -⟩ := ByteSl.of_own (S := Three p c e) hown3 (fun q h1 _ => Sec.three w2 p c e S Z L k _ _ HS2.out q h1)
    have HS3 := Lib.hid (HS2.out.below hb3)
    have HO3 := Lib.hid (HO2.out.trans (Only.of_below (S := Three p c e) hb3))
    have hpr := prog_sec p c e S Z L k (m) 0 8 cap3 _ (headB s) A3 _ HS3.out hB3 (by omega) (fits_blank Z 0 (headB s) (by rw [headB_len]; omega))
    rw [Nat.add_zero, ← HTe.out] at hpr
    have Hpr := Lib.hid hpr
    clear hpr hown3 hb3 hB3
    go_wp2_with fail
    refine Hpr.out.mono ?_
    rintro e1 w4 ⟨rfl, hs4, ho4⟩
    have HS4 := Lib.hid hs4
    have HO4 := Lib.hid (HO3.out.trans ho4)
    clear hs4 ho4 Hpr
    go_wp2_with fail
    refine (setFlag_sec p c e S Z L k (m) 8 _ _ HS4.out (by omega)).mono ?_
    rintro e1 w5 ⟨rfl, hs5, ho5⟩
    have HE := Lib.hid (And.intro hs5 (HO4.out.trans ho5))
    clear hs5 ho5
    go_wp2
    go_ret
    exact ⟨rfl, ⟨m, by omega, HE.out.1⟩, HE.out.2⟩
  · have Hz : Hid (stS xs = 1 ∧ stQ xs = 0) := Lib.hid ⟨by rw [Hst.out.1, if_neg hb], Hst.out.2⟩
    clear hb
    go_enter Tryd.func12, Tryd.ntmps12
    go_wp2_with fail
    refine (look_sec p c e S Z L k m xs _ HS.out HM.out).mono ?_
    rintro e1 w0 ⟨he, hb0⟩
    rw [Hz.out.1, Hz.out.2] at he
    subst he
    have Hb0 := Lib.hid (hb0.alloc hb0.size (.cells #[.int .i64 1, .int .u32 0, .int .i64 (m : Int)] 43))
    clear hb0
    have HS0 := Lib.hid (HS.out.below Hb0.out)
    have HO0 := Lib.hid (Only.of_below (S := Three p c e) Hb0.out)
    go_wp2_with fail
    refine (erase_sec p c e S Z L k m xs _ HS0.out Hml.out).mono ?_
    rintro e1 w1 ⟨rfl, hs1, ho1⟩
    have HS1 := Lib.hid hs1
    have HO1 := Lib.hid (HO0.out.trans ho1)
    clear hs1 ho1
    go_wp2_with fail
    refine (start_sec p c e S Z L k (m + 1) _ _ HS1.out).mono ?_
    rintro e1 w2 ⟨rfl, hb2⟩
    have HS2 := Lib.hid (HS1.out.below hb2)
    have HO2 := Lib.hid (HO1.out.trans (Only.of_below (S := Three p c e) hb2))
    have HM2 := Lib.hid (HM.out.only HO2.out HP0.out)
    obtain ⟨T, hTe⟩ : ∃ T, T = k * Z := ⟨_, rfl⟩
    rw [← hTe]
    have HTe := Lib.hid hTe
    clear hb2 hTe
    go_wp2_with fail
    refine (pgBytes_any s _ hs32 HM2.out).mono ?_
    rintro e1 w3 ⟨⟨u3, rfl, hown3⟩, hb3⟩
    obtain ⟨A3, cap3, rfl, hB3, -⟩ := ByteSl.of_own (S := Three p c e) hown3 (fun q h1 _ => Sec.three w2 p c e S Z L k _ _ HS2.out q h1)
    have HS3 := Lib.hid (HS2.out.below hb3)
    have HO3 := Lib.hid (HO2.out.trans (Only.of_below (S := Three p c e) hb3))
    have hpr := prog_sec p c e S Z L k (m + 1) 0 8 cap3 _ (headB s) A3 _ HS3.out hB3 (by omega) (fits_blank Z 0 (headB s) (by rw [headB_len]; omega))
    rw [Nat.add_zero, ← HTe.out] at hpr
    have Hpr := Lib.hid hpr
    clear hpr hown3 hb3 hB3
    go_wp2_with fail
    refine Hpr.out.mono ?_
    rintro e1 w4 ⟨rfl, hs4, ho4⟩
    have HS4 := Lib.hid hs4
    have HO4 := Lib.hid (HO3.out.trans ho4)
    clear hs4 ho4 Hpr
    go_wp2_with fail
    refine (setFlag_sec p c e S Z L k (m + 1) 8 _ _ HS4.out (by omega)).mono ?_
    rintro e1 w5 ⟨rfl, hs5, ho5⟩
    have HE := Lib.hid (And.intro hs5 (HO4.out.trans ho5))
    clear hs5 ho5
    go_wp2
    go_ret
    exact ⟨rfl, ⟨m + 1, by omega, HE.out.1⟩, HE.out.2⟩

end Go.Proofs.YtdhnbeimkeoefaaDoor
