/- The walks over page's calls, told of one sector: start, setFlag, Void, Look. -/
import Derived.Test.YtidbipbangifbaaGreatDoorZam
import Derived.Test.YtidbipbangifbaaGreatDoorZao
import Derived.Test.YtidbipbangifbaaGreatDoorZad
namespace Go.Proofs.YtidbipbangifbaaGreatDoor
set_option maxRecDepth 100000
open Go.RowKit

set_option maxHeartbeats 1000000 in
theorem start_sec (p c e S Z L k m : Nat) (xs : List UInt8) (w : World) (hs : Sec w p c e S Z L k m xs) :
    Calls Tryz.prog 92 #[.pointer (some ⟨p, 0, none⟩), .int .i64 (k : Int)] w fun e1 w' => e1 = .returned (.int .i64 ((k * Z : Nat) : Int)) ∧ Below w.heap.size w w' := by
  have hz := hs.bz
  obtain ⟨fl, hf, -, -, rfl, rfl, rfl, -, -⟩ := hs
  have hg := geo_field1 (fl.S : Int) (fl.Z : Int) (fl.L : Int)
  have hmul : IntKind.i64.wrap ((k : Int) * (fl.Z : Int)) = ((k * fl.Z : Nat) : Int) := by
    have : (k : Int) * (fl.Z : Int) = ((k * fl.Z : Nat) : Int) := by simp
    rw [this, IntKind.wrap_i64]
    omega
  obtain ⟨T, hT⟩ : ∃ T, T = k * fl.Z := ⟨_, rfl⟩
  rw [← hT] at hmul ⊢
  have HF := Lib.hid hf
  clear hf hz hT
  go_enter Tryz.func92, Tryz.ntmps92
  go_wp2_with fail
  refine (geometry_any p c e fl _ HF.out).mono ?_
  rintro e1 w1 ⟨rfl, hb1⟩
  go_wp2
  go_ret
  exact ⟨rfl, hb1⟩

set_option maxHeartbeats 1000000 in
theorem setFlag_sec (p c e S Z L k m at_ : Nat) (xs : List UInt8) (w : World) (hs : Sec w p c e S Z L k m xs) (ha : at_ < 64) :
    Calls Tryz.prog 127 #[.pointer (some ⟨p, 0, none⟩), .int .i64 (k : Int), .int .i64 (at_ : Int)] w fun e1 w' => e1 = .returned (.int .i64 0) ∧ Sec w' p c e S Z L k m (splice xs at_ [0]) ∧ Only (Three p c e) w w' := by
  have hz := hs.bz
  have HS := Lib.hid hs
  have hp : ∀ W, Sec W p c e S Z L k m xs → Calls Tryz.prog 162 #[.pointer (some ⟨p, 0, none⟩), .int .i64 (((k * Z : Nat) : Int) + (at_ : Int)), .slice (some ⟨W.heap.size, 0, none⟩) 1 1] (W.alloc (.cells #[.int .u8 0] 5)) fun e1 w' =>
      e1 = .returned (.int .i64 0) ∧ Sec w' p c e S Z L k m (splice xs at_ [0]) ∧ Only (Three p c e) (W.alloc (.cells #[.int .u8 0] 5)) w' := fun W hW => by
    have hlt : ¬ Three p c e W.heap.size := by
      obtain ⟨fl, hf, _⟩ := hW
      have h1 := hf.hd.lt
      have h2 := hf.ce.lt
      have h3 := hf.er.lt
      intro h
      rcases h with h | h | h <;> omega
    have h := prog_sec p c e S Z L k m at_ 1 1 xs [0] (some ⟨W.heap.size, 0, none⟩) _ (hW.of ((Only.refl Empty W).alloc (.cells #[.int .u8 0] 5)) (fun h => h) (fun h => h) (fun h => h))
      (ByteSl.lit W (Three p c e) [0] 1 rfl hlt (by decide)) (by omega) (by
        intro j hj
        have hj0 : j = 0 := by simp at hj; exact hj
        subst hj0
        simp)
    rw [show ((k * Z + at_ : Nat) : Int) = ((k * Z : Nat) : Int) + (at_ : Int) by simp] at h
    exact h
  have Hp := Lib.hid hp
  clear hs hp
  go_enter Tryz.func127, Tryz.ntmps127
  go_wp2_with fail
  refine (start_sec p c e S Z L k m xs _ HS.out).mono ?_
  rintro e1 w1 ⟨rfl, hb1⟩
  have HS1 := Lib.hid (HS.out.below hb1)
  have Hb1 := Lib.hid hb1
  have hT : k * Z ≤ 4194304 := by omega
  have Hp1 := Lib.hid (Hp.out w1 HS1.out)
  clear hb1 hz Hp
  obtain ⟨T, hTe⟩ : ∃ T, T = k * Z := ⟨_, rfl⟩
  rw [← hTe] at hT Hp1 ⊢
  clear hTe
  go_wp2_with fail
  refine Hp1.out.mono ?_
  rintro e1 w2 ⟨rfl, hs2, ho2⟩
  have HE := Lib.hid (And.intro hs2 (((Only.of_below (S := Three p c e) Hb1.out).alloc (.cells #[.int .u8 0] 5)).trans ho2))
  clear hs2 ho2
  go_wp2
  go_ret
  exact ⟨rfl, HE.out⟩

theorem Sec.has (p c e S Z L k m : Nat) (xs : List UInt8) (w : World) (hs : Sec w p c e S Z L k m xs) :
    Calls Tryz.prog 90 #[.pointer (some ⟨p, 0, none⟩), .int .i64 (k : Int)] w fun e w' => e = .returned (.bool true) ∧ Below w.heap.size w w' := by
  have hk := hs.kS
  obtain ⟨fl, hf, _, _, rfl, _⟩ := hs
  refine (pgHas_any p c e fl k w hf).mono fun e1 w' ⟨he, hb⟩ => ⟨?_, hb⟩
  rw [he]
  simp [hk]
theorem Sec.has_not (p c e S Z L k m : Nat) (xs : List UInt8) (j : Int) (w : World) (hs : Sec w p c e S Z L k m xs) (hj : j < 0 ∨ (S : Int) ≤ j) :
    Calls Tryz.prog 90 #[.pointer (some ⟨p, 0, none⟩), .int .i64 j] w fun e w' => e = .returned (.bool false) ∧ Below w.heap.size w w' := by
  obtain ⟨fl, hf, _, _, rfl, _⟩ := hs
  refine (pgHas_any p c e fl j w hf).mono fun e1 w' ⟨he, hb⟩ => ⟨?_, hb⟩
  rw [he]
  congr 2
  simp
  omega

set_option maxHeartbeats 1000000 in
theorem void_sec (p c e S Z L k m : Nat) (xs : List UInt8) (w : World) (hs : Sec w p c e S Z L k m xs) :
    Calls Tryz.prog 101 #[.pointer (some ⟨p, 0, none⟩), .int .i64 (k : Int)] w fun e1 w' => e1 = .returned (.int .i64 0) ∧ Sec w' p c e S Z L k m (splice xs 9 [0]) ∧ Only (Three p c e) w w' := by
  have HS := Lib.hid hs
  clear hs
  go_enter Tryz.func101, Tryz.ntmps101
  go_wp2_with fail
  refine (Sec.has p c e S Z L k m xs _ HS.out).mono ?_
  rintro e1 w1 ⟨rfl, hb1⟩
  have HS1 := Lib.hid (HS.out.below hb1)
  have Hb1 := Lib.hid hb1
  clear hb1
  go_wp2_with fail
  refine (setFlag_sec p c e S Z L k m 9 xs _ HS1.out (by omega)).mono ?_
  rintro e1 w2 ⟨rfl, hs2, ho2⟩
  have HE := Lib.hid (And.intro hs2 ((Only.of_below (S := Three p c e) Hb1.out).trans ho2))
  clear hs2 ho2
  go_wp2
  go_ret
  exact ⟨rfl, HE.out⟩

set_option maxHeartbeats 1000000 in
theorem void_out (p c e S Z L k m : Nat) (xs : List UInt8) (j : Int) (w : World) (hs : Sec w p c e S Z L k m xs) (hj : j < 0 ∨ (S : Int) ≤ j) :
    Calls Tryz.prog 101 #[.pointer (some ⟨p, 0, none⟩), .int .i64 j] w fun e1 w' => e1 = .returned (.int .i64 2) ∧ Below w.heap.size w w' := by
  have HS := Lib.hid hs
  have Hj := Lib.hid hj
  clear hs hj
  go_enter Tryz.func101, Tryz.ntmps101
  go_wp2_with fail
  refine (Sec.has_not p c e S Z L k m xs j _ HS.out Hj.out).mono ?_
  rintro e1 w1 ⟨rfl, hb1⟩
  go_wp2
  go_ret
  exact ⟨rfl, hb1⟩

theorem Sec.read (p c e S Z L k m : Nat) (xs : List UInt8) (w : World) (hs : Sec w p c e S Z L k m xs) :
    Calls Tryz.prog 91 #[.pointer (some ⟨p, 0, none⟩), .int .i64 ((k * Z : Nat) : Int), .int .i64 (Z : Int)] w fun e1 w' => ReadOk w w' Z xs e1 := by
  have hz := hs.bz
  obtain ⟨fl, hf, hu, -, rfl, rfl, rfl, -, rfl⟩ := hs
  exact read_in p c e (k * fl.Z) fl.Z fl w hf hu hz.2.2.2.1
theorem Sec.erases (p c e S Z L k m : Nat) (xs : List UInt8) (w : World) (hs : Sec w p c e S Z L k m xs) :
    Calls Tryz.prog 94 #[.pointer (some ⟨p, 0, none⟩), .int .i64 (k : Int)] w fun e1 w' => e1 = .returned (.int .i64 (m : Int)) ∧ w = w' := by
  obtain ⟨fl, hf, hu, -, rfl, rfl, rfl, hm, rfl⟩ := hs
  exact erases_in p c e k m fl w hf hm
theorem Sec.geo (p c e S Z L k m : Nat) (xs : List UInt8) (w : World) (hs : Sec w p c e S Z L k m xs) :
    Calls Tryz.prog 30 #[.pointer (some ⟨p, 0, none⟩)] w fun e1 w' => e1 = .returned (.agg #[.int .i64 (S : Int), .int .i64 (Z : Int), .int .i64 (L : Int)]) ∧ Below w.heap.size w w' := by
  obtain ⟨fl, hf, hu, -, rfl, rfl, rfl, hm, rfl⟩ := hs
  exact geometry_any p c e fl w hf

set_option maxHeartbeats 2000000 in
theorem look_sec (p c e S Z L k m : Nat) (xs : List UInt8) (w : World) (hs : Sec w p c e S Z L k m xs) (hM : Mark w) :
    Calls Tryz.prog 56 #[.pointer (some ⟨p, 0, none⟩), .int .i64 (k : Int)] w fun e1 w' => e1 = .returned (.tuple #[.agg #[.int .i64 (stS xs), .int .u32 (stQ xs), .int .i64 (m : Int)], .int .i64 0]) ∧ Below w.heap.size w w' := by
  have HS := Lib.hid hs
  have HM := Lib.hid hM
  have hz := hs.bz
  have hg := geo_field1 (S : Int) (Z : Int) (L : Int)
  have Hk0 := Lib.hid (Blk.new w 81 #[.int .i64 0, .int .u32 0, .int .i64 0])
  have Hbw := Lib.hid ((Below.refl w.heap.size w).alloc (Nat.le_refl _) (.cells #[.int .i64 0, .int .u32 0, .int .i64 0] 81))
  clear hs hM
  go_enter Tryz.func56, Tryz.ntmps56
  go_wp2_with fail
  refine (Sec.has p c e S Z L k m xs _ (HS.out.below Hbw.out)).mono ?_
  rintro e1 w1 ⟨rfl, hb1⟩
  have Hb1 := Lib.hid (Hbw.out.trans (hb1.mono (by simp)))
  have Hk1 := Lib.hid (Hk0.out.of (hb1.block w.heap.size (by simp)))
  clear hb1
  go_wp2_with fail
  refine (start_sec p c e S Z L k m xs _ (HS.out.below Hb1.out)).mono ?_
  rintro e1 w2 ⟨rfl, hb2⟩
  have Hb2 := Lib.hid (Hb1.out.trans (hb2.mono Hb1.out.size))
  have Hk2 := Lib.hid (Hk1.out.of (hb2.block w.heap.size Hk1.out.lt))
  clear hb2
  go_wp2_with fail
  refine (Sec.geo p c e S Z L k m xs _ (HS.out.below Hb2.out)).mono ?_
  rintro e1 w3 ⟨rfl, hb3⟩
  have Hb3 := Lib.hid (Hb2.out.trans (hb3.mono Hb2.out.size))
  have Hk3 := Lib.hid (Hk2.out.of (hb3.block w.heap.size Hk2.out.lt))
  clear hb3
  go_wp2_with fail
  refine (Sec.read p c e S Z L k m xs _ (HS.out.below Hb3.out)).mono ?_
  rintro e1 w4 ⟨u4, rfl, hown4, hb4⟩
  obtain ⟨A4, cap4, rfl, hB4, -⟩ := ByteSl.of_own (S := Empty) hown4 (fun _ _ _ h => h)
  have Hb4 := Lib.hid (Hb3.out.trans (hb4.mono Hb3.out.size))
  have Hk4 := Lib.hid (Hk3.out.of (hb4.block w.heap.size Hk3.out.lt))
  have HB4 := Lib.hid hB4
  clear hb4 hB4 hown4
  go_wp2_with fail
  refine (state_any A4 Z cap4 xs _ HB4.out (HM.out.below Hb4.out) (by omega)).mono ?_
  rintro e1 w5 ⟨rfl, hb5⟩
  unfold stV
  have Hb5 := Lib.hid (Hb4.out.trans (hb5.mono Hb4.out.size))
  have Hk5 := Lib.hid (Hk4.out.of (hb5.block w.heap.size Hk4.out.lt))
  have hz5 : w.heap.size < w5.heap.size := Hk5.out.lt
  clear hb5
  obtain ⟨a, ha⟩ : ∃ a, a = stS xs := ⟨_, rfl⟩
  obtain ⟨b, hb⟩ : ∃ b, b = stQ xs := ⟨_, rfl⟩
  rw [← ha, ← hb]
  have Ha := Lib.hid ha
  have Hb := Lib.hid hb
  clear ha hb
  have hHS5 := HS.out.below (Hb5.out.alloc Hb5.out.size (.cells #[.int .i64 a, .int .u32 b, .int .i64 0] 81))
  have HS5 := Lib.hid hHS5
  clear hHS5
  go_wp2_with fail
  refine (Sec.erases p c e S Z L k m xs _ HS5.out).mono ?_
  rintro e1 w6 ⟨rfl, rfl⟩
  have d0 := Hk5.out.cell 0
  have d1 := Hk5.out.cell 1
  have d2 := Hk5.out.cell 2
  have g0 := Hk5.out.frozen 0
  have g1 := Hk5.out.frozen 1
  have g2 := Hk5.out.frozen 2
  simp at d0 d1 d2
  clear hg
  go_wp2
  refine bodyPost_ret (v := .tuple #[.agg #[.int .i64 a, .int .u32 b, .int .i64 (m : Int)], .int .i64 0]) (by simp [results, Tryz.results56, go_sem, d0, d1, d2, hz5]) rfl ⟨by rw [Ha.out, Hb.out], ?_⟩
  exact ((((Hb5.out.setCell (by simp) _).setCell (by simp) _).setCell (by simp) _).alloc (by have := Hb5.out.size; simp [World.setCell]; omega) _)

end Go.Proofs.YtidbipbangifbaaGreatDoor

/- The walk over page.Open, told of one sector. -/
namespace Go.Proofs.YtidbipbangifbaaGreatDoor
set_option maxRecDepth 100000
open Go.RowKit

/-- The bytes of a sector of Z bytes that was opened. -/
def openB (Z s : Nat) : List UInt8 := splice (splice (List.replicate Z 255) 0 (headB s)) 8 [0]

theorem and_none (x : UInt8) : x &&& ~~~(255 : UInt8) = 0 := by
  have e : ~~~(255 : UInt8) = 0 := by decide
  rw [e, UInt8.and_zero]
theorem fits_blank (Z o : Nat) (ys : List UInt8) (h : o + ys.length ≤ Z) : Fits (List.replicate Z 255) o ys := by
  intro j hj
  rw [List.getElem?_replicate, if_pos (by omega)]
  exact and_none _

theorem all_255 (xs : List UInt8) (h : xs.count 255 = xs.length) : xs = List.replicate xs.length 255 := by
  rw [List.eq_replicate_iff]
  exact ⟨rfl, fun b hb => (List.count_eq_length.1 h b hb).symm⟩

theorem Sec.three (w : World) (p c e S Z L k m : Nat) (xs : List UInt8) (hs : Sec w p c e S Z L k m xs) (q : Nat) (h : w.heap.size ≤ q) : ¬ Three p c e q := by
  obtain ⟨fl, hf, _⟩ := hs
  have h1 := hf.hd.lt
  have h2 := hf.ce.lt
  have h3 := hf.er.lt
  intro h
  rcases h with h | h | h <;> omega

set_option maxHeartbeats 4000000 in
theorem open_sec (p c e S Z L k m s : Nat) (xs : List UInt8) (w : World) (hs : Sec w p c e S Z L k m xs) (hM : Mark w) (hp0 : ¬ Three p c e 0) (hu : stU xs = false) (hml : m < L) (hs32 : s ≤ 4294967295) :
    Calls Tryz.prog 190 #[.pointer (some ⟨p, 0, none⟩), .int .i64 (k : Int), .int .u32 (s : Int)] w fun e1 w' => e1 = .returned (.int .i64 0) ∧ (∃ m', m' ≤ m + 1 ∧ Sec w' p c e S Z L k m' (openB Z s)) ∧ Only (Three p c e) w w' := by
  have HS := Lib.hid hs
  have HM := Lib.hid hM
  have HP0 := Lib.hid hp0
  have hxl := Lib.hid hs.len
  have hz := hs.bz
  have hst : stS xs = if xs.count 255 = xs.length then 0 else 1 := by rw [stS, if_neg (by rw [hu]; decide)]
  have hsq : stQ xs = 0 := by rw [stQ, if_neg (by rw [hu]; decide)]
  have Hst := Lib.hid (And.intro hst hsq)
  have Hml := Lib.hid hml
  clear hs hM hu hst hsq hml hp0
  by_cases hb : xs.count 255 = xs.length
  · have Hb := Lib.hid hb
    have Hz : Hid (stS xs = 0 ∧ stQ xs = 0) := Lib.hid ⟨by rw [Hst.out.1, if_pos hb], Hst.out.2⟩
    have Hxs : Hid (xs = List.replicate Z 255) := Lib.hid (by have := all_255 xs hb; rw [hxl.out] at this; exact this)
    clear hb
    go_enter Tryz.func190, Tryz.ntmps190
    go_wp2_with fail
    refine (look_sec p c e S Z L k m xs _ HS.out HM.out).mono ?_
    rintro e1 w1 ⟨he, hb1⟩
    rw [Hz.out.1, Hz.out.2] at he
    subst he
    have Hb1 := Lib.hid (hb1.alloc hb1.size (.cells #[.int .i64 0, .int .u32 0, .int .i64 (m : Int)] 81))
    clear hb1
    have HS1 := Lib.hid (HS.out.below Hb1.out)
    have HO1 := Lib.hid (Only.of_below (S := Three p c e) Hb1.out)
    have HM1 := Lib.hid (HM.out.only HO1.out HP0.out)
    rw [Hxs.out] at HS1
    go_wp2_with fail
    refine (start_sec p c e S Z L k m _ _ HS1.out).mono ?_
    rintro e1 w2 ⟨rfl, hb2⟩
    have HS2 := Lib.hid (HS1.out.below hb2)
    have HO2 := Lib.hid (HO1.out.trans (Only.of_below (S := Three p c e) hb2))
    have HM2 := Lib.hid (HM.out.only HO2.out HP0.out)
    obtain ⟨T, hTe⟩ : ∃ T, T = k * Z := ⟨_, rfl⟩
    rw [← hTe]
    have HTe := Lib.hid hTe
    clear hb2 hTe
    go_wp2_with fail
    refine (pgBytes_any s _ hs32 HM2.out).mono ?_
    rintro e1 w3 ⟨⟨u3, rfl, hown3⟩, hb3⟩
    obtain ⟨A3, cap3, rfl, hB3, -⟩ := ByteSl.of_own (S := Three p c e) hown3 (fun q h1 _ => Sec.three w2 p c e S Z L k _ _ HS2.out q h1)
    have HS3 := Lib.hid (HS2.out.below hb3)
    have HO3 := Lib.hid (HO2.out.trans (Only.of_below (S := Three p c e) hb3))
    have hpr := prog_sec p c e S Z L k (m) 0 8 cap3 _ (headB s) A3 _ HS3.out hB3 (by omega) (fits_blank Z 0 (headB s) (by rw [headB_len]; omega))
    rw [Nat.add_zero, ← HTe.out] at hpr
    have Hpr := Lib.hid hpr
    clear hpr hown3 hb3 hB3
    go_wp2_with fail
    refine Hpr.out.mono ?_
    rintro e1 w4 ⟨rfl, hs4, ho4⟩
    have HS4 := Lib.hid hs4
    have HO4 := Lib.hid (HO3.out.trans ho4)
    clear hs4 ho4 Hpr
    go_wp2_with fail
    refine (setFlag_sec p c e S Z L k (m) 8 _ _ HS4.out (by omega)).mono ?_
    rintro e1 w5 ⟨rfl, hs5, ho5⟩
    have HE := Lib.hid (And.intro hs5 (HO4.out.trans ho5))
    clear hs5 ho5
    go_wp2
    go_ret
    exact ⟨rfl, ⟨m, by omega, HE.out.1⟩, HE.out.2⟩
  · have Hz : Hid (stS xs = 1 ∧ stQ xs = 0) := Lib.hid ⟨by rw [Hst.out.1, if_neg hb], Hst.out.2⟩
    clear hb
    go_enter Tryz.func190, Tryz.ntmps190
    go_wp2_with fail
    refine (look_sec p c e S Z L k m xs _ HS.out HM.out).mono ?_
    rintro e1 w0 ⟨he, hb0⟩
    rw [Hz.out.1, Hz.out.2] at he
    subst he
    have Hb0 := Lib.hid (hb0.alloc hb0.size (.cells #[.int .i64 1, .int .u32 0, .int .i64 (m : Int)] 81))
    clear hb0
    have HS0 := Lib.hid (HS.out.below Hb0.out)
    have HO0 := Lib.hid (Only.of_below (S := Three p c e) Hb0.out)
    go_wp2_with fail
    refine (erase_sec p c e S Z L k m xs _ HS0.out Hml.out).mono ?_
    rintro e1 w1 ⟨rfl, hs1, ho1⟩
    have HS1 := Lib.hid hs1
    have HO1 := Lib.hid (HO0.out.trans ho1)
    clear hs1 ho1
    go_wp2_with fail
    refine (start_sec p c e S Z L k (m + 1) _ _ HS1.out).mono ?_
    rintro e1 w2 ⟨rfl, hb2⟩
    have HS2 := Lib.hid (HS1.out.below hb2)
    have HO2 := Lib.hid (HO1.out.trans (Only.of_below (S := Three p c e) hb2))
    have HM2 := Lib.hid (HM.out.only HO2.out HP0.out)
    obtain ⟨T, hTe⟩ : ∃ T, T = k * Z := ⟨_, rfl⟩
    rw [← hTe]
    have HTe := Lib.hid hTe
    clear hb2 hTe
    go_wp2_with fail
    refine (pgBytes_any s _ hs32 HM2.out).mono ?_
    rintro e1 w3 ⟨⟨u3, rfl, hown3⟩, hb3⟩
    obtain ⟨A3, cap3, rfl, hB3, -⟩ := ByteSl.of_own (S := Three p c e) hown3 (fun q h1 _ => Sec.three w2 p c e S Z L k _ _ HS2.out q h1)
    have HS3 := Lib.hid (HS2.out.below hb3)
    have HO3 := Lib.hid (HO2.out.trans (Only.of_below (S := Three p c e) hb3))
    have hpr := prog_sec p c e S Z L k (m + 1) 0 8 cap3 _ (headB s) A3 _ HS3.out hB3 (by omega) (fits_blank Z 0 (headB s) (by rw [headB_len]; omega))
    rw [Nat.add_zero, ← HTe.out] at hpr
    have Hpr := Lib.hid hpr
    clear hpr hown3 hb3 hB3
    go_wp2_with fail
    refine Hpr.out.mono ?_
    rintro e1 w4 ⟨rfl, hs4, ho4⟩
    have HS4 := Lib.hid hs4
    have HO4 := Lib.hid (HO3.out.trans ho4)
    clear hs4 ho4 Hpr
    go_wp2_with fail
    refine (setFlag_sec p c e S Z L k (m + 1) 8 _ _ HS4.out (by omega)).mono ?_
    rintro e1 w5 ⟨rfl, hs5, ho5⟩
    have HE := Lib.hid (And.intro hs5 (HO4.out.trans ho5))
    clear hs5 ho5
    go_wp2
    go_ret
    exact ⟨rfl, ⟨m + 1, by omega, HE.out.1⟩, HE.out.2⟩

end Go.Proofs.YtidbipbangifbaaGreatDoor

/- All sectors of a flash that is up and has no fuse: how often each was erased, its bytes; what nor's calls and page's calls do to them. -/
namespace Go.Proofs.YtidbipbangifbaaGreatDoor
set_option maxRecDepth 100000
open Go.RowKit

/-- A flash that is up and has no fuse: its sectors' erases and bytes. -/
def FS (w : World) (p c e Z L : Nat) (ss : List (Nat × List UInt8)) : Prop :=
  ∃ fl : Fl, FlashAt w p c e fl ∧ fl.up = true ∧ fl.fuse = -1 ∧ fl.S = ss.length ∧ fl.Z = Z ∧ fl.L = L ∧ ∀ k m xs, ss[k]? = some (m, xs) → fl.er[k]? = some m ∧ secB fl.bs k Z = xs

theorem secB_prog_far (bs : List UInt8) (k j Z o n : Nat) (ys : List UInt8) (mask : UInt8) (hj : j ≠ k) (ho : o + ys.length ≤ Z) (hn : n = ys.length) :
    secB (bs.mapIdx (tornF (k * Z + o) ys n mask)) j Z = secB bs j Z := by
  subst hn
  apply List.ext_getElem?
  intro i
  by_cases hi : i < Z
  · rw [secB_get _ _ _ _ hi, secB_get _ _ _ _ hi, List.getElem?_mapIdx]
    cases hb : bs[j * Z + i]? with
    | none => rfl
    | some b =>
      simp only [Option.map_some]
      unfold tornF
      have h1 : ¬ (k * Z + o ≤ j * Z + i ∧ j * Z + i < k * Z + o + ys.length) := by
        rintro ⟨h1, h2⟩
        rcases Nat.lt_or_gt_of_ne hj with h | h
        · have := Nat.mul_le_mul_right Z (show j + 1 ≤ k by omega)
          rw [Nat.add_mul] at this
          omega
        · have := Nat.mul_le_mul_right Z (show k + 1 ≤ j by omega)
          rw [Nat.add_mul] at this
          omega
      rw [if_neg h1, if_neg (by omega)]
  · unfold secB
    rw [List.getElem?_eq_none (by rw [List.length_take]; omega), List.getElem?_eq_none (by rw [List.length_take]; omega)]

theorem secB_erase_far (bs : List UInt8) (k j Z : Nat) (mask : UInt8) (hj : j ≠ k) : secB (bs.mapIdx (eraseF (k * Z) Z Z mask)) j Z = secB bs j Z := by
  apply List.ext_getElem?
  intro i
  by_cases hi : i < Z
  · rw [secB_get _ _ _ _ hi, secB_get _ _ _ _ hi, List.getElem?_mapIdx]
    cases hb : bs[j * Z + i]? with
    | none => rfl
    | some b =>
      simp only [Option.map_some]
      unfold eraseF
      have h1 : ¬ (k * Z ≤ j * Z + i ∧ j * Z + i < k * Z + Z) := by
        rintro ⟨h1, h2⟩
        rcases Nat.lt_or_gt_of_ne hj with h | h
        · have := Nat.mul_le_mul_right Z (show j + 1 ≤ k by omega)
          rw [Nat.add_mul] at this
          omega
        · have := Nat.mul_le_mul_right Z (show k + 1 ≤ j by omega)
          rw [Nat.add_mul] at this
          omega
      rw [if_neg h1, if_neg (by omega)]
  · unfold secB
    rw [List.getElem?_eq_none (by rw [List.length_take]; omega), List.getElem?_eq_none (by rw [List.length_take]; omega)]

section
variable {w w' : World} {p c e Z L : Nat} {ss : List (Nat × List UInt8)} {T : Nat → Prop}
theorem FS.of (h : FS w p c e Z L ss) (o : Only T w w') (hp : ¬ T p) (hc : ¬ T c) (he : ¬ T e) : FS w' p c e Z L ss := by
  obtain ⟨fl, hf, r⟩ := h
  exact ⟨fl, hf.of o hp hc he, r⟩
theorem FS.below (h : FS w p c e Z L ss) (o : Below w.heap.size w w') : FS w' p c e Z L ss := h.of (Only.of_below (S := Empty) o) (fun h => h) (fun h => h) (fun h => h)
theorem FS.sec (h : FS w p c e Z L ss) {k m : Nat} {xs : List UInt8} (hk : ss[k]? = some (m, xs)) : Sec w p c e ss.length Z L k m xs := by
  obtain ⟨fl, hf, hu, hfu, hS, hZ, hL, hall⟩ := h
  have h2 := hall k m xs hk
  exact ⟨fl, hf, hu, hfu, hS, hZ, hL, h2.1, h2.2⟩
theorem FS.len (h : FS w p c e Z L ss) {k m : Nat} {xs : List UInt8} (hk : ss[k]? = some (m, xs)) : xs.length = Z := (h.sec hk).len
theorem FS.bz (h : FS w p c e Z L ss) : 1 ≤ ss.length ∧ ss.length ≤ 64 ∧ 64 ≤ Z ∧ Z ≤ 65536 ∧ 1 ≤ L ∧ L ≤ 1048576 ∧ ss.length * Z ≤ 4194304 := by
  obtain ⟨fl, hf, hu, hfu, hS, hZ, hL, hall⟩ := h
  have h1 := hf.ok
  have h2 := hf.ok.sz
  rw [← hS, ← hZ, ← hL]
  exact ⟨h1.s1, h1.s2, h1.z1, h1.z2, h1.l1, h1.l2, h2.1⟩
theorem FS.le (h : FS w p c e Z L ss) {k m : Nat} {xs : List UInt8} (hk : ss[k]? = some (m, xs)) : m ≤ L := by
  obtain ⟨fl, hf, hu, hfu, hS, hZ, hL, hall⟩ := h
  rw [← hL]
  exact hf.ok.eb _ _ (hall k m xs hk).1
theorem FS.three (h : FS w p c e Z L ss) (q : Nat) (hq : w.heap.size ≤ q) : ¬ Three p c e q := by
  obtain ⟨fl, hf, _⟩ := h
  have h1 := hf.hd.lt
  have h2 := hf.ce.lt
  have h3 := hf.er.lt
  intro h
  rcases h with h | h | h <;> omega
theorem FS.lt (h : FS w p c e Z L ss) (q : Nat) (hq : Three p c e q) : q < w.heap.size := by
  rcases Nat.lt_or_ge q w.heap.size with h1 | h1
  · exact h1
  · exact absurd hq (h.three q h1)
end

/-- A sector that is there has its two numbers. -/
theorem sec_at {ss : List (Nat × List UInt8)} {k : Nat} (h : k < ss.length) : ∃ m xs, ss[k]? = some (m, xs) := ⟨ss[k].1, ss[k].2, by rw [List.getElem?_eq_getElem h]⟩
theorem lt_at {ss : List (Nat × List UInt8)} {k m : Nat} {xs : List UInt8} (h : ss[k]? = some (m, xs)) : k < ss.length := (List.getElem?_eq_some_iff.1 h).1
theorem set_at {ss : List (Nat × List UInt8)} {k m : Nat} {xs : List UInt8} (h : ss[k]? = some (m, xs)) (x : Nat × List UInt8) : (ss.set k x)[k]? = some x := by
  rw [List.getElem?_set, if_pos rfl, if_pos (lt_at h)]
theorem set_far {ss : List (Nat × List UInt8)} {k j : Nat} (x : Nat × List UInt8) (h : k ≠ j) : (ss.set k x)[j]? = ss[j]? := by
  rw [List.getElem?_set, if_neg h]
theorem kz_lt {ss : List (Nat × List UInt8)} {k m Z : Nat} {xs : List UInt8} (h : ss[k]? = some (m, xs)) : k * Z + Z ≤ ss.length * Z := kz_le (lt_at h)

theorem prog_fs (p c e Z L k m at_ n cap : Nat) (ss : List (Nat × List UInt8)) (xs ys : List UInt8) (A : Option Addr) (w : World) (hs : FS w p c e Z L ss) (hk : ss[k]? = some (m, xs)) (hb : ByteSl w (Three p c e) A n cap ys)
    (hin : at_ + n ≤ Z) (hfit : Fits xs at_ ys) :
    Calls Tryz.prog 162 #[.pointer (some ⟨p, 0, none⟩), .int .i64 ((k * Z + at_ : Nat) : Int), .slice A n cap] w fun e1 w' => e1 = .returned (.int .i64 0) ∧ FS w' p c e Z L (ss.set k (m, splice xs at_ ys)) ∧ Only (Three p c e) w w' := by
  have hkz := kz_lt (Z := Z) hk
  obtain ⟨fl, hf, hu, hfu, hS, rfl, rfl, hall⟩ := hs
  have hbl := hf.ok.bl
  have hyl := hb.1
  have hm := hall k m xs hk
  obtain ⟨hm, rfl⟩ := hm
  rw [← hS] at hkz
  refine (program_fits p c e (k * fl.Z + at_) n cap fl ys A w hf hu hb (by omega) ?_).mono fun e1 w' ⟨he, hf2, ho⟩ => ⟨?_, ⟨_, hf2, ?_⟩, ho⟩
  · intro j hj
    have h := hfit j hj
    rw [secB_get _ _ _ _ (by omega)] at h
    rw [Nat.add_assoc]
    exact h
  · rw [he, code_none hfu]
  · unfold Fl.prog
    rw [burn_none hfu, many_none hfu]
    refine ⟨hu, hfu, by rw [List.length_set]; exact hS, rfl, rfl, ?_⟩
    intro j m' xs' hj
    by_cases hjk : k = j
    · subst hjk
      rw [set_at hk] at hj
      obtain ⟨rfl, rfl⟩ := Prod.mk.inj (Option.some.inj hj)
      exact ⟨hm, secB_prog fl.bs k fl.Z at_ ys fl.mask (by omega) (by omega) hfit⟩
    · rw [set_far _ hjk] at hj
      have h2 := hall j m' xs' hj
      refine ⟨h2.1, ?_⟩
      rw [← h2.2]
      exact secB_prog_far fl.bs k j fl.Z at_ _ ys fl.mask (fun h => hjk h.symm) (by omega) rfl

theorem erase_fs (p c e Z L k m : Nat) (ss : List (Nat × List UInt8)) (xs : List UInt8) (w : World) (hs : FS w p c e Z L ss) (hk : ss[k]? = some (m, xs)) (hm2 : m < L) :
    Calls Tryz.prog 102 #[.pointer (some ⟨p, 0, none⟩), .int .i64 (k : Int)] w fun e1 w' => e1 = .returned (.int .i64 0) ∧ FS w' p c e Z L (ss.set k (m + 1, List.replicate Z 255)) ∧ Only (Three p c e) w w' := by
  have hkz := kz_lt (Z := Z) hk
  have hl := hs.len hk
  obtain ⟨fl, hf, hu, hfu, hS, rfl, rfl, hall⟩ := hs
  have hbl := hf.ok.bl
  have hel := hf.ok.el
  have hm := hall k m xs hk
  obtain ⟨hm, rfl⟩ := hm
  rw [← hS] at hkz
  refine (erase_in p c e k m fl w hf hu hm hm2).mono fun e1 w' ⟨he, hf2, ho⟩ => ⟨?_, ⟨_, hf2, ?_⟩, ho⟩
  · rw [he, code_none hfu]
  · unfold Fl.erased
    rw [burn_none hfu, many_none hfu]
    refine ⟨hu, hfu, by rw [List.length_set]; exact hS, rfl, rfl, ?_⟩
    intro j m' xs' hj
    by_cases hjk : k = j
    · subst hjk
      rw [set_at hk] at hj
      obtain ⟨rfl, rfl⟩ := Prod.mk.inj (Option.some.inj hj)
      refine ⟨?_, ?_⟩
      · show (fl.er.set k ((fl.er[k]?.getD 0) + 1))[k]? = some (m + 1)
        rw [List.getElem?_set, if_pos rfl, hm, if_pos (by have := (List.getElem?_eq_some_iff.1 hm).1; omega)]
        rfl
      · show secB (fl.bs.mapIdx (eraseF (k * fl.Z) fl.Z fl.Z fl.mask)) k fl.Z = _
        rw [secB_erase _ _ _ _ _ (by omega)]
        have h := erase_whole (secB fl.bs k fl.Z) fl.mask
        rw [hl] at h
        exact h
    · rw [set_far _ hjk] at hj
      have h2 := hall j m' xs' hj
      refine ⟨?_, ?_⟩
      · show (fl.er.set k ((fl.er[k]?.getD 0) + 1))[j]? = some m'
        rw [List.getElem?_set, if_neg hjk]
        exact h2.1
      · rw [← h2.2]
        exact secB_erase_far fl.bs k j fl.Z fl.mask (fun h => hjk h.symm)

set_option maxHeartbeats 1000000 in
theorem setFlag_fs (p c e Z L k m at_ : Nat) (ss : List (Nat × List UInt8)) (xs : List UInt8) (w : World) (hs : FS w p c e Z L ss) (hk : ss[k]? = some (m, xs)) (ha : at_ < 64) :
    Calls Tryz.prog 127 #[.pointer (some ⟨p, 0, none⟩), .int .i64 (k : Int), .int .i64 (at_ : Int)] w fun e1 w' => e1 = .returned (.int .i64 0) ∧ FS w' p c e Z L (ss.set k (m, splice xs at_ [0])) ∧ Only (Three p c e) w w' := by
  have hz := hs.bz
  have hkz := kz_lt (Z := Z) hk
  have HS := Lib.hid hs
  have HK := Lib.hid hk
  have hp : ∀ W, FS W p c e Z L ss → Calls Tryz.prog 162 #[.pointer (some ⟨p, 0, none⟩), .int .i64 (((k * Z : Nat) : Int) + (at_ : Int)), .slice (some ⟨W.heap.size, 0, none⟩) 1 1] (W.alloc (.cells #[.int .u8 0] 5)) fun e1 w' =>
      e1 = .returned (.int .i64 0) ∧ FS w' p c e Z L (ss.set k (m, splice xs at_ [0])) ∧ Only (Three p c e) (W.alloc (.cells #[.int .u8 0] 5)) w' := fun W hW => by
    have hlt : ¬ Three p c e W.heap.size := hW.three _ (Nat.le_refl _)
    have h := prog_fs p c e Z L k m at_ 1 1 ss xs [0] (some ⟨W.heap.size, 0, none⟩) _ (hW.of ((Only.refl Empty W).alloc (.cells #[.int .u8 0] 5)) (fun h => h) (fun h => h) (fun h => h)) hk
      (ByteSl.lit W (Three p c e) [0] 1 rfl hlt (by decide)) (by omega) (by
        intro j hj
        have hj0 : j = 0 := by simp at hj; exact hj
        subst hj0
        simp)
    rw [show ((k * Z + at_ : Nat) : Int) = ((k * Z : Nat) : Int) + (at_ : Int) by simp] at h
    exact h
  have Hp := Lib.hid hp
  clear hs hp hk
  go_enter Tryz.func127, Tryz.ntmps127
  go_wp2_with fail
  refine (start_sec p c e _ Z L k m xs _ (HS.out.sec HK.out)).mono ?_
  rintro e1 w1 ⟨rfl, hb1⟩
  have HS1 := Lib.hid (HS.out.below hb1)
  have Hb1 := Lib.hid hb1
  have hT : k * Z ≤ 4194304 := by omega
  have Hp1 := Lib.hid (Hp.out w1 HS1.out)
  clear hb1 hz hkz Hp
  obtain ⟨T, hTe⟩ : ∃ T, T = k * Z := ⟨_, rfl⟩
  rw [← hTe] at hT Hp1 ⊢
  clear hTe
  go_wp2_with fail
  refine Hp1.out.mono ?_
  rintro e1 w2 ⟨rfl, hs2, ho2⟩
  have HE := Lib.hid (And.intro hs2 (((Only.of_below (S := Three p c e) Hb1.out).alloc (.cells #[.int .u8 0] 5)).trans ho2))
  clear hs2 ho2
  go_wp2
  go_ret
  exact ⟨rfl, HE.out⟩

set_option maxHeartbeats 1000000 in
theorem void_fs (p c e Z L k m : Nat) (ss : List (Nat × List UInt8)) (xs : List UInt8) (w : World) (hs : FS w p c e Z L ss) (hk : ss[k]? = some (m, xs)) :
    Calls Tryz.prog 101 #[.pointer (some ⟨p, 0, none⟩), .int .i64 (k : Int)] w fun e1 w' => e1 = .returned (.int .i64 0) ∧ FS w' p c e Z L (ss.set k (m, splice xs 9 [0])) ∧ Only (Three p c e) w w' := by
  have HS := Lib.hid hs
  have HK := Lib.hid hk
  clear hs hk
  go_enter Tryz.func101, Tryz.ntmps101
  go_wp2_with fail
  refine (Sec.has p c e _ Z L k m xs _ (HS.out.sec HK.out)).mono ?_
  rintro e1 w1 ⟨rfl, hb1⟩
  have HS1 := Lib.hid (HS.out.below hb1)
  have Hb1 := Lib.hid hb1
  clear hb1
  go_wp2_with fail
  refine (setFlag_fs p c e Z L k m 9 ss xs _ HS1.out HK.out (by omega)).mono ?_
  rintro e1 w2 ⟨rfl, hs2, ho2⟩
  have HE := Lib.hid (And.intro hs2 ((Only.of_below (S := Three p c e) Hb1.out).trans ho2))
  clear hs2 ho2
  go_wp2
  go_ret
  exact ⟨rfl, HE.out⟩

end Go.Proofs.YtidbipbangifbaaGreatDoor

/- The walk over page.Open, told of all sectors of a flash. -/
namespace Go.Proofs.YtidbipbangifbaaGreatDoor
set_option maxRecDepth 100000
open Go.RowKit

theorem set_set_ {α : Type} (l : List α) (k : Nat) (a b : α) : (l.set k a).set k b = l.set k b := by simp

set_option maxHeartbeats 4000000 in
theorem open_fs (p c e Z L k m s : Nat) (ss : List (Nat × List UInt8)) (xs : List UInt8) (w : World) (hs : FS w p c e Z L ss) (hk : ss[k]? = some (m, xs)) (hM : Mark w) (hp0 : ¬ Three p c e 0) (hu : stU xs = false) (hml : ¬ xs.count 255 = xs.length → m < L) (hs32 : s ≤ 4294967295) :
    Calls Tryz.prog 190 #[.pointer (some ⟨p, 0, none⟩), .int .i64 (k : Int), .int .u32 (s : Int)] w fun e1 w' => e1 = .returned (.int .i64 0) ∧ FS w' p c e Z L (ss.set k (if xs.count 255 = xs.length then m else m + 1, openB Z s)) ∧ Only (Three p c e) w w' := by
  have HS := Lib.hid hs
  have HM := Lib.hid hM
  have HP0 := Lib.hid hp0
  have HK := Lib.hid hk
  have hxl := Lib.hid (hs.len hk)
  have hz := hs.bz
  have hst : stS xs = if xs.count 255 = xs.length then 0 else 1 := by rw [stS, if_neg (by rw [hu]; decide)]
  have hsq : stQ xs = 0 := by rw [stQ, if_neg (by rw [hu]; decide)]
  have Hst := Lib.hid (And.intro hst hsq)
  have Hml := Lib.hid hml
  clear hs hM hu hst hsq hml hp0 hk
  by_cases hb : xs.count 255 = xs.length
  · have Hz : Hid (stS xs = 0 ∧ stQ xs = 0) := Lib.hid ⟨by rw [Hst.out.1, if_pos hb], Hst.out.2⟩
    have Hxs : Hid (xs = List.replicate Z 255) := Lib.hid (by have := all_255 xs hb; rw [hxl.out] at this; exact this)
    rw [if_pos hb]
    clear hb
    go_enter Tryz.func190, Tryz.ntmps190
    go_wp2_with fail
    refine (look_sec p c e _ Z L k m xs _ (HS.out.sec HK.out) HM.out).mono ?_
    rintro e1 w1 ⟨he, hb1⟩
    rw [Hz.out.1, Hz.out.2] at he
    subst he
    have Hb1 := Lib.hid (hb1.alloc hb1.size (.cells #[.int .i64 0, .int .u32 0, .int .i64 (m : Int)] 81))
    clear hb1
    have HS1 := Lib.hid (HS.out.below Hb1.out)
    have HO1 := Lib.hid (Only.of_below (S := Three p c e) Hb1.out)
    have HM1 := Lib.hid (HM.out.only HO1.out HP0.out)
    go_wp2_with fail
    refine (start_sec p c e _ Z L k m _ _ (HS1.out.sec HK.out)).mono ?_
    rintro e1 w2 ⟨rfl, hb2⟩
    have HS2 := Lib.hid (HS1.out.below hb2)
    have HO2 := Lib.hid (HO1.out.trans (Only.of_below (S := Three p c e) hb2))
    have HM2 := Lib.hid (HM.out.only HO2.out HP0.out)
    obtain ⟨T, hTe⟩ : ∃ T, T = k * Z := ⟨_, rfl⟩
    rw [← hTe]
    have HTe := Lib.hid hTe
    clear hb2 hTe
    go_wp2_with fail
    refine (pgBytes_any s _ hs32 HM2.out).mono ?_
    rintro e1 w3 ⟨⟨u3, rfl, hown3⟩, hb3⟩
    obtain ⟨A3, cap3, rfl, hB3, -⟩ := ByteSl.of_own (S := Three p c e) hown3 (fun q h1 _ => HS2.out.three q h1)
    have HS3 := Lib.hid (HS2.out.below hb3)
    have HO3 := Lib.hid (HO2.out.trans (Only.of_below (S := Three p c e) hb3))
    have hpr := prog_fs p c e Z L k m 0 8 cap3 ss xs (headB s) A3 _ HS3.out HK.out hB3 (by omega) (by rw [Hxs.out]; exact fits_blank Z 0 (headB s) (by rw [headB_len]; omega))
    rw [Nat.add_zero, ← HTe.out] at hpr
    have Hpr := Lib.hid hpr
    clear hpr hown3 hb3 hB3
    go_wp2_with fail
    refine Hpr.out.mono ?_
    rintro e1 w4 ⟨rfl, hs4, ho4⟩
    have HS4 := Lib.hid hs4
    have HO4 := Lib.hid (HO3.out.trans ho4)
    clear hs4 ho4 Hpr
    go_wp2_with fail
    refine (setFlag_fs p c e Z L k m 8 _ _ _ HS4.out (set_at HK.out _) (by omega)).mono ?_
    rw [set_set_]
    rintro e1 w5 ⟨rfl, hs5, ho5⟩
    have HE := Lib.hid (And.intro hs5 (HO4.out.trans ho5))
    clear hs5 ho5
    go_wp2
    go_ret
    refine ⟨rfl, ?_, HE.out.2⟩
    have h := HE.out.1
    rw [Hxs.out] at h
    exact h
  · have Hz : Hid (stS xs = 1 ∧ stQ xs = 0) := Lib.hid ⟨by rw [Hst.out.1, if_neg hb], Hst.out.2⟩
    rw [if_neg hb]
    have Hm2 := Lib.hid (Hml.out hb)
    clear hb
    go_enter Tryz.func190, Tryz.ntmps190
    go_wp2_with fail
    refine (look_sec p c e _ Z L k m xs _ (HS.out.sec HK.out) HM.out).mono ?_
    rintro e1 w0 ⟨he, hb0⟩
    rw [Hz.out.1, Hz.out.2] at he
    subst he
    have Hb0 := Lib.hid (hb0.alloc hb0.size (.cells #[.int .i64 1, .int .u32 0, .int .i64 (m : Int)] 81))
    clear hb0
    have HS0 := Lib.hid (HS.out.below Hb0.out)
    have HO0 := Lib.hid (Only.of_below (S := Three p c e) Hb0.out)
    go_wp2_with fail
    refine (erase_fs p c e Z L k m ss xs _ HS0.out HK.out Hm2.out).mono ?_
    rintro e1 w1 ⟨rfl, hs1, ho1⟩
    have HS1 := Lib.hid hs1
    have HO1 := Lib.hid (HO0.out.trans ho1)
    have HK1 := Lib.hid (set_at HK.out (m + 1, List.replicate Z 255))
    clear hs1 ho1
    go_wp2_with fail
    refine (start_sec p c e _ Z L k (m + 1) _ _ (HS1.out.sec HK1.out)).mono ?_
    rintro e1 w2 ⟨rfl, hb2⟩
    have HS2 := Lib.hid (HS1.out.below hb2)
    have HO2 := Lib.hid (HO1.out.trans (Only.of_below (S := Three p c e) hb2))
    have HM2 := Lib.hid (HM.out.only HO2.out HP0.out)
    obtain ⟨T, hTe⟩ : ∃ T, T = k * Z := ⟨_, rfl⟩
    rw [← hTe]
    have HTe := Lib.hid hTe
    clear hb2 hTe
    go_wp2_with fail
    refine (pgBytes_any s _ hs32 HM2.out).mono ?_
    rintro e1 w3 ⟨⟨u3, rfl, hown3⟩, hb3⟩
    obtain ⟨A3, cap3, rfl, hB3, -⟩ := ByteSl.of_own (S := Three p c e) hown3 (fun q h1 _ => HS2.out.three q h1)
    have HS3 := Lib.hid (HS2.out.below hb3)
    have HO3 := Lib.hid (HO2.out.trans (Only.of_below (S := Three p c e) hb3))
    have hpr := prog_fs p c e Z L k (m + 1) 0 8 cap3 _ _ (headB s) A3 _ HS3.out HK1.out hB3 (by omega) (fits_blank Z 0 (headB s) (by rw [headB_len]; omega))
    rw [Nat.add_zero, ← HTe.out, set_set_] at hpr
    have Hpr := Lib.hid hpr
    clear hpr hown3 hb3 hB3
    go_wp2_with fail
    refine Hpr.out.mono ?_
    rintro e1 w4 ⟨rfl, hs4, ho4⟩
    have HS4 := Lib.hid hs4
    have HO4 := Lib.hid (HO3.out.trans ho4)
    clear hs4 ho4 Hpr
    go_wp2_with fail
    refine (setFlag_fs p c e Z L k (m + 1) 8 _ _ _ HS4.out (set_at HK.out _) (by omega)).mono ?_
    rw [set_set_]
    rintro e1 w5 ⟨rfl, hs5, ho5⟩
    have HE := Lib.hid (And.intro hs5 (HO4.out.trans ho5))
    clear hs5 ho5
    go_wp2
    go_ret
    exact ⟨rfl, HE.out.1, HE.out.2⟩

end Go.Proofs.YtidbipbangifbaaGreatDoor
