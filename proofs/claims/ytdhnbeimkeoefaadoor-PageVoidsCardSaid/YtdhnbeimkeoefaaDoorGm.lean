/- The walks over page's calls, told of one sector: start, setFlag, Void, Look. -/
import Derived.Test.YtdhnbeimkeoefaaDoorGi
import Derived.Test.YtdhnbeimkeoefaaDoorGk
import Derived.Test.YtdhnbeimkeoefaaDoorGl
namespace Go.Proofs.YtdhnbeimkeoefaaDoor
open Go.RowKit

set_option maxHeartbeats 1000000 in
theorem start_sec (p c e S Z L k m : Nat) (xs : List UInt8) (w : World) (hs : Sec w p c e S Z L k m xs) :
    Calls Tryd.prog 26 #[.pointer (some ⟨p, 0, none⟩), .int .i64 (k : Int)] w fun e1 w' => e1 = .returned (.int .i64 ((k * Z : Nat) : Int)) ∧ Below w.heap.size w w' := by
  have hz := hs.bz
  obtain ⟨fl, hf, -, -, rfl, rfl, rfl, -, -⟩ := hs
  have hg := geo_field1 (fl.S : Int) (fl.Z : Int) (fl.L : Int)
  have hmul : IntKind.i64.wrap ((k : Int) * (fl.Z : Int)) = ((k * fl.Z : Nat) : Int) := by
    have : (k : Int) * (fl.Z : Int) = ((k * fl.Z : Nat) : Int) := by simp
    rw [this, IntKind.wrap_i64]
    omega
  obtain ⟨T, hT⟩ : ∃ T, T = k * fl.Z := ⟨_, rfl⟩
  rw [← hT] at hmul ⊢
  have HF := Lib.hid hf
  clear hf hz hT
  go_enter Tryd.func26, Tryd.ntmps26
  go_wp2_with fail
  refine (geometry_any p c e fl _ HF.out).mono ?_
  rintro e1 w1 ⟨rfl, hb1⟩
  go_wp2
  go_ret
  exact ⟨rfl, hb1⟩

set_option maxHeartbeats 1000000 in
theorem setFlag_sec (p c e S Z L k m at_ : Nat) (xs : List UInt8) (w : World) (hs : Sec w p c e S Z L k m xs) (ha : at_ < 64) :
    Calls Tryd.prog 27 #[.pointer (some ⟨p, 0, none⟩), .int .i64 (k : Int), .int .i64 (at_ : Int)] w fun e1 w' => e1 = .returned (.int .i64 0) ∧ Sec w' p c e S Z L k m (splice xs at_ [0]) ∧ Only (Three p c e) w w' := by
  have hz := hs.bz
  have HS := Lib.hid hs
  have hp : ∀ W, Sec W p c e S Z L k m xs → Calls Tryd.prog 13 #[.pointer (some ⟨p, 0, none⟩), .int .i64 (((k * Z : Nat) : Int) + (at_ : Int)), .slice (some ⟨W.heap.size, 0, none⟩) 1 1] (W.alloc (.cells #[.int .u8 0] 5)) fun e1 w' =>
      e1 = .returned (.int .i64 0) ∧ Sec w' p c e S Z L k m (splice xs at_ [0]) ∧ Only (Three p c e) (W.alloc (.cells #[.int .u8 0] 5)) w' := fun W hW => by
    have hlt : ¬ Three p c e W.heap.size := by
      obtain ⟨fl, hf, _⟩ := hW
      have h1 := hf.hd.lt
      have h2 := hf.ce.lt
      have h3 := hf.er.lt
      intro h
      rcases h with h | h | h <;> omega
    have h := prog_sec p c e S Z L k m at_ 1 1 xs [0] (some ⟨W.heap.size, 0, none⟩) _ (hW.of ((Only.refl Empty W).alloc (.cells #[.int .u8 0] 5)) (fun h => h) (fun h => h) (fun h => h))
      (ByteSl.lit W (Three p c e) [0] 1 rfl hlt (by decide)) (by omega) (by
        intro j hj
        have hj0 : j = 0 := by simp at hj; exact hj
        subst hj0
        simp)
    rw [show ((k * Z + at_ : Nat) : Int) = ((k * Z : Nat) : Int) + (at_ : Int) by simp] at h
    exact h
  have Hp := Lib.hid hp
  clear hs hp
  go_enter Tryd.func27, Tryd.ntmps27
  go_wp2_with fail
  refine (start_sec p c e S Z L k m xs _ HS.out).mono ?_
  rintro e1 w1 ⟨rfl, hb1⟩
  have HS1 := Lib.hid (HS.out.below hb1)
  have Hb1 := Lib.hid hb1
  have hT : k * Z ≤ 4194304 := by omega
  have Hp1 := Lib.hid (Hp.out w1 HS1.out)
  clear hb1 hz Hp
  obtain ⟨T, hTe⟩ : ∃ T, T = k * Z := ⟨_, rfl⟩
  rw [← hTe] at hT Hp1 ⊢
  clear hTe
  go_wp2_with fail
  refine Hp1.out.mono ?_
  rintro e1 w2 ⟨rfl, hs2, ho2⟩
  have HE := Lib.hid (And.intro hs2 (((Only.of_below (S := Three p c e) Hb1.out).alloc (.cells #[.int .u8 0] 5)).trans ho2))
  clear hs2 ho2
  go_wp2
  go_ret
  exact ⟨rfl, HE.out⟩

theorem Sec.has (p c e S Z L k m : Nat) (xs : List UInt8) (w : World) (hs : Sec w p c e S Z L k m xs) :
    Calls Tryd.prog 30 #[.pointer (some ⟨p, 0, none⟩), .int .i64 (k : Int)] w fun e w' => e = .returned (.bool true) ∧ Below w.heap.size w w' := by
  have hk := hs.kS
  obtain ⟨fl, hf, _, _, rfl, _⟩ := hs
  refine (pgHas_any p c e fl k w hf).mono fun e1 w' ⟨he, hb⟩ => ⟨?_, hb⟩
  rw [he]
  simp [hk]
theorem Sec.has_not (p c e S Z L k m : Nat) (xs : List UInt8) (j : Int) (w : World) (hs : Sec w p c e S Z L k m xs) (hj : j < 0 ∨ (S : Int) ≤ j) :
    Calls Tryd.prog 30 #[.pointer (some ⟨p, 0, none⟩), .int .i64 j] w fun e w' => e = .returned (.bool false) ∧ Below w.heap.size w w' := by
  obtain ⟨fl, hf, _, _, rfl, _⟩ := hs
  refine (pgHas_any p c e fl j w hf).mono fun e1 w' ⟨he, hb⟩ => ⟨?_, hb⟩
  rw [he]
  congr 2
  simp
  omega

set_option maxHeartbeats 1000000 in
theorem void_sec (p c e S Z L k m : Nat) (xs : List UInt8) (w : World) (hs : Sec w p c e S Z L k m xs) :
    Calls Tryd.prog 14 #[.pointer (some ⟨p, 0, none⟩), .int .i64 (k : Int)] w fun e1 w' => e1 = .returned (.int .i64 0) ∧ Sec w' p c e S Z L k m (splice xs 9 [0]) ∧ Only (Three p c e) w w' := by
  have HS := Lib.hid hs
  clear hs
  go_enter Tryd.func14, Tryd.ntmps14
  go_wp2_with fail
  refine (Sec.has p c e S Z L k m xs _ HS.out).mono ?_
  rintro e1 w1 ⟨rfl, hb1⟩
  have HS1 := Lib.hid (HS.out.below hb1)
  have Hb1 := Lib.hid hb1
  clear hb1
  go_wp2_with fail
  refine (setFlag_sec p c e S Z L k m 9 xs _ HS1.out (by omega)).mono ?_
  rintro e1 w2 ⟨rfl, hs2, ho2⟩
  have HE := Lib.hid (And.intro hs2 ((Only.of_below (S := Three p c e) Hb1.out).trans ho2))
  clear hs2 ho2
  go_wp2
  go_ret
  exact ⟨rfl, HE.out⟩

set_option maxHeartbeats 1000000 in
theorem void_out (p c e S Z L k m : Nat) (xs : List UInt8) (j : Int) (w : World) (hs : Sec w p c e S Z L k m xs) (hj : j < 0 ∨ (S : Int) ≤ j) :
    Calls Tryd.prog 14 #[.pointer (some ⟨p, 0, none⟩), .int .i64 j] w fun e1 w' => e1 = .returned (.int .i64 2) ∧ Below w.heap.size w w' := by
  have HS := Lib.hid hs
  have Hj := Lib.hid hj
  clear hs hj
  go_enter Tryd.func14, Tryd.ntmps14
  go_wp2_with fail
  refine (Sec.has_not p c e S Z L k m xs j _ HS.out Hj.out).mono ?_
  rintro e1 w1 ⟨rfl, hb1⟩
  go_wp2
  go_ret
  exact ⟨rfl, hb1⟩

theorem Sec.read (p c e S Z L k m : Nat) (xs : List UInt8) (w : World) (hs : Sec w p c e S Z L k m xs) :
    Calls Tryd.prog 31 #[.pointer (some ⟨p, 0, none⟩), .int .i64 ((k * Z : Nat) : Int), .int .i64 (Z : Int)] w fun e1 w' => ReadOk w w' Z xs e1 := by
  have hz := hs.bz
  obtain ⟨fl, hf, hu, -, rfl, rfl, rfl, -, rfl⟩ := hs
  exact read_in p c e (k * fl.Z) fl.Z fl w hf hu hz.2.2.2.1
theorem Sec.erases (p c e S Z L k m : Nat) (xs : List UInt8) (w : World) (hs : Sec w p c e S Z L k m xs) :
    Calls Tryd.prog 34 #[.pointer (some ⟨p, 0, none⟩), .int .i64 (k : Int)] w fun e1 w' => e1 = .returned (.int .i64 (m : Int)) ∧ w = w' := by
  obtain ⟨fl, hf, hu, -, rfl, rfl, rfl, hm, rfl⟩ := hs
  exact erases_in p c e k m fl w hf hm
theorem Sec.geo (p c e S Z L k m : Nat) (xs : List UInt8) (w : World) (hs : Sec w p c e S Z L k m xs) :
    Calls Tryd.prog 32 #[.pointer (some ⟨p, 0, none⟩)] w fun e1 w' => e1 = .returned (.agg #[.int .i64 (S : Int), .int .i64 (Z : Int), .int .i64 (L : Int)]) ∧ Below w.heap.size w w' := by
  obtain ⟨fl, hf, hu, -, rfl, rfl, rfl, hm, rfl⟩ := hs
  exact geometry_any p c e fl w hf

set_option maxHeartbeats 2000000 in
theorem look_sec (p c e S Z L k m : Nat) (xs : List UInt8) (w : World) (hs : Sec w p c e S Z L k m xs) (hM : Mark w) :
    Calls Tryd.prog 15 #[.pointer (some ⟨p, 0, none⟩), .int .i64 (k : Int)] w fun e1 w' => e1 = .returned (.tuple #[.agg #[.int .i64 (stS xs), .int .u32 (stQ xs), .int .i64 (m : Int)], .int .i64 0]) ∧ Below w.heap.size w w' := by
  have HS := Lib.hid hs
  have HM := Lib.hid hM
  have hz := hs.bz
  have hg := geo_field1 (S : Int) (Z : Int) (L : Int)
  have Hk0 := Lib.hid (Blk.new w 43 #[.int .i64 0, .int .u32 0, .int .i64 0])
  have Hbw := Lib.hid ((Below.refl w.heap.size w).alloc (Nat.le_refl _) (.cells #[.int .i64 0, .int .u32 0, .int .i64 0] 43))
  clear hs hM
  go_enter Tryd.func15, Tryd.ntmps15
  go_wp2_with fail
  refine (Sec.has p c e S Z L k m xs _ (HS.out.below Hbw.out)).mono ?_
  rintro e1 w1 ⟨rfl, hb1⟩
  have Hb1 := Lib.hid (Hbw.out.trans (hb1.mono (by simp)))
  have Hk1 := Lib.hid (Hk0.out.of (hb1.block w.heap.size (by simp)))
  clear hb1
  go_wp2_with fail
  refine (start_sec p c e S Z L k m xs _ (HS.out.below Hb1.out)).mono ?_
  rintro e1 w2 ⟨rfl, hb2⟩
  have Hb2 := Lib.hid (Hb1.out.trans (hb2.mono Hb1.out.size))
  have Hk2 := Lib.hid (Hk1.out.of (hb2.block w.heap.size Hk1.out.lt))
  clear hb2
  go_wp2_with fail
  refine (Sec.geo p c e S Z L k m xs _ (HS.out.below Hb2.out)).mono ?_
  rintro e1 w3 ⟨rfl, hb3⟩
  have Hb3 := Lib.hid (Hb2.out.trans (hb3.mono Hb2.out.size))
  have Hk3 := Lib.hid (Hk2.out.of (hb3.block w.heap.size Hk2.out.lt))
  clear hb3
  go_wp2_with fail
  refine (Sec.read p c e S Z L k m xs _ (HS.out.below Hb3.out)).mono ?_
  rintro e1 w4 ⟨u4, rfl, hown4, hb4⟩
  obtain ⟨A4, cap4, rfl, hB4, -⟩ := ByteSl.of_own (S := Empty) hown4 (fun _ _ _ h => h)
  have Hb4 := Lib.hid (Hb3.out.trans (hb4.mono Hb3.out.size))
  have Hk4 := Lib.hid (Hk3.out.of (hb4.block w.heap.size Hk3.out.lt))
  have HB4 := Lib.hid hB4
  clear hb4 hB4 hown4
  go_wp2_with fail
  refine (state_any A4 Z cap4 xs _ HB4.out (HM.out.below Hb4.out) (by omega)).mono ?_
  rintro e1 w5 ⟨rfl, hb5⟩
  unfold stV
  have Hb5 := Lib.hid (Hb4.out.trans (hb5.mono Hb4.out.size))
  have Hk5 := Lib.hid (Hk4.out.of (hb5.block w.heap.size Hk4.out.lt))
  have hz5 : w.heap.size < w5.heap.size := Hk5.out.lt
  clear hb5
  obtain ⟨a, ha⟩ : ∃ a, a = stS xs := ⟨_, rfl⟩
  obtain ⟨b, hb⟩ : ∃ b, b = stQ xs := ⟨_, rfl⟩
  rw [← ha, ← hb]
  have Ha := Lib.hid ha
  have Hb := Lib.hid hb
  clear ha hb
  have hHS5 := HS.out.below (Hb5.out.alloc Hb5.out.size (.cells #[.int .i64 a, .int .u32 b, .int .i64 0] 43))
  have HS5 := Lib.hid hHS5
  clear hHS5
  go_wp2_with fail
  refine (Sec.erases p c e S Z L k m xs _ HS5.out).mono ?_
  rintro e1 w6 ⟨rfl, rfl⟩
  have d0 := Hk5.out.cell 0
  have d1 := Hk5.out.cell 1
  have d2 := Hk5.out.cell 2
  have g0 := Hk5.out.frozen 0
  have g1 := Hk5.out.frozen 1
  have g2 := Hk5.out.frozen 2
  simp at d0 d1 d2
  clear hg
  go_wp2
  refine bodyPost_ret (v := .tuple #[.agg #[.int .i64 a, .int .u32 b, .int .i64 (m : Int)], .int .i64 0]) (by simp [results, Tryd.results15, go_sem, d0, d1, d2, hz5]) rfl ⟨by rw [Ha.out, Hb.out], ?_⟩
  exact ((((Hb5.out.setCell (by simp) _).setCell (by simp) _).setCell (by simp) _).alloc (by have := Hb5.out.size; simp [World.setCell]; omega) _)

end Go.Proofs.YtdhnbeimkeoefaaDoor
