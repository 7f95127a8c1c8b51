/- The walk over PageVoids. -/
import Derived.Test.YtdhnbeimkeoefaaDoorGp
namespace Go.Proofs.YtdhnbeimkeoefaaDoor
open Go.RowKit

theorem three_pos {w : World} {p c er : Nat} (h : 0 < w.heap.size) (hp : w.heap.size ≤ p) (hc : w.heap.size ≤ c) (he : w.heap.size ≤ er) (q : Nat) (hq : q < w.heap.size) : ¬ Three p c er q := by
  intro h
  rcases h with h | h | h <;> omega

set_option maxRecDepth 100000 in
set_option maxHeartbeats 4000000 in
theorem pageVoids_short (s : Nat) (A : Option Addr) (n cap : Nat) (ys : List UInt8) (kk : Int) (mk : UInt8) (w : World) (hB0 : ByteSl w (fun k => w.heap.size ≤ k) A n cap ys) (hM : Mark w) (hs : s ≤ 4294967295) (k1 : -9223372036854775808 ≤ kk) (k2 : kk ≤ 9223372036854775807) (hn : n ≤ 50) :
    Calls Tryd.prog 4 #[.int .u32 (s : Int), .slice A n cap, .agg #[.int .i64 kk, B8 mk]] w fun e w' => e = .returned (.bool true) ∧ Below w.heap.size w w' := by
  have HM := Lib.hid hM
  have HB := Lib.hid hB0
  have HK := Lib.hid (And.intro k1 k2)
  have Hbx := Lib.hid (Blk.new w 33 #[.int .i64 kk, .int .u8 (mk.toNat : Int)])
  have Hw0 := Lib.hid ((Below.refl w.heap.size w).alloc (Nat.le_refl _) (.cells #[.int .i64 kk, .int .u8 (mk.toNat : Int)] 33))
  have hd50 : decide (50 < n) = false := by simpa using hn
  clear hM hB0 k1 k2
  unfold B8
  go_enter Tryd.func4, Tryd.ntmps4
  go_wp2_with fail
  refine (fixed4_any _ (HM.out.below Hw0.out)).mono ?_
  rintro e1 w1 ⟨rfl, hb1⟩
  have Hw1 := Lib.hid (Hw0.out.trans (hb1.mono Hw0.out.size))
  have Hbx1 := Lib.hid (Hbx.out.of (hb1.block w.heap.size (by simp)))
  clear hb1
  go_wp2_with fail
  refine (made_any _).mono ?_
  rintro e1 w2 ⟨p, c, er, rfl, hf2, hb2, hp2, hc2, he2⟩
  have Hw2 := Lib.hid (Hw1.out.trans (hb2.mono Hw1.out.size))
  have Hbx2 := Lib.hid (Hbx1.out.of (hb2.block w.heap.size Hbx1.out.lt))
  have HT := Lib.hid (fun q (hq : q < w1.heap.size) => three_pos (Nat.lt_of_le_of_lt (Nat.zero_le _) hq) hp2 hc2 he2 q hq)
  have HS2 := Lib.hid (fresh_sec hf2)
  have Hg2 := Lib.hid (Blk.new w2 36 #[.int .i64 2, .int .i64 84, .int .i64 9])
  have hz12 : w1.heap.size ≤ w2.heap.size := hb2.size
  have HP0 : Hid (¬ Three p c er 0) := Lib.hid (HT.out 0 (Nat.lt_of_lt_of_le HM.out.pos Hw1.out.size))
  have HTg : Hid (¬ Three p c er w2.heap.size) := Lib.hid (Sec.three w2 p c er 2 84 9 1 _ _ HS2.out _ (Nat.le_refl _))
  clear hf2 hb2 hp2 hc2 he2
  have Hw3 := Lib.hid (Hw2.out.alloc Hw2.out.size (.cells #[.int .i64 2, .int .i64 84, .int .i64 9] 36))
  have HS3 := Lib.hid (HS2.out.of ((Only.refl Empty w2).alloc (.cells #[.int .i64 2, .int .i64 84, .int .i64 9] 36)) (fun h => h) (fun h => h) (fun h => h))
  go_wp2_with fail
  refine (open_sec p c er 2 84 9 1 0 s _ _ HS3.out (HM.out.below Hw3.out) HP0.out blank_unused (by omega) hs).mono ?_
  rintro e1 w4 ⟨rfl, ⟨m, hm, hs4⟩, ho4⟩
  have HTw : Hid (¬ Three p c er w.heap.size) := Lib.hid (HT.out _ (Nat.lt_of_lt_of_le (by have := Hbx1.out.lt; exact this) (Nat.le_refl _)))
  have Hbx3 := Lib.hid (Hbx2.out.alloc (.cells #[.int .i64 2, .int .i64 84, .int .i64 9] 36))
  have HM3 := Lib.hid (HM.out.below Hw3.out)
  have HB3 : Hid (ByteSl (w2.alloc (.cells #[.int .i64 2, .int .i64 84, .int .i64 9] 36)) (Three p c er) A n cap ys) :=
    Lib.hid ((HB.out.mono (T := Three p c er) (fun q hq ht => absurd ht (HT.out q (Nat.lt_of_lt_of_le hq Hw1.out.size)))).only (Only.of_below (S := Empty) Hw3.out) (fun _ _ h => h.elim))
  have hend : ∀ W, Only (Three p c er) (w2.alloc (.cells #[.int .i64 2, .int .i64 84, .int .i64 9] 36)) W → Below w.heap.size w W := fun W hW =>
    Hw3.out.trans (hW.below Hw3.out.size (fun q hq => HT.out q (Nat.lt_of_lt_of_le hq Hw1.out.size)))
  have Hend := Lib.hid hend
  have HS4 := Lib.hid hs4
  have HO4 := Lib.hid ho4
  have hnl := HB.out.1
  have hn2 := HB.out.2.2.1
  have Hnl := Lib.hid hnl
  have Hn2 := Lib.hid hn2
  have Hg4 := Lib.hid (HO4.out.blk Hg2.out HTg.out)
  clear hend hs4 ho4 hnl hn2
  -- Program
  have hgc : w4.cell? ⟨w2.heap.size, 1, none⟩ = some (.int .i64 84) := Hg4.out.cell 1
  have hpr : Calls Tryd.prog 13 #[.pointer (some ⟨p, 0, none⟩), .int .i64 96, .slice A n cap] w4 fun e1 w' => e1 = .returned (.int .i64 0) ∧ Sec w' p c er 2 84 9 1 m (splice (openB 84 s) 12 ys) ∧ Only (Three p c er) w4 w' :=
    prog_sec p c er 2 84 9 1 m 12 n cap _ ys A _ HS4.out (HB3.out.only HO4.out (fun _ _ h => h)) (by omega) (fits_open s ys (by rw [Hnl.out]; exact hn))
  have Hpr := Lib.hid hpr
  clear hpr
  go_wp2_with fail
  refine Hpr.out.mono ?_
  rintro e1 w5 ⟨rfl, hs5, ho5⟩
  have HS5 := Lib.hid hs5
  have HO5 := Lib.hid (HO4.out.trans ho5)
  clear hs5 ho5 hgc
  -- Void
  go_wp2_with fail
  refine (void_sec p c er 2 84 9 1 m _ _ HS5.out).mono ?_
  rintro e1 w6 ⟨rfl, hs6, ho6⟩
  have hs6' : Sec w6 p c er 2 84 9 1 m (voidB s ys) := hs6
  have HS6 := Lib.hid hs6'
  have HO6 := Lib.hid (HO5.out.trans ho6)
  clear hs6 ho6 hs6'
  have HM6 := Lib.hid (HM3.out.only HO6.out HP0.out)
  have hyl : ys.length ≤ 50 := by rw [Hnl.out]; exact hn
  have Hyl := Lib.hid hyl
  clear hyl
  -- Look
  obtain ⟨b6, hb6⟩ : ∃ b, b = stQ (voidB s ys) := ⟨_, rfl⟩
  have Hb6 := Lib.hid hb6
  clear hb6
  go_wp2_with fail
  refine (look_sec p c er 2 84 9 1 m _ _ HS6.out HM6.out).mono ?_
  rintro e1 w7 ⟨he, hb7⟩
  rw [voidB_dirty s ys Hyl.out, ← Hb6.out] at he
  subst he
  have HS7 := Lib.hid (HS6.out.below hb7)
  have HO7 := Lib.hid (HO6.out.trans (Only.of_below (S := Three p c er) hb7))
  clear hb7
  have Hk7 := Lib.hid (Blk.new w7 43 #[.int .i64 1, .int .u32 b6, .int .i64 (m : Int)])
  have HT7 : Hid (¬ Three p c er w7.heap.size) := Lib.hid (Sec.three w7 p c er 2 84 9 1 _ _ HS7.out _ (Nat.le_refl _))
  have HS8 := Lib.hid (HS7.out.of ((Only.refl Empty w7).alloc (.cells #[.int .i64 1, .int .u32 b6, .int .i64 (m : Int)] 43)) (fun h => h) (fun h => h) (fun h => h))
  have HO8 := Lib.hid (HO7.out.alloc (.cells #[.int .i64 1, .int .u32 b6, .int .i64 (m : Int)] 43))
  -- Fuse
  have Hbx8 := Lib.hid (HO8.out.blk Hbx3.out HTw.out)
  have hx0 := Hbx8.out.cell 0
  have hx1 := Hbx8.out.cell 1
  simp at hx0 hx1
  obtain ⟨fl, hfl⟩ := HS8.out
  have Hfl := Lib.hid hfl
  clear hfl
  have hfu := fuse_any p c er fl 0 kk mk _ Hfl.out.1 (by omega) (by omega) HK.out.1 HK.out.2
  unfold B8 at hfu
  have Hfu := Lib.hid hfu
  clear hfu
  go_wp2_with fail
  refine Hfu.out.mono ?_
  rintro e1 w9 ⟨rfl, hf9, ho9⟩
  have HF9 := Lib.hid hf9
  have HO9' := Lib.hid (ho9.mono (T := Three p c er) (fun _ _ h => Or.inl h))
  clear hf9 ho9 hx0 hx1 Hfu
  -- Erase
  have hcode : (fl.fused 0 kk mk).code = 5 := rfl
  have her := erase_in p c er 1 m (fl.fused 0 kk mk) _ HF9.out Hfl.out.2.1 Hfl.out.2.2.2.2.2.2.1 (by show m < fl.L; rw [Hfl.out.2.2.2.2.2.1]; omega)
  rw [hcode] at her
  have Her := Lib.hid her
  clear her hcode
  go_wp2_with fail
  refine Her.out.mono ?_
  rintro e1 w10 ⟨rfl, hf10, ho10⟩
  have HF10 := Lib.hid hf10
  have HO10' := Lib.hid (HO9'.out.trans ho10)
  clear hf10 ho10 Her
  -- Reset
  go_wp2_with fail
  refine (reset_any p c er _ _ HF10.out).mono ?_
  rintro e1 w11 ⟨rfl, hf11, ho11⟩
  have HO11' := Lib.hid (HO10'.out.trans (ho11.mono (T := Three p c er) (fun _ _ h => Or.inl h)))
  have HO11 := Lib.hid (HO8.out.trans HO11'.out)
  obtain ⟨q, hq, hs11⟩ := torn_sec HS8.out kk mk fl ⟨Hfl.out.2.2.2.1, Hfl.out.2.2.2.2.1, Hfl.out.2.2.2.2.2.1, Hfl.out.2.2.2.2.2.2.1, Hfl.out.2.2.2.2.2.2.2⟩ hf11
  have HS11 := Lib.hid hs11
  have HU := Lib.hid (torn_unused s ys Hyl.out q mk)
  have HM11 := Lib.hid (HM3.out.only HO11.out HP0.out)
  have Hk11 := Lib.hid (HO11'.out.blk Hk7.out HT7.out)
  clear hf11 ho11 hs11 hq
  -- Look
  obtain ⟨a12, ha12⟩ : ∃ a, a = stS ((voidB s ys).mapIdx (eraseF 0 q 84 mk)) := ⟨_, rfl⟩
  obtain ⟨b12, hb12⟩ : ∃ b, b = stQ ((voidB s ys).mapIdx (eraseF 0 q 84 mk)) := ⟨_, rfl⟩
  have hne2 : (a12 == 2) = false := by
    rw [beq_eq_false_iff_ne, ha12]
    rcases stS_unused HU.out with h | h <;> rw [h] <;> decide
  have hne2' : (a12 != 2) = true := by simp only [bne, hne2]; rfl
  have Hab := Lib.hid (And.intro ha12 hb12)
  clear ha12 hb12
  go_wp2_with fail
  refine (look_sec p c er 2 84 9 1 (m + 1) _ _ HS11.out HM11.out).mono ?_
  rintro e1 w12 ⟨he, hb12⟩
  rw [← Hab.out.1, ← Hab.out.2] at he
  subst he
  have HS12 := Lib.hid (HS11.out.below hb12)
  have HO12 := Lib.hid (HO11.out.trans (Only.of_below (S := Three p c er) hb12))
  have Hk12 := Lib.hid (Hk11.out.of (hb12.block w7.heap.size Hk11.out.lt))
  have hz12' : w7.heap.size < w12.heap.size := Hk12.out.lt
  clear hb12
  have Hq12 := Lib.hid (Blk.new w12 43 #[.int .i64 a12, .int .u32 b12, .int .i64 ((m + 1 : Nat) : Int)])
  have HS13 := Lib.hid (HS12.out.of ((Only.refl Empty w12).alloc (.cells #[.int .i64 a12, .int .u32 b12, .int .i64 ((m + 1 : Nat) : Int)] 43)) (fun h => h) (fun h => h) (fun h => h))
  have HO13 := Lib.hid (HO12.out.alloc (.cells #[.int .i64 a12, .int .u32 b12, .int .i64 ((m + 1 : Nat) : Int)] 43))
  have y0 := Hk12.out.cell 0
  simp at y0
  go_wp2_with fail
  refine (void_out p c er 2 84 9 1 (m + 1) _ 9 _ HS13.out (by omega)).mono ?_
  rintro e1 w14 ⟨rfl, hb14⟩
  have HS14 := Lib.hid (HS13.out.below hb14)
  have HO14 := Lib.hid (HO13.out.trans (Only.of_below (S := Three p c er) hb14))
  have HM14 := Lib.hid (HM3.out.only HO14.out HP0.out)
  clear hb14
  go_wp2_with fail
  refine (open_sec p c er 2 84 9 1 (m + 1) s _ _ HS14.out HM14.out HP0.out HU.out (by omega) hs).mono ?_
  rintro e1 w15 ⟨rfl, -, ho15⟩
  have HO15 := Lib.hid (HO14.out.trans ho15)
  clear ho15
  go_wp2
  go_ret
  exact ⟨rfl, Hend.out _ HO15.out⟩

set_option maxHeartbeats 1000000 in
theorem pageVoids_calls (s : Nat) (A : Option Addr) (n cap : Nat) (ys : List UInt8) (kk : Int) (mk : UInt8) (w : World) (hB0 : ByteSl w (fun k => w.heap.size ≤ k) A n cap ys) (hM : Mark w) (hs : s ≤ 4294967295) (k1 : -9223372036854775808 ≤ kk) (k2 : kk ≤ 9223372036854775807) :
    Calls Tryd.prog 4 #[.int .u32 (s : Int), .slice A n cap, .agg #[.int .i64 kk, B8 mk]] w fun e w' => e = .returned (.bool true) ∧ Below w.heap.size w w' := by
  by_cases hn : n ≤ 50
  · exact pageVoids_short s A n cap ys kk mk w hB0 hM hs k1 k2 hn
  · have hn9 : n ≤ 9223372036854775807 := by have := hB0.2.1; have := hB0.2.2.1; unfold maxLen at this; omega
    have HM := Lib.hid hM
    have Hw0 := Lib.hid ((Below.refl w.heap.size w).alloc (Nat.le_refl _) (.cells #[.int .i64 kk, .int .u8 (mk.toNat : Int)] 33))
    clear hM hB0
    unfold B8
    go_enter Tryd.func4, Tryd.ntmps4
    go_wp2_with fail
    refine (fixed4_any _ (HM.out.below Hw0.out)).mono ?_
    rintro e1 w1 ⟨rfl, hb1⟩
    have Hw1 := Lib.hid (Hw0.out.trans (hb1.mono Hw0.out.size))
    clear hb1
    go_wp2
    go_ret
    exact ⟨rfl, Hw1.out⟩

end Go.Proofs.YtdhnbeimkeoefaaDoor
