/- The walk over page.Open, told of one sector. -/
import Derived.Test.YtnhfmcijadficaaGreatDoorZai
import Derived.Test.YtnhfmcijadficaaGreatDoorZaf
import Derived.Test.YtnhfmcijadficaaGreatDoorZag
import Derived.Test.YtnhfmcijadficaaGreatDoorZaa
import Derived.Lib.SlBytesConst
import Derived.Deep.QuietTactic
import Derived.BigQuiet
import Derived.RegionTactic
import Derived.ChangeAlike
namespace Go.Proofs.YtnhfmcijadficaaGreatDoor
set_option maxRecDepth 100000
open Go.RowKit

/-- The bytes of a sector of Z bytes that was opened. -/
def openB (Z s : Nat) : List UInt8 := splice (splice (List.replicate Z 255) 0 (headB s)) 8 [0]

theorem and_none (x : UInt8) : x &&& ~~~(255 : UInt8) = 0 := by
  have e : ~~~(255 : UInt8) = 0 := by decide
  rw [e, UInt8.and_zero]
theorem fits_blank (Z o : Nat) (ys : List UInt8) (h : o + ys.length ≤ Z) : Fits (List.replicate Z 255) o ys := by
  intro j hj
  rw [List.getElem?_replicate, if_pos (by omega)]
  exact and_none _

theorem all_255 (xs : List UInt8) (h : xs.count 255 = xs.length) : xs = List.replicate xs.length 255 := by
  rw [List.eq_replicate_iff]
  exact ⟨rfl, fun b hb => (List.count_eq_length.1 h b hb).symm⟩

theorem Sec.three (w : World) (p c e S Z L k m : Nat) (xs : List UInt8) (hs : Sec w p c e S Z L k m xs) (q : Nat) (h : w.heap.size ≤ q) : ¬ Three p c e q := by
  obtain ⟨fl, hf, _⟩ := hs
  have h1 := hf.hd.lt
  have h2 := hf.ce.lt
  have h3 := hf.er.lt
  intro h
  rcases h with h | h | h <;> omega

set_option maxHeartbeats 4000000 in
theorem open_sec (p c e S Z L k m s : Nat) (xs : List UInt8) (w : World) (hs : Sec w p c e S Z L k m xs) (hM : Mark w) (hp0 : ¬ Three p c e 0) (hu : stU xs = false) (hml : m < L) (hs32 : s ≤ 4294967295) :
    Calls Tryz.prog 187 #[.pointer (some ⟨p, 0, none⟩), .int .i64 (k : Int), .int .u32 (s : Int)] w fun e1 w' => e1 = .returned (.int .i64 0) ∧ (∃ m', m' ≤ m + 1 ∧ Sec w' p c e S Z L k m' (openB Z s)) ∧ Only (Three p c e) w w' := by
  have HS := Lib.hid hs
  have HM := Lib.hid hM
  have HP0 := Lib.hid hp0
  have hxl := Lib.hid hs.len
  have hz := hs.bz
  have hst : stS xs = if xs.count 255 = xs.length then 0 else 1 := by rw [stS, if_neg (by rw [hu]; decide)]
  have hsq : stQ xs = 0 := by rw [stQ, if_neg (by rw [hu]; decide)]
  have Hst := Lib.hid (And.intro hst hsq)
  have Hml := Lib.hid hml
  clear hs hM hu hst hsq hml hp0
  by_cases hb : xs.count 255 = xs.length
  · have Hb := Lib.hid hb
    have Hz : Hid (stS xs = 0 ∧ stQ xs = 0) := Lib.hid ⟨by rw [Hst.out.1, if_pos hb], Hst.out.2⟩
    have Hxs : Hid (xs = List.replicate Z 255) := Lib.hid (by have := all_255 xs hb; rw [hxl.out] at this; exact this)
    clear hb
    go_enter Tryz.func187, Tryz.ntmps187
    go_wp2_with fail
    refine (look_sec p c e S Z L k m xs _ HS.out HM.out).mono ?_
    rintro e1 w1 ⟨he, hb1⟩
    rw [Hz.out.1, Hz.out.2] at he
    subst he
    have Hb1 := Lib.hid (hb1.alloc hb1.size (.cells #[.int .i64 0, .int .u32 0, .int .i64 (m : Int)] 96))
    clear hb1
    have HS1 := Lib.hid (HS.out.below Hb1.out)
    have HO1 := Lib.hid (Only.of_below (S := Three p c e) Hb1.out)
    have HM1 := Lib.hid (HM.out.only HO1.out HP0.out)
    rw [Hxs.out] at HS1
    go_wp2_with fail
    refine (start_sec p c e S Z L k m _ _ HS1.out).mono ?_
    rintro e1 w2 ⟨rfl, hb2⟩
    have HS2 := Lib.hid (HS1.out.below hb2)
    have HO2 := Lib.hid (HO1.out.trans (Only.of_below (S := Three p c e) hb2))
    have HM2 := Lib.hid (HM.out.only HO2.out HP0.out)
    obtain ⟨T, hTe⟩ : ∃ T, T = k * Z := ⟨_, rfl⟩
    rw [← hTe]
    have HTe := Lib.hid hTe
    clear hb2 hTe
    go_wp2_with fail
    refine (pgBytes_any s _ hs32 HM2.out).mono ?_
    rintro e1 w3 ⟨⟨u3, rfl, hown3⟩, hb3⟩
    obtain ⟨A3, cap3, rfl, hB3, -⟩ := ByteSl.of_own (S := Three p c e) hown3 (fun q h1 _ => Sec.three w2 p c e S Z L k _ _ HS2.out q h1)
    have HS3 := Lib.hid (HS2.out.below hb3)
    have HO3 := Lib.hid (HO2.out.trans (Only.of_below (S := Three p c e) hb3))
    have hpr := prog_sec p c e S Z L k (m) 0 8 cap3 _ (headB s) A3 _ HS3.out hB3 (by omega) (fits_blank Z 0 (headB s) (by rw [headB_len]; omega))
    rw [Nat.add_zero, ← HTe.out] at hpr
    have Hpr := Lib.hid hpr
    clear hpr hown3 hb3 hB3
    go_wp2_with fail
    refine Hpr.out.mono ?_
    rintro e1 w4 ⟨rfl, hs4, ho4⟩
    have HS4 := Lib.hid hs4
    have HO4 := Lib.hid (HO3.out.trans ho4)
    clear hs4 ho4 Hpr
    go_wp2_with fail
    refine (setFlag_sec p c e S Z L k (m) 8 _ _ HS4.out (by omega)).mono ?_
    rintro e1 w5 ⟨rfl, hs5, ho5⟩
    have HE := Lib.hid (And.intro hs5 (HO4.out.trans ho5))
    clear hs5 ho5
    go_wp2
    go_ret
    exact ⟨rfl, ⟨m, by omega, HE.out.1⟩, HE.out.2⟩
  · have Hz : Hid (stS xs = 1 ∧ stQ xs = 0) := Lib.hid ⟨by rw [Hst.out.1, if_neg hb], Hst.out.2⟩
    clear hb
    go_enter Tryz.func187, Tryz.ntmps187
    go_wp2_with fail
    refine (look_sec p c e S Z L k m xs _ HS.out HM.out).mono ?_
    rintro e1 w0 ⟨he, hb0⟩
    rw [Hz.out.1, Hz.out.2] at he
    subst he
    have Hb0 := Lib.hid (hb0.alloc hb0.size (.cells #[.int .i64 1, .int .u32 0, .int .i64 (m : Int)] 96))
    clear hb0
    have HS0 := Lib.hid (HS.out.below Hb0.out)
    have HO0 := Lib.hid (Only.of_below (S := Three p c e) Hb0.out)
    go_wp2_with fail
    refine (erase_sec p c e S Z L k m xs _ HS0.out Hml.out).mono ?_
    rintro e1 w1 ⟨rfl, hs1, ho1⟩
    have HS1 := Lib.hid hs1
    have HO1 := Lib.hid (HO0.out.trans ho1)
    clear hs1 ho1
    go_wp2_with fail
    refine (start_sec p c e S Z L k (m + 1) _ _ HS1.out).mono ?_
    rintro e1 w2 ⟨rfl, hb2⟩
    have HS2 := Lib.hid (HS1.out.below hb2)
    have HO2 := Lib.hid (HO1.out.trans (Only.of_below (S := Three p c e) hb2))
    have HM2 := Lib.hid (HM.out.only HO2.out HP0.out)
    obtain ⟨T, hTe⟩ : ∃ T, T = k * Z := ⟨_, rfl⟩
    rw [← hTe]
    have HTe := Lib.hid hTe
    clear hb2 hTe
    go_wp2_with fail
    refine (pgBytes_any s _ hs32 HM2.out).mono ?_
    rintro e1 w3 ⟨⟨u3, rfl, hown3⟩, hb3⟩
    obtain ⟨A3, cap3, rfl, hB3, -⟩ := ByteSl.of_own (S := Three p c e) hown3 (fun q h1 _ => Sec.three w2 p c e S Z L k _ _ HS2.out q h1)
    have HS3 := Lib.hid (HS2.out.below hb3)
    have HO3 := Lib.hid (HO2.out.trans (Only.of_below (S := Three p c e) hb3))
    have hpr := prog_sec p c e S Z L k (m + 1) 0 8 cap3 _ (headB s) A3 _ HS3.out hB3 (by omega) (fits_blank Z 0 (headB s) (by rw [headB_len]; omega))
    rw [Nat.add_zero, ← HTe.out] at hpr
    have Hpr := Lib.hid hpr
    clear hpr hown3 hb3 hB3
    go_wp2_with fail
    refine Hpr.out.mono ?_
    rintro e1 w4 ⟨rfl, hs4, ho4⟩
    have HS4 := Lib.hid hs4
    have HO4 := Lib.hid (HO3.out.trans ho4)
    clear hs4 ho4 Hpr
    go_wp2_with fail
    refine (setFlag_sec p c e S Z L k (m + 1) 8 _ _ HS4.out (by omega)).mono ?_
    rintro e1 w5 ⟨rfl, hs5, ho5⟩
    have HE := Lib.hid (And.intro hs5 (HO4.out.trans ho5))
    clear hs5 ho5
    go_wp2
    go_ret
    exact ⟨rfl, ⟨m + 1, by omega, HE.out.1⟩, HE.out.2⟩

end Go.Proofs.YtnhfmcijadficaaGreatDoor

/- Records as plain data, and the walks over what tells of a header alone: changes, mayBe, headOf, size, Size, and the document's Right and Size. -/
namespace Go.Proofs.YtnhfmcijadficaaGreatDoor
set_option maxRecDepth 100000
open Go.RowKit

/-- May a change have such a key and count? -/
def chB (key count : Int) : Bool := decide (1 ≤ key ∧ key ≤ 64 ∧ count = 0)
/-- May a record be? Of key and blob their lengths. -/
def mayB (kind txn key blob count : Int) : Bool :=
  decide (txn ≠ 0 ∧ ((kind = 1 ∧ 1 ≤ key ∧ key ≤ 64 ∧ count = 0 ∧ blob ≤ 4096) ∨ (kind = 2 ∧ 1 ≤ key ∧ key ≤ 64 ∧ count = 0 ∧ blob = 0) ∨ (kind = 3 ∧ key = 0 ∧ blob = 0 ∧ 0 ≤ count ∧ count ≤ 16)))

theorem mayB_iff {kind txn key blob count : Int} : mayB kind txn key blob count = true ↔
    (txn ≠ 0 ∧ ((kind = 1 ∧ 1 ≤ key ∧ key ≤ 64 ∧ count = 0 ∧ blob ≤ 4096) ∨ (kind = 2 ∧ 1 ≤ key ∧ key ≤ 64 ∧ count = 0 ∧ blob = 0) ∨ (kind = 3 ∧ key = 0 ∧ blob = 0 ∧ 0 ≤ count ∧ count ≤ 16))) := by
  unfold mayB
  exact decide_eq_true_iff
theorem chB_iff {key count : Int} : chB key count = true ↔ (1 ≤ key ∧ key ≤ 64 ∧ count = 0) := by
  unfold chB
  exact decide_eq_true_iff

/-- A bool that a decision is. -/
theorem ret_b {a b : Bool} (h : a = true ↔ b = true) : Ending.returned (.bool a) = .returned (.bool b) := by
  rw [Bool.eq_iff_iff.2 h]

theorem changes_any (k t a b c : Int) (w : World) : Calls Tryz.prog 183 #[.agg #[.int .i64 k, .int .u32 t, .int .i64 a, .int .i64 b, .int .i64 c]] w fun e w' =>
    e = .returned (.bool (chB a c)) ∧ w' = w.alloc (.cells #[.int .i64 k, .int .u32 t, .int .i64 a, .int .i64 b, .int .i64 c] 199) := by
  have H := Lib.hid (@chB_iff a c)
  by_cases h1 : 1 ≤ a
  · by_cases h2 : a ≤ 64
    · go_enter Tryz.func183, Tryz.ntmps183
      go_wp2
      go_ret
      exact ⟨ret_b (by rw [H.out]; simp; omega), rfl⟩
    · go_enter Tryz.func183, Tryz.ntmps183
      go_wp2
      go_ret
      exact ⟨ret_b (by rw [H.out]; simp; omega), rfl⟩
  · go_enter Tryz.func183, Tryz.ntmps183
    go_wp2
    go_ret
    exact ⟨ret_b (by rw [H.out]; simp; omega), rfl⟩

set_option maxHeartbeats 1000000 in
theorem mayBe_any (k t a b c : Int) (w : World) : Calls Tryz.prog 157 #[.agg #[.int .i64 k, .int .u32 t, .int .i64 a, .int .i64 b, .int .i64 c]] w fun e w' =>
    e = .returned (.bool (mayB k t a b c)) ∧ Below w.heap.size w w' := by
  have H := Lib.hid (@mayB_iff k t a b c)
  have hbw := (Below.refl w.heap.size w).alloc (Nat.le_refl _) (.cells #[.int .i64 k, .int .u32 t, .int .i64 a, .int .i64 b, .int .i64 c] 199)
  have Hb := Lib.hid hbw
  have Hb2 := Lib.hid (hbw.alloc (by simp) (.cells #[.int .i64 k, .int .u32 t, .int .i64 a, .int .i64 b, .int .i64 c] 199))
  clear hbw
  by_cases ht : t = 0
  · subst ht
    go_enter Tryz.func157, Tryz.ntmps157
    go_wp2
    go_ret
    exact ⟨ret_b (by rw [H.out]; simp), Hb.out⟩
  · have ht2 : (t == 0) = false := by simpa using ht
    have Ht := Lib.hid ht
    clear ht
    by_cases hk1 : k = 1
    · subst hk1
      have Hc := Lib.hid (@chB_iff a c)
      cases hch : chB a c with
      | true =>
        go_enter Tryz.func157, Tryz.ntmps157
        go_wp2_with ((with_reducible refine (changes_any _ _ _ _ _ _).mono ?_); rintro e w' ⟨rfl, rfl⟩)
        go_ret
        exact ⟨ret_b (by rw [H.out]; have := Hc.out.1 hch; have := Ht.out; simp; omega), Hb2.out⟩
      | false =>
        go_enter Tryz.func157, Tryz.ntmps157
        go_wp2_with ((with_reducible refine (changes_any _ _ _ _ _ _).mono ?_); rintro e w' ⟨rfl, rfl⟩)
        go_ret
        have hn : ¬ (1 ≤ a ∧ a ≤ 64 ∧ c = 0) := fun h => (Bool.eq_false_iff.1 hch) (Hc.out.2 h)
        exact ⟨ret_b (by rw [H.out]; simp; omega), Hb2.out⟩
    · by_cases hk2 : k = 2
      · subst hk2
        clear hk1
        have Hc := Lib.hid (@chB_iff a c)
        cases hch : chB a c with
        | true =>
          go_enter Tryz.func157, Tryz.ntmps157
          go_wp2_with ((with_reducible refine (changes_any _ _ _ _ _ _).mono ?_); rintro e w' ⟨rfl, rfl⟩)
          go_ret
          exact ⟨ret_b (by rw [H.out]; have := Hc.out.1 hch; have := Ht.out; simp; omega), Hb2.out⟩
        | false =>
          go_enter Tryz.func157, Tryz.ntmps157
          go_wp2_with ((with_reducible refine (changes_any _ _ _ _ _ _).mono ?_); rintro e w' ⟨rfl, rfl⟩)
          go_ret
          have hn : ¬ (1 ≤ a ∧ a ≤ 64 ∧ c = 0) := fun h => (Bool.eq_false_iff.1 hch) (Hc.out.2 h)
          exact ⟨ret_b (by rw [H.out]; simp; omega), Hb2.out⟩
      · by_cases hk3 : k = 3
        · subst hk3
          clear hk1 hk2
          by_cases ha : a = 0
          · subst ha
            by_cases hb : b = 0
            · subst hb
              by_cases hc : 0 ≤ c
              · go_enter Tryz.func157, Tryz.ntmps157
                go_wp2
                go_ret
                exact ⟨ret_b (by rw [H.out]; have := Ht.out; simp; omega), Hb.out⟩
              · go_enter Tryz.func157, Tryz.ntmps157
                go_wp2
                go_ret
                exact ⟨ret_b (by rw [H.out]; simp; omega), Hb.out⟩
            · have hb2 : (b == 0) = false := by simpa using hb
              have HB := Lib.hid hb
              clear hb
              go_enter Tryz.func157, Tryz.ntmps157
              go_wp2
              go_ret
              exact ⟨ret_b (by rw [H.out]; have := HB.out; simp; omega), Hb.out⟩
          · have ha2 : (a == 0) = false := by simpa using ha
            have HA := Lib.hid ha
            clear ha
            go_enter Tryz.func157, Tryz.ntmps157
            go_wp2
            go_ret
            exact ⟨ret_b (by rw [H.out]; have := HA.out; simp; omega), Hb.out⟩
        · have q1 : (k == 1) = false := by simpa using hk1
          have q2 : (k == 2) = false := by simpa using hk2
          have q3 : (k == 3) = false := by simpa using hk3
          have HK := Lib.hid (And.intro hk1 (And.intro hk2 hk3))
          clear hk1 hk2 hk3
          go_enter Tryz.func157, Tryz.ntmps157
          go_wp2
          go_ret
          exact ⟨ret_b (by rw [H.out]; have := HK.out; simp; omega), Hb.out⟩

theorem headOf_any (k t c : Int) (s : ByteArray) (A : Option Addr) (n cap : Nat) (w : World) : Calls Tryz.prog 128 #[.agg #[.int .i64 k, .int .u32 t, .string s, .slice A n cap, .int .i64 c]] w fun e w' =>
    e = .returned (.agg #[.int .i64 k, .int .u32 t, .int .i64 (s.size : Int), .int .i64 (n : Int), .int .i64 c]) ∧ Below w.heap.size w w' := by
  go_enter Tryz.func128, Tryz.ntmps128
  go_wp2
  refine bodyPost_ret (v := .agg #[.int .i64 k, .int .u32 t, .int .i64 (s.size : Int), .int .i64 (n : Int), .int .i64 c]) (by simp [results, Tryz.results128, go_sem]) rfl ⟨rfl, ?_⟩
  exact ((Below.refl _ _).alloc (Nat.le_refl _) _).alloc (by simp) _

theorem hSize_any (k t c : Int) (a b : Nat) (w : World) (ha : a ≤ 1048576) (hb : b ≤ 1048576) : Calls Tryz.prog 129 #[.agg #[.int .i64 k, .int .u32 t, .int .i64 (a : Int), .int .i64 (b : Int), .int .i64 c]] w fun e w' =>
    e = .returned (.int .i64 (((a + b + 16 : Nat)) : Int)) ∧ Below w.heap.size w w' := by
  go_enter Tryz.func129, Tryz.ntmps129
  go_wp2
  go_ret
  exact ⟨congrArg (fun v : Int => Ending.returned (Value.int .i64 v)) (by omega), (Below.refl _ _).alloc (Nat.le_refl _) _⟩

theorem rcSize_any (k t c : Int) (s : ByteArray) (A : Option Addr) (n cap : Nat) (w : World) (hs : s.size ≤ 1048576) (hn : n ≤ 1048576) : Calls Tryz.prog 89 #[.agg #[.int .i64 k, .int .u32 t, .string s, .slice A n cap, .int .i64 c]] w fun e w' =>
    e = .returned (.int .i64 (((s.size + n + 16 : Nat)) : Int)) ∧ Below w.heap.size w w' := by
  go_enter Tryz.func89, Tryz.ntmps89
  go_wp2_with fail
  have hb0 := (Below.refl w.heap.size w).alloc (Nat.le_refl _) (.cells #[.int .i64 k, .int .u32 t, .string s, .slice A n cap, .int .i64 c] 161)
  refine (headOf_any k t c s A n cap _).mono ?_
  rintro e1 w1 ⟨rfl, hb1⟩
  have Hb1 := Lib.hid (hb0.trans (hb1.mono hb0.size))
  clear hb0 hb1
  go_wp2_with fail
  refine (hSize_any k t c s.size n _ hs hn).mono ?_
  rintro e1 w2 ⟨rfl, hb2⟩
  have Hb2 := Lib.hid (Hb1.out.trans (hb2.mono Hb1.out.size))
  clear hb2
  go_wp2
  go_ret
  exact ⟨rfl, Hb2.out⟩


end Go.Proofs.YtnhfmcijadficaaGreatDoor

/- The walks over the document's Right and Same. -/
namespace Go.Proofs.YtnhfmcijadficaaGreatDoor
set_option maxRecDepth 100000
open Go.RowKit

theorem str_list (s : ByteArray) : s.toList = s.data.toList := by
  have e : s = strB s.data.toList := by
    apply ByteArray.ext
    simp [strB]
  have h := strB_toList s.data.toList
  rw [← e] at h
  exact h
theorem str_empty (s : ByteArray) (h : s.size = 0) : s = strB [] := by
  apply ByteArray.ext
  have : s.data.size = 0 := h
  rw [Array.eq_empty_of_size_eq_zero this]
  rfl


end Go.Proofs.YtnhfmcijadficaaGreatDoor
