/- Int and Long, the program's and the document's: each outcome. -/
import Derived.Test.YtadnenoehdemkaaNb
import Derived.Test.YtadnenoehdemkaaNc
import Derived.Test.YtadnenoehdemkaaNd
import Derived.Test.YtadnenoehdemkaaNe
namespace Go.Proofs.Ytadnenoehdemkaa
open Go.RowKit

/-- A sum's outcome and error. -/
def outOf (val : Nat → Int → Int → Int) (op a b : Int) : Int × Int :=
  if op < 1 ∨ 11 < op then (0, 1) else if b = 0 ∧ (op = 4 ∨ op = 5) then (0, 2) else (val op.toNat a b, 0)

theorem rk32_out (op a b : Int) (w : World) (a1 : -2147483648 ≤ a) (a2 : a ≤ 2147483647) :
    Calls Try.prog 33 #[.int .i64 op, .int .i32 a, .int .i32 b, .int .u32 31] w fun e w' => e = .returned (.tuple #[.int .i32 (outOf val32 op a b).1, .int .i64 (outOf val32 op a b).2]) ∧ w = w' := by
  unfold outOf
  by_cases h : op < 1 ∨ 11 < op
  · rw [if_pos h]
    exact rk32_none op a b w h
  · rw [if_neg h]
    by_cases hz : b = 0 ∧ (op = 4 ∨ op = 5)
    · rw [if_pos hz]
      obtain ⟨rfl, ho⟩ := hz
      rcases ho with rfl | rfl
      · exact rk32_divz a w
      · exact rk32_remz a w
    · rw [if_neg hz]
      have hr := rk32_any op.toNat a b w (by omega) (by omega) a1 a2 (fun ho hb => hz ⟨hb, by omega⟩)
      rw [show ((op.toNat : Nat) : Int) = op by omega] at hr
      exact hr
theorem rk64_out (op a b : Int) (w : World) (a1 : -9223372036854775808 ≤ a) (a2 : a ≤ 9223372036854775807) :
    Calls Try.prog 35 #[.int .i64 op, .int .i64 a, .int .i64 b, .int .u64 63] w fun e w' => e = .returned (.tuple #[.int .i64 (outOf val64 op a b).1, .int .i64 (outOf val64 op a b).2]) ∧ w = w' := by
  unfold outOf
  by_cases h : op < 1 ∨ 11 < op
  · rw [if_pos h]
    exact rk64_none op a b w h
  · rw [if_neg h]
    by_cases hz : b = 0 ∧ (op = 4 ∨ op = 5)
    · rw [if_pos hz]
      obtain ⟨rfl, ho⟩ := hz
      rcases ho with rfl | rfl
      · exact rk64_divz a w
      · exact rk64_remz a w
    · rw [if_neg hz]
      have hr := rk64_any op.toNat a b w (by omega) (by omega) a1 a2 (fun ho hb => hz ⟨hb, by omega⟩)
      rw [show ((op.toNat : Nat) : Int) = op by omega] at hr
      exact hr

theorem rr32_out (op a b : Int) (w : World) (a1 : -2147483648 ≤ a) (a2 : a ≤ 2147483647) :
    Calls Try.prog 34 #[.int .i64 op, .int .i64 a, .int .i64 b, .int .i64 32] w fun e w' => e = .returned (.tuple #[.int .i64 (outOf val32 op a b).1, .int .i64 (outOf val32 op a b).2]) ∧ w = w' := by
  unfold outOf
  by_cases h : op < 1 ∨ 11 < op
  · rw [if_pos h]
    exact rr32_none op a b w h
  · rw [if_neg h]
    by_cases hz : b = 0 ∧ (op = 4 ∨ op = 5)
    · rw [if_pos hz]
      obtain ⟨rfl, ho⟩ := hz
      exact rr32_zero op a w ho
    · rw [if_neg hz]
      rcases (by omega : op = 1 ∨ op = 2 ∨ op = 3 ∨ op = 4 ∨ op = 5 ∨ op = 6 ∨ op = 7 ∨ op = 8 ∨ op = 9 ∨ op = 10 ∨ op = 11) with rfl | rfl | rfl | rfl | rfl | rfl | rfl | rfl | rfl | rfl | rfl
      · exact rr32_add a b w a1 a2
      · exact rr32_sub a b w a1 a2
      · exact rr32_mul a b w a1 a2
      · by_cases hm : b = -1
        · subst hm; exact rr32_divm a w
        · exact rr32_div a b w a1 a2 (fun hb => hz ⟨hb, Or.inl rfl⟩) hm
      · by_cases hm : b = -1
        · subst hm; exact rr32_remm a w
        · exact rr32_rem a b w (fun hb => hz ⟨hb, Or.inr rfl⟩) hm
      · exact rr32_and a b w a1 a2
      · exact rr32_or a b w a1 a2
      · exact rr32_xor a b w a1 a2
      · exact rr32_shl a b w a1 a2
      · by_cases hn : a < 0
        · exact rr32_shrn a b w a1 a2 hn
        · exact rr32_shrp a b w a1 a2 hn
      · exact rr32_ushr a b w a1 a2
theorem rr64_out (op a b : Int) (w : World) (a1 : -9223372036854775808 ≤ a) (a2 : a ≤ 9223372036854775807) (hs : op = 10 → (b % 64).toNat ≤ 62) :
    Calls Try.prog 34 #[.int .i64 op, .int .i64 a, .int .i64 b, .int .i64 64] w fun e w' => e = .returned (.tuple #[.int .i64 (outOf val64 op a b).1, .int .i64 (outOf val64 op a b).2]) ∧ w = w' := by
  unfold outOf
  by_cases h : op < 1 ∨ 11 < op
  · rw [if_pos h]
    exact rr64_none op a b w h
  · rw [if_neg h]
    by_cases hz : b = 0 ∧ (op = 4 ∨ op = 5)
    · rw [if_pos hz]
      obtain ⟨rfl, ho⟩ := hz
      exact rr64_zero op a w ho
    · rw [if_neg hz]
      rcases (by omega : op = 1 ∨ op = 2 ∨ op = 3 ∨ op = 4 ∨ op = 5 ∨ op = 6 ∨ op = 7 ∨ op = 8 ∨ op = 9 ∨ op = 10 ∨ op = 11) with rfl | rfl | rfl | rfl | rfl | rfl | rfl | rfl | rfl | rfl | rfl
      · exact rr64_add a b w a1 a2
      · exact rr64_sub a b w a1 a2
      · exact rr64_mul a b w a1 a2
      · by_cases hm : b = -1
        · subst hm; exact rr64_divm a w
        · exact rr64_div a b w a1 a2 (fun hb => hz ⟨hb, Or.inl rfl⟩) hm
      · by_cases hm : b = -1
        · subst hm; exact rr64_remm a w
        · exact rr64_rem a b w (fun hb => hz ⟨hb, Or.inr rfl⟩) hm
      · exact rr64_and a b w a1 a2
      · exact rr64_or a b w a1 a2
      · exact rr64_xor a b w a1 a2
      · exact rr64_shl a b w a1 a2
      · by_cases hn : a < 0
        · exact rr64_shrn a b w a1 a2 (hs rfl) hn
        · exact rr64_shrp a b w a1 a2 (hs rfl) hn
      · exact rr64_ushr a b w a1 a2

theorem wrap32_bd (n : Int) : -2147483648 ≤ wrap32 n ∧ wrap32 n ≤ 2147483647 := by unfold wrap32; omega
theorem i32_bd (n : Int) : -2147483648 ≤ IntKind.i32.wrap n ∧ IntKind.i32.wrap n ≤ 2147483647 := by rw [IntKind.wrap_i32]; omega
theorem val32_bd (op : Nat) (a b : Int) (a1 : -2147483648 ≤ a) (a2 : a ≤ 2147483647) : -2147483648 ≤ val32 op a b ∧ val32 op a b ≤ 2147483647 := by
  unfold val32
  split
  · exact wrap32_bd _
  · exact wrap32_bd _
  · exact wrap32_bd _
  · exact wrap32_bd _
  · have h : (a.tmod b).natAbs = a.natAbs % b.natAbs := Int.natAbs_tmod a b
    have h2 : (a.tmod b).natAbs ≤ a.natAbs := by rw [h]; exact Nat.mod_le _ _
    clear h
    have h3 : a < 0 → a.tmod b ≤ 0 := fun hn => by
      have h4 : 0 ≤ (-a).tmod b := Int.tmod_nonneg b (by omega)
      rw [Int.neg_tmod] at h4
      omega
    generalize a.tmod b = r at h2 h3
    omega
  · exact i32_bd _
  · exact i32_bd _
  · exact i32_bd _
  · exact wrap32_bd _
  · have hp : (0 : Int) < 2 ^ (b % 32).toNat := Int.pow_pos (by decide)
    generalize (2 : Int) ^ (b % 32).toNat = p at hp
    have h1 := Int.mul_ediv_add_emod a p
    have h2 := Int.emod_nonneg a (by omega : p ≠ 0)
    have h3 := Int.emod_lt_of_pos a (by omega : 0 < p)
    by_cases hn : a < 0
    · have h4 := floor_neg a p (by omega)
      have h5 : 0 ≤ (-1 - a) / p := Int.ediv_nonneg (by omega) (by omega)
      have h6 : (-1 - a) / p ≤ -1 - a := Int.ediv_le_self _ (by omega)
      omega
    · have h5 : 0 ≤ a / p := Int.ediv_nonneg (by omega) (by omega)
      have h6 : a / p ≤ a := Int.ediv_le_self _ (by omega)
      omega
  · exact wrap32_bd _
  · omega

theorem int_any (op a b : Int) (w : World) (a1 : -2147483648 ≤ a) (a2 : a ≤ 2147483647) :
    Calls Try.prog 19 #[.int .i64 op, .int .i32 a, .int .i32 b] w fun e w' => e = .returned (.tuple #[.int .i32 (outOf val32 op a b).1, .int .i64 (outOf val32 op a b).2]) ∧ w = w' := by
  have H := Lib.hid (rk32_out op a b w a1 a2)
  go_enter Try.func19, Try.ntmps19
  go_wp2_with fail
  refine H.out.mono ?_
  rintro e1 w1 ⟨rfl, rfl⟩
  go_wp2
  go_ret2
  exact ⟨rfl, rfl⟩
theorem long_any (op a b : Int) (w : World) (a1 : -9223372036854775808 ≤ a) (a2 : a ≤ 9223372036854775807) :
    Calls Try.prog 21 #[.int .i64 op, .int .i64 a, .int .i64 b] w fun e w' => e = .returned (.tuple #[.int .i64 (outOf val64 op a b).1, .int .i64 (outOf val64 op a b).2]) ∧ w = w' := by
  have H := Lib.hid (rk64_out op a b w a1 a2)
  go_enter Try.func21, Try.ntmps21
  go_wp2_with fail
  refine H.out.mono ?_
  rintro e1 w1 ⟨rfl, rfl⟩
  go_wp2
  go_ret2
  exact ⟨rfl, rfl⟩

theorem out32_wrap (op a b : Int) (a1 : -2147483648 ≤ a) (a2 : a ≤ 2147483647) : wrap32 (outOf val32 op a b).1 = (outOf val32 op a b).1 := by
  have h := val32_bd op.toNat a b a1 a2
  unfold outOf wrap32
  split
  · rfl
  · split
    · rfl
    · show (val32 op.toNat a b + 2147483648) % 4294967296 - 2147483648 = val32 op.toNat a b
      omega
set_option maxHeartbeats 1000000 in
theorem refInt_any (op a b : Int) (w : World) (a1 : -2147483648 ≤ a) (a2 : a ≤ 2147483647) (b1 : -2147483648 ≤ b) (b2 : b ≤ 2147483647) :
    Calls Try.prog 20 #[.int .i64 op, .int .i32 a, .int .i32 b] w fun e w' => e = .returned (.tuple #[.int .i32 (outOf val32 op a b).1, .int .i64 (outOf val32 op a b).2]) ∧ w = w' := by
  have H := Lib.hid (rr32_out op a b w a1 a2)
  have hw := out32_wrap op a b a1 a2
  obtain ⟨x, hx⟩ : ∃ x, outOf val32 op a b = x := ⟨_, rfl⟩
  rw [hx] at H hw ⊢
  obtain ⟨x1, x2⟩ := x
  have Hw := Lib.hid hw
  clear hw hx
  go_enter Try.func20, Try.ntmps20
  go_wp2_with fail
  refine H.out.mono ?_
  rintro e1 w1 ⟨rfl, rfl⟩
  go_wp2
  go_ret2
  exact ⟨congrArg (fun v => Ending.returned (Value.tuple #[Value.int .i32 v, Value.int .i64 x2])) Hw.out, rfl⟩

theorem refLong_any (op a b : Int) (w : World) (a1 : -9223372036854775808 ≤ a) (a2 : a ≤ 9223372036854775807) :
    Calls Try.prog 22 #[.int .i64 op, .int .i64 a, .int .i64 b] w fun e w' => e = .returned (.tuple #[.int .i64 (outOf val64 op a b).1, .int .i64 (outOf val64 op a b).2]) ∧ w = w' := by
  have hq : (IntKind.u64.wrap b).tmod 64 = b % 64 := by rw [IntKind.wrap_u64, Int.tmod_eq_emod_of_nonneg (by omega)]; omega
  by_cases h : op = 10 ∧ (b % 64).toNat = 63
  · obtain ⟨rfl, h63⟩ := h
    have hv : outOf val64 10 a b = (a / 9223372036854775808, 0) := by
      unfold outOf
      rw [if_neg (by omega), if_neg (by omega)]
      show (a / 2 ^ (b % 64).toNat, (0 : Int)) = _
      rw [h63]
      rfl
    rw [hv]
    have hs : ((IntKind.u64.wrap b).tmod 64 == 63) = true := by rw [hq]; simp; omega
    clear hv hq h63
    by_cases hn : a < 0
    · have hr : a / 9223372036854775808 = -1 := by omega
      rw [hr]
      clear hr a1 a2
      go_enter Try.func22, Try.ntmps22
      go_wp2
      go_ret2
      exact ⟨rfl, rfl⟩
    · have hr : a / 9223372036854775808 = 0 := by omega
      rw [hr]
      clear hr a1 a2
      go_enter Try.func22, Try.ntmps22
      go_wp2
      go_ret2
      exact ⟨rfl, rfl⟩
  · have H := Lib.hid (rr64_out op a b w a1 a2 (fun ho => by have : ¬ (b % 64).toNat = 63 := fun e => h ⟨ho, e⟩; omega))
    by_cases ho : op = 10
    · have hs : ((IntKind.u64.wrap b).tmod 64 == 63) = false := by rw [hq]; simp; omega
      have h10 : (op == 10) = true := by simp [ho]
      clear hq h ho a1 a2
      go_enter Try.func22, Try.ntmps22
      go_wp2_with fail
      refine H.out.mono ?_
      rintro e1 w1 ⟨rfl, rfl⟩
      go_wp2
      go_ret2
      exact ⟨rfl, rfl⟩
    · have h10 : (op == 10) = false := by simp [ho]
      clear hq h ho a1 a2
      go_enter Try.func22, Try.ntmps22
      go_wp2_with fail
      refine H.out.mono ?_
      rintro e1 w1 ⟨rfl, rfl⟩
      go_wp2
      go_ret2
      exact ⟨rfl, rfl⟩

end Go.Proofs.Ytadnenoehdemkaa
