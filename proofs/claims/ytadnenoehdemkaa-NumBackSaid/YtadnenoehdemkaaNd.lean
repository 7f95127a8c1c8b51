/- The walk over the document's reckon, of 32 bits: each kind of sum. -/
import Derived.Test.YtadnenoehdemkaaNb
namespace Go.Proofs.Ytadnenoehdemkaa
open Go.RowKit

theorem bits32_nat (a : Int) (X : Nat) (w : World) (hX : (a % 4294967296).toNat = X) : Calls Try.prog 38 #[.int .i64 a, .int .i64 32] w fun e w' => e = .returned (.int .u64 (X : Int)) ∧ w = w' := by
  have h := bits32_any a w
  rw [show a % 4294967296 = (X : Int) by omega] at h
  exact h
theorem back32_int (v : Int) (w : World) (h : 0 ≤ v ∧ v ≤ 18446744073709551615) : Calls Try.prog 39 #[.int .u64 v, .int .i64 32] w fun e w' => e = .returned (.int .i64 (wrap32 v)) ∧ w = w' := by
  obtain ⟨n, rfl⟩ := Int.eq_ofNat_of_zero_le h.1
  exact back32_any n w (by omega)

theorem cong32 (u v : Int) (h : u % 4294967296 = v % 4294967296) : wrap32 u = wrap32 v := by unfold wrap32; omega
theorem bv32 (a : Int) (X : Nat) (h : (a % 4294967296).toNat = X) : (BitVec.ofInt 32 a).toNat = X := by
  rw [BitVec.toNat_ofInt, ← h]
  rfl
theorem cong32_add (a b : Int) (X Y : Nat) (hX : (a % 4294967296).toNat = X) (hY : (b % 4294967296).toNat = Y) : wrap32 ((X : Int) + (Y : Int)) = val32 1 a b := by
  show _ = wrap32 (a + b)
  skip
  apply cong32
  omega
theorem cong32_sub (a b : Int) (X Y : Nat) (hX : (a % 4294967296).toNat = X) (hY : (b % 4294967296).toNat = Y) : wrap32 (IntKind.u64.wrap ((X : Int) - (Y : Int))) = val32 2 a b := by
  show _ = wrap32 (a - b)
  rw [IntKind.wrap_u64]
  apply cong32
  omega
theorem cong32_mul (a b : Int) (X Y : Nat) (hX : (a % 4294967296).toNat = X) (hY : (b % 4294967296).toNat = Y) : wrap32 (IntKind.u64.wrap ((X : Int) * (Y : Int))) = val32 3 a b := by
  show _ = wrap32 (a * b)
  rw [IntKind.wrap_u64]
  apply cong32
  rw [Int.emod_emod_of_dvd _ (by decide : (4294967296 : Int) ∣ 18446744073709551616), show (X : Int) = a % 4294967296 by omega, show (Y : Int) = b % 4294967296 by omega, ← Int.mul_emod]
theorem tdiv_bd (a b m : Int) (hm : 0 < m) (a1 : -m ≤ a) (a2 : a ≤ m - 1) (hb1 : ¬ b = -1) : -m ≤ a.tdiv b ∧ a.tdiv b ≤ m - 1 := by
  have h : (a.tdiv b).natAbs = a.natAbs / b.natAbs := Int.natAbs_tdiv a b
  by_cases hb : b.natAbs ≤ 1
  · by_cases h0 : b = 0
    · subst h0; simp; omega
    · obtain rfl : b = 1 := by omega
      simp; omega
  · have h2 : a.natAbs / b.natAbs ≤ a.natAbs / 2 := Nat.div_le_div_left (by omega) (by decide)
    omega
theorem cong32_div (a b : Int) (a1 : -2147483648 ≤ a) (a2 : a ≤ 2147483647) (hb0 : ¬ b = 0) (hb1 : ¬ b = -1) : wrap64 (a.tdiv b) = val32 4 a b := by
  show _ = wrap32 (a.tdiv b)
  have h := tdiv_bd a b 2147483648 (by omega) (by omega) (by omega) hb1
  unfold wrap32 wrap64
  omega
theorem cong32_neg (a : Int) (X : Nat) (hX : (a % 4294967296).toNat = X) : wrap32 (IntKind.u64.wrap (-(X : Int))) = val32 4 a (-1) := by
  show _ = wrap32 (a.tdiv (-1))
  rw [IntKind.wrap_u64, show a.tdiv (-1) = -a by simp]
  apply cong32
  omega
theorem cong32_shl (a b : Int) (X s p : Nat) (hX : (a % 4294967296).toNat = X) (hs : (b % 32).toNat = s) (hp : 2 ^ s = p) : wrap32 (IntKind.u64.wrap ((X : Int) * (p : Int))) = val32 9 a b := by
  show _ = wrap32 (a * 2 ^ (b % 32).toNat)
  rw [IntKind.wrap_u64, hs, show (2 : Int) ^ s = (p : Int) by rw [← hp]; simp]
  apply cong32
  rw [Int.emod_emod_of_dvd _ (by decide : (4294967296 : Int) ∣ 18446744073709551616), show (X : Int) = a % 4294967296 by omega, Int.mul_emod, Int.emod_emod, ← Int.mul_emod]
theorem cong32_ushr (a b : Int) (X s p : Nat) (hX : (a % 4294967296).toNat = X) (hs : (b % 32).toNat = s) (hp : 2 ^ s = p) : wrap32 (IntKind.u64.wrap ((X : Int) / (p : Int))) = val32 11 a b := by
  show _ = wrap32 ((a % 4294967296) / 2 ^ (b % 32).toNat)
  rw [IntKind.wrap_u64, hs, show (2 : Int) ^ s = (p : Int) by rw [← hp]; simp, show a % 4294967296 = (X : Int) by omega]
  apply cong32
  have h1 : (X : Int) / (p : Int) = ((X / p : Nat) : Int) := by simp
  have h2 : X / p ≤ X := Nat.div_le_self _ _
  rw [h1]
  omega
theorem floor_neg (a p : Int) (hp : 0 < p) : a / p = -1 - (-1 - a) / p := by
  have h1 := Int.mul_ediv_add_emod (-1 - a) p
  have h2 := Int.emod_nonneg (-1 - a) (by omega : p ≠ 0)
  have h3 := Int.emod_lt_of_pos (-1 - a) hp
  have e : a = (p - 1 - (-1 - a) % p) + (-1 - (-1 - a) / p) * p := by
    rw [Int.sub_mul, Int.mul_comm ((-1 - a) / p) p]
    omega
  have e2 : (p - 1 - (-1 - a) % p) / p = 0 := Int.ediv_eq_zero_of_lt (by omega) (by omega)
  conv => lhs; rw [e]
  rw [Int.add_mul_ediv_right _ _ (by omega), e2, Int.zero_add]
theorem cong32_shrp (a b : Int) (s p : Nat) (hs : (b % 32).toNat = s) (hp : 2 ^ s = p) : a / (p : Int) = val32 10 a b := by
  show _ = a / 2 ^ (b % 32).toNat
  rw [hs, show (2 : Int) ^ s = (p : Int) by rw [← hp]; simp]
theorem cong32_shrn (a b : Int) (s p : Nat) (hs : (b % 32).toNat = s) (hp : 2 ^ s = p) (ha : -9223372036854775808 ≤ a) (hneg : a < 0) : wrap64 (-1 - (-1 - a) / (p : Int)) = val32 10 a b := by
  rw [← cong32_shrp a b s p hs hp]
  have hp1 : 1 ≤ p := by rw [← hp]; exact Nat.one_le_two_pow
  have h1 := floor_neg a p (by omega)
  have h2 : 0 ≤ (-1 - a) / (p : Int) := Int.ediv_nonneg (by omega) (by omega)
  have h3 : (-1 - a) / (p : Int) ≤ -1 - a := Int.ediv_le_self _ (by omega)
  rw [h1]
  unfold wrap64
  omega
theorem cong32_and (a b : Int) (X Y : Nat) (hX : (a % 4294967296).toNat = X) (hY : (b % 4294967296).toNat = Y) : wrap32 (bits .and .u64 (X : Int) (Y : Int)) = val32 6 a b := by
  show _ = IntKind.i32.wrap ((BitVec.ofInt 32 a &&& BitVec.ofInt 32 b).toNat : Int)
  rw [u64_and_nat _ _ (by omega) (by omega), BitVec.toNat_and, bv32 a X hX, bv32 b Y hY]
  unfold wrap32
  rw [IntKind.wrap_i32]
theorem cong32_or (a b : Int) (X Y : Nat) (hX : (a % 4294967296).toNat = X) (hY : (b % 4294967296).toNat = Y) : wrap32 (bits .or .u64 (X : Int) (Y : Int)) = val32 7 a b := by
  show _ = IntKind.i32.wrap ((BitVec.ofInt 32 a ||| BitVec.ofInt 32 b).toNat : Int)
  rw [u64_or_nat _ _ (by omega) (by omega), BitVec.toNat_or, bv32 a X hX, bv32 b Y hY]
  unfold wrap32
  rw [IntKind.wrap_i32]
theorem cong32_xor (a b : Int) (X Y : Nat) (hX : (a % 4294967296).toNat = X) (hY : (b % 4294967296).toNat = Y) : wrap32 (bits .xor .u64 (X : Int) (Y : Int)) = val32 8 a b := by
  show _ = IntKind.i32.wrap ((BitVec.ofInt 32 a ^^^ BitVec.ofInt 32 b).toNat : Int)
  rw [u64_xor_nat _ _ (by omega) (by omega), BitVec.toNat_xor, bv32 a X hX, bv32 b Y hY]
  unfold wrap32
  rw [IntKind.wrap_i32]
theorem u64_bd (n : Int) : 0 ≤ IntKind.u64.wrap n ∧ IntKind.u64.wrap n ≤ 18446744073709551615 := by rw [IntKind.wrap_u64]; omega
theorem ubits_bd (op : BinOp) (a b : Int) : 0 ≤ bits op .u64 a b ∧ bits op .u64 a b ≤ 18446744073709551615 := by unfold bits; split <;> exact u64_bd _

set_option maxHeartbeats 400000 in
theorem rr32_add (a b : Int) (w : World) (a1 : -2147483648 ≤ a) (a2 : a ≤ 2147483647) :
    Calls Try.prog 34 #[.int .i64 1, .int .i64 a, .int .i64 b, .int .i64 32] w fun e w' => e = .returned (.tuple #[.int .i64 (val32 1 a b), .int .i64 0]) ∧ w = w' := by
  obtain ⟨X, hX⟩ : ∃ X, (a % 4294967296).toNat = X := ⟨_, rfl⟩
  obtain ⟨Y, hY⟩ : ∃ Y, (b % 4294967296).toNat = Y := ⟨_, rfl⟩
  obtain ⟨s, hse⟩ : ∃ s, (b % 32).toNat = s := ⟨_, rfl⟩
  have hval : Hid (wrap32 ((X : Int) + (Y : Int)) = val32 1 a b) := Lib.hid (cong32_add a b X Y hX hY)
  have Hx := Lib.hid (bits32_nat a X w hX)
  have Hy := Lib.hid (bits32_nat b Y w hY)
  have hs : (Y : Int) % 32 = (s : Int) := by omega
  have hs2 : s ≤ 31 := by omega
  have hX2 : X ≤ 4294967295 := by omega
  have hY2 : Y ≤ 4294967295 := by omega
  have HX := Lib.hid hX
  have HY := Lib.hid hY
  have HS := Lib.hid hse
  clear hX hY hse
  go_enter Try.func34, Try.ntmps34
  go_wp2_with fail
  refine Hx.out.mono ?_
  rintro e1 w1 ⟨rfl, rfl⟩
  go_wp2_with fail
  refine Hy.out.mono ?_
  rintro e1 w1 ⟨rfl, rfl⟩
  go_wp2_with fail
  refine (back32_int _ _ (by first | exact u64_bd _ | exact ubits_bd _ _ _ | omega)).mono ?_
  rintro e1 w1 ⟨rfl, rfl⟩
  rw [hval.out]
  go_wp2
  go_ret2
  exact ⟨rfl, rfl⟩

set_option maxHeartbeats 400000 in
theorem rr32_sub (a b : Int) (w : World) (a1 : -2147483648 ≤ a) (a2 : a ≤ 2147483647) :
    Calls Try.prog 34 #[.int .i64 2, .int .i64 a, .int .i64 b, .int .i64 32] w fun e w' => e = .returned (.tuple #[.int .i64 (val32 2 a b), .int .i64 0]) ∧ w = w' := by
  obtain ⟨X, hX⟩ : ∃ X, (a % 4294967296).toNat = X := ⟨_, rfl⟩
  obtain ⟨Y, hY⟩ : ∃ Y, (b % 4294967296).toNat = Y := ⟨_, rfl⟩
  obtain ⟨s, hse⟩ : ∃ s, (b % 32).toNat = s := ⟨_, rfl⟩
  have hval : Hid (wrap32 (IntKind.u64.wrap ((X : Int) - (Y : Int))) = val32 2 a b) := Lib.hid (cong32_sub a b X Y hX hY)
  have Hx := Lib.hid (bits32_nat a X w hX)
  have Hy := Lib.hid (bits32_nat b Y w hY)
  have hs : (Y : Int) % 32 = (s : Int) := by omega
  have hs2 : s ≤ 31 := by omega
  have hX2 : X ≤ 4294967295 := by omega
  have hY2 : Y ≤ 4294967295 := by omega
  have HX := Lib.hid hX
  have HY := Lib.hid hY
  have HS := Lib.hid hse
  clear hX hY hse
  go_enter Try.func34, Try.ntmps34
  go_wp2_with fail
  refine Hx.out.mono ?_
  rintro e1 w1 ⟨rfl, rfl⟩
  go_wp2_with fail
  refine Hy.out.mono ?_
  rintro e1 w1 ⟨rfl, rfl⟩
  go_wp2_with fail
  refine (back32_int _ _ (by first | exact u64_bd _ | exact ubits_bd _ _ _ | omega)).mono ?_
  rintro e1 w1 ⟨rfl, rfl⟩
  rw [hval.out]
  go_wp2
  go_ret2
  exact ⟨rfl, rfl⟩

set_option maxHeartbeats 400000 in
theorem rr32_mul (a b : Int) (w : World) (a1 : -2147483648 ≤ a) (a2 : a ≤ 2147483647) :
    Calls Try.prog 34 #[.int .i64 3, .int .i64 a, .int .i64 b, .int .i64 32] w fun e w' => e = .returned (.tuple #[.int .i64 (val32 3 a b), .int .i64 0]) ∧ w = w' := by
  obtain ⟨X, hX⟩ : ∃ X, (a % 4294967296).toNat = X := ⟨_, rfl⟩
  obtain ⟨Y, hY⟩ : ∃ Y, (b % 4294967296).toNat = Y := ⟨_, rfl⟩
  obtain ⟨s, hse⟩ : ∃ s, (b % 32).toNat = s := ⟨_, rfl⟩
  have hval : Hid (wrap32 (IntKind.u64.wrap ((X : Int) * (Y : Int))) = val32 3 a b) := Lib.hid (cong32_mul a b X Y hX hY)
  have Hx := Lib.hid (bits32_nat a X w hX)
  have Hy := Lib.hid (bits32_nat b Y w hY)
  have hs : (Y : Int) % 32 = (s : Int) := by omega
  have hs2 : s ≤ 31 := by omega
  have hX2 : X ≤ 4294967295 := by omega
  have hY2 : Y ≤ 4294967295 := by omega
  have HX := Lib.hid hX
  have HY := Lib.hid hY
  have HS := Lib.hid hse
  clear hX hY hse
  go_enter Try.func34, Try.ntmps34
  go_wp2_with fail
  refine Hx.out.mono ?_
  rintro e1 w1 ⟨rfl, rfl⟩
  go_wp2_with fail
  refine Hy.out.mono ?_
  rintro e1 w1 ⟨rfl, rfl⟩
  go_wp2_with fail
  refine (back32_int _ _ (by first | exact u64_bd _ | exact ubits_bd _ _ _ | omega)).mono ?_
  rintro e1 w1 ⟨rfl, rfl⟩
  rw [hval.out]
  go_wp2
  go_ret2
  exact ⟨rfl, rfl⟩

set_option maxHeartbeats 400000 in
theorem rr32_and (a b : Int) (w : World) (a1 : -2147483648 ≤ a) (a2 : a ≤ 2147483647) :
    Calls Try.prog 34 #[.int .i64 6, .int .i64 a, .int .i64 b, .int .i64 32] w fun e w' => e = .returned (.tuple #[.int .i64 (val32 6 a b), .int .i64 0]) ∧ w = w' := by
  obtain ⟨X, hX⟩ : ∃ X, (a % 4294967296).toNat = X := ⟨_, rfl⟩
  obtain ⟨Y, hY⟩ : ∃ Y, (b % 4294967296).toNat = Y := ⟨_, rfl⟩
  obtain ⟨s, hse⟩ : ∃ s, (b % 32).toNat = s := ⟨_, rfl⟩
  have hval : Hid (wrap32 (bits .and .u64 (X : Int) (Y : Int)) = val32 6 a b) := Lib.hid (cong32_and a b X Y hX hY)
  have Hx := Lib.hid (bits32_nat a X w hX)
  have Hy := Lib.hid (bits32_nat b Y w hY)
  have hs : (Y : Int) % 32 = (s : Int) := by omega
  have hs2 : s ≤ 31 := by omega
  have hX2 : X ≤ 4294967295 := by omega
  have hY2 : Y ≤ 4294967295 := by omega
  have HX := Lib.hid hX
  have HY := Lib.hid hY
  have HS := Lib.hid hse
  clear hX hY hse
  go_enter Try.func34, Try.ntmps34
  go_wp2_with fail
  refine Hx.out.mono ?_
  rintro e1 w1 ⟨rfl, rfl⟩
  go_wp2_with fail
  refine Hy.out.mono ?_
  rintro e1 w1 ⟨rfl, rfl⟩
  go_wp2_with fail
  refine (back32_int _ _ (by first | exact u64_bd _ | exact ubits_bd _ _ _ | omega)).mono ?_
  rintro e1 w1 ⟨rfl, rfl⟩
  rw [hval.out]
  go_wp2
  go_ret2
  exact ⟨rfl, rfl⟩

set_option maxHeartbeats 400000 in
theorem rr32_or (a b : Int) (w : World) (a1 : -2147483648 ≤ a) (a2 : a ≤ 2147483647) :
    Calls Try.prog 34 #[.int .i64 7, .int .i64 a, .int .i64 b, .int .i64 32] w fun e w' => e = .returned (.tuple #[.int .i64 (val32 7 a b), .int .i64 0]) ∧ w = w' := by
  obtain ⟨X, hX⟩ : ∃ X, (a % 4294967296).toNat = X := ⟨_, rfl⟩
  obtain ⟨Y, hY⟩ : ∃ Y, (b % 4294967296).toNat = Y := ⟨_, rfl⟩
  obtain ⟨s, hse⟩ : ∃ s, (b % 32).toNat = s := ⟨_, rfl⟩
  have hval : Hid (wrap32 (bits .or .u64 (X : Int) (Y : Int)) = val32 7 a b) := Lib.hid (cong32_or a b X Y hX hY)
  have Hx := Lib.hid (bits32_nat a X w hX)
  have Hy := Lib.hid (bits32_nat b Y w hY)
  have hs : (Y : Int) % 32 = (s : Int) := by omega
  have hs2 : s ≤ 31 := by omega
  have hX2 : X ≤ 4294967295 := by omega
  have hY2 : Y ≤ 4294967295 := by omega
  have HX := Lib.hid hX
  have HY := Lib.hid hY
  have HS := Lib.hid hse
  clear hX hY hse
  go_enter Try.func34, Try.ntmps34
  go_wp2_with fail
  refine Hx.out.mono ?_
  rintro e1 w1 ⟨rfl, rfl⟩
  go_wp2_with fail
  refine Hy.out.mono ?_
  rintro e1 w1 ⟨rfl, rfl⟩
  go_wp2_with fail
  refine (back32_int _ _ (by first | exact u64_bd _ | exact ubits_bd _ _ _ | omega)).mono ?_
  rintro e1 w1 ⟨rfl, rfl⟩
  rw [hval.out]
  go_wp2
  go_ret2
  exact ⟨rfl, rfl⟩

set_option maxHeartbeats 400000 in
theorem rr32_xor (a b : Int) (w : World) (a1 : -2147483648 ≤ a) (a2 : a ≤ 2147483647) :
    Calls Try.prog 34 #[.int .i64 8, .int .i64 a, .int .i64 b, .int .i64 32] w fun e w' => e = .returned (.tuple #[.int .i64 (val32 8 a b), .int .i64 0]) ∧ w = w' := by
  obtain ⟨X, hX⟩ : ∃ X, (a % 4294967296).toNat = X := ⟨_, rfl⟩
  obtain ⟨Y, hY⟩ : ∃ Y, (b % 4294967296).toNat = Y := ⟨_, rfl⟩
  obtain ⟨s, hse⟩ : ∃ s, (b % 32).toNat = s := ⟨_, rfl⟩
  have hval : Hid (wrap32 (bits .xor .u64 (X : Int) (Y : Int)) = val32 8 a b) := Lib.hid (cong32_xor a b X Y hX hY)
  have Hx := Lib.hid (bits32_nat a X w hX)
  have Hy := Lib.hid (bits32_nat b Y w hY)
  have hs : (Y : Int) % 32 = (s : Int) := by omega
  have hs2 : s ≤ 31 := by omega
  have hX2 : X ≤ 4294967295 := by omega
  have hY2 : Y ≤ 4294967295 := by omega
  have HX := Lib.hid hX
  have HY := Lib.hid hY
  have HS := Lib.hid hse
  clear hX hY hse
  go_enter Try.func34, Try.ntmps34
  go_wp2_with fail
  refine Hx.out.mono ?_
  rintro e1 w1 ⟨rfl, rfl⟩
  go_wp2_with fail
  refine Hy.out.mono ?_
  rintro e1 w1 ⟨rfl, rfl⟩
  go_wp2_with fail
  refine (back32_int _ _ (by first | exact u64_bd _ | exact ubits_bd _ _ _ | omega)).mono ?_
  rintro e1 w1 ⟨rfl, rfl⟩
  rw [hval.out]
  go_wp2
  go_ret2
  exact ⟨rfl, rfl⟩

set_option maxHeartbeats 400000 in
theorem rr32_shl (a b : Int) (w : World) (a1 : -2147483648 ≤ a) (a2 : a ≤ 2147483647) :
    Calls Try.prog 34 #[.int .i64 9, .int .i64 a, .int .i64 b, .int .i64 32] w fun e w' => e = .returned (.tuple #[.int .i64 (val32 9 a b), .int .i64 0]) ∧ w = w' := by
  obtain ⟨X, hX⟩ : ∃ X, (a % 4294967296).toNat = X := ⟨_, rfl⟩
  obtain ⟨Y, hY⟩ : ∃ Y, (b % 4294967296).toNat = Y := ⟨_, rfl⟩
  obtain ⟨s, hse⟩ : ∃ s, (b % 32).toNat = s := ⟨_, rfl⟩
  have Hx := Lib.hid (bits32_nat a X w hX)
  have Hy := Lib.hid (bits32_nat b Y w hY)
  have hs : (Y : Int) % 32 = (s : Int) := by omega
  have hs2 : s ≤ 31 := by omega
  have hX2 : X ≤ 4294967295 := by omega
  have hY2 : Y ≤ 4294967295 := by omega
  have HX := Lib.hid hX
  have HY := Lib.hid hY
  have HS := Lib.hid hse
  clear hX hY hse
  obtain ⟨p, hp⟩ : ∃ p, 2 ^ s = p := ⟨_, rfl⟩
  have hpw := power_any s w (by omega)
  rw [hp] at hpw
  have Hpw := Lib.hid hpw
  have hp1 : 1 ≤ p := by rw [← hp]; exact Nat.one_le_two_pow
  have hp2 : p ≤ 2147483648 := by rw [← hp]; exact Nat.pow_le_pow_right (n := 2) (by decide) hs2
  have hpz : ((p : Int) == 0) = false := by simp; omega
  have HP := Lib.hid hp
  have hval : Hid (wrap32 (IntKind.u64.wrap ((X : Int) * (p : Int))) = val32 9 a b) := Lib.hid (cong32_shl a b X s p HX.out HS.out hp)
  clear hpw hp
  go_enter Try.func34, Try.ntmps34
  go_wp2_with fail
  refine Hx.out.mono ?_
  rintro e1 w1 ⟨rfl, rfl⟩
  go_wp2_with fail
  refine Hy.out.mono ?_
  rintro e1 w1 ⟨rfl, rfl⟩
  go_wp2_with fail
  refine Hpw.out.mono ?_
  rintro e1 w1 ⟨rfl, rfl⟩
  go_wp2_with fail
  refine (back32_int _ _ (by first | exact u64_bd _ | exact ubits_bd _ _ _ | omega)).mono ?_
  rintro e1 w1 ⟨rfl, rfl⟩
  rw [hval.out]
  go_wp2
  go_ret2
  exact ⟨rfl, rfl⟩

set_option maxHeartbeats 400000 in
theorem rr32_ushr (a b : Int) (w : World) (a1 : -2147483648 ≤ a) (a2 : a ≤ 2147483647) :
    Calls Try.prog 34 #[.int .i64 11, .int .i64 a, .int .i64 b, .int .i64 32] w fun e w' => e = .returned (.tuple #[.int .i64 (val32 11 a b), .int .i64 0]) ∧ w = w' := by
  obtain ⟨X, hX⟩ : ∃ X, (a % 4294967296).toNat = X := ⟨_, rfl⟩
  obtain ⟨Y, hY⟩ : ∃ Y, (b % 4294967296).toNat = Y := ⟨_, rfl⟩
  obtain ⟨s, hse⟩ : ∃ s, (b % 32).toNat = s := ⟨_, rfl⟩
  have Hx := Lib.hid (bits32_nat a X w hX)
  have Hy := Lib.hid (bits32_nat b Y w hY)
  have hs : (Y : Int) % 32 = (s : Int) := by omega
  have hs2 : s ≤ 31 := by omega
  have hX2 : X ≤ 4294967295 := by omega
  have hY2 : Y ≤ 4294967295 := by omega
  have HX := Lib.hid hX
  have HY := Lib.hid hY
  have HS := Lib.hid hse
  clear hX hY hse
  obtain ⟨p, hp⟩ : ∃ p, 2 ^ s = p := ⟨_, rfl⟩
  have hpw := power_any s w (by omega)
  rw [hp] at hpw
  have Hpw := Lib.hid hpw
  have hp1 : 1 ≤ p := by rw [← hp]; exact Nat.one_le_two_pow
  have hp2 : p ≤ 2147483648 := by rw [← hp]; exact Nat.pow_le_pow_right (n := 2) (by decide) hs2
  have hpz : ((p : Int) == 0) = false := by simp; omega
  have HP := Lib.hid hp
  have hval : Hid (wrap32 (IntKind.u64.wrap ((X : Int) / (p : Int))) = val32 11 a b) := Lib.hid (cong32_ushr a b X s p HX.out HS.out hp)
  clear hpw hp
  go_enter Try.func34, Try.ntmps34
  go_wp2_with fail
  refine Hx.out.mono ?_
  rintro e1 w1 ⟨rfl, rfl⟩
  go_wp2_with fail
  refine Hy.out.mono ?_
  rintro e1 w1 ⟨rfl, rfl⟩
  go_wp2_with fail
  refine Hpw.out.mono ?_
  rintro e1 w1 ⟨rfl, rfl⟩
  go_wp2_with fail
  refine (back32_int _ _ (by first | exact u64_bd _ | exact ubits_bd _ _ _ | omega)).mono ?_
  rintro e1 w1 ⟨rfl, rfl⟩
  rw [hval.out]
  go_wp2
  go_ret2
  exact ⟨rfl, rfl⟩

set_option maxHeartbeats 400000 in
theorem rr32_shrn (a b : Int) (w : World) (a1 : -2147483648 ≤ a) (a2 : a ≤ 2147483647) (hsg : a < 0) :
    Calls Try.prog 34 #[.int .i64 10, .int .i64 a, .int .i64 b, .int .i64 32] w fun e w' => e = .returned (.tuple #[.int .i64 (val32 10 a b), .int .i64 0]) ∧ w = w' := by
  obtain ⟨X, hX⟩ : ∃ X, (a % 4294967296).toNat = X := ⟨_, rfl⟩
  obtain ⟨Y, hY⟩ : ∃ Y, (b % 4294967296).toNat = Y := ⟨_, rfl⟩
  obtain ⟨s, hse⟩ : ∃ s, (b % 32).toNat = s := ⟨_, rfl⟩
  have Hx := Lib.hid (bits32_nat a X w hX)
  have Hy := Lib.hid (bits32_nat b Y w hY)
  have hs : (Y : Int) % 32 = (s : Int) := by omega
  have hs2 : s ≤ 31 := by omega
  have hX2 : X ≤ 4294967295 := by omega
  have hY2 : Y ≤ 4294967295 := by omega
  have HX := Lib.hid hX
  have HY := Lib.hid hY
  have HS := Lib.hid hse
  clear hX hY hse
  obtain ⟨p, hp⟩ : ∃ p, 2 ^ s = p := ⟨_, rfl⟩
  have hpw := int64Power_any s w (by omega)
  rw [hp] at hpw
  have Hpw := Lib.hid hpw
  have hp1 : 1 ≤ p := by rw [← hp]; exact Nat.one_le_two_pow
  have hp2 : p ≤ 4611686018427387904 := by rw [← hp]; exact Nat.pow_le_pow_right (n := 2) (by decide) (by omega : s ≤ 62)
  have hpz : ((p : Int) == 0) = false := by simp; omega
  have HP := Lib.hid hp
  have hval : Hid (wrap64 (-1 - (-1 - a) / (p : Int)) = val32 10 a b) := Lib.hid (cong32_shrn a b s p HS.out hp (by omega) hsg)
  clear hpw hp
  go_enter Try.func34, Try.ntmps34
  go_wp2_with fail
  refine Hx.out.mono ?_
  rintro e1 w1 ⟨rfl, rfl⟩
  go_wp2_with fail
  refine Hy.out.mono ?_
  rintro e1 w1 ⟨rfl, rfl⟩
  go_wp2_with fail
  refine Hpw.out.mono ?_
  rintro e1 w1 ⟨rfl, rfl⟩
  go_wp2
  go_ret2
  exact ⟨by rw [← hval.out]; rfl, rfl⟩

set_option maxHeartbeats 400000 in
theorem rr32_shrp (a b : Int) (w : World) (a1 : -2147483648 ≤ a) (a2 : a ≤ 2147483647) (hsg : ¬ a < 0) :
    Calls Try.prog 34 #[.int .i64 10, .int .i64 a, .int .i64 b, .int .i64 32] w fun e w' => e = .returned (.tuple #[.int .i64 (val32 10 a b), .int .i64 0]) ∧ w = w' := by
  obtain ⟨X, hX⟩ : ∃ X, (a % 4294967296).toNat = X := ⟨_, rfl⟩
  obtain ⟨Y, hY⟩ : ∃ Y, (b % 4294967296).toNat = Y := ⟨_, rfl⟩
  obtain ⟨s, hse⟩ : ∃ s, (b % 32).toNat = s := ⟨_, rfl⟩
  have Hx := Lib.hid (bits32_nat a X w hX)
  have Hy := Lib.hid (bits32_nat b Y w hY)
  have hs : (Y : Int) % 32 = (s : Int) := by omega
  have hs2 : s ≤ 31 := by omega
  have hX2 : X ≤ 4294967295 := by omega
  have hY2 : Y ≤ 4294967295 := by omega
  have HX := Lib.hid hX
  have HY := Lib.hid hY
  have HS := Lib.hid hse
  clear hX hY hse
  obtain ⟨p, hp⟩ : ∃ p, 2 ^ s = p := ⟨_, rfl⟩
  have hpw := int64Power_any s w (by omega)
  rw [hp] at hpw
  have Hpw := Lib.hid hpw
  have hp1 : 1 ≤ p := by rw [← hp]; exact Nat.one_le_two_pow
  have hp2 : p ≤ 4611686018427387904 := by rw [← hp]; exact Nat.pow_le_pow_right (n := 2) (by decide) (by omega : s ≤ 62)
  have hpz : ((p : Int) == 0) = false := by simp; omega
  have HP := Lib.hid hp
  have hval : Hid (a / (p : Int) = val32 10 a b) := Lib.hid (cong32_shrp a b s p HS.out hp)
  clear hpw hp
  go_enter Try.func34, Try.ntmps34
  go_wp2_with fail
  refine Hx.out.mono ?_
  rintro e1 w1 ⟨rfl, rfl⟩
  go_wp2_with fail
  refine Hy.out.mono ?_
  rintro e1 w1 ⟨rfl, rfl⟩
  go_wp2_with fail
  refine Hpw.out.mono ?_
  rintro e1 w1 ⟨rfl, rfl⟩
  go_wp2
  go_ret2
  exact ⟨by rw [← hval.out]; rfl, rfl⟩

theorem rr32_zero (op a : Int) (w : World) (ho : op = 4 ∨ op = 5) :
    Calls Try.prog 34 #[.int .i64 op, .int .i64 a, .int .i64 0, .int .i64 32] w fun e w' => e = .returned (.tuple #[.int .i64 0, .int .i64 2]) ∧ w = w' := by
  obtain ⟨X, hX⟩ : ∃ X, (a % 4294967296).toNat = X := ⟨_, rfl⟩
  have Hx := Lib.hid (bits32_nat a X w hX)
  have Hy := Lib.hid (bits32_nat 0 0 w (by decide))
  clear hX
  rcases ho with rfl | rfl
  all_goals
    go_enter Try.func34, Try.ntmps34
    go_wp2_with fail
    refine Hx.out.mono ?_
    rintro e1 w1 ⟨rfl, rfl⟩
    go_wp2_with fail
    refine Hy.out.mono ?_
    rintro e1 w1 ⟨rfl, rfl⟩
    go_wp2
    go_ret2
    exact ⟨rfl, rfl⟩
theorem rr32_divm (a : Int) (w : World) :
    Calls Try.prog 34 #[.int .i64 4, .int .i64 a, .int .i64 (-1), .int .i64 32] w fun e w' => e = .returned (.tuple #[.int .i64 (val32 4 a (-1)), .int .i64 0]) ∧ w = w' := by
  obtain ⟨X, hX⟩ : ∃ X, (a % 4294967296).toNat = X := ⟨_, rfl⟩
  obtain ⟨Y, hY⟩ : ∃ Y, (-1 % 4294967296 : Int).toNat = Y := ⟨_, rfl⟩
  have hval := Lib.hid (cong32_neg a X hX)
  have Hx := Lib.hid (bits32_nat a X w hX)
  have Hy := Lib.hid (bits32_nat (-1) Y w hY)
  clear hX hY
  go_enter Try.func34, Try.ntmps34
  go_wp2_with fail
  refine Hx.out.mono ?_
  rintro e1 w1 ⟨rfl, rfl⟩
  go_wp2_with fail
  refine Hy.out.mono ?_
  rintro e1 w1 ⟨rfl, rfl⟩
  go_wp2_with fail
  refine (back32_int _ _ (u64_bd _)).mono ?_
  rintro e1 w1 ⟨rfl, rfl⟩
  rw [hval.out]
  go_wp2
  go_ret2
  exact ⟨rfl, rfl⟩
theorem rr32_remm (a : Int) (w : World) :
    Calls Try.prog 34 #[.int .i64 5, .int .i64 a, .int .i64 (-1), .int .i64 32] w fun e w' => e = .returned (.tuple #[.int .i64 (val32 5 a (-1)), .int .i64 0]) ∧ w = w' := by
  obtain ⟨X, hX⟩ : ∃ X, (a % 4294967296).toNat = X := ⟨_, rfl⟩
  obtain ⟨Y, hY⟩ : ∃ Y, (-1 % 4294967296 : Int).toNat = Y := ⟨_, rfl⟩
  have hval : Hid (0 = val32 5 a (-1)) := Lib.hid (by show 0 = a.tmod (-1); simp)
  have Hx := Lib.hid (bits32_nat a X w hX)
  have Hy := Lib.hid (bits32_nat (-1) Y w hY)
  clear hX hY
  go_enter Try.func34, Try.ntmps34
  go_wp2_with fail
  refine Hx.out.mono ?_
  rintro e1 w1 ⟨rfl, rfl⟩
  go_wp2_with fail
  refine Hy.out.mono ?_
  rintro e1 w1 ⟨rfl, rfl⟩
  go_wp2
  go_ret2
  exact ⟨by rw [← hval.out]; rfl, rfl⟩
theorem rr32_div (a b : Int) (w : World) (a1 : -2147483648 ≤ a) (a2 : a ≤ 2147483647) (hb0 : ¬ b = 0) (hb1 : ¬ b = -1) :
    Calls Try.prog 34 #[.int .i64 4, .int .i64 a, .int .i64 b, .int .i64 32] w fun e w' => e = .returned (.tuple #[.int .i64 (val32 4 a b), .int .i64 0]) ∧ w = w' := by
  obtain ⟨X, hX⟩ : ∃ X, (a % 4294967296).toNat = X := ⟨_, rfl⟩
  obtain ⟨Y, hY⟩ : ∃ Y, (b % 4294967296).toNat = Y := ⟨_, rfl⟩
  have hval : Hid (wrap64 (a.tdiv b) = val32 4 a b) := Lib.hid (cong32_div a b a1 a2 hb0 hb1)
  have Hx := Lib.hid (bits32_nat a X w hX)
  have Hy := Lib.hid (bits32_nat b Y w hY)
  have e0 : (b == 0) = false := by simpa using hb0
  have e1 : (b == -1) = false := by simpa using hb1
  clear hX hY
  go_enter Try.func34, Try.ntmps34
  go_wp2_with fail
  refine Hx.out.mono ?_
  rintro e1 w1 ⟨rfl, rfl⟩
  go_wp2_with fail
  refine Hy.out.mono ?_
  rintro e1 w1 ⟨rfl, rfl⟩
  go_wp2
  go_ret2
  exact ⟨by rw [← hval.out]; rfl, rfl⟩
theorem rr32_rem (a b : Int) (w : World) (hb0 : ¬ b = 0) (hb1 : ¬ b = -1) :
    Calls Try.prog 34 #[.int .i64 5, .int .i64 a, .int .i64 b, .int .i64 32] w fun e w' => e = .returned (.tuple #[.int .i64 (val32 5 a b), .int .i64 0]) ∧ w = w' := by
  obtain ⟨X, hX⟩ : ∃ X, (a % 4294967296).toNat = X := ⟨_, rfl⟩
  obtain ⟨Y, hY⟩ : ∃ Y, (b % 4294967296).toNat = Y := ⟨_, rfl⟩
  have Hx := Lib.hid (bits32_nat a X w hX)
  have Hy := Lib.hid (bits32_nat b Y w hY)
  have e0 : (b == 0) = false := by simpa using hb0
  have e1 : (b == -1) = false := by simpa using hb1
  clear hX hY
  go_enter Try.func34, Try.ntmps34
  go_wp2_with fail
  refine Hx.out.mono ?_
  rintro e1 w1 ⟨rfl, rfl⟩
  go_wp2_with fail
  refine Hy.out.mono ?_
  rintro e1 w1 ⟨rfl, rfl⟩
  go_wp2
  go_ret2
  exact ⟨rfl, rfl⟩

set_option maxHeartbeats 400000 in
theorem rr32_none (op a b : Int) (w : World) (h : op < 1 ∨ 11 < op) :
    Calls Try.prog 34 #[.int .i64 op, .int .i64 a, .int .i64 b, .int .i64 32] w fun e w' => e = .returned (.tuple #[.int .i64 0, .int .i64 1]) ∧ w = w' := by
  obtain ⟨X, hX⟩ : ∃ X, (a % 4294967296).toNat = X := ⟨_, rfl⟩
  obtain ⟨Y, hY⟩ : ∃ Y, (b % 4294967296).toNat = Y := ⟨_, rfl⟩
  have Hx := Lib.hid (bits32_nat a X w hX)
  have Hy := Lib.hid (bits32_nat b Y w hY)
  clear hX hY
  have n1 : (op == 1) = false := by simp; omega
  have n2 : (op == 2) = false := by simp; omega
  have n3 : (op == 3) = false := by simp; omega
  have n4 : (op == 4) = false := by simp; omega
  have n5 : (op == 5) = false := by simp; omega
  have n6 : (op == 6) = false := by simp; omega
  have n7 : (op == 7) = false := by simp; omega
  have n8 : (op == 8) = false := by simp; omega
  have n9 : (op == 9) = false := by simp; omega
  have n10 : (op == 10) = false := by simp; omega
  have n11 : (op == 11) = false := by simp; omega
  clear h
  go_enter Try.func34, Try.ntmps34
  go_wp2_with fail
  refine Hx.out.mono ?_
  rintro e1 w1 ⟨rfl, rfl⟩
  go_wp2_with fail
  refine Hy.out.mono ?_
  rintro e1 w1 ⟨rfl, rfl⟩
  go_wp2
  go_ret2
  exact ⟨rfl, rfl⟩

end Go.Proofs.Ytadnenoehdemkaa
