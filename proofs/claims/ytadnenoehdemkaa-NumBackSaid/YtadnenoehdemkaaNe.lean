/- The walk over the document's reckon, of 64 bits: each kind of sum. -/
import Derived.Test.YtadnenoehdemkaaNc
import Derived.Test.YtadnenoehdemkaaNd
namespace Go.Proofs.Ytadnenoehdemkaa
open Go.RowKit

theorem bits64_nat (a : Int) (X : Nat) (w : World) (hX : (a % 18446744073709551616).toNat = X) : Calls Try.prog 38 #[.int .i64 a, .int .i64 64] w fun e w' => e = .returned (.int .u64 (X : Int)) ∧ w = w' := by
  have h := bits64_any a w
  rw [show a % 18446744073709551616 = (X : Int) by omega] at h
  exact h
theorem back64_int (v : Int) (w : World) (h : 0 ≤ v ∧ v ≤ 18446744073709551615) : Calls Try.prog 39 #[.int .u64 v, .int .i64 64] w fun e w' => e = .returned (.int .i64 (wrap64 v)) ∧ w = w' := by
  obtain ⟨n, rfl⟩ := Int.eq_ofNat_of_zero_le h.1
  exact back64_any n w

theorem cong64 (u v : Int) (h : u % 18446744073709551616 = v % 18446744073709551616) : wrap64 u = wrap64 v := by unfold wrap64; omega
theorem bv64 (a : Int) (X : Nat) (h : (a % 18446744073709551616).toNat = X) : (BitVec.ofInt 64 a).toNat = X := by
  rw [BitVec.toNat_ofInt, ← h]
  rfl
theorem cong64_add (a b : Int) (X Y : Nat) (hX : (a % 18446744073709551616).toNat = X) (hY : (b % 18446744073709551616).toNat = Y) : wrap64 (IntKind.u64.wrap ((X : Int) + (Y : Int))) = val64 1 a b := by
  show _ = wrap64 (a + b)
  rw [IntKind.wrap_u64]
  apply cong64
  omega
theorem cong64_sub (a b : Int) (X Y : Nat) (hX : (a % 18446744073709551616).toNat = X) (hY : (b % 18446744073709551616).toNat = Y) : wrap64 (IntKind.u64.wrap ((X : Int) - (Y : Int))) = val64 2 a b := by
  show _ = wrap64 (a - b)
  rw [IntKind.wrap_u64]
  apply cong64
  omega
theorem cong64_mul (a b : Int) (X Y : Nat) (hX : (a % 18446744073709551616).toNat = X) (hY : (b % 18446744073709551616).toNat = Y) : wrap64 (IntKind.u64.wrap ((X : Int) * (Y : Int))) = val64 3 a b := by
  show _ = wrap64 (a * b)
  rw [IntKind.wrap_u64]
  apply cong64
  rw [Int.emod_emod_of_dvd _ (by decide : (18446744073709551616 : Int) ∣ 18446744073709551616), show (X : Int) = a % 18446744073709551616 by omega, show (Y : Int) = b % 18446744073709551616 by omega, ← Int.mul_emod]
theorem cong64_neg (a : Int) (X : Nat) (hX : (a % 18446744073709551616).toNat = X) : wrap64 (IntKind.u64.wrap (-(X : Int))) = val64 4 a (-1) := by
  show _ = wrap64 (a.tdiv (-1))
  rw [IntKind.wrap_u64, show a.tdiv (-1) = -a by simp]
  apply cong64
  omega
theorem cong64_shl (a b : Int) (X s p : Nat) (hX : (a % 18446744073709551616).toNat = X) (hs : (b % 64).toNat = s) (hp : 2 ^ s = p) : wrap64 (IntKind.u64.wrap ((X : Int) * (p : Int))) = val64 9 a b := by
  show _ = wrap64 (a * 2 ^ (b % 64).toNat)
  rw [IntKind.wrap_u64, hs, show (2 : Int) ^ s = (p : Int) by rw [← hp]; simp]
  apply cong64
  rw [Int.emod_emod_of_dvd _ (by decide : (18446744073709551616 : Int) ∣ 18446744073709551616), show (X : Int) = a % 18446744073709551616 by omega, Int.mul_emod, Int.emod_emod, ← Int.mul_emod]
theorem cong64_ushr (a b : Int) (X s p : Nat) (hX : (a % 18446744073709551616).toNat = X) (hs : (b % 64).toNat = s) (hp : 2 ^ s = p) : wrap64 (IntKind.u64.wrap ((X : Int) / (p : Int))) = val64 11 a b := by
  show _ = wrap64 ((a % 18446744073709551616) / 2 ^ (b % 64).toNat)
  rw [IntKind.wrap_u64, hs, show (2 : Int) ^ s = (p : Int) by rw [← hp]; simp, show a % 18446744073709551616 = (X : Int) by omega]
  apply cong64
  have h1 : (X : Int) / (p : Int) = ((X / p : Nat) : Int) := by simp
  have h2 : X / p ≤ X := Nat.div_le_self _ _
  rw [h1]
  omega
theorem cong64_shrp (a b : Int) (s p : Nat) (hs : (b % 64).toNat = s) (hp : 2 ^ s = p) : a / (p : Int) = val64 10 a b := by
  show _ = a / 2 ^ (b % 64).toNat
  rw [hs, show (2 : Int) ^ s = (p : Int) by rw [← hp]; simp]
theorem cong64_shrn (a b : Int) (s p : Nat) (hs : (b % 64).toNat = s) (hp : 2 ^ s = p) (ha : -9223372036854775808 ≤ a) (hneg : a < 0) : wrap64 (-1 - (-1 - a) / (p : Int)) = val64 10 a b := by
  rw [← cong64_shrp a b s p hs hp]
  have hp1 : 1 ≤ p := by rw [← hp]; exact Nat.one_le_two_pow
  have h1 := floor_neg a p (by omega)
  have h2 : 0 ≤ (-1 - a) / (p : Int) := Int.ediv_nonneg (by omega) (by omega)
  have h3 : (-1 - a) / (p : Int) ≤ -1 - a := Int.ediv_le_self _ (by omega)
  rw [h1]
  unfold wrap64
  omega
theorem cong64_and (a b : Int) (X Y : Nat) (hX : (a % 18446744073709551616).toNat = X) (hY : (b % 18446744073709551616).toNat = Y) : wrap64 (bits .and .u64 (X : Int) (Y : Int)) = val64 6 a b := by
  show _ = IntKind.i64.wrap ((BitVec.ofInt 64 a &&& BitVec.ofInt 64 b).toNat : Int)
  rw [u64_and_nat _ _ (by omega) (by omega), BitVec.toNat_and, bv64 a X hX, bv64 b Y hY]
  unfold wrap64
  rw [IntKind.wrap_i64]
theorem cong64_or (a b : Int) (X Y : Nat) (hX : (a % 18446744073709551616).toNat = X) (hY : (b % 18446744073709551616).toNat = Y) : wrap64 (bits .or .u64 (X : Int) (Y : Int)) = val64 7 a b := by
  show _ = IntKind.i64.wrap ((BitVec.ofInt 64 a ||| BitVec.ofInt 64 b).toNat : Int)
  rw [u64_or_nat _ _ (by omega) (by omega), BitVec.toNat_or, bv64 a X hX, bv64 b Y hY]
  unfold wrap64
  rw [IntKind.wrap_i64]
theorem cong64_xor (a b : Int) (X Y : Nat) (hX : (a % 18446744073709551616).toNat = X) (hY : (b % 18446744073709551616).toNat = Y) : wrap64 (bits .xor .u64 (X : Int) (Y : Int)) = val64 8 a b := by
  show _ = IntKind.i64.wrap ((BitVec.ofInt 64 a ^^^ BitVec.ofInt 64 b).toNat : Int)
  rw [u64_xor_nat _ _ (by omega) (by omega), BitVec.toNat_xor, bv64 a X hX, bv64 b Y hY]
  unfold wrap64
  rw [IntKind.wrap_i64]

set_option maxHeartbeats 400000 in
theorem rr64_add (a b : Int) (w : World) (a1 : -9223372036854775808 ≤ a) (a2 : a ≤ 9223372036854775807) :
    Calls Try.prog 34 #[.int .i64 1, .int .i64 a, .int .i64 b, .int .i64 64] w fun e w' => e = .returned (.tuple #[.int .i64 (val64 1 a b), .int .i64 0]) ∧ w = w' := by
  obtain ⟨X, hX⟩ : ∃ X, (a % 18446744073709551616).toNat = X := ⟨_, rfl⟩
  obtain ⟨Y, hY⟩ : ∃ Y, (b % 18446744073709551616).toNat = Y := ⟨_, rfl⟩
  obtain ⟨s, hse⟩ : ∃ s, (b % 64).toNat = s := ⟨_, rfl⟩
  have hval : Hid (wrap64 (IntKind.u64.wrap ((X : Int) + (Y : Int))) = val64 1 a b) := Lib.hid (cong64_add a b X Y hX hY)
  have Hx := Lib.hid (bits64_nat a X w hX)
  have Hy := Lib.hid (bits64_nat b Y w hY)
  have hs : (Y : Int) % 64 = (s : Int) := by omega
  have hs2 : s ≤ 63 := by omega
  have hX2 : X ≤ 18446744073709551615 := by omega
  have hY2 : Y ≤ 18446744073709551615 := by omega
  have HX := Lib.hid hX
  have HY := Lib.hid hY
  have HS := Lib.hid hse
  clear hX hY hse
  go_enter Try.func34, Try.ntmps34
  go_wp2_with fail
  refine Hx.out.mono ?_
  rintro e1 w1 ⟨rfl, rfl⟩
  go_wp2_with fail
  refine Hy.out.mono ?_
  rintro e1 w1 ⟨rfl, rfl⟩
  go_wp2_with fail
  refine (back64_int _ _ (by first | exact u64_bd _ | exact ubits_bd _ _ _ | omega)).mono ?_
  rintro e1 w1 ⟨rfl, rfl⟩
  rw [hval.out]
  go_wp2
  go_ret2
  exact ⟨rfl, rfl⟩

set_option maxHeartbeats 400000 in
theorem rr64_sub (a b : Int) (w : World) (a1 : -9223372036854775808 ≤ a) (a2 : a ≤ 9223372036854775807) :
    Calls Try.prog 34 #[.int .i64 2, .int .i64 a, .int .i64 b, .int .i64 64] w fun e w' => e = .returned (.tuple #[.int .i64 (val64 2 a b), .int .i64 0]) ∧ w = w' := by
  obtain ⟨X, hX⟩ : ∃ X, (a % 18446744073709551616).toNat = X := ⟨_, rfl⟩
  obtain ⟨Y, hY⟩ : ∃ Y, (b % 18446744073709551616).toNat = Y := ⟨_, rfl⟩
  obtain ⟨s, hse⟩ : ∃ s, (b % 64).toNat = s := ⟨_, rfl⟩
  have hval : Hid (wrap64 (IntKind.u64.wrap ((X : Int) - (Y : Int))) = val64 2 a b) := Lib.hid (cong64_sub a b X Y hX hY)
  have Hx := Lib.hid (bits64_nat a X w hX)
  have Hy := Lib.hid (bits64_nat b Y w hY)
  have hs : (Y : Int) % 64 = (s : Int) := by omega
  have hs2 : s ≤ 63 := by omega
  have hX2 : X ≤ 18446744073709551615 := by omega
  have hY2 : Y ≤ 18446744073709551615 := by omega
  have HX := Lib.hid hX
  have HY := Lib.hid hY
  have HS := Lib.hid hse
  clear hX hY hse
  go_enter Try.func34, Try.ntmps34
  go_wp2_with fail
  refine Hx.out.mono ?_
  rintro e1 w1 ⟨rfl, rfl⟩
  go_wp2_with fail
  refine Hy.out.mono ?_
  rintro e1 w1 ⟨rfl, rfl⟩
  go_wp2_with fail
  refine (back64_int _ _ (by first | exact u64_bd _ | exact ubits_bd _ _ _ | omega)).mono ?_
  rintro e1 w1 ⟨rfl, rfl⟩
  rw [hval.out]
  go_wp2
  go_ret2
  exact ⟨rfl, rfl⟩

set_option maxHeartbeats 400000 in
theorem rr64_mul (a b : Int) (w : World) (a1 : -9223372036854775808 ≤ a) (a2 : a ≤ 9223372036854775807) :
    Calls Try.prog 34 #[.int .i64 3, .int .i64 a, .int .i64 b, .int .i64 64] w fun e w' => e = .returned (.tuple #[.int .i64 (val64 3 a b), .int .i64 0]) ∧ w = w' := by
  obtain ⟨X, hX⟩ : ∃ X, (a % 18446744073709551616).toNat = X := ⟨_, rfl⟩
  obtain ⟨Y, hY⟩ : ∃ Y, (b % 18446744073709551616).toNat = Y := ⟨_, rfl⟩
  obtain ⟨s, hse⟩ : ∃ s, (b % 64).toNat = s := ⟨_, rfl⟩
  have hval : Hid (wrap64 (IntKind.u64.wrap ((X : Int) * (Y : Int))) = val64 3 a b) := Lib.hid (cong64_mul a b X Y hX hY)
  have Hx := Lib.hid (bits64_nat a X w hX)
  have Hy := Lib.hid (bits64_nat b Y w hY)
  have hs : (Y : Int) % 64 = (s : Int) := by omega
  have hs2 : s ≤ 63 := by omega
  have hX2 : X ≤ 18446744073709551615 := by omega
  have hY2 : Y ≤ 18446744073709551615 := by omega
  have HX := Lib.hid hX
  have HY := Lib.hid hY
  have HS := Lib.hid hse
  clear hX hY hse
  go_enter Try.func34, Try.ntmps34
  go_wp2_with fail
  refine Hx.out.mono ?_
  rintro e1 w1 ⟨rfl, rfl⟩
  go_wp2_with fail
  refine Hy.out.mono ?_
  rintro e1 w1 ⟨rfl, rfl⟩
  go_wp2_with fail
  refine (back64_int _ _ (by first | exact u64_bd _ | exact ubits_bd _ _ _ | omega)).mono ?_
  rintro e1 w1 ⟨rfl, rfl⟩
  rw [hval.out]
  go_wp2
  go_ret2
  exact ⟨rfl, rfl⟩

set_option maxHeartbeats 400000 in
theorem rr64_and (a b : Int) (w : World) (a1 : -9223372036854775808 ≤ a) (a2 : a ≤ 9223372036854775807) :
    Calls Try.prog 34 #[.int .i64 6, .int .i64 a, .int .i64 b, .int .i64 64] w fun e w' => e = .returned (.tuple #[.int .i64 (val64 6 a b), .int .i64 0]) ∧ w = w' := by
  obtain ⟨X, hX⟩ : ∃ X, (a % 18446744073709551616).toNat = X := ⟨_, rfl⟩
  obtain ⟨Y, hY⟩ : ∃ Y, (b % 18446744073709551616).toNat = Y := ⟨_, rfl⟩
  obtain ⟨s, hse⟩ : ∃ s, (b % 64).toNat = s := ⟨_, rfl⟩
  have hval : Hid (wrap64 (bits .and .u64 (X : Int) (Y : Int)) = val64 6 a b) := Lib.hid (cong64_and a b X Y hX hY)
  have Hx := Lib.hid (bits64_nat a X w hX)
  have Hy := Lib.hid (bits64_nat b Y w hY)
  have hs : (Y : Int) % 64 = (s : Int) := by omega
  have hs2 : s ≤ 63 := by omega
  have hX2 : X ≤ 18446744073709551615 := by omega
  have hY2 : Y ≤ 18446744073709551615 := by omega
  have HX := Lib.hid hX
  have HY := Lib.hid hY
  have HS := Lib.hid hse
  clear hX hY hse
  go_enter Try.func34, Try.ntmps34
  go_wp2_with fail
  refine Hx.out.mono ?_
  rintro e1 w1 ⟨rfl, rfl⟩
  go_wp2_with fail
  refine Hy.out.mono ?_
  rintro e1 w1 ⟨rfl, rfl⟩
  go_wp2_with fail
  refine (back64_int _ _ (by first | exact u64_bd _ | exact ubits_bd _ _ _ | omega)).mono ?_
  rintro e1 w1 ⟨rfl, rfl⟩
  rw [hval.out]
  go_wp2
  go_ret2
  exact ⟨rfl, rfl⟩

set_option maxHeartbeats 400000 in
theorem rr64_or (a b : Int) (w : World) (a1 : -9223372036854775808 ≤ a) (a2 : a ≤ 9223372036854775807) :
    Calls Try.prog 34 #[.int .i64 7, .int .i64 a, .int .i64 b, .int .i64 64] w fun e w' => e = .returned (.tuple #[.int .i64 (val64 7 a b), .int .i64 0]) ∧ w = w' := by
  obtain ⟨X, hX⟩ : ∃ X, (a % 18446744073709551616).toNat = X := ⟨_, rfl⟩
  obtain ⟨Y, hY⟩ : ∃ Y, (b % 18446744073709551616).toNat = Y := ⟨_, rfl⟩
  obtain ⟨s, hse⟩ : ∃ s, (b % 64).toNat = s := ⟨_, rfl⟩
  have hval : Hid (wrap64 (bits .or .u64 (X : Int) (Y : Int)) = val64 7 a b) := Lib.hid (cong64_or a b X Y hX hY)
  have Hx := Lib.hid (bits64_nat a X w hX)
  have Hy := Lib.hid (bits64_nat b Y w hY)
  have hs : (Y : Int) % 64 = (s : Int) := by omega
  have hs2 : s ≤ 63 := by omega
  have hX2 : X ≤ 18446744073709551615 := by omega
  have hY2 : Y ≤ 18446744073709551615 := by omega
  have HX := Lib.hid hX
  have HY := Lib.hid hY
  have HS := Lib.hid hse
  clear hX hY hse
  go_enter Try.func34, Try.ntmps34
  go_wp2_with fail
  refine Hx.out.mono ?_
  rintro e1 w1 ⟨rfl, rfl⟩
  go_wp2_with fail
  refine Hy.out.mono ?_
  rintro e1 w1 ⟨rfl, rfl⟩
  go_wp2_with fail
  refine (back64_int _ _ (by first | exact u64_bd _ | exact ubits_bd _ _ _ | omega)).mono ?_
  rintro e1 w1 ⟨rfl, rfl⟩
  rw [hval.out]
  go_wp2
  go_ret2
  exact ⟨rfl, rfl⟩

set_option maxHeartbeats 400000 in
theorem rr64_xor (a b : Int) (w : World) (a1 : -9223372036854775808 ≤ a) (a2 : a ≤ 9223372036854775807) :
    Calls Try.prog 34 #[.int .i64 8, .int .i64 a, .int .i64 b, .int .i64 64] w fun e w' => e = .returned (.tuple #[.int .i64 (val64 8 a b), .int .i64 0]) ∧ w = w' := by
  obtain ⟨X, hX⟩ : ∃ X, (a % 18446744073709551616).toNat = X := ⟨_, rfl⟩
  obtain ⟨Y, hY⟩ : ∃ Y, (b % 18446744073709551616).toNat = Y := ⟨_, rfl⟩
  obtain ⟨s, hse⟩ : ∃ s, (b % 64).toNat = s := ⟨_, rfl⟩
  have hval : Hid (wrap64 (bits .xor .u64 (X : Int) (Y : Int)) = val64 8 a b) := Lib.hid (cong64_xor a b X Y hX hY)
  have Hx := Lib.hid (bits64_nat a X w hX)
  have Hy := Lib.hid (bits64_nat b Y w hY)
  have hs : (Y : Int) % 64 = (s : Int) := by omega
  have hs2 : s ≤ 63 := by omega
  have hX2 : X ≤ 18446744073709551615 := by omega
  have hY2 : Y ≤ 18446744073709551615 := by omega
  have HX := Lib.hid hX
  have HY := Lib.hid hY
  have HS := Lib.hid hse
  clear hX hY hse
  go_enter Try.func34, Try.ntmps34
  go_wp2_with fail
  refine Hx.out.mono ?_
  rintro e1 w1 ⟨rfl, rfl⟩
  go_wp2_with fail
  refine Hy.out.mono ?_
  rintro e1 w1 ⟨rfl, rfl⟩
  go_wp2_with fail
  refine (back64_int _ _ (by first | exact u64_bd _ | exact ubits_bd _ _ _ | omega)).mono ?_
  rintro e1 w1 ⟨rfl, rfl⟩
  rw [hval.out]
  go_wp2
  go_ret2
  exact ⟨rfl, rfl⟩

set_option maxHeartbeats 400000 in
theorem rr64_shl (a b : Int) (w : World) (a1 : -9223372036854775808 ≤ a) (a2 : a ≤ 9223372036854775807) :
    Calls Try.prog 34 #[.int .i64 9, .int .i64 a, .int .i64 b, .int .i64 64] w fun e w' => e = .returned (.tuple #[.int .i64 (val64 9 a b), .int .i64 0]) ∧ w = w' := by
  obtain ⟨X, hX⟩ : ∃ X, (a % 18446744073709551616).toNat = X := ⟨_, rfl⟩
  obtain ⟨Y, hY⟩ : ∃ Y, (b % 18446744073709551616).toNat = Y := ⟨_, rfl⟩
  obtain ⟨s, hse⟩ : ∃ s, (b % 64).toNat = s := ⟨_, rfl⟩
  have Hx := Lib.hid (bits64_nat a X w hX)
  have Hy := Lib.hid (bits64_nat b Y w hY)
  have hs : (Y : Int) % 64 = (s : Int) := by omega
  have hs2 : s ≤ 63 := by omega
  have hX2 : X ≤ 18446744073709551615 := by omega
  have hY2 : Y ≤ 18446744073709551615 := by omega
  have HX := Lib.hid hX
  have HY := Lib.hid hY
  have HS := Lib.hid hse
  clear hX hY hse
  obtain ⟨p, hp⟩ : ∃ p, 2 ^ s = p := ⟨_, rfl⟩
  have hpw := power_any s w (by omega)
  rw [hp] at hpw
  have Hpw := Lib.hid hpw
  have hp1 : 1 ≤ p := by rw [← hp]; exact Nat.one_le_two_pow
  have hp2 : p ≤ 9223372036854775808 := by rw [← hp]; exact Nat.pow_le_pow_right (n := 2) (by decide) hs2
  have hpz : ((p : Int) == 0) = false := by simp; omega
  have HP := Lib.hid hp
  have hval : Hid (wrap64 (IntKind.u64.wrap ((X : Int) * (p : Int))) = val64 9 a b) := Lib.hid (cong64_shl a b X s p HX.out HS.out hp)
  clear hpw hp
  go_enter Try.func34, Try.ntmps34
  go_wp2_with fail
  refine Hx.out.mono ?_
  rintro e1 w1 ⟨rfl, rfl⟩
  go_wp2_with fail
  refine Hy.out.mono ?_
  rintro e1 w1 ⟨rfl, rfl⟩
  go_wp2_with fail
  refine Hpw.out.mono ?_
  rintro e1 w1 ⟨rfl, rfl⟩
  go_wp2_with fail
  refine (back64_int _ _ (by first | exact u64_bd _ | exact ubits_bd _ _ _ | omega)).mono ?_
  rintro e1 w1 ⟨rfl, rfl⟩
  rw [hval.out]
  go_wp2
  go_ret2
  exact ⟨rfl, rfl⟩

set_option maxHeartbeats 400000 in
theorem rr64_ushr (a b : Int) (w : World) (a1 : -9223372036854775808 ≤ a) (a2 : a ≤ 9223372036854775807) :
    Calls Try.prog 34 #[.int .i64 11, .int .i64 a, .int .i64 b, .int .i64 64] w fun e w' => e = .returned (.tuple #[.int .i64 (val64 11 a b), .int .i64 0]) ∧ w = w' := by
  obtain ⟨X, hX⟩ : ∃ X, (a % 18446744073709551616).toNat = X := ⟨_, rfl⟩
  obtain ⟨Y, hY⟩ : ∃ Y, (b % 18446744073709551616).toNat = Y := ⟨_, rfl⟩
  obtain ⟨s, hse⟩ : ∃ s, (b % 64).toNat = s := ⟨_, rfl⟩
  have Hx := Lib.hid (bits64_nat a X w hX)
  have Hy := Lib.hid (bits64_nat b Y w hY)
  have hs : (Y : Int) % 64 = (s : Int) := by omega
  have hs2 : s ≤ 63 := by omega
  have hX2 : X ≤ 18446744073709551615 := by omega
  have hY2 : Y ≤ 18446744073709551615 := by omega
  have HX := Lib.hid hX
  have HY := Lib.hid hY
  have HS := Lib.hid hse
  clear hX hY hse
  obtain ⟨p, hp⟩ : ∃ p, 2 ^ s = p := ⟨_, rfl⟩
  have hpw := power_any s w (by omega)
  rw [hp] at hpw
  have Hpw := Lib.hid hpw
  have hp1 : 1 ≤ p := by rw [← hp]; exact Nat.one_le_two_pow
  have hp2 : p ≤ 9223372036854775808 := by rw [← hp]; exact Nat.pow_le_pow_right (n := 2) (by decide) hs2
  have hpz : ((p : Int) == 0) = false := by simp; omega
  have HP := Lib.hid hp
  have hval : Hid (wrap64 (IntKind.u64.wrap ((X : Int) / (p : Int))) = val64 11 a b) := Lib.hid (cong64_ushr a b X s p HX.out HS.out hp)
  clear hpw hp
  go_enter Try.func34, Try.ntmps34
  go_wp2_with fail
  refine Hx.out.mono ?_
  rintro e1 w1 ⟨rfl, rfl⟩
  go_wp2_with fail
  refine Hy.out.mono ?_
  rintro e1 w1 ⟨rfl, rfl⟩
  go_wp2_with fail
  refine Hpw.out.mono ?_
  rintro e1 w1 ⟨rfl, rfl⟩
  go_wp2_with fail
  refine (back64_int _ _ (by first | exact u64_bd _ | exact ubits_bd _ _ _ | omega)).mono ?_
  rintro e1 w1 ⟨rfl, rfl⟩
  rw [hval.out]
  go_wp2
  go_ret2
  exact ⟨rfl, rfl⟩

set_option maxHeartbeats 400000 in
theorem rr64_shrn (a b : Int) (w : World) (a1 : -9223372036854775808 ≤ a) (a2 : a ≤ 9223372036854775807) (hs63 : (b % 64).toNat ≤ 62) (hsg : a < 0) :
    Calls Try.prog 34 #[.int .i64 10, .int .i64 a, .int .i64 b, .int .i64 64] w fun e w' => e = .returned (.tuple #[.int .i64 (val64 10 a b), .int .i64 0]) ∧ w = w' := by
  obtain ⟨X, hX⟩ : ∃ X, (a % 18446744073709551616).toNat = X := ⟨_, rfl⟩
  obtain ⟨Y, hY⟩ : ∃ Y, (b % 18446744073709551616).toNat = Y := ⟨_, rfl⟩
  obtain ⟨s, hse⟩ : ∃ s, (b % 64).toNat = s := ⟨_, rfl⟩
  have Hx := Lib.hid (bits64_nat a X w hX)
  have Hy := Lib.hid (bits64_nat b Y w hY)
  have hs : (Y : Int) % 64 = (s : Int) := by omega
  have hs2 : s ≤ 63 := by omega
  have hX2 : X ≤ 18446744073709551615 := by omega
  have hY2 : Y ≤ 18446744073709551615 := by omega
  have HX := Lib.hid hX
  have HY := Lib.hid hY
  have HS := Lib.hid hse
  clear hX hY hse
  obtain ⟨p, hp⟩ : ∃ p, 2 ^ s = p := ⟨_, rfl⟩
  have hpw := int64Power_any s w (by rw [HS.out] at hs63; exact hs63)
  rw [hp] at hpw
  have Hpw := Lib.hid hpw
  have hp1 : 1 ≤ p := by rw [← hp]; exact Nat.one_le_two_pow
  have hp2 : p ≤ 4611686018427387904 := by rw [← hp]; exact Nat.pow_le_pow_right (n := 2) (by decide) (by rw [HS.out] at hs63; exact hs63 : s ≤ 62)
  have hpz : ((p : Int) == 0) = false := by simp; omega
  have HP := Lib.hid hp
  have hval : Hid (wrap64 (-1 - (-1 - a) / (p : Int)) = val64 10 a b) := Lib.hid (cong64_shrn a b s p HS.out hp (by omega) hsg)
  clear hpw hp
  go_enter Try.func34, Try.ntmps34
  go_wp2_with fail
  refine Hx.out.mono ?_
  rintro e1 w1 ⟨rfl, rfl⟩
  go_wp2_with fail
  refine Hy.out.mono ?_
  rintro e1 w1 ⟨rfl, rfl⟩
  go_wp2_with fail
  refine Hpw.out.mono ?_
  rintro e1 w1 ⟨rfl, rfl⟩
  go_wp2
  go_ret2
  exact ⟨by rw [← hval.out]; rfl, rfl⟩

set_option maxHeartbeats 400000 in
theorem rr64_shrp (a b : Int) (w : World) (a1 : -9223372036854775808 ≤ a) (a2 : a ≤ 9223372036854775807) (hs63 : (b % 64).toNat ≤ 62) (hsg : ¬ a < 0) :
    Calls Try.prog 34 #[.int .i64 10, .int .i64 a, .int .i64 b, .int .i64 64] w fun e w' => e = .returned (.tuple #[.int .i64 (val64 10 a b), .int .i64 0]) ∧ w = w' := by
  obtain ⟨X, hX⟩ : ∃ X, (a % 18446744073709551616).toNat = X := ⟨_, rfl⟩
  obtain ⟨Y, hY⟩ : ∃ Y, (b % 18446744073709551616).toNat = Y := ⟨_, rfl⟩
  obtain ⟨s, hse⟩ : ∃ s, (b % 64).toNat = s := ⟨_, rfl⟩
  have Hx := Lib.hid (bits64_nat a X w hX)
  have Hy := Lib.hid (bits64_nat b Y w hY)
  have hs : (Y : Int) % 64 = (s : Int) := by omega
  have hs2 : s ≤ 63 := by omega
  have hX2 : X ≤ 18446744073709551615 := by omega
  have hY2 : Y ≤ 18446744073709551615 := by omega
  have HX := Lib.hid hX
  have HY := Lib.hid hY
  have HS := Lib.hid hse
  clear hX hY hse
  obtain ⟨p, hp⟩ : ∃ p, 2 ^ s = p := ⟨_, rfl⟩
  have hpw := int64Power_any s w (by rw [HS.out] at hs63; exact hs63)
  rw [hp] at hpw
  have Hpw := Lib.hid hpw
  have hp1 : 1 ≤ p := by rw [← hp]; exact Nat.one_le_two_pow
  have hp2 : p ≤ 4611686018427387904 := by rw [← hp]; exact Nat.pow_le_pow_right (n := 2) (by decide) (by rw [HS.out] at hs63; exact hs63 : s ≤ 62)
  have hpz : ((p : Int) == 0) = false := by simp; omega
  have HP := Lib.hid hp
  have hval : Hid (a / (p : Int) = val64 10 a b) := Lib.hid (cong64_shrp a b s p HS.out hp)
  clear hpw hp
  go_enter Try.func34, Try.ntmps34
  go_wp2_with fail
  refine Hx.out.mono ?_
  rintro e1 w1 ⟨rfl, rfl⟩
  go_wp2_with fail
  refine Hy.out.mono ?_
  rintro e1 w1 ⟨rfl, rfl⟩
  go_wp2_with fail
  refine Hpw.out.mono ?_
  rintro e1 w1 ⟨rfl, rfl⟩
  go_wp2
  go_ret2
  exact ⟨by rw [← hval.out]; rfl, rfl⟩

theorem rr64_zero (op a : Int) (w : World) (ho : op = 4 ∨ op = 5) :
    Calls Try.prog 34 #[.int .i64 op, .int .i64 a, .int .i64 0, .int .i64 64] w fun e w' => e = .returned (.tuple #[.int .i64 0, .int .i64 2]) ∧ w = w' := by
  obtain ⟨X, hX⟩ : ∃ X, (a % 18446744073709551616).toNat = X := ⟨_, rfl⟩
  have Hx := Lib.hid (bits64_nat a X w hX)
  have Hy := Lib.hid (bits64_nat 0 0 w (by decide))
  clear hX
  rcases ho with rfl | rfl
  all_goals
    go_enter Try.func34, Try.ntmps34
    go_wp2_with fail
    refine Hx.out.mono ?_
    rintro e1 w1 ⟨rfl, rfl⟩
    go_wp2_with fail
    refine Hy.out.mono ?_
    rintro e1 w1 ⟨rfl, rfl⟩
    go_wp2
    go_ret2
    exact ⟨rfl, rfl⟩
theorem rr64_divm (a : Int) (w : World) :
    Calls Try.prog 34 #[.int .i64 4, .int .i64 a, .int .i64 (-1), .int .i64 64] w fun e w' => e = .returned (.tuple #[.int .i64 (val64 4 a (-1)), .int .i64 0]) ∧ w = w' := by
  obtain ⟨X, hX⟩ : ∃ X, (a % 18446744073709551616).toNat = X := ⟨_, rfl⟩
  obtain ⟨Y, hY⟩ : ∃ Y, (-1 % 18446744073709551616 : Int).toNat = Y := ⟨_, rfl⟩
  have hval := Lib.hid (cong64_neg a X hX)
  have Hx := Lib.hid (bits64_nat a X w hX)
  have Hy := Lib.hid (bits64_nat (-1) Y w hY)
  clear hX hY
  go_enter Try.func34, Try.ntmps34
  go_wp2_with fail
  refine Hx.out.mono ?_
  rintro e1 w1 ⟨rfl, rfl⟩
  go_wp2_with fail
  refine Hy.out.mono ?_
  rintro e1 w1 ⟨rfl, rfl⟩
  go_wp2_with fail
  refine (back64_int _ _ (u64_bd _)).mono ?_
  rintro e1 w1 ⟨rfl, rfl⟩
  rw [hval.out]
  go_wp2
  go_ret2
  exact ⟨rfl, rfl⟩
theorem rr64_remm (a : Int) (w : World) :
    Calls Try.prog 34 #[.int .i64 5, .int .i64 a, .int .i64 (-1), .int .i64 64] w fun e w' => e = .returned (.tuple #[.int .i64 (val64 5 a (-1)), .int .i64 0]) ∧ w = w' := by
  obtain ⟨X, hX⟩ : ∃ X, (a % 18446744073709551616).toNat = X := ⟨_, rfl⟩
  obtain ⟨Y, hY⟩ : ∃ Y, (-1 % 18446744073709551616 : Int).toNat = Y := ⟨_, rfl⟩
  have hval : Hid (0 = val64 5 a (-1)) := Lib.hid (by show 0 = a.tmod (-1); simp)
  have Hx := Lib.hid (bits64_nat a X w hX)
  have Hy := Lib.hid (bits64_nat (-1) Y w hY)
  clear hX hY
  go_enter Try.func34, Try.ntmps34
  go_wp2_with fail
  refine Hx.out.mono ?_
  rintro e1 w1 ⟨rfl, rfl⟩
  go_wp2_with fail
  refine Hy.out.mono ?_
  rintro e1 w1 ⟨rfl, rfl⟩
  go_wp2
  go_ret2
  exact ⟨by rw [← hval.out]; rfl, rfl⟩
theorem rr64_div (a b : Int) (w : World) (a1 : -9223372036854775808 ≤ a) (a2 : a ≤ 9223372036854775807) (hb0 : ¬ b = 0) (hb1 : ¬ b = -1) :
    Calls Try.prog 34 #[.int .i64 4, .int .i64 a, .int .i64 b, .int .i64 64] w fun e w' => e = .returned (.tuple #[.int .i64 (val64 4 a b), .int .i64 0]) ∧ w = w' := by
  obtain ⟨X, hX⟩ : ∃ X, (a % 18446744073709551616).toNat = X := ⟨_, rfl⟩
  obtain ⟨Y, hY⟩ : ∃ Y, (b % 18446744073709551616).toNat = Y := ⟨_, rfl⟩
  have hval : Hid (wrap64 (a.tdiv b) = val64 4 a b) := Lib.hid (rfl)
  have Hx := Lib.hid (bits64_nat a X w hX)
  have Hy := Lib.hid (bits64_nat b Y w hY)
  have e0 : (b == 0) = false := by simpa using hb0
  have e1 : (b == -1) = false := by simpa using hb1
  clear hX hY
  go_enter Try.func34, Try.ntmps34
  go_wp2_with fail
  refine Hx.out.mono ?_
  rintro e1 w1 ⟨rfl, rfl⟩
  go_wp2_with fail
  refine Hy.out.mono ?_
  rintro e1 w1 ⟨rfl, rfl⟩
  go_wp2
  go_ret2
  exact ⟨by rw [← hval.out]; rfl, rfl⟩
theorem rr64_rem (a b : Int) (w : World) (hb0 : ¬ b = 0) (hb1 : ¬ b = -1) :
    Calls Try.prog 34 #[.int .i64 5, .int .i64 a, .int .i64 b, .int .i64 64] w fun e w' => e = .returned (.tuple #[.int .i64 (val64 5 a b), .int .i64 0]) ∧ w = w' := by
  obtain ⟨X, hX⟩ : ∃ X, (a % 18446744073709551616).toNat = X := ⟨_, rfl⟩
  obtain ⟨Y, hY⟩ : ∃ Y, (b % 18446744073709551616).toNat = Y := ⟨_, rfl⟩
  have Hx := Lib.hid (bits64_nat a X w hX)
  have Hy := Lib.hid (bits64_nat b Y w hY)
  have e0 : (b == 0) = false := by simpa using hb0
  have e1 : (b == -1) = false := by simpa using hb1
  clear hX hY
  go_enter Try.func34, Try.ntmps34
  go_wp2_with fail
  refine Hx.out.mono ?_
  rintro e1 w1 ⟨rfl, rfl⟩
  go_wp2_with fail
  refine Hy.out.mono ?_
  rintro e1 w1 ⟨rfl, rfl⟩
  go_wp2
  go_ret2
  exact ⟨rfl, rfl⟩

set_option maxHeartbeats 400000 in
theorem rr64_none (op a b : Int) (w : World) (h : op < 1 ∨ 11 < op) :
    Calls Try.prog 34 #[.int .i64 op, .int .i64 a, .int .i64 b, .int .i64 64] w fun e w' => e = .returned (.tuple #[.int .i64 0, .int .i64 1]) ∧ w = w' := by
  obtain ⟨X, hX⟩ : ∃ X, (a % 18446744073709551616).toNat = X := ⟨_, rfl⟩
  obtain ⟨Y, hY⟩ : ∃ Y, (b % 18446744073709551616).toNat = Y := ⟨_, rfl⟩
  have Hx := Lib.hid (bits64_nat a X w hX)
  have Hy := Lib.hid (bits64_nat b Y w hY)
  clear hX hY
  have n1 : (op == 1) = false := by simp; omega
  have n2 : (op == 2) = false := by simp; omega
  have n3 : (op == 3) = false := by simp; omega
  have n4 : (op == 4) = false := by simp; omega
  have n5 : (op == 5) = false := by simp; omega
  have n6 : (op == 6) = false := by simp; omega
  have n7 : (op == 7) = false := by simp; omega
  have n8 : (op == 8) = false := by simp; omega
  have n9 : (op == 9) = false := by simp; omega
  have n10 : (op == 10) = false := by simp; omega
  have n11 : (op == 11) = false := by simp; omega
  clear h
  go_enter Try.func34, Try.ntmps34
  go_wp2_with fail
  refine Hx.out.mono ?_
  rintro e1 w1 ⟨rfl, rfl⟩
  go_wp2_with fail
  refine Hy.out.mono ?_
  rintro e1 w1 ⟨rfl, rfl⟩
  go_wp2
  go_ret2
  exact ⟨rfl, rfl⟩

end Go.Proofs.Ytadnenoehdemkaa
