/- The walk over num's reckon, of 64 bits: each kind of sum. -/
import Derived.Test.YtadnenoehdemkaaNa
namespace Go.Proofs.Ytadnenoehdemkaa
open Go.RowKit

/-- The outcome of a sum of 64 bits. -/
def val64 (op : Nat) (a b : Int) : Int :=
  match op with
  | 1 => wrap64 (a + b)
  | 2 => wrap64 (a - b)
  | 3 => wrap64 (a * b)
  | 4 => wrap64 (a.tdiv b)
  | 5 => a.tmod b
  | 6 => bits .and .i64 a b
  | 7 => bits .or .i64 a b
  | 8 => bits .xor .i64 a b
  | 9 => wrap64 (a * 2 ^ (b % 64).toNat)
  | 10 => a / 2 ^ (b % 64).toNat
  | 11 => wrap64 ((a % 18446744073709551616) / 2 ^ (b % 64).toNat)
  | _ => 0

theorem by64 (b : Int) : bits .and .u64 (b % 18446744073709551616) 63 = (((b % 64).toNat : Nat) : Int) := by
  have h := u64_and_nat (b % 18446744073709551616).toNat 63 (by omega) (by omega)
  rw [nat_mask6, show (((b % 18446744073709551616).toNat : Nat) : Int) = b % 18446744073709551616 by omega] at h
  have e : ((63 : Nat) : Int) = 63 := rfl
  rw [e] at h
  rw [h]
  omega

set_option maxHeartbeats 400000 in
theorem rk64_addt (a b : Int) (w : World) (a1 : -9223372036854775808 ≤ a) (a2 : a ≤ 9223372036854775807) (hb : (b == 0) = true) :
    Calls Try.prog 35 #[.int .i64 1, .int .i64 a, .int .i64 b, .int .u64 63] w fun e w' => e = .returned (.tuple #[.int .i64 (val64 1 a b), .int .i64 0]) ∧ w = w' := by
  go_enter Try.func35, Try.ntmps35
  go_wp2
  go_ret2
  exact ⟨by rfl, rfl⟩

set_option maxHeartbeats 400000 in
theorem rk64_addf (a b : Int) (w : World) (a1 : -9223372036854775808 ≤ a) (a2 : a ≤ 9223372036854775807) (hb : (b == 0) = false) :
    Calls Try.prog 35 #[.int .i64 1, .int .i64 a, .int .i64 b, .int .u64 63] w fun e w' => e = .returned (.tuple #[.int .i64 (val64 1 a b), .int .i64 0]) ∧ w = w' := by
  go_enter Try.func35, Try.ntmps35
  go_wp2
  go_ret2
  exact ⟨by rfl, rfl⟩

set_option maxHeartbeats 400000 in
theorem rk64_subt (a b : Int) (w : World) (a1 : -9223372036854775808 ≤ a) (a2 : a ≤ 9223372036854775807) (hb : (b == 0) = true) :
    Calls Try.prog 35 #[.int .i64 2, .int .i64 a, .int .i64 b, .int .u64 63] w fun e w' => e = .returned (.tuple #[.int .i64 (val64 2 a b), .int .i64 0]) ∧ w = w' := by
  go_enter Try.func35, Try.ntmps35
  go_wp2
  go_ret2
  exact ⟨by rfl, rfl⟩

set_option maxHeartbeats 400000 in
theorem rk64_subf (a b : Int) (w : World) (a1 : -9223372036854775808 ≤ a) (a2 : a ≤ 9223372036854775807) (hb : (b == 0) = false) :
    Calls Try.prog 35 #[.int .i64 2, .int .i64 a, .int .i64 b, .int .u64 63] w fun e w' => e = .returned (.tuple #[.int .i64 (val64 2 a b), .int .i64 0]) ∧ w = w' := by
  go_enter Try.func35, Try.ntmps35
  go_wp2
  go_ret2
  exact ⟨by rfl, rfl⟩

set_option maxHeartbeats 400000 in
theorem rk64_mult (a b : Int) (w : World) (a1 : -9223372036854775808 ≤ a) (a2 : a ≤ 9223372036854775807) (hb : (b == 0) = true) :
    Calls Try.prog 35 #[.int .i64 3, .int .i64 a, .int .i64 b, .int .u64 63] w fun e w' => e = .returned (.tuple #[.int .i64 (val64 3 a b), .int .i64 0]) ∧ w = w' := by
  go_enter Try.func35, Try.ntmps35
  go_wp2
  go_ret2
  exact ⟨by rfl, rfl⟩

set_option maxHeartbeats 400000 in
theorem rk64_mulf (a b : Int) (w : World) (a1 : -9223372036854775808 ≤ a) (a2 : a ≤ 9223372036854775807) (hb : (b == 0) = false) :
    Calls Try.prog 35 #[.int .i64 3, .int .i64 a, .int .i64 b, .int .u64 63] w fun e w' => e = .returned (.tuple #[.int .i64 (val64 3 a b), .int .i64 0]) ∧ w = w' := by
  go_enter Try.func35, Try.ntmps35
  go_wp2
  go_ret2
  exact ⟨by rfl, rfl⟩

set_option maxHeartbeats 400000 in
theorem rk64_divf (a b : Int) (w : World) (a1 : -9223372036854775808 ≤ a) (a2 : a ≤ 9223372036854775807) (hb : (b == 0) = false) :
    Calls Try.prog 35 #[.int .i64 4, .int .i64 a, .int .i64 b, .int .u64 63] w fun e w' => e = .returned (.tuple #[.int .i64 (val64 4 a b), .int .i64 0]) ∧ w = w' := by
  have hne : ¬ b = 0 := by simpa using hb
  go_enter Try.func35, Try.ntmps35
  go_wp2
  go_ret2
  exact ⟨by rfl, rfl⟩

set_option maxHeartbeats 400000 in
theorem rk64_remf (a b : Int) (w : World) (a1 : -9223372036854775808 ≤ a) (a2 : a ≤ 9223372036854775807) (hb : (b == 0) = false) :
    Calls Try.prog 35 #[.int .i64 5, .int .i64 a, .int .i64 b, .int .u64 63] w fun e w' => e = .returned (.tuple #[.int .i64 (val64 5 a b), .int .i64 0]) ∧ w = w' := by
  have hne : ¬ b = 0 := by simpa using hb
  go_enter Try.func35, Try.ntmps35
  go_wp2
  go_ret2
  exact ⟨by rfl, rfl⟩

set_option maxHeartbeats 400000 in
theorem rk64_andt (a b : Int) (w : World) (a1 : -9223372036854775808 ≤ a) (a2 : a ≤ 9223372036854775807) (hb : (b == 0) = true) :
    Calls Try.prog 35 #[.int .i64 6, .int .i64 a, .int .i64 b, .int .u64 63] w fun e w' => e = .returned (.tuple #[.int .i64 (val64 6 a b), .int .i64 0]) ∧ w = w' := by
  go_enter Try.func35, Try.ntmps35
  go_wp2
  go_ret2
  exact ⟨by rfl, rfl⟩

set_option maxHeartbeats 400000 in
theorem rk64_andf (a b : Int) (w : World) (a1 : -9223372036854775808 ≤ a) (a2 : a ≤ 9223372036854775807) (hb : (b == 0) = false) :
    Calls Try.prog 35 #[.int .i64 6, .int .i64 a, .int .i64 b, .int .u64 63] w fun e w' => e = .returned (.tuple #[.int .i64 (val64 6 a b), .int .i64 0]) ∧ w = w' := by
  go_enter Try.func35, Try.ntmps35
  go_wp2
  go_ret2
  exact ⟨by rfl, rfl⟩

set_option maxHeartbeats 400000 in
theorem rk64_ort (a b : Int) (w : World) (a1 : -9223372036854775808 ≤ a) (a2 : a ≤ 9223372036854775807) (hb : (b == 0) = true) :
    Calls Try.prog 35 #[.int .i64 7, .int .i64 a, .int .i64 b, .int .u64 63] w fun e w' => e = .returned (.tuple #[.int .i64 (val64 7 a b), .int .i64 0]) ∧ w = w' := by
  go_enter Try.func35, Try.ntmps35
  go_wp2
  go_ret2
  exact ⟨by rfl, rfl⟩

set_option maxHeartbeats 400000 in
theorem rk64_orf (a b : Int) (w : World) (a1 : -9223372036854775808 ≤ a) (a2 : a ≤ 9223372036854775807) (hb : (b == 0) = false) :
    Calls Try.prog 35 #[.int .i64 7, .int .i64 a, .int .i64 b, .int .u64 63] w fun e w' => e = .returned (.tuple #[.int .i64 (val64 7 a b), .int .i64 0]) ∧ w = w' := by
  go_enter Try.func35, Try.ntmps35
  go_wp2
  go_ret2
  exact ⟨by rfl, rfl⟩

set_option maxHeartbeats 400000 in
theorem rk64_xort (a b : Int) (w : World) (a1 : -9223372036854775808 ≤ a) (a2 : a ≤ 9223372036854775807) (hb : (b == 0) = true) :
    Calls Try.prog 35 #[.int .i64 8, .int .i64 a, .int .i64 b, .int .u64 63] w fun e w' => e = .returned (.tuple #[.int .i64 (val64 8 a b), .int .i64 0]) ∧ w = w' := by
  go_enter Try.func35, Try.ntmps35
  go_wp2
  go_ret2
  exact ⟨by rfl, rfl⟩

set_option maxHeartbeats 400000 in
theorem rk64_xorf (a b : Int) (w : World) (a1 : -9223372036854775808 ≤ a) (a2 : a ≤ 9223372036854775807) (hb : (b == 0) = false) :
    Calls Try.prog 35 #[.int .i64 8, .int .i64 a, .int .i64 b, .int .u64 63] w fun e w' => e = .returned (.tuple #[.int .i64 (val64 8 a b), .int .i64 0]) ∧ w = w' := by
  go_enter Try.func35, Try.ntmps35
  go_wp2
  go_ret2
  exact ⟨by rfl, rfl⟩

set_option maxHeartbeats 400000 in
theorem rk64_shlt (a b : Int) (w : World) (a1 : -9223372036854775808 ≤ a) (a2 : a ≤ 9223372036854775807) (hb : (b == 0) = true) :
    Calls Try.prog 35 #[.int .i64 9, .int .i64 a, .int .i64 b, .int .u64 63] w fun e w' => e = .returned (.tuple #[.int .i64 (val64 9 a b), .int .i64 0]) ∧ w = w' := by
  rw [show val64 9 a b = wrap64 (a * 2 ^ (b % 64).toNat) from rfl]
  have hs := by64 b
  rw [← IntKind.wrap_u64] at hs
  have hs2 : (b % 64).toNat ≤ 63 := by omega
  obtain ⟨s, hse⟩ : ∃ s, (b % 64).toNat = s := ⟨_, rfl⟩
  rw [hse] at hs hs2
  have Hse := Lib.hid hse
  clear hse
  go_enter Try.func35, Try.ntmps35
  go_wp2
  go_ret2
  exact ⟨by rw [Hse.out]; rfl, rfl⟩

set_option maxHeartbeats 400000 in
theorem rk64_shlf (a b : Int) (w : World) (a1 : -9223372036854775808 ≤ a) (a2 : a ≤ 9223372036854775807) (hb : (b == 0) = false) :
    Calls Try.prog 35 #[.int .i64 9, .int .i64 a, .int .i64 b, .int .u64 63] w fun e w' => e = .returned (.tuple #[.int .i64 (val64 9 a b), .int .i64 0]) ∧ w = w' := by
  rw [show val64 9 a b = wrap64 (a * 2 ^ (b % 64).toNat) from rfl]
  have hs := by64 b
  rw [← IntKind.wrap_u64] at hs
  have hs2 : (b % 64).toNat ≤ 63 := by omega
  obtain ⟨s, hse⟩ : ∃ s, (b % 64).toNat = s := ⟨_, rfl⟩
  rw [hse] at hs hs2
  have Hse := Lib.hid hse
  clear hse
  go_enter Try.func35, Try.ntmps35
  go_wp2
  go_ret2
  exact ⟨by rw [Hse.out]; rfl, rfl⟩

set_option maxHeartbeats 400000 in
theorem rk64_shrt (a b : Int) (w : World) (a1 : -9223372036854775808 ≤ a) (a2 : a ≤ 9223372036854775807) (hb : (b == 0) = true) :
    Calls Try.prog 35 #[.int .i64 10, .int .i64 a, .int .i64 b, .int .u64 63] w fun e w' => e = .returned (.tuple #[.int .i64 (val64 10 a b), .int .i64 0]) ∧ w = w' := by
  rw [show val64 10 a b = a / 2 ^ (b % 64).toNat from rfl]
  have hs := by64 b
  rw [← IntKind.wrap_u64] at hs
  have hs2 : (b % 64).toNat ≤ 63 := by omega
  obtain ⟨s, hse⟩ : ∃ s, (b % 64).toNat = s := ⟨_, rfl⟩
  rw [hse] at hs hs2
  have Hse := Lib.hid hse
  clear hse
  go_enter Try.func35, Try.ntmps35
  go_wp2
  go_ret2
  exact ⟨by rw [Hse.out]; rfl, rfl⟩

set_option maxHeartbeats 400000 in
theorem rk64_shrf (a b : Int) (w : World) (a1 : -9223372036854775808 ≤ a) (a2 : a ≤ 9223372036854775807) (hb : (b == 0) = false) :
    Calls Try.prog 35 #[.int .i64 10, .int .i64 a, .int .i64 b, .int .u64 63] w fun e w' => e = .returned (.tuple #[.int .i64 (val64 10 a b), .int .i64 0]) ∧ w = w' := by
  rw [show val64 10 a b = a / 2 ^ (b % 64).toNat from rfl]
  have hs := by64 b
  rw [← IntKind.wrap_u64] at hs
  have hs2 : (b % 64).toNat ≤ 63 := by omega
  obtain ⟨s, hse⟩ : ∃ s, (b % 64).toNat = s := ⟨_, rfl⟩
  rw [hse] at hs hs2
  have Hse := Lib.hid hse
  clear hse
  go_enter Try.func35, Try.ntmps35
  go_wp2
  go_ret2
  exact ⟨by rw [Hse.out]; rfl, rfl⟩

set_option maxHeartbeats 400000 in
theorem rk64_ushrt (a b : Int) (w : World) (a1 : -9223372036854775808 ≤ a) (a2 : a ≤ 9223372036854775807) (hb : (b == 0) = true) :
    Calls Try.prog 35 #[.int .i64 11, .int .i64 a, .int .i64 b, .int .u64 63] w fun e w' => e = .returned (.tuple #[.int .i64 (val64 11 a b), .int .i64 0]) ∧ w = w' := by
  rw [show val64 11 a b = wrap64 ((a % 18446744073709551616) / 2 ^ (b % 64).toNat) from rfl]
  have hs := by64 b
  rw [← IntKind.wrap_u64] at hs
  have hs2 : (b % 64).toNat ≤ 63 := by omega
  obtain ⟨s, hse⟩ : ∃ s, (b % 64).toNat = s := ⟨_, rfl⟩
  rw [hse] at hs hs2
  have Hse := Lib.hid hse
  clear hse
  go_enter Try.func35, Try.ntmps35
  go_wp2
  go_ret2
  exact ⟨by rw [Hse.out, ← IntKind.wrap_u64]; rfl, rfl⟩

set_option maxHeartbeats 400000 in
theorem rk64_ushrf (a b : Int) (w : World) (a1 : -9223372036854775808 ≤ a) (a2 : a ≤ 9223372036854775807) (hb : (b == 0) = false) :
    Calls Try.prog 35 #[.int .i64 11, .int .i64 a, .int .i64 b, .int .u64 63] w fun e w' => e = .returned (.tuple #[.int .i64 (val64 11 a b), .int .i64 0]) ∧ w = w' := by
  rw [show val64 11 a b = wrap64 ((a % 18446744073709551616) / 2 ^ (b % 64).toNat) from rfl]
  have hs := by64 b
  rw [← IntKind.wrap_u64] at hs
  have hs2 : (b % 64).toNat ≤ 63 := by omega
  obtain ⟨s, hse⟩ : ∃ s, (b % 64).toNat = s := ⟨_, rfl⟩
  rw [hse] at hs hs2
  have Hse := Lib.hid hse
  clear hse
  go_enter Try.func35, Try.ntmps35
  go_wp2
  go_ret2
  exact ⟨by rw [Hse.out, ← IntKind.wrap_u64]; rfl, rfl⟩

theorem rk64_divz (a : Int) (w : World) :
    Calls Try.prog 35 #[.int .i64 4, .int .i64 a, .int .i64 0, .int .u64 63] w fun e w' => e = .returned (.tuple #[.int .i64 0, .int .i64 2]) ∧ w = w' := by
  go_enter Try.func35, Try.ntmps35
  go_wp2
  go_ret2
  exact ⟨rfl, rfl⟩

theorem rk64_remz (a : Int) (w : World) :
    Calls Try.prog 35 #[.int .i64 5, .int .i64 a, .int .i64 0, .int .u64 63] w fun e w' => e = .returned (.tuple #[.int .i64 0, .int .i64 2]) ∧ w = w' := by
  go_enter Try.func35, Try.ntmps35
  go_wp2
  go_ret2
  exact ⟨rfl, rfl⟩

set_option maxHeartbeats 400000 in
theorem rk64_none (op a b : Int) (w : World) (h : op < 1 ∨ 11 < op) :
    Calls Try.prog 35 #[.int .i64 op, .int .i64 a, .int .i64 b, .int .u64 63] w fun e w' => e = .returned (.tuple #[.int .i64 0, .int .i64 1]) ∧ w = w' := by
  by_cases hz : b = 0
  · have hb : (b == 0) = true := by simp [hz]
    clear hz
    have n1 : (op == 1) = false := by simp; omega
    have n2 : (op == 2) = false := by simp; omega
    have n3 : (op == 3) = false := by simp; omega
    have n4 : (op == 4) = false := by simp; omega
    have n5 : (op == 5) = false := by simp; omega
    have n6 : (op == 6) = false := by simp; omega
    have n7 : (op == 7) = false := by simp; omega
    have n8 : (op == 8) = false := by simp; omega
    have n9 : (op == 9) = false := by simp; omega
    have n10 : (op == 10) = false := by simp; omega
    have n11 : (op == 11) = false := by simp; omega
    clear h
    go_enter Try.func35, Try.ntmps35
    go_wp2
    go_ret2
    exact ⟨rfl, rfl⟩
  · have hb : (b == 0) = false := by simp [hz]
    clear hz
    have n1 : (op == 1) = false := by simp; omega
    have n2 : (op == 2) = false := by simp; omega
    have n3 : (op == 3) = false := by simp; omega
    have n4 : (op == 4) = false := by simp; omega
    have n5 : (op == 5) = false := by simp; omega
    have n6 : (op == 6) = false := by simp; omega
    have n7 : (op == 7) = false := by simp; omega
    have n8 : (op == 8) = false := by simp; omega
    have n9 : (op == 9) = false := by simp; omega
    have n10 : (op == 10) = false := by simp; omega
    have n11 : (op == 11) = false := by simp; omega
    clear h
    go_enter Try.func35, Try.ntmps35
    go_wp2
    go_ret2
    exact ⟨rfl, rfl⟩

/-- Each sum of 64 bits, whatever the kind from 1 to 11. -/
theorem rk64_any (op : Nat) (a b : Int) (w : World) (h1 : 1 ≤ op) (h2 : op ≤ 11) (a1 : -9223372036854775808 ≤ a) (a2 : a ≤ 9223372036854775807) (hd : op = 4 ∨ op = 5 → b ≠ 0) :
    Calls Try.prog 35 #[.int .i64 (op : Int), .int .i64 a, .int .i64 b, .int .u64 63] w fun e w' => e = .returned (.tuple #[.int .i64 (val64 op a b), .int .i64 0]) ∧ w = w' := by
  by_cases hz : b = 0
  · have hb : (b == 0) = true := by simp [hz]
    rcases (by omega : op = 1 ∨ op = 2 ∨ op = 3 ∨ op = 4 ∨ op = 5 ∨ op = 6 ∨ op = 7 ∨ op = 8 ∨ op = 9 ∨ op = 10 ∨ op = 11) with rfl | rfl | rfl | rfl | rfl | rfl | rfl | rfl | rfl | rfl | rfl
    · exact rk64_addt a b w a1 a2 hb
    · exact rk64_subt a b w a1 a2 hb
    · exact rk64_mult a b w a1 a2 hb
    · exact absurd hz (hd (Or.inl rfl))
    · exact absurd hz (hd (Or.inr rfl))
    · exact rk64_andt a b w a1 a2 hb
    · exact rk64_ort a b w a1 a2 hb
    · exact rk64_xort a b w a1 a2 hb
    · exact rk64_shlt a b w a1 a2 hb
    · exact rk64_shrt a b w a1 a2 hb
    · exact rk64_ushrt a b w a1 a2 hb
  · have hb : (b == 0) = false := by simp [hz]
    rcases (by omega : op = 1 ∨ op = 2 ∨ op = 3 ∨ op = 4 ∨ op = 5 ∨ op = 6 ∨ op = 7 ∨ op = 8 ∨ op = 9 ∨ op = 10 ∨ op = 11) with rfl | rfl | rfl | rfl | rfl | rfl | rfl | rfl | rfl | rfl | rfl
    · exact rk64_addf a b w a1 a2 hb
    · exact rk64_subf a b w a1 a2 hb
    · exact rk64_mulf a b w a1 a2 hb
    · exact rk64_divf a b w a1 a2 hb
    · exact rk64_remf a b w a1 a2 hb
    · exact rk64_andf a b w a1 a2 hb
    · exact rk64_orf a b w a1 a2 hb
    · exact rk64_xorf a b w a1 a2 hb
    · exact rk64_shlf a b w a1 a2 hb
    · exact rk64_shrf a b w a1 a2 hb
    · exact rk64_ushrf a b w a1 a2 hb

end Go.Proofs.Ytadnenoehdemkaa
