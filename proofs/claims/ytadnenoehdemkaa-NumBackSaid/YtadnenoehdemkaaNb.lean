/- The walk over num's reckon, of 32 bits: each kind of sum. -/
import Derived.Test.YtadnenoehdemkaaNa
namespace Go.Proofs.Ytadnenoehdemkaa
open Go.RowKit

/-- The outcome of a sum of 32 bits. -/
def val32 (op : Nat) (a b : Int) : Int :=
  match op with
  | 1 => wrap32 (a + b)
  | 2 => wrap32 (a - b)
  | 3 => wrap32 (a * b)
  | 4 => wrap32 (a.tdiv b)
  | 5 => a.tmod b
  | 6 => bits .and .i32 a b
  | 7 => bits .or .i32 a b
  | 8 => bits .xor .i32 a b
  | 9 => wrap32 (a * 2 ^ (b % 32).toNat)
  | 10 => a / 2 ^ (b % 32).toNat
  | 11 => wrap32 ((a % 4294967296) / 2 ^ (b % 32).toNat)
  | _ => 0

theorem by32 (b : Int) : bits .and .u32 (b % 4294967296) 31 = (((b % 32).toNat : Nat) : Int) := by
  have h := u32_and_nat (b % 4294967296).toNat 31 (by omega) (by omega)
  rw [nat_mask5, show (((b % 4294967296).toNat : Nat) : Int) = b % 4294967296 by omega] at h
  have e : ((31 : Nat) : Int) = 31 := rfl
  rw [e] at h
  rw [h]
  omega

set_option maxHeartbeats 400000 in
theorem rk32_addt (a b : Int) (w : World) (a1 : -2147483648 ≤ a) (a2 : a ≤ 2147483647) (hb : (b == 0) = true) :
    Calls Try.prog 33 #[.int .i64 1, .int .i32 a, .int .i32 b, .int .u32 31] w fun e w' => e = .returned (.tuple #[.int .i32 (val32 1 a b), .int .i64 0]) ∧ w = w' := by
  go_enter Try.func33, Try.ntmps33
  go_wp2
  go_ret2
  exact ⟨by rfl, rfl⟩

set_option maxHeartbeats 400000 in
theorem rk32_addf (a b : Int) (w : World) (a1 : -2147483648 ≤ a) (a2 : a ≤ 2147483647) (hb : (b == 0) = false) :
    Calls Try.prog 33 #[.int .i64 1, .int .i32 a, .int .i32 b, .int .u32 31] w fun e w' => e = .returned (.tuple #[.int .i32 (val32 1 a b), .int .i64 0]) ∧ w = w' := by
  go_enter Try.func33, Try.ntmps33
  go_wp2
  go_ret2
  exact ⟨by rfl, rfl⟩

set_option maxHeartbeats 400000 in
theorem rk32_subt (a b : Int) (w : World) (a1 : -2147483648 ≤ a) (a2 : a ≤ 2147483647) (hb : (b == 0) = true) :
    Calls Try.prog 33 #[.int .i64 2, .int .i32 a, .int .i32 b, .int .u32 31] w fun e w' => e = .returned (.tuple #[.int .i32 (val32 2 a b), .int .i64 0]) ∧ w = w' := by
  go_enter Try.func33, Try.ntmps33
  go_wp2
  go_ret2
  exact ⟨by rfl, rfl⟩

set_option maxHeartbeats 400000 in
theorem rk32_subf (a b : Int) (w : World) (a1 : -2147483648 ≤ a) (a2 : a ≤ 2147483647) (hb : (b == 0) = false) :
    Calls Try.prog 33 #[.int .i64 2, .int .i32 a, .int .i32 b, .int .u32 31] w fun e w' => e = .returned (.tuple #[.int .i32 (val32 2 a b), .int .i64 0]) ∧ w = w' := by
  go_enter Try.func33, Try.ntmps33
  go_wp2
  go_ret2
  exact ⟨by rfl, rfl⟩

set_option maxHeartbeats 400000 in
theorem rk32_mult (a b : Int) (w : World) (a1 : -2147483648 ≤ a) (a2 : a ≤ 2147483647) (hb : (b == 0) = true) :
    Calls Try.prog 33 #[.int .i64 3, .int .i32 a, .int .i32 b, .int .u32 31] w fun e w' => e = .returned (.tuple #[.int .i32 (val32 3 a b), .int .i64 0]) ∧ w = w' := by
  go_enter Try.func33, Try.ntmps33
  go_wp2
  go_ret2
  exact ⟨by rfl, rfl⟩

set_option maxHeartbeats 400000 in
theorem rk32_mulf (a b : Int) (w : World) (a1 : -2147483648 ≤ a) (a2 : a ≤ 2147483647) (hb : (b == 0) = false) :
    Calls Try.prog 33 #[.int .i64 3, .int .i32 a, .int .i32 b, .int .u32 31] w fun e w' => e = .returned (.tuple #[.int .i32 (val32 3 a b), .int .i64 0]) ∧ w = w' := by
  go_enter Try.func33, Try.ntmps33
  go_wp2
  go_ret2
  exact ⟨by rfl, rfl⟩

set_option maxHeartbeats 400000 in
theorem rk32_divf (a b : Int) (w : World) (a1 : -2147483648 ≤ a) (a2 : a ≤ 2147483647) (hb : (b == 0) = false) :
    Calls Try.prog 33 #[.int .i64 4, .int .i32 a, .int .i32 b, .int .u32 31] w fun e w' => e = .returned (.tuple #[.int .i32 (val32 4 a b), .int .i64 0]) ∧ w = w' := by
  have hne : ¬ b = 0 := by simpa using hb
  go_enter Try.func33, Try.ntmps33
  go_wp2
  go_ret2
  exact ⟨by rfl, rfl⟩

set_option maxHeartbeats 400000 in
theorem rk32_remf (a b : Int) (w : World) (a1 : -2147483648 ≤ a) (a2 : a ≤ 2147483647) (hb : (b == 0) = false) :
    Calls Try.prog 33 #[.int .i64 5, .int .i32 a, .int .i32 b, .int .u32 31] w fun e w' => e = .returned (.tuple #[.int .i32 (val32 5 a b), .int .i64 0]) ∧ w = w' := by
  have hne : ¬ b = 0 := by simpa using hb
  go_enter Try.func33, Try.ntmps33
  go_wp2
  go_ret2
  exact ⟨by rfl, rfl⟩

set_option maxHeartbeats 400000 in
theorem rk32_andt (a b : Int) (w : World) (a1 : -2147483648 ≤ a) (a2 : a ≤ 2147483647) (hb : (b == 0) = true) :
    Calls Try.prog 33 #[.int .i64 6, .int .i32 a, .int .i32 b, .int .u32 31] w fun e w' => e = .returned (.tuple #[.int .i32 (val32 6 a b), .int .i64 0]) ∧ w = w' := by
  go_enter Try.func33, Try.ntmps33
  go_wp2
  go_ret2
  exact ⟨by rfl, rfl⟩

set_option maxHeartbeats 400000 in
theorem rk32_andf (a b : Int) (w : World) (a1 : -2147483648 ≤ a) (a2 : a ≤ 2147483647) (hb : (b == 0) = false) :
    Calls Try.prog 33 #[.int .i64 6, .int .i32 a, .int .i32 b, .int .u32 31] w fun e w' => e = .returned (.tuple #[.int .i32 (val32 6 a b), .int .i64 0]) ∧ w = w' := by
  go_enter Try.func33, Try.ntmps33
  go_wp2
  go_ret2
  exact ⟨by rfl, rfl⟩

set_option maxHeartbeats 400000 in
theorem rk32_ort (a b : Int) (w : World) (a1 : -2147483648 ≤ a) (a2 : a ≤ 2147483647) (hb : (b == 0) = true) :
    Calls Try.prog 33 #[.int .i64 7, .int .i32 a, .int .i32 b, .int .u32 31] w fun e w' => e = .returned (.tuple #[.int .i32 (val32 7 a b), .int .i64 0]) ∧ w = w' := by
  go_enter Try.func33, Try.ntmps33
  go_wp2
  go_ret2
  exact ⟨by rfl, rfl⟩

set_option maxHeartbeats 400000 in
theorem rk32_orf (a b : Int) (w : World) (a1 : -2147483648 ≤ a) (a2 : a ≤ 2147483647) (hb : (b == 0) = false) :
    Calls Try.prog 33 #[.int .i64 7, .int .i32 a, .int .i32 b, .int .u32 31] w fun e w' => e = .returned (.tuple #[.int .i32 (val32 7 a b), .int .i64 0]) ∧ w = w' := by
  go_enter Try.func33, Try.ntmps33
  go_wp2
  go_ret2
  exact ⟨by rfl, rfl⟩

set_option maxHeartbeats 400000 in
theorem rk32_xort (a b : Int) (w : World) (a1 : -2147483648 ≤ a) (a2 : a ≤ 2147483647) (hb : (b == 0) = true) :
    Calls Try.prog 33 #[.int .i64 8, .int .i32 a, .int .i32 b, .int .u32 31] w fun e w' => e = .returned (.tuple #[.int .i32 (val32 8 a b), .int .i64 0]) ∧ w = w' := by
  go_enter Try.func33, Try.ntmps33
  go_wp2
  go_ret2
  exact ⟨by rfl, rfl⟩

set_option maxHeartbeats 400000 in
theorem rk32_xorf (a b : Int) (w : World) (a1 : -2147483648 ≤ a) (a2 : a ≤ 2147483647) (hb : (b == 0) = false) :
    Calls Try.prog 33 #[.int .i64 8, .int .i32 a, .int .i32 b, .int .u32 31] w fun e w' => e = .returned (.tuple #[.int .i32 (val32 8 a b), .int .i64 0]) ∧ w = w' := by
  go_enter Try.func33, Try.ntmps33
  go_wp2
  go_ret2
  exact ⟨by rfl, rfl⟩

set_option maxHeartbeats 400000 in
theorem rk32_shlt (a b : Int) (w : World) (a1 : -2147483648 ≤ a) (a2 : a ≤ 2147483647) (hb : (b == 0) = true) :
    Calls Try.prog 33 #[.int .i64 9, .int .i32 a, .int .i32 b, .int .u32 31] w fun e w' => e = .returned (.tuple #[.int .i32 (val32 9 a b), .int .i64 0]) ∧ w = w' := by
  rw [show val32 9 a b = wrap32 (a * 2 ^ (b % 32).toNat) from rfl]
  have hs := by32 b
  skip
  have hs2 : (b % 32).toNat ≤ 31 := by omega
  obtain ⟨s, hse⟩ : ∃ s, (b % 32).toNat = s := ⟨_, rfl⟩
  rw [hse] at hs hs2
  have Hse := Lib.hid hse
  clear hse
  go_enter Try.func33, Try.ntmps33
  go_wp2
  go_ret2
  exact ⟨by rw [Hse.out]; rfl, rfl⟩

set_option maxHeartbeats 400000 in
theorem rk32_shlf (a b : Int) (w : World) (a1 : -2147483648 ≤ a) (a2 : a ≤ 2147483647) (hb : (b == 0) = false) :
    Calls Try.prog 33 #[.int .i64 9, .int .i32 a, .int .i32 b, .int .u32 31] w fun e w' => e = .returned (.tuple #[.int .i32 (val32 9 a b), .int .i64 0]) ∧ w = w' := by
  rw [show val32 9 a b = wrap32 (a * 2 ^ (b % 32).toNat) from rfl]
  have hs := by32 b
  skip
  have hs2 : (b % 32).toNat ≤ 31 := by omega
  obtain ⟨s, hse⟩ : ∃ s, (b % 32).toNat = s := ⟨_, rfl⟩
  rw [hse] at hs hs2
  have Hse := Lib.hid hse
  clear hse
  go_enter Try.func33, Try.ntmps33
  go_wp2
  go_ret2
  exact ⟨by rw [Hse.out]; rfl, rfl⟩

set_option maxHeartbeats 400000 in
theorem rk32_shrt (a b : Int) (w : World) (a1 : -2147483648 ≤ a) (a2 : a ≤ 2147483647) (hb : (b == 0) = true) :
    Calls Try.prog 33 #[.int .i64 10, .int .i32 a, .int .i32 b, .int .u32 31] w fun e w' => e = .returned (.tuple #[.int .i32 (val32 10 a b), .int .i64 0]) ∧ w = w' := by
  rw [show val32 10 a b = a / 2 ^ (b % 32).toNat from rfl]
  have hs := by32 b
  skip
  have hs2 : (b % 32).toNat ≤ 31 := by omega
  obtain ⟨s, hse⟩ : ∃ s, (b % 32).toNat = s := ⟨_, rfl⟩
  rw [hse] at hs hs2
  have Hse := Lib.hid hse
  clear hse
  go_enter Try.func33, Try.ntmps33
  go_wp2
  go_ret2
  exact ⟨by rw [Hse.out]; rfl, rfl⟩

set_option maxHeartbeats 400000 in
theorem rk32_shrf (a b : Int) (w : World) (a1 : -2147483648 ≤ a) (a2 : a ≤ 2147483647) (hb : (b == 0) = false) :
    Calls Try.prog 33 #[.int .i64 10, .int .i32 a, .int .i32 b, .int .u32 31] w fun e w' => e = .returned (.tuple #[.int .i32 (val32 10 a b), .int .i64 0]) ∧ w = w' := by
  rw [show val32 10 a b = a / 2 ^ (b % 32).toNat from rfl]
  have hs := by32 b
  skip
  have hs2 : (b % 32).toNat ≤ 31 := by omega
  obtain ⟨s, hse⟩ : ∃ s, (b % 32).toNat = s := ⟨_, rfl⟩
  rw [hse] at hs hs2
  have Hse := Lib.hid hse
  clear hse
  go_enter Try.func33, Try.ntmps33
  go_wp2
  go_ret2
  exact ⟨by rw [Hse.out]; rfl, rfl⟩

set_option maxHeartbeats 400000 in
theorem rk32_ushrt (a b : Int) (w : World) (a1 : -2147483648 ≤ a) (a2 : a ≤ 2147483647) (hb : (b == 0) = true) :
    Calls Try.prog 33 #[.int .i64 11, .int .i32 a, .int .i32 b, .int .u32 31] w fun e w' => e = .returned (.tuple #[.int .i32 (val32 11 a b), .int .i64 0]) ∧ w = w' := by
  rw [show val32 11 a b = wrap32 ((a % 4294967296) / 2 ^ (b % 32).toNat) from rfl]
  have hs := by32 b
  skip
  have hs2 : (b % 32).toNat ≤ 31 := by omega
  obtain ⟨s, hse⟩ : ∃ s, (b % 32).toNat = s := ⟨_, rfl⟩
  rw [hse] at hs hs2
  have Hse := Lib.hid hse
  clear hse
  go_enter Try.func33, Try.ntmps33
  go_wp2
  go_ret2
  exact ⟨by rw [Hse.out]; rfl, rfl⟩

set_option maxHeartbeats 400000 in
theorem rk32_ushrf (a b : Int) (w : World) (a1 : -2147483648 ≤ a) (a2 : a ≤ 2147483647) (hb : (b == 0) = false) :
    Calls Try.prog 33 #[.int .i64 11, .int .i32 a, .int .i32 b, .int .u32 31] w fun e w' => e = .returned (.tuple #[.int .i32 (val32 11 a b), .int .i64 0]) ∧ w = w' := by
  rw [show val32 11 a b = wrap32 ((a % 4294967296) / 2 ^ (b % 32).toNat) from rfl]
  have hs := by32 b
  skip
  have hs2 : (b % 32).toNat ≤ 31 := by omega
  obtain ⟨s, hse⟩ : ∃ s, (b % 32).toNat = s := ⟨_, rfl⟩
  rw [hse] at hs hs2
  have Hse := Lib.hid hse
  clear hse
  go_enter Try.func33, Try.ntmps33
  go_wp2
  go_ret2
  exact ⟨by rw [Hse.out]; rfl, rfl⟩

theorem rk32_divz (a : Int) (w : World) :
    Calls Try.prog 33 #[.int .i64 4, .int .i32 a, .int .i32 0, .int .u32 31] w fun e w' => e = .returned (.tuple #[.int .i32 0, .int .i64 2]) ∧ w = w' := by
  go_enter Try.func33, Try.ntmps33
  go_wp2
  go_ret2
  exact ⟨rfl, rfl⟩

theorem rk32_remz (a : Int) (w : World) :
    Calls Try.prog 33 #[.int .i64 5, .int .i32 a, .int .i32 0, .int .u32 31] w fun e w' => e = .returned (.tuple #[.int .i32 0, .int .i64 2]) ∧ w = w' := by
  go_enter Try.func33, Try.ntmps33
  go_wp2
  go_ret2
  exact ⟨rfl, rfl⟩

set_option maxHeartbeats 400000 in
theorem rk32_none (op a b : Int) (w : World) (h : op < 1 ∨ 11 < op) :
    Calls Try.prog 33 #[.int .i64 op, .int .i32 a, .int .i32 b, .int .u32 31] w fun e w' => e = .returned (.tuple #[.int .i32 0, .int .i64 1]) ∧ w = w' := by
  by_cases hz : b = 0
  · have hb : (b == 0) = true := by simp [hz]
    clear hz
    have n1 : (op == 1) = false := by simp; omega
    have n2 : (op == 2) = false := by simp; omega
    have n3 : (op == 3) = false := by simp; omega
    have n4 : (op == 4) = false := by simp; omega
    have n5 : (op == 5) = false := by simp; omega
    have n6 : (op == 6) = false := by simp; omega
    have n7 : (op == 7) = false := by simp; omega
    have n8 : (op == 8) = false := by simp; omega
    have n9 : (op == 9) = false := by simp; omega
    have n10 : (op == 10) = false := by simp; omega
    have n11 : (op == 11) = false := by simp; omega
    clear h
    go_enter Try.func33, Try.ntmps33
    go_wp2
    go_ret2
    exact ⟨rfl, rfl⟩
  · have hb : (b == 0) = false := by simp [hz]
    clear hz
    have n1 : (op == 1) = false := by simp; omega
    have n2 : (op == 2) = false := by simp; omega
    have n3 : (op == 3) = false := by simp; omega
    have n4 : (op == 4) = false := by simp; omega
    have n5 : (op == 5) = false := by simp; omega
    have n6 : (op == 6) = false := by simp; omega
    have n7 : (op == 7) = false := by simp; omega
    have n8 : (op == 8) = false := by simp; omega
    have n9 : (op == 9) = false := by simp; omega
    have n10 : (op == 10) = false := by simp; omega
    have n11 : (op == 11) = false := by simp; omega
    clear h
    go_enter Try.func33, Try.ntmps33
    go_wp2
    go_ret2
    exact ⟨rfl, rfl⟩

/-- Each sum of 32 bits, whatever the kind from 1 to 11. -/
theorem rk32_any (op : Nat) (a b : Int) (w : World) (h1 : 1 ≤ op) (h2 : op ≤ 11) (a1 : -2147483648 ≤ a) (a2 : a ≤ 2147483647) (hd : op = 4 ∨ op = 5 → b ≠ 0) :
    Calls Try.prog 33 #[.int .i64 (op : Int), .int .i32 a, .int .i32 b, .int .u32 31] w fun e w' => e = .returned (.tuple #[.int .i32 (val32 op a b), .int .i64 0]) ∧ w = w' := by
  by_cases hz : b = 0
  · have hb : (b == 0) = true := by simp [hz]
    rcases (by omega : op = 1 ∨ op = 2 ∨ op = 3 ∨ op = 4 ∨ op = 5 ∨ op = 6 ∨ op = 7 ∨ op = 8 ∨ op = 9 ∨ op = 10 ∨ op = 11) with rfl | rfl | rfl | rfl | rfl | rfl | rfl | rfl | rfl | rfl | rfl
    · exact rk32_addt a b w a1 a2 hb
    · exact rk32_subt a b w a1 a2 hb
    · exact rk32_mult a b w a1 a2 hb
    · exact absurd hz (hd (Or.inl rfl))
    · exact absurd hz (hd (Or.inr rfl))
    · exact rk32_andt a b w a1 a2 hb
    · exact rk32_ort a b w a1 a2 hb
    · exact rk32_xort a b w a1 a2 hb
    · exact rk32_shlt a b w a1 a2 hb
    · exact rk32_shrt a b w a1 a2 hb
    · exact rk32_ushrt a b w a1 a2 hb
  · have hb : (b == 0) = false := by simp [hz]
    rcases (by omega : op = 1 ∨ op = 2 ∨ op = 3 ∨ op = 4 ∨ op = 5 ∨ op = 6 ∨ op = 7 ∨ op = 8 ∨ op = 9 ∨ op = 10 ∨ op = 11) with rfl | rfl | rfl | rfl | rfl | rfl | rfl | rfl | rfl | rfl | rfl
    · exact rk32_addf a b w a1 a2 hb
    · exact rk32_subf a b w a1 a2 hb
    · exact rk32_mulf a b w a1 a2 hb
    · exact rk32_divf a b w a1 a2 hb
    · exact rk32_remf a b w a1 a2 hb
    · exact rk32_andf a b w a1 a2 hb
    · exact rk32_orf a b w a1 a2 hb
    · exact rk32_xorf a b w a1 a2 hb
    · exact rk32_shlf a b w a1 a2 hb
    · exact rk32_shrf a b w a1 a2 hb
    · exact rk32_ushrf a b w a1 a2 hb

end Go.Proofs.Ytadnenoehdemkaa
