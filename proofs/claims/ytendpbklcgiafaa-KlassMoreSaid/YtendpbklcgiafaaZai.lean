/- The small calls of utf: size, low, marked, more, first. -/
import Derived.Test.YtendpbklcgiafaaZae
import Derived.Test.YtendpbklcgiafaaZad
import Derived.Deep.QuietTactic
import Derived.BigQuiet
namespace Go.Proofs.Ytendpbklcgiafaa
set_option maxRecDepth 100000
open Go.RowKit

theorem size_any (u : Nat) (w : World) (hu : u < 65536) : Calls Try.prog 102 #[.int .u16 (u : Int)] w fun e w' => e = .returned (.int .i64 (sizeU u : Int)) ∧ w = w' := by
  unfold sizeU
  by_cases h1 : 1 ≤ u
  · by_cases h2 : u ≤ 127
    · rw [if_pos ⟨h1, h2⟩]
      have a1 : decide (1 ≤ (u : Int)) = true := by simp; omega
      have a2 : decide ((u : Int) ≤ 127) = true := by simp; omega
      go_enter Try.func102, Try.ntmps102
      go_wp2
      go_ret
      exact ⟨rfl, rfl⟩
    · rw [if_neg (by omega)]
      have a1 : decide (1 ≤ (u : Int)) = true := by simp; omega
      have a2 : decide ((u : Int) ≤ 127) = false := by simp; omega
      by_cases h3 : u ≤ 2047
      · rw [if_pos h3]
        go_enter Try.func102, Try.ntmps102
        go_wp2
        go_ret
        exact ⟨rfl, rfl⟩
      · rw [if_neg h3]
        go_enter Try.func102, Try.ntmps102
        go_wp2
        go_ret
        exact ⟨rfl, rfl⟩
  · rw [if_neg (by omega), if_pos (by omega)]
    obtain rfl : u = 0 := by omega
    go_enter Try.func102, Try.ntmps102
    go_wp2
    go_ret
    exact ⟨rfl, rfl⟩

theorem low_eq (x k : Nat) (hx : x < 256) (hk : k ≤ 7) : bits .and .u8 (x : Int) ((2 ^ k - 1) % 256) = ((x % 2 ^ k : Nat) : Int) := by
  have h1 : 2 ^ k ≤ 128 := Nat.pow_le_pow_right (n := 2) (by decide) hk
  have h0 : 1 ≤ 2 ^ k := Nat.one_le_two_pow
  have e : ((2 : Int) ^ k - 1) % 256 = ((2 ^ k - 1 : Nat) : Int) := by
    rw [Int.natCast_sub h0]
    simp only [Int.natCast_pow, Int.cast_ofNat_Int]
    have : ((2 ^ k : Nat) : Int) = (2 : Int) ^ k := by simp
    omega
  rw [e, u8_and_nat _ _ hx (by omega), Nat.and_two_pow_sub_one_eq_mod]

theorem low_any (x k : Nat) (w : World) (hx : x < 256) (hk : k ≤ 7) : Calls Try.prog 101 #[.int .u8 (x : Int), .int .i64 (k : Int)] w fun e w' => e = .returned (.int .u8 ((x % 2 ^ k : Nat) : Int)) ∧ w = w' := by
  have H := Lib.hid (low_eq x k hx hk)
  go_enter Try.func101, Try.ntmps101
  go_wp2
  go_ret
  exact ⟨by rw [← H.out]; rfl, rfl⟩

/-- Does x begin as the mark m, but for its k lowest bits? -/
def markB (x m k : Nat) : Bool := decide (x / 2 ^ k = m / 2 ^ k)
theorem mark_two (x : Nat) : markB x 192 5 = true ↔ 192 ≤ x ∧ x < 224 := by unfold markB; simp; omega
theorem mark_three (x : Nat) : markB x 224 4 = true ↔ 224 ≤ x ∧ x < 240 := by unfold markB; simp; omega
theorem mark_more (x : Nat) : markB x 128 6 = true ↔ 128 ≤ x ∧ x < 192 := by unfold markB; simp; omega
theorem marked_any (x m k : Nat) (w : World) (hx : x < 256) (hm : m < 256) (hk : k ≤ 7) : Calls Try.prog 100 #[.int .u8 (x : Int), .int .u8 (m : Int), .int .i64 (k : Int)] w fun e w' => e = .returned (.bool (markB x m k)) ∧ ∃ n, w' = w.drewN n := by
  have H : Hid (((x : Int) / 2 ^ k == (m : Int) / 2 ^ k) = markB x m k) := Lib.hid (by
    unfold markB
    have e1 : (x : Int) / 2 ^ k = ((x / 2 ^ k : Nat) : Int) := by simp
    have e2 : (m : Int) / 2 ^ k = ((m / 2 ^ k : Nat) : Int) := by simp
    rw [e1, e2, Bool.eq_iff_iff]
    simp only [beq_iff_eq, decide_eq_true_eq]
    exact ⟨fun h => Int.ofNat.inj h, fun h => congrArg _ h⟩)
  go_enter Try.func100, Try.ntmps100
  go_wp2
  go_quiet (fail)
  go_wp2
  go_ret
  exact ⟨by rw [← H.out]; rfl, _, rfl⟩


/-- What a first byte tells: how many bytes, and the bits that stand there. -/
def firstF (x : Nat) : Nat × Nat := if x ≤ 127 then (1, x) else if 192 ≤ x ∧ x < 224 then (2, x - 192) else if 224 ≤ x ∧ x < 240 then (3, x - 224) else (0, 0)

theorem first_any (x : Nat) (w : World) (hx : x < 256) : Calls Try.prog 99 #[.int .u8 (x : Int)] w fun e w' => e = .returned (.tuple #[.int .i64 ((firstF x).1 : Int), .int .u16 ((firstF x).2 : Int)]) ∧ ∃ n, w' = w.drewN n := by
  by_cases h1 : x ≤ 127
  · have e : firstF x = (1, x) := by unfold firstF; rw [if_pos h1]
    rw [e]
    clear e
    go_enter Try.func99, Try.ntmps99
    go_wp2
    go_ret2
    exact ⟨rfl, 0, rfl⟩
  · by_cases h2 : 192 ≤ x ∧ x < 224
    · have e : firstF x = (2, x - 192) := by unfold firstF; rw [if_neg h1, if_pos h2]
      rw [e, show x - 192 = x % 2 ^ 5 by omega]
      have m2 := (mark_two x).2 h2
      clear e
      go_enter Try.func99, Try.ntmps99
      go_wp2_with fail
      refine (marked_any x 192 5 w hx (by omega) (by omega)).mono ?_
      rintro e1 w1 ⟨rfl, n1, rfl⟩
      go_wp2_with fail
      refine (low_any x 5 _ hx (by omega)).mono ?_
      rintro e1 w1 ⟨rfl, rfl⟩
      go_wp2
      go_ret2
      exact ⟨rfl, _, rfl⟩
    · have m2 : markB x 192 5 = false := by rw [Bool.eq_false_iff]; exact fun h => h2 ((mark_two x).1 h)
      by_cases h3 : 224 ≤ x ∧ x < 240
      · have e : firstF x = (3, x - 224) := by unfold firstF; rw [if_neg h1, if_neg h2, if_pos h3]
        rw [e, show x - 224 = x % 2 ^ 4 by omega]
        have m3 := (mark_three x).2 h3
        clear e h2
        go_enter Try.func99, Try.ntmps99
        go_wp2_with fail
        refine (marked_any x 192 5 w hx (by omega) (by omega)).mono ?_
        rintro e1 w1 ⟨rfl, n1, rfl⟩
        go_wp2_with fail
        refine (marked_any x 224 4 _ hx (by omega) (by omega)).mono ?_
        rintro e1 w1 ⟨rfl, n2, rfl⟩
        go_wp2_with fail
        refine (low_any x 4 _ hx (by omega)).mono ?_
        rintro e1 w1 ⟨rfl, rfl⟩
        go_wp2
        go_ret2
        exact ⟨rfl, n1 + n2, rfl⟩
      · have e : firstF x = (0, 0) := by unfold firstF; rw [if_neg h1, if_neg h2, if_neg h3]
        rw [e]
        have m3 : markB x 224 4 = false := by rw [Bool.eq_false_iff]; exact fun h => h3 ((mark_three x).1 h)
        clear e h2 h3
        go_enter Try.func99, Try.ntmps99
        go_wp2_with fail
        refine (marked_any x 192 5 w hx (by omega) (by omega)).mono ?_
        rintro e1 w1 ⟨rfl, n1, rfl⟩
        go_wp2_with fail
        refine (marked_any x 224 4 _ hx (by omega) (by omega)).mono ?_
        rintro e1 w1 ⟨rfl, n2, rfl⟩
        go_wp2
        go_ret2
        exact ⟨rfl, n1 + n2, rfl⟩

end Go.Proofs.Ytendpbklcgiafaa
