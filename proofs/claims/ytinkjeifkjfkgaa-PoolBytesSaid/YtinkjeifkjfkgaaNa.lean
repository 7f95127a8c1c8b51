/- The walks over num's and the document's small functions: isSize, Sign, Cmp, bits, back, power, int64Power. -/
import Derived.Test.YtinkjeifkjfkgaaMem
import Derived.Laws.BitsAllLaws
import Derived.IntWalk
import Derived.Outline
namespace Go.Proofs.Ytinkjeifkjfkgaa
set_option maxRecDepth 100000
open Go.RowKit

theorem isSize_yes (n : Int) (w : World) (h1 : 1 ≤ n) (h2 : n ≤ 8) : Calls Try.prog 40 #[.int .i64 n] w fun e w' => e = .returned (.bool true) ∧ w = w' := by
  go_enter Try.func40, Try.ntmps40
  go_wp2
  go_ret
  simp [h2]
theorem isSize_no (n : Int) (w : World) (h : n < 1 ∨ 8 < n) : Calls Try.prog 40 #[.int .i64 n] w fun e w' => e = .returned (.bool false) ∧ w = w' := by
  by_cases h1 : 1 ≤ n
  · have h2 : 8 < n := by omega
    clear h
    go_enter Try.func40, Try.ntmps40
    go_wp2
    go_ret
    simp; omega
  · clear h
    go_enter Try.func40, Try.ntmps40
    go_wp2
    go_ret
    exact ⟨rfl, rfl⟩

def cmpV (a b : Int) : Int := if a < b then -1 else if b < a then 1 else 0

theorem sign_no (v n : Int) (w : World) (h : n < 1 ∨ 8 < n) : Calls Try.prog 42 #[.int .u64 v, .int .i64 n] w fun e w' => e = .returned (.int .i64 0) ∧ w = w' := by
  go_enter Try.func42, Try.ntmps42
  go_wp2_with fail
  refine (isSize_no n _ h).mono ?_
  rintro e1 w1 ⟨rfl, rfl⟩
  go_wp2
  go_ret
  exact ⟨rfl, rfl⟩

/-- What the lowest n bytes of a number are worth with their sign. -/
def sgn (v n : Nat) : Int := if v % 2 ^ (8 * n) < 2 ^ (8 * n - 1) then ((v % 2 ^ (8 * n) : Nat) : Int) else ((v % 2 ^ (8 * n) : Nat) : Int) - ((2 ^ (8 * n) : Nat) : Int)

theorem sgn_prog (v n : Nat) (hv : v ≤ 18446744073709551615) (h1 : 1 ≤ n) (h2 : n ≤ 8) : wrap64 (IntKind.u64.wrap ((v : Int) * 2 ^ (64 - 8 * n))) / 2 ^ (64 - 8 * n) = sgn v n := by
  rcases (by omega : n = 1 ∨ n = 2 ∨ n = 3 ∨ n = 4 ∨ n = 5 ∨ n = 6 ∨ n = 7 ∨ n = 8) with rfl | rfl | rfl | rfl | rfl | rfl | rfl | rfl
  all_goals
    unfold sgn wrap64
    rw [IntKind.wrap_u64]
    simp only [Nat.reduceMul, Nat.reduceSub, Nat.reducePow, Int.reducePow]
    split <;> omega

theorem sign_yes (v n : Nat) (w : World) (hv : v ≤ 18446744073709551615) (h1 : 1 ≤ n) (h2 : n ≤ 8) : Calls Try.prog 42 #[.int .u64 (v : Int), .int .i64 (n : Int)] w fun e w' => e = .returned (.int .i64 (sgn v n)) ∧ w = w' := by
  have H := Lib.hid (sgn_prog v n hv h1 h2)
  go_enter Try.func42, Try.ntmps42
  go_wp2_with fail
  refine (isSize_yes n _ (by omega) (by omega)).mono ?_
  rintro e1 w1 ⟨rfl, rfl⟩
  go_wp2
  go_ret
  exact ⟨by rw [← H.out]; rfl, rfl⟩

theorem pow_small (n : Nat) (h1 : 1 ≤ n) (h2 : n ≤ 7) : 256 ≤ 2 ^ (8 * n) ∧ 2 ^ (8 * n) ≤ 72057594037927936 ∧ 2 ^ (8 * n) = 2 * 2 ^ (8 * n - 1) := by
  rcases (by omega : n = 1 ∨ n = 2 ∨ n = 3 ∨ n = 4 ∨ n = 5 ∨ n = 6 ∨ n = 7) with rfl | rfl | rfl | rfl | rfl | rfl | rfl <;> decide




end Go.Proofs.Ytinkjeifkjfkgaa
