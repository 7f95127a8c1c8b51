/- The walks over num's and the document's small functions: isSize, Sign, Cmp, bits, back, power, int64Power. -/
import Derived.Test.YtidcgobnhfganaaMem
import Derived.Laws.BitsAllLaws
import Derived.IntWalk
import Derived.Outline
namespace Go.Proofs.Ytidcgobnhfganaa
open Go.RowKit

theorem isSize_yes (n : Int) (w : World) (h1 : 1 ≤ n) (h2 : n ≤ 8) : Calls Try.prog 35 #[.int .i64 n] w fun e w' => e = .returned (.bool true) ∧ w = w' := by
  go_enter Try.func35, Try.ntmps35
  go_wp2
  go_ret
  simp [h2]
theorem isSize_no (n : Int) (w : World) (h : n < 1 ∨ 8 < n) : Calls Try.prog 35 #[.int .i64 n] w fun e w' => e = .returned (.bool false) ∧ w = w' := by
  by_cases h1 : 1 ≤ n
  · have h2 : 8 < n := by omega
    clear h
    go_enter Try.func35, Try.ntmps35
    go_wp2
    go_ret
    simp; omega
  · clear h
    go_enter Try.func35, Try.ntmps35
    go_wp2
    go_ret
    exact ⟨rfl, rfl⟩

def cmpV (a b : Int) : Int := if a < b then -1 else if b < a then 1 else 0


/-- What the lowest n bytes of a number are worth with their sign. -/
def sgn (v n : Nat) : Int := if v % 2 ^ (8 * n) < 2 ^ (8 * n - 1) then ((v % 2 ^ (8 * n) : Nat) : Int) else ((v % 2 ^ (8 * n) : Nat) : Int) - ((2 ^ (8 * n) : Nat) : Int)

theorem sgn_prog (v n : Nat) (hv : v ≤ 18446744073709551615) (h1 : 1 ≤ n) (h2 : n ≤ 8) : wrap64 (IntKind.u64.wrap ((v : Int) * 2 ^ (64 - 8 * n))) / 2 ^ (64 - 8 * n) = sgn v n := by
  rcases (by omega : n = 1 ∨ n = 2 ∨ n = 3 ∨ n = 4 ∨ n = 5 ∨ n = 6 ∨ n = 7 ∨ n = 8) with rfl | rfl | rfl | rfl | rfl | rfl | rfl | rfl
  all_goals
    unfold sgn wrap64
    rw [IntKind.wrap_u64]
    simp only [Nat.reduceMul, Nat.reduceSub, Nat.reducePow, Int.reducePow]
    split <;> omega


theorem pow_small (n : Nat) (h1 : 1 ≤ n) (h2 : n ≤ 7) : 256 ≤ 2 ^ (8 * n) ∧ 2 ^ (8 * n) ≤ 72057594037927936 ∧ 2 ^ (8 * n) = 2 * 2 ^ (8 * n - 1) := by
  rcases (by omega : n = 1 ∨ n = 2 ∨ n = 3 ∨ n = 4 ∨ n = 5 ∨ n = 6 ∨ n = 7) with rfl | rfl | rfl | rfl | rfl | rfl | rfl <;> decide




end Go.Proofs.Ytidcgobnhfganaa
