/- The walk over the law's 'small'; what a flash that never tears does. -/
import Derived.Test.YtaepdmifenkhcaaW6
namespace Go.Proofs.Ytaepdmifenkhcaa
open Go.RowKit

set_option maxHeartbeats 1000000 in
theorem small_any (a b c : Int) (S Z L : Nat) (w : World) (a1 : 0 ≤ a) (a2 : a ≤ 255) (b1 : 0 ≤ b) (b2 : b ≤ 255) (c1 : 0 ≤ c) (c2 : c ≤ 255)
    (hS : 1 + a % 5 = (S : Int)) (hZ : 64 + b % 80 = (Z : Int)) (hL : 1 + c % 6 = (L : Int)) :
    Calls Try.prog 19 #[.int .u8 a, .int .u8 b, .int .u8 c] w fun e w' => e = .returned (.agg #[.int .i64 (S : Int), .int .i64 (Z : Int), .int .i64 (L : Int)]) ∧ Below w.heap.size w w' := by
  rw [← hS, ← hZ, ← hL]
  clear hS hZ hL
  go_enter Try.func19, Try.ntmps19
  go_wp2
  refine bodyPost_ret (v := .agg #[.int .i64 (1 + a % 5), .int .i64 (64 + b % 80), .int .i64 (1 + c % 6)]) (by simp [results, Try.results19, go_sem]) rfl ⟨rfl, ?_⟩
  exact (Below.refl _ _).alloc (Nat.le_refl _) _

end Go.Proofs.Ytaepdmifenkhcaa
