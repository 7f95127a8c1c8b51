/- The walks over num's and the document's small functions: isSize, Sign, Cmp, bits, back, power, int64Power. -/
import Derived.Test.YtcpcjcbeeeoabaaDoorMem
import Derived.Laws.BitsAllLaws
import Derived.IntWalk
import Derived.Outline
namespace Go.Proofs.YtcpcjcbeeeoabaaDoor
set_option maxRecDepth 100000
open Go.RowKit

theorem isSize_yes (n : Int) (w : World) (h1 : 1 ≤ n) (h2 : n ≤ 8) : Calls Tryd.prog 43 #[.int .i64 n] w fun e w' => e = .returned (.bool true) ∧ w = w' := by
  go_enter Tryd.func43, Tryd.ntmps43
  go_wp2
  go_ret
  simp [h2]
theorem isSize_no (n : Int) (w : World) (h : n < 1 ∨ 8 < n) : Calls Tryd.prog 43 #[.int .i64 n] w fun e w' => e = .returned (.bool false) ∧ w = w' := by
  by_cases h1 : 1 ≤ n
  · have h2 : 8 < n := by omega
    clear h
    go_enter Tryd.func43, Tryd.ntmps43
    go_wp2
    go_ret
    simp; omega
  · clear h
    go_enter Tryd.func43, Tryd.ntmps43
    go_wp2
    go_ret
    exact ⟨rfl, rfl⟩

def cmpV (a b : Int) : Int := if a < b then -1 else if b < a then 1 else 0

theorem sign_no (v n : Int) (w : World) (h : n < 1 ∨ 8 < n) : Calls Tryd.prog 44 #[.int .u64 v, .int .i64 n] w fun e w' => e = .returned (.int .i64 0) ∧ w = w' := by
  go_enter Tryd.func44, Tryd.ntmps44
  go_wp2_with fail
  refine (isSize_no n _ h).mono ?_
  rintro e1 w1 ⟨rfl, rfl⟩
  go_wp2
  go_ret
  exact ⟨rfl, rfl⟩
theorem refSign_no (v n : Int) (w : World) (h : n < 1 ∨ 8 < n) : Calls Tryd.prog 22 #[.int .u64 v, .int .i64 n] w fun e w' => e = .returned (.int .i64 0) ∧ w = w' := by
  by_cases h1 : n < 1
  · clear h
    go_enter Tryd.func22, Tryd.ntmps22
    go_wp2
    go_ret
    exact ⟨rfl, rfl⟩
  · have h2 : 8 < n := by omega
    clear h
    go_enter Tryd.func22, Tryd.ntmps22
    go_wp2
    go_ret
    exact ⟨rfl, rfl⟩

/-- What the lowest n bytes of a number are worth with their sign. -/
def sgn (v n : Nat) : Int := if v % 2 ^ (8 * n) < 2 ^ (8 * n - 1) then ((v % 2 ^ (8 * n) : Nat) : Int) else ((v % 2 ^ (8 * n) : Nat) : Int) - ((2 ^ (8 * n) : Nat) : Int)

theorem sgn_prog (v n : Nat) (hv : v ≤ 18446744073709551615) (h1 : 1 ≤ n) (h2 : n ≤ 8) : wrap64 (IntKind.u64.wrap ((v : Int) * 2 ^ (64 - 8 * n))) / 2 ^ (64 - 8 * n) = sgn v n := by
  rcases (by omega : n = 1 ∨ n = 2 ∨ n = 3 ∨ n = 4 ∨ n = 5 ∨ n = 6 ∨ n = 7 ∨ n = 8) with rfl | rfl | rfl | rfl | rfl | rfl | rfl | rfl
  all_goals
    unfold sgn wrap64
    rw [IntKind.wrap_u64]
    simp only [Nat.reduceMul, Nat.reduceSub, Nat.reducePow, Int.reducePow]
    split <;> omega

theorem sign_yes (v n : Nat) (w : World) (hv : v ≤ 18446744073709551615) (h1 : 1 ≤ n) (h2 : n ≤ 8) : Calls Tryd.prog 44 #[.int .u64 (v : Int), .int .i64 (n : Int)] w fun e w' => e = .returned (.int .i64 (sgn v n)) ∧ w = w' := by
  have H := Lib.hid (sgn_prog v n hv h1 h2)
  go_enter Tryd.func44, Tryd.ntmps44
  go_wp2_with fail
  refine (isSize_yes n _ (by omega) (by omega)).mono ?_
  rintro e1 w1 ⟨rfl, rfl⟩
  go_wp2
  go_ret
  exact ⟨by rw [← H.out]; rfl, rfl⟩

theorem pow_small (n : Nat) (h1 : 1 ≤ n) (h2 : n ≤ 7) : 256 ≤ 2 ^ (8 * n) ∧ 2 ^ (8 * n) ≤ 72057594037927936 ∧ 2 ^ (8 * n) = 2 * 2 ^ (8 * n - 1) := by
  rcases (by omega : n = 1 ∨ n = 2 ∨ n = 3 ∨ n = 4 ∨ n = 5 ∨ n = 6 ∨ n = 7) with rfl | rfl | rfl | rfl | rfl | rfl | rfl <;> decide

theorem refSign_yes (v n : Nat) (w : World) (hv : v ≤ 18446744073709551615) (h1 : 1 ≤ n) (h2 : n ≤ 8) : Calls Tryd.prog 22 #[.int .u64 (v : Int), .int .i64 (n : Int)] w fun e w' => e = .returned (.int .i64 (sgn v n)) ∧ w = w' := by
  by_cases h8 : n = 8
  · have hq : ((n : Int) == 8) = true := by simp; omega
    have hs : Hid (wrap64 (v : Int) = sgn v n) := Lib.hid (by subst h8; unfold sgn wrap64; simp only [Nat.reduceMul, Nat.reduceSub, Nat.reducePow]; split <;> omega)
    clear h8 hv
    go_enter Tryd.func22, Tryd.ntmps22
    go_wp2
    go_ret
    exact ⟨by rw [← hs.out]; rfl, rfl⟩
  · have hq : ((n : Int) == 8) = false := by simp; omega
    obtain ⟨p1, p2, p3⟩ := pow_small n h1 (by omega)
    have hs : sgn v n = if v % 2 ^ (8 * n) < 2 ^ (8 * n - 1) then ((v % 2 ^ (8 * n) : Nat) : Int) else ((v % 2 ^ (8 * n) : Nat) : Int) - ((2 ^ (8 * n) : Nat) : Int) := rfl
    have hm0 : IntKind.u64.wrap (2 ^ (8 * n)) = ((2 ^ (8 * n) : Nat) : Int) := by
      rw [IntKind.wrap_u64]
      have : ((2 ^ (8 * n) : Nat) : Int) = (2 : Int) ^ (8 * n) := by simp
      rw [← this]
      omega
    obtain ⟨m, hm⟩ : ∃ m, 2 ^ (8 * n) = m := ⟨_, rfl⟩
    obtain ⟨m2, hm2⟩ : ∃ m2, 2 ^ (8 * n - 1) = m2 := ⟨_, rfl⟩
    rw [hm] at p1 p2 p3 hs hm0
    rw [hm2] at p3 hs
    have Hs := Lib.hid hs
    have hd0 : ((m : Int) == 0) = false := by simp; omega
    clear hm hm2 hs h8 hv
    by_cases hc : v % m < m2
    · rw [if_pos hc] at Hs
      have hlt : v % m < m := Nat.mod_lt _ (by omega)
      have hd : decide ((m : Int) / 2 ≤ (v : Int) % (m : Int)) = false := by simp; omega
      have Hp3 := Lib.hid p3
      have Hc := Lib.hid hc
      clear hc p3
      go_enter Tryd.func22, Tryd.ntmps22
      go_wp2
      go_ret
      exact ⟨by rw [Hs.out]; simp, rfl⟩
    · rw [if_neg hc] at Hs
      have hlt : v % m < m := Nat.mod_lt _ (by omega)
      have hd : decide ((m : Int) / 2 ≤ (v : Int) % (m : Int)) = true := by simp; omega
      have hu : ((v : Int) % (m : Int)) = ((v % m : Nat) : Int) := by simp
      obtain ⟨r, hr⟩ : ∃ r, v % m = r := ⟨_, rfl⟩
      rw [hr] at hu hlt Hs
      rw [hu] at hd
      clear hc p3 hr
      go_enter Tryd.func22, Tryd.ntmps22
      go_wp2
      go_ret
      exact ⟨by rw [Hs.out]; rfl, rfl⟩



end Go.Proofs.YtcpcjcbeeeoabaaDoor
