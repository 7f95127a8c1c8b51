/- The walks over num's and the document's small functions: isSize, Sign, Cmp, bits, back, power, int64Power. -/
import Derived.Test.YtadnenoehdemkaaMem
import Derived.Laws.BitsAllLaws
import Derived.IntWalk
import Derived.Outline
namespace Go.Proofs.Ytadnenoehdemkaa
open Go.RowKit

theorem isSize_yes (n : Int) (w : World) (h1 : 1 ≤ n) (h2 : n ≤ 8) : Calls Try.prog 32 #[.int .i64 n] w fun e w' => e = .returned (.bool true) ∧ w = w' := by
  go_enter Try.func32, Try.ntmps32
  go_wp2
  go_ret
  simp [h2]
theorem isSize_no (n : Int) (w : World) (h : n < 1 ∨ 8 < n) : Calls Try.prog 32 #[.int .i64 n] w fun e w' => e = .returned (.bool false) ∧ w = w' := by
  by_cases h1 : 1 ≤ n
  · have h2 : 8 < n := by omega
    clear h
    go_enter Try.func32, Try.ntmps32
    go_wp2
    go_ret
    simp; omega
  · clear h
    go_enter Try.func32, Try.ntmps32
    go_wp2
    go_ret
    exact ⟨rfl, rfl⟩

def cmpV (a b : Int) : Int := if a < b then -1 else if b < a then 1 else 0
theorem cmp_any (a b : Int) (w : World) : Calls Try.prog 23 #[.int .i64 a, .int .i64 b] w fun e w' => e = .returned (.int .i32 (cmpV a b)) ∧ w = w' := by
  unfold cmpV
  by_cases h : a < b
  · go_enter Try.func23, Try.ntmps23
    go_wp2
    go_ret
    simp [h]
  · by_cases h2 : b < a
    · go_enter Try.func23, Try.ntmps23
      go_wp2
      go_ret
      simp [h, h2]
    · go_enter Try.func23, Try.ntmps23
      go_wp2
      go_ret
      simp [h, h2]
theorem refCmp_any (a b : Int) (w : World) : Calls Try.prog 24 #[.int .i64 a, .int .i64 b] w fun e w' => e = .returned (.int .i32 (cmpV a b)) ∧ w = w' := by
  unfold cmpV
  by_cases h : a < b
  · go_enter Try.func24, Try.ntmps24
    go_wp2
    go_ret
    simp [h]
  · by_cases h2 : b < a
    · go_enter Try.func24, Try.ntmps24
      go_wp2
      go_ret
      simp [h, h2]
    · go_enter Try.func24, Try.ntmps24
      go_wp2
      go_ret
      simp [h, h2]

theorem sign_no (v n : Int) (w : World) (h : n < 1 ∨ 8 < n) : Calls Try.prog 15 #[.int .u64 v, .int .i64 n] w fun e w' => e = .returned (.int .i64 0) ∧ w = w' := by
  go_enter Try.func15, Try.ntmps15
  go_wp2_with fail
  refine (isSize_no n _ h).mono ?_
  rintro e1 w1 ⟨rfl, rfl⟩
  go_wp2
  go_ret
  exact ⟨rfl, rfl⟩
theorem refSign_no (v n : Int) (w : World) (h : n < 1 ∨ 8 < n) : Calls Try.prog 16 #[.int .u64 v, .int .i64 n] w fun e w' => e = .returned (.int .i64 0) ∧ w = w' := by
  by_cases h1 : n < 1
  · clear h
    go_enter Try.func16, Try.ntmps16
    go_wp2
    go_ret
    exact ⟨rfl, rfl⟩
  · have h2 : 8 < n := by omega
    clear h
    go_enter Try.func16, Try.ntmps16
    go_wp2
    go_ret
    exact ⟨rfl, rfl⟩

/-- What the lowest n bytes of a number are worth with their sign. -/
def sgn (v n : Nat) : Int := if v % 2 ^ (8 * n) < 2 ^ (8 * n - 1) then ((v % 2 ^ (8 * n) : Nat) : Int) else ((v % 2 ^ (8 * n) : Nat) : Int) - ((2 ^ (8 * n) : Nat) : Int)

theorem sgn_prog (v n : Nat) (hv : v ≤ 18446744073709551615) (h1 : 1 ≤ n) (h2 : n ≤ 8) : wrap64 (IntKind.u64.wrap ((v : Int) * 2 ^ (64 - 8 * n))) / 2 ^ (64 - 8 * n) = sgn v n := by
  rcases (by omega : n = 1 ∨ n = 2 ∨ n = 3 ∨ n = 4 ∨ n = 5 ∨ n = 6 ∨ n = 7 ∨ n = 8) with rfl | rfl | rfl | rfl | rfl | rfl | rfl | rfl
  all_goals
    unfold sgn wrap64
    rw [IntKind.wrap_u64]
    simp only [Nat.reduceMul, Nat.reduceSub, Nat.reducePow, Int.reducePow]
    split <;> omega

theorem sign_yes (v n : Nat) (w : World) (hv : v ≤ 18446744073709551615) (h1 : 1 ≤ n) (h2 : n ≤ 8) : Calls Try.prog 15 #[.int .u64 (v : Int), .int .i64 (n : Int)] w fun e w' => e = .returned (.int .i64 (sgn v n)) ∧ w = w' := by
  have H := Lib.hid (sgn_prog v n hv h1 h2)
  go_enter Try.func15, Try.ntmps15
  go_wp2_with fail
  refine (isSize_yes n _ (by omega) (by omega)).mono ?_
  rintro e1 w1 ⟨rfl, rfl⟩
  go_wp2
  go_ret
  exact ⟨by rw [← H.out]; rfl, rfl⟩

theorem pow_small (n : Nat) (h1 : 1 ≤ n) (h2 : n ≤ 7) : 256 ≤ 2 ^ (8 * n) ∧ 2 ^ (8 * n) ≤ 72057594037927936 ∧ 2 ^ (8 * n) = 2 * 2 ^ (8 * n - 1) := by
  rcases (by omega : n = 1 ∨ n = 2 ∨ n = 3 ∨ n = 4 ∨ n = 5 ∨ n = 6 ∨ n = 7) with rfl | rfl | rfl | rfl | rfl | rfl | rfl <;> decide

theorem refSign_yes (v n : Nat) (w : World) (hv : v ≤ 18446744073709551615) (h1 : 1 ≤ n) (h2 : n ≤ 8) : Calls Try.prog 16 #[.int .u64 (v : Int), .int .i64 (n : Int)] w fun e w' => e = .returned (.int .i64 (sgn v n)) ∧ w = w' := by
  by_cases h8 : n = 8
  · have hq : ((n : Int) == 8) = true := by simp; omega
    have hs : Hid (wrap64 (v : Int) = sgn v n) := Lib.hid (by subst h8; unfold sgn wrap64; simp only [Nat.reduceMul, Nat.reduceSub, Nat.reducePow]; split <;> omega)
    clear h8 hv
    go_enter Try.func16, Try.ntmps16
    go_wp2
    go_ret
    exact ⟨by rw [← hs.out]; rfl, rfl⟩
  · have hq : ((n : Int) == 8) = false := by simp; omega
    obtain ⟨p1, p2, p3⟩ := pow_small n h1 (by omega)
    have hs : sgn v n = if v % 2 ^ (8 * n) < 2 ^ (8 * n - 1) then ((v % 2 ^ (8 * n) : Nat) : Int) else ((v % 2 ^ (8 * n) : Nat) : Int) - ((2 ^ (8 * n) : Nat) : Int) := rfl
    have hm0 : IntKind.u64.wrap (2 ^ (8 * n)) = ((2 ^ (8 * n) : Nat) : Int) := by
      rw [IntKind.wrap_u64]
      have : ((2 ^ (8 * n) : Nat) : Int) = (2 : Int) ^ (8 * n) := by simp
      rw [← this]
      omega
    obtain ⟨m, hm⟩ : ∃ m, 2 ^ (8 * n) = m := ⟨_, rfl⟩
    obtain ⟨m2, hm2⟩ : ∃ m2, 2 ^ (8 * n - 1) = m2 := ⟨_, rfl⟩
    rw [hm] at p1 p2 p3 hs hm0
    rw [hm2] at p3 hs
    have Hs := Lib.hid hs
    have hd0 : ((m : Int) == 0) = false := by simp; omega
    clear hm hm2 hs h8 hv
    by_cases hc : v % m < m2
    · rw [if_pos hc] at Hs
      have hlt : v % m < m := Nat.mod_lt _ (by omega)
      have hd : decide ((m : Int) / 2 ≤ (v : Int) % (m : Int)) = false := by simp; omega
      have Hp3 := Lib.hid p3
      have Hc := Lib.hid hc
      clear hc p3
      go_enter Try.func16, Try.ntmps16
      go_wp2
      go_ret
      exact ⟨by rw [Hs.out]; simp, rfl⟩
    · rw [if_neg hc] at Hs
      have hlt : v % m < m := Nat.mod_lt _ (by omega)
      have hd : decide ((m : Int) / 2 ≤ (v : Int) % (m : Int)) = true := by simp; omega
      have hu : ((v : Int) % (m : Int)) = ((v % m : Nat) : Int) := by simp
      obtain ⟨r, hr⟩ : ∃ r, v % m = r := ⟨_, rfl⟩
      rw [hr] at hu hlt Hs
      rw [hu] at hd
      clear hc p3 hr
      go_enter Try.func16, Try.ntmps16
      go_wp2
      go_ret
      exact ⟨by rw [Hs.out]; rfl, rfl⟩

theorem bits64_any (a : Int) (w : World) : Calls Try.prog 38 #[.int .i64 a, .int .i64 64] w fun e w' => e = .returned (.int .u64 (a % 18446744073709551616)) ∧ w = w' := by
  go_enter Try.func38, Try.ntmps38
  go_wp2
  go_ret
  exact ⟨congrArg (fun v => Ending.returned (Value.int .u64 v)) (IntKind.wrap_u64 a), rfl⟩
theorem bits32_any (a : Int) (w : World) : Calls Try.prog 38 #[.int .i64 a, .int .i64 32] w fun e w' => e = .returned (.int .u64 (a % 4294967296)) ∧ w = w' := by
  go_enter Try.func38, Try.ntmps38
  go_wp2
  go_ret
  refine ⟨congrArg (fun v => Ending.returned (Value.int .u64 v)) (?_ : (IntKind.u64.wrap a).tmod 4294967296 = a % 4294967296), rfl⟩
  rw [IntKind.wrap_u64, Int.tmod_eq_emod_of_nonneg (by omega)]
  omega
theorem back64_any (v : Nat) (w : World) : Calls Try.prog 39 #[.int .u64 (v : Int), .int .i64 64] w fun e w' => e = .returned (.int .i64 (wrap64 v)) ∧ w = w' := by
  go_enter Try.func39, Try.ntmps39
  go_wp2
  go_ret
  simp
theorem back32_any (v : Nat) (w : World) (hv : v ≤ 18446744073709551615) : Calls Try.prog 39 #[.int .u64 (v : Int), .int .i64 32] w fun e w' => e = .returned (.int .i64 (wrap32 v)) ∧ w = w' := by
  have hs : Hid (sgn v 4 = wrap32 v) := Lib.hid (by unfold sgn wrap32; simp only [Nat.reduceMul, Nat.reduceSub, Nat.reducePow]; split <;> omega)
  have hr := refSign_yes v 4 w hv (by omega) (by omega)
  rw [hs.out] at hr
  have Hr := Lib.hid hr
  clear hr hv
  go_enter Try.func39, Try.ntmps39
  go_wp2_with fail
  refine Hr.out.mono ?_
  rintro e1 w1 ⟨rfl, rfl⟩
  go_wp2
  go_ret
  exact ⟨rfl, rfl⟩

theorem power_any (n : Nat) (w : World) (hn : n ≤ 63) : Calls Try.prog 40 #[.int .u64 (n : Int)] w fun e w' => e = .returned (.int .u64 ((2 ^ n : Nat) : Int)) ∧ w = w' := by
  go_enter Try.func40, Try.ntmps40
  go_wp2
  go_loop [0, 3] (fun m v => ∃ k : Nat, k ≤ n ∧ m = .int .u64 (k : Int) ∧ v = .int .u64 ((2 ^ (n - k) : Nat) : Int)) (fun m _ => (intOf m).toNat)
  case atStart => exact ⟨n, Nat.le_refl _, rfl, by simp⟩
  case round =>
    obtain ⟨k, hk, rfl, rfl⟩ := hrel
    by_cases hlt : 0 < k
    · have hp : 2 ^ (n - (k - 1)) = 2 * 2 ^ (n - k) := by rw [show n - (k - 1) = n - k + 1 by omega, Nat.pow_succ, Nat.mul_comm]
      have hb : 2 ^ (n - k) ≤ 4611686018427387904 := Nat.pow_le_pow_right (n := 2) (by decide) (by omega : n - k ≤ 62)
      have Hp := Lib.hid hp
      clear hp
      generalize 2 ^ (n - k) = p at hb Hp ⊢
      go_wp2
      go_round
      case rel => exact ⟨k - 1, by omega, by congr 1; omega, by rw [Hp.out]; congr 1; omega⟩
      case measure => simp [intOf]; omega
    · obtain rfl : k = 0 := by omega
      go_wp2
      go_ret
      exact ⟨rfl, rfl⟩
theorem int64Power_any (n : Nat) (w : World) (hn : n ≤ 62) : Calls Try.prog 41 #[.int .u64 (n : Int)] w fun e w' => e = .returned (.int .i64 ((2 ^ n : Nat) : Int)) ∧ w = w' := by
  have hb : 2 ^ n ≤ 4611686018427387904 := Nat.pow_le_pow_right (n := 2) (by decide) hn
  have hpw := power_any n w (by omega)
  generalize 2 ^ n = p at hb hpw ⊢
  have Hpw := Lib.hid hpw
  clear hpw
  go_enter Try.func41, Try.ntmps41
  go_wp2_with fail
  refine Hpw.out.mono ?_
  rintro e1 w1 ⟨rfl, rfl⟩
  go_wp2
  go_ret
  exact ⟨rfl, rfl⟩

end Go.Proofs.Ytadnenoehdemkaa
