/- The walks over the document's sums. -/
import Derived.Test.YtidcgobnhfganaaCs
namespace Go.Proofs.Ytidcgobnhfganaa
open Go.RowKit

theorem ref16_hi (s : BitVec 16) (y : Nat) (hy : s.toNat = y) (h : 32768 ≤ y) : bits .xor .u32 ((y : Int) * 2 % 65536) 4129 = ((d16 s).toNat : Int) := by
  have hs := s.isLt
  rw [d16_nat, hy, show y / 32768 = 1 by omega, show (y : Int) * 2 % 65536 = ((2 * y % 65536 : Nat) : Int) by omega]
  have := u32_xor_nat (2 * y % 65536) 4129 (by omega) (by omega)
  rw [Nat.one_mul]
  exact this
theorem ref16_lo (s : BitVec 16) (y : Nat) (hy : s.toNat = y) (h : y < 32768) : (y : Int) * 2 = ((d16 s).toNat : Int) := by
  rw [d16_nat, hy, show y / 32768 = 0 by omega, Nat.zero_mul, Nat.xor_zero]
  omega
theorem refin16 (s : BitVec 16) (x : UInt8) : bits .xor .u32 (s.toNat : Int) ((x.toNat : Int) * 256) = ((s ^^^ emb16 x).toNat : Int) := by
  have := x.toNat_lt
  have := s.isLt
  rw [show (x.toNat : Int) * 256 = ((x.toNat * 256 : Nat) : Int) by omega, u32_xor_nat _ _ (by omega) (by omega), BitVec.toNat_xor, emb16_nat]
theorem ref32_odd (s : BitVec 32) (y : Nat) (hy : s.toNat = y) (h : y % 2 = 1) : bits .xor .u32 ((y : Int) / 2) 2197175160 = ((d32 s).toNat : Int) := by
  have hs := s.isLt
  rw [d32_nat, hy, h, show (y : Int) / 2 = ((y / 2 : Nat) : Int) by omega]
  have := u32_xor_nat (y / 2) 2197175160 (by omega) (by omega)
  rw [Nat.one_mul]
  exact this
theorem ref32_even (s : BitVec 32) (y : Nat) (hy : s.toNat = y) (h : y % 2 = 0) : (y : Int) / 2 = ((d32 s).toNat : Int) := by
  rw [d32_nat, hy, h, Nat.zero_mul, Nat.xor_zero]
  omega

set_option maxHeartbeats 1000000 in
theorem refMore16_any (s : BitVec 16) (A : Option Addr) (n cap : Nat) (xs : List UInt8) (w : World) (hB : ByteSl w Empty A n cap xs) :
    Calls Try.prog 21 #[V16 s, .slice A n cap] w fun e w' => e = .returned (V16 (way16.sum s xs)) ∧ w = w' := by
  unfold V16
  have hn : n ≤ 9223372036854775807 := by have := hB.2.1; have := hB.2.2.1; unfold maxLen at this; omega
  have hs := s.isLt
  go_enter Try.func21, Try.ntmps21
  go_wp2
  go_loop [5, 13] (fun v i => ∃ k : Nat, k ≤ n ∧ i = .int .i64 (k : Int) ∧ v = .int .u32 ((way16.sum s (xs.take k)).toNat : Int)) (fun _ i => n - (intOf i).toNat)
  case atStart => exact ⟨0, Nat.zero_le _, rfl, rfl⟩
  case round =>
    obtain ⟨k, hk, rfl, rfl⟩ := hrel
    by_cases hlt : k < n
    · obtain ⟨ad, x, rfl, hbl, -, hx, hc⟩ := hB.at_ hlt
      unfold B8 at hc
      have hsum : way16.sum s (xs.take (k + 1)) = reps d16 8 (way16.sum s (xs.take k) ^^^ emb16 x) := by rw [take_one xs k x hx, way16.sum_snoc]; rfl
      have Hsum := Lib.hid hsum
      clear hsum
      generalize way16.sum s (xs.take k) = S at Hsum ⊢
      have e1 := refin16 S x
      generalize S ^^^ emb16 x = S1 at e1 Hsum
      have hm : x.toNat < 256 := x.toNat_lt
      have hS : S.toNat < 65536 := S.isLt
      have hS1 : S1.toNat < 65536 := S1.isLt
      generalize S.toNat = y at e1 hS ⊢
      generalize x.toNat = m at e1 hm hc
      obtain ⟨z, hz⟩ : ∃ z, S1.toNat = z := ⟨_, rfl⟩
      rw [hz] at e1 hS1
      have Hz := Lib.hid hz
      clear hz
      go_wp2
      go_loop [5, 8] (fun v j => ∃ i : Nat, i ≤ 8 ∧ j = .int .i64 (i : Int) ∧ v = .int .u32 ((reps d16 i S1).toNat : Int)) (fun _ j => 8 - (intOf j).toNat)
      case atStart => exact ⟨0, Nat.zero_le _, rfl, by rw [← Hz.out]; rfl⟩
      case round =>
        obtain ⟨i, hi, rfl, rfl⟩ := hrel
        by_cases hil : i < 8
        · have hr : reps d16 (i + 1) S1 = d16 (reps d16 i S1) := reps_succ _ _ _
          have Hr := Lib.hid hr
          clear hr
          generalize reps d16 i S1 = T at Hr ⊢
          have hT := T.isLt
          obtain ⟨t, ht⟩ : ∃ t, T.toNat = t := ⟨_, rfl⟩
          rw [ht] at hT ⊢
          clear e1 hS hS1 hm
          have hT2 : t ≤ 65535 := by omega
          clear hT
          by_cases hh : 32768 ≤ t
          · have e3 := Lib.hid (ref16_hi T t ht hh)
            have hd : decide (65536 ≤ (t : Int) * 2) = true := by simp; omega
            clear ht hh
            go_wp2
            go_round
            case rel => exact ⟨i + 1, by omega, by go_num, by rw [e3.out, Hr.out]⟩
            case measure => simp [intOf]; omega
          · have e3 := Lib.hid (ref16_lo T t ht (by omega))
            have hd : decide (65536 ≤ (t : Int) * 2) = false := by simp; omega
            clear ht hh
            go_wp2
            go_round
            case rel => exact ⟨i + 1, by omega, by go_num, by rw [e3.out, Hr.out]⟩
            case measure => simp [intOf]; omega
        · obtain rfl : i = 8 := by omega
          rw [← Hsum.out]
          go_wp2
          go_round
          case rel => exact ⟨k + 1, by omega, by go_num, rfl⟩
          case measure => simp [intOf]; omega
    · obtain rfl : k = n := by omega
      have hl := (way16.sum s (xs.take k)).isLt
      go_wp2
      go_ret
      exact ⟨by rw [List.take_of_length_le (by have := hB.1; omega)]; rfl, rfl⟩

theorem refSum16_any (A : Option Addr) (n cap : Nat) (xs : List UInt8) (w : World) (hB : ByteSl w Empty A n cap xs) :
    Calls Try.prog 13 #[.slice A n cap] w fun e w' => e = .returned (V16 (crc16 xs)) ∧ w = w' := by
  go_enter Try.func13, Try.ntmps13
  go_wp2_with fail
  refine (refMore16_any (BitVec.allOnes 16) A n cap xs _ hB).mono ?_
  rintro e1 w1 ⟨rfl, rfl⟩
  go_wp2
  go_ret
  exact ⟨rfl, rfl⟩

set_option maxHeartbeats 1000000 in
theorem refSum32_any (A : Option Addr) (n cap : Nat) (xs : List UInt8) (w : World) (hB : ByteSl w Empty A n cap xs) :
    Calls Try.prog 14 #[.slice A n cap] w fun e w' => e = .returned (V32 (crc32 xs)) ∧ w = w' := by
  unfold V32
  have hn : n ≤ 9223372036854775807 := by have := hB.2.1; have := hB.2.2.1; unfold maxLen at this; omega
  go_enter Try.func14, Try.ntmps14
  go_wp2
  go_loop [3, 10] (fun v i => ∃ k : Nat, k ≤ n ∧ i = .int .i64 (k : Int) ∧ v = .int .u32 ((way32.sum (BitVec.allOnes 32) (xs.take k)).toNat : Int)) (fun _ i => n - (intOf i).toNat)
  case atStart => exact ⟨0, Nat.zero_le _, rfl, rfl⟩
  case round =>
    obtain ⟨k, hk, rfl, rfl⟩ := hrel
    by_cases hlt : k < n
    · obtain ⟨ad, x, rfl, hbl, -, hx, hc⟩ := hB.at_ hlt
      unfold B8 at hc
      have hsum : way32.sum (BitVec.allOnes 32) (xs.take (k + 1)) = reps d32 8 (way32.sum (BitVec.allOnes 32) (xs.take k) ^^^ emb32 x) := by rw [take_one xs k x hx, way32.sum_snoc]; rfl
      have Hsum := Lib.hid hsum
      clear hsum
      generalize way32.sum (BitVec.allOnes 32) (xs.take k) = S at Hsum ⊢
      have e1 := in32 S x
      generalize S ^^^ emb32 x = S1 at e1 Hsum
      have hm : x.toNat < 256 := x.toNat_lt
      have hS : S.toNat < 4294967296 := S.isLt
      generalize S.toNat = y at e1 hS ⊢
      generalize x.toNat = m at e1 hm hc
      obtain ⟨z, hz⟩ : ∃ z, S1.toNat = z := ⟨_, rfl⟩
      rw [hz] at e1
      have Hz := Lib.hid hz
      clear hz
      go_wp2
      go_loop [3, 6] (fun v j => ∃ i : Nat, i ≤ 8 ∧ j = .int .i64 (i : Int) ∧ v = .int .u32 ((reps d32 i S1).toNat : Int)) (fun _ j => 8 - (intOf j).toNat)
      case atStart => exact ⟨0, Nat.zero_le _, rfl, by rw [← Hz.out]; rfl⟩
      case round =>
        obtain ⟨i, hi, rfl, rfl⟩ := hrel
        by_cases hil : i < 8
        · have hr : reps d32 (i + 1) S1 = d32 (reps d32 i S1) := reps_succ _ _ _
          have Hr := Lib.hid hr
          clear hr
          generalize reps d32 i S1 = T at Hr ⊢
          have hT := T.isLt
          obtain ⟨t, ht⟩ : ∃ t, T.toNat = t := ⟨_, rfl⟩
          rw [ht] at hT ⊢
          by_cases hh : t % 2 = 1
          · have e3 := Lib.hid (ref32_odd T t ht hh)
            have ho : (((t : Int) % 2) == 1) = true := by simp; omega
            clear ht
            go_wp2
            go_round
            case rel => exact ⟨i + 1, by omega, by go_num, by rw [e3.out, Hr.out]⟩
            case measure => simp [intOf]; omega
          · have e3 := Lib.hid (ref32_even T t ht (by omega))
            have ho : (((t : Int) % 2) == 1) = false := by simp; omega
            clear ht
            go_wp2
            go_round
            case rel => exact ⟨i + 1, by omega, by go_num, by rw [e3.out, Hr.out]⟩
            case measure => simp [intOf]; omega
        · obtain rfl : i = 8 := by omega
          rw [← Hsum.out]
          go_wp2
          go_round
          case rel => exact ⟨k + 1, by omega, by go_num, rfl⟩
          case measure => simp [intOf]; omega
    · obtain rfl : k = n := by omega
      go_wp2
      go_ret
      exact ⟨by rw [List.take_of_length_le (by have := hB.1; omega)]; exact congrArg (fun v : Int => Ending.returned (Value.int .u32 v)) (not32' _), rfl⟩

end Go.Proofs.Ytidcgobnhfganaa
