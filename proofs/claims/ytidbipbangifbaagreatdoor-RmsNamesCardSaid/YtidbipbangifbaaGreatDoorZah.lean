/- The sums' steps as the machine's numbers. -/
import Derived.Test.YtidbipbangifbaaGreatDoorZaa
import Derived.Test.YtidbipbangifbaaGreatDoorZag
import Derived.Laws.BitsAllLaws
import Derived.IntWalk
namespace Go.Proofs.YtidbipbangifbaaGreatDoor
set_option maxRecDepth 100000
open Go.RowKit

def V16 (s : BitVec 16) : Value := .int .u16 (s.toNat : Int)
def V32 (s : BitVec 32) : Value := .int .u32 (s.toNat : Int)

theorem d16_nat (s : BitVec 16) : (d16 s).toNat = (2 * s.toNat % 65536) ^^^ (s.toNat / 32768 * 4129) := by
  unfold d16
  rw [BitVec.toNat_xor, BitVec.toNat_shiftLeft, BitVec.msb_eq_decide]
  have h := s.isLt
  rw [Nat.shiftLeft_eq, Nat.mul_comm]
  congr 1
  by_cases hs : 32768 ≤ s.toNat
  · rw [show s.toNat / 32768 = 1 by omega]
    simp [hs]
  · rw [show s.toNat / 32768 = 0 by omega]
    simp [hs]

theorem d32_nat (s : BitVec 32) : (d32 s).toNat = (s.toNat / 2) ^^^ (s.toNat % 2 * 2197175160) := by
  unfold d32
  rw [BitVec.toNat_xor, BitVec.toNat_ushiftRight, BitVec.getLsbD, Nat.testBit_zero]
  rw [Nat.shiftRight_eq_div_pow]
  congr 1
  by_cases hs : s.toNat % 2 = 1
  · simp [hs]
  · rw [show s.toNat % 2 = 0 by omega]
    simp

/-- One bit of a table's place. -/
theorem step16 (s : BitVec 16) (y : Nat) (h : s.toNat = y) : bits .xor .u16 (IntKind.u16.wrap ((y : Int) * 2)) ((y : Int) / 32768 * 4129) = ((d16 s).toNat : Int) := by
  have hy := s.isLt
  rw [d16_nat, h]
  rw [h] at hy
  rw [show IntKind.u16.wrap ((y : Int) * 2) = ((2 * y % 65536 : Nat) : Int) by rw [IntKind.wrap_u16]; omega, show (y : Int) / 32768 * 4129 = ((y / 32768 * 4129 : Nat) : Int) by omega, u16_xor_nat _ _ (by omega) (by omega)]
theorem and_one32 (y : Nat) (h : y < 4294967296) : bits .and .u32 (y : Int) 1 = ((y % 2 : Nat) : Int) := by
  have := u32_and_nat y 1 h (by omega)
  rw [Nat.and_one_is_mod] at this
  exact this
theorem and_15_32 (y : Nat) (h : y < 4294967296) : bits .and .u32 (y : Int) 15 = ((y % 16 : Nat) : Int) := by
  have := u32_and_nat y 15 h (by omega)
  rw [show (15 : Nat) = 2 ^ 4 - 1 by decide, Nat.and_two_pow_sub_one_eq_mod] at this
  exact this
theorem step32 (s : BitVec 32) (y : Nat) (h : s.toNat = y) : bits .xor .u32 ((y : Int) / 2) (bits .and .u32 (y : Int) 1 * 2197175160 % 4294967296) = ((d32 s).toNat : Int) := by
  have hy := s.isLt
  rw [d32_nat, h]
  rw [h] at hy
  rw [and_one32 y (by omega), show (y : Int) / 2 = ((y / 2 : Nat) : Int) by omega, show ((y % 2 : Nat) : Int) * 2197175160 % 4294967296 = ((y % 2 * 2197175160 : Nat) : Int) by omega, u32_xor_nat _ _ (by omega) (by omega)]

theorem not32 (s : BitVec 32) : bits .xor .u32 4294967295 (s.toNat : Int) = ((~~~s).toNat : Int) := by
  have h := u32_xor_nat 4294967295 s.toNat (by omega) s.isLt
  rw [show ((4294967295 : Nat) : Int) = 4294967295 from rfl] at h
  rw [h, ← BitVec.allOnes_xor, BitVec.toNat_xor, BitVec.toNat_allOnes]
theorem not32' (s : BitVec 32) : bits .xor .u32 (s.toNat : Int) 4294967295 = ((~~~s).toNat : Int) := by
  have h := u32_xor_nat s.toNat 4294967295 s.isLt (by omega)
  rw [show ((4294967295 : Nat) : Int) = 4294967295 from rfl] at h
  rw [h, ← BitVec.xor_allOnes, BitVec.toNat_xor, BitVec.toNat_allOnes]

/-! ### One byte -/
theorem emb16_nat (x : UInt8) : (emb16 x).toNat = x.toNat * 256 := by
  unfold emb16
  have := x.toNat_lt
  rw [BitVec.toNat_shiftLeft, Nat.shiftLeft_eq]
  simp
  omega
theorem emb32_nat (x : UInt8) : (emb32 x).toNat = x.toNat := by
  unfold emb32
  simp
theorem in16 (s : BitVec 16) (x : UInt8) : bits .xor .u16 (s.toNat : Int) ((x.toNat : Int) * 256) = ((s ^^^ emb16 x).toNat : Int) := by
  have := x.toNat_lt
  rw [show (x.toNat : Int) * 256 = ((x.toNat * 256 : Nat) : Int) by omega, u16_xor_nat _ _ s.isLt (by omega), BitVec.toNat_xor, emb16_nat]
theorem in32 (s : BitVec 32) (x : UInt8) : bits .xor .u32 (s.toNat : Int) (x.toNat : Int) = ((s ^^^ emb32 x).toNat : Int) := by
  have := x.toNat_lt
  rw [u32_xor_nat _ _ s.isLt (by omega), BitVec.toNat_xor, emb32_nat]
theorem half16 (a : BitVec 16) : bits .xor .u16 (IntKind.u16.wrap ((a.toNat : Int) * 16)) ((reps d16 4 (BitVec.ofNat 16 (a.toNat / 4096 * 4096))).toNat : Int) = ((reps d16 4 a).toNat : Int) := by
  have h := a.isLt
  have e : (a >>> 12) <<< 12 = BitVec.ofNat 16 (a.toNat / 4096 * 4096) := by
    apply BitVec.eq_of_toNat_eq
    rw [BitVec.toNat_shiftLeft, BitVec.toNat_ushiftRight, Nat.shiftRight_eq_div_pow, Nat.shiftLeft_eq, BitVec.toNat_ofNat]
  rw [nib16 a, e, show IntKind.u16.wrap ((a.toNat : Int) * 16) = ((a.toNat * 16 % 65536 : Nat) : Int) by rw [IntKind.wrap_u16]; omega, u16_xor_nat _ _ (by omega) (BitVec.isLt _), BitVec.toNat_xor,
    BitVec.toNat_shiftLeft, Nat.shiftLeft_eq]
theorem half32 (a : BitVec 32) : bits .xor .u32 ((a.toNat : Int) / 16) ((reps d32 4 (BitVec.ofNat 32 (a.toNat % 16))).toNat : Int) = ((reps d32 4 a).toNat : Int) := by
  have h := a.isLt
  have e : a &&& 15#32 = BitVec.ofNat 32 (a.toNat % 16) := by
    apply BitVec.eq_of_toNat_eq
    rw [BitVec.toNat_and, BitVec.toNat_ofNat, BitVec.toNat_ofNat, show 15 % 2 ^ 32 = 2 ^ 4 - 1 by decide, Nat.and_two_pow_sub_one_eq_mod]
    omega
  rw [nib32 a, e, show (a.toNat : Int) / 16 = ((a.toNat / 16 : Nat) : Int) by omega, u32_xor_nat _ _ (by omega) (BitVec.isLt _), BitVec.toNat_xor, BitVec.toNat_ushiftRight, Nat.shiftRight_eq_div_pow]
theorem byte16 (s : BitVec 16) (x : UInt8) : way16.byte s x = reps d16 4 (reps d16 4 (s ^^^ emb16 x)) := by
  show reps d16 (4 + 4) _ = _
  rw [reps_add]
  rfl
theorem byte32 (s : BitVec 32) (x : UInt8) : way32.byte s x = reps d32 4 (reps d32 4 (s ^^^ emb32 x)) := by
  show reps d32 (4 + 4) _ = _
  rw [reps_add]
  rfl

end Go.Proofs.YtidbipbangifbaaGreatDoor
