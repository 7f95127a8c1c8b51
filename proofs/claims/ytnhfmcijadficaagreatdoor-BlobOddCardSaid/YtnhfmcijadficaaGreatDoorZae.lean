/- The sums' steps as the machine's numbers. -/
import Derived.Test.YtnhfmcijadficaaGreatDoorZaa
import Derived.Test.YtnhfmcijadficaaGreatDoorZad
import Derived.Laws.BitsAllLaws
import Derived.IntWalk
import Derived.Outline
import Derived.Laws.Rows
import Derived.Laws.CopyOwn
namespace Go.Proofs.YtnhfmcijadficaaGreatDoor
set_option maxRecDepth 100000
open Go.RowKit

def V16 (s : BitVec 16) : Value := .int .u16 (s.toNat : Int)
def V32 (s : BitVec 32) : Value := .int .u32 (s.toNat : Int)

theorem d16_nat (s : BitVec 16) : (d16 s).toNat = (2 * s.toNat % 65536) ^^^ (s.toNat / 32768 * 4129) := by
  unfold d16
  rw [BitVec.toNat_xor, BitVec.toNat_shiftLeft, BitVec.msb_eq_decide]
  have h := s.isLt
  rw [Nat.shiftLeft_eq, Nat.mul_comm]
  congr 1
  by_cases hs : 32768 ≤ s.toNat
  · rw [show s.toNat / 32768 = 1 by omega]
    simp [hs]
  · rw [show s.toNat / 32768 = 0 by omega]
    simp [hs]

theorem d32_nat (s : BitVec 32) : (d32 s).toNat = (s.toNat / 2) ^^^ (s.toNat % 2 * 2197175160) := by
  unfold d32
  rw [BitVec.toNat_xor, BitVec.toNat_ushiftRight, BitVec.getLsbD, Nat.testBit_zero]
  rw [Nat.shiftRight_eq_div_pow]
  congr 1
  by_cases hs : s.toNat % 2 = 1
  · simp [hs]
  · rw [show s.toNat % 2 = 0 by omega]
    simp

/-- One bit of a table's place. -/
theorem step16 (s : BitVec 16) (y : Nat) (h : s.toNat = y) : bits .xor .u16 (IntKind.u16.wrap ((y : Int) * 2)) ((y : Int) / 32768 * 4129) = ((d16 s).toNat : Int) := by
  have hy := s.isLt
  rw [d16_nat, h]
  rw [h] at hy
  rw [show IntKind.u16.wrap ((y : Int) * 2) = ((2 * y % 65536 : Nat) : Int) by rw [IntKind.wrap_u16]; omega, show (y : Int) / 32768 * 4129 = ((y / 32768 * 4129 : Nat) : Int) by omega, u16_xor_nat _ _ (by omega) (by omega)]
theorem and_one32 (y : Nat) (h : y < 4294967296) : bits .and .u32 (y : Int) 1 = ((y % 2 : Nat) : Int) := by
  have := u32_and_nat y 1 h (by omega)
  rw [Nat.and_one_is_mod] at this
  exact this
theorem and_15_32 (y : Nat) (h : y < 4294967296) : bits .and .u32 (y : Int) 15 = ((y % 16 : Nat) : Int) := by
  have := u32_and_nat y 15 h (by omega)
  rw [show (15 : Nat) = 2 ^ 4 - 1 by decide, Nat.and_two_pow_sub_one_eq_mod] at this
  exact this
theorem step32 (s : BitVec 32) (y : Nat) (h : s.toNat = y) : bits .xor .u32 ((y : Int) / 2) (bits .and .u32 (y : Int) 1 * 2197175160 % 4294967296) = ((d32 s).toNat : Int) := by
  have hy := s.isLt
  rw [d32_nat, h]
  rw [h] at hy
  rw [and_one32 y (by omega), show (y : Int) / 2 = ((y / 2 : Nat) : Int) by omega, show ((y % 2 : Nat) : Int) * 2197175160 % 4294967296 = ((y % 2 * 2197175160 : Nat) : Int) by omega, u32_xor_nat _ _ (by omega) (by omega)]

theorem not32 (s : BitVec 32) : bits .xor .u32 4294967295 (s.toNat : Int) = ((~~~s).toNat : Int) := by
  have h := u32_xor_nat 4294967295 s.toNat (by omega) s.isLt
  rw [show ((4294967295 : Nat) : Int) = 4294967295 from rfl] at h
  rw [h, ← BitVec.allOnes_xor, BitVec.toNat_xor, BitVec.toNat_allOnes]
theorem not32' (s : BitVec 32) : bits .xor .u32 (s.toNat : Int) 4294967295 = ((~~~s).toNat : Int) := by
  have h := u32_xor_nat s.toNat 4294967295 s.isLt (by omega)
  rw [show ((4294967295 : Nat) : Int) = 4294967295 from rfl] at h
  rw [h, ← BitVec.xor_allOnes, BitVec.toNat_xor, BitVec.toNat_allOnes]

/-! ### One byte -/
theorem emb16_nat (x : UInt8) : (emb16 x).toNat = x.toNat * 256 := by
  unfold emb16
  have := x.toNat_lt
  rw [BitVec.toNat_shiftLeft, Nat.shiftLeft_eq]
  simp
  omega
theorem emb32_nat (x : UInt8) : (emb32 x).toNat = x.toNat := by
  unfold emb32
  simp
theorem in16 (s : BitVec 16) (x : UInt8) : bits .xor .u16 (s.toNat : Int) ((x.toNat : Int) * 256) = ((s ^^^ emb16 x).toNat : Int) := by
  have := x.toNat_lt
  rw [show (x.toNat : Int) * 256 = ((x.toNat * 256 : Nat) : Int) by omega, u16_xor_nat _ _ s.isLt (by omega), BitVec.toNat_xor, emb16_nat]
theorem in32 (s : BitVec 32) (x : UInt8) : bits .xor .u32 (s.toNat : Int) (x.toNat : Int) = ((s ^^^ emb32 x).toNat : Int) := by
  have := x.toNat_lt
  rw [u32_xor_nat _ _ s.isLt (by omega), BitVec.toNat_xor, emb32_nat]
theorem half16 (a : BitVec 16) : bits .xor .u16 (IntKind.u16.wrap ((a.toNat : Int) * 16)) ((reps d16 4 (BitVec.ofNat 16 (a.toNat / 4096 * 4096))).toNat : Int) = ((reps d16 4 a).toNat : Int) := by
  have h := a.isLt
  have e : (a >>> 12) <<< 12 = BitVec.ofNat 16 (a.toNat / 4096 * 4096) := by
    apply BitVec.eq_of_toNat_eq
    rw [BitVec.toNat_shiftLeft, BitVec.toNat_ushiftRight, Nat.shiftRight_eq_div_pow, Nat.shiftLeft_eq, BitVec.toNat_ofNat]
  rw [nib16 a, e, show IntKind.u16.wrap ((a.toNat : Int) * 16) = ((a.toNat * 16 % 65536 : Nat) : Int) by rw [IntKind.wrap_u16]; omega, u16_xor_nat _ _ (by omega) (BitVec.isLt _), BitVec.toNat_xor,
    BitVec.toNat_shiftLeft, Nat.shiftLeft_eq]
theorem half32 (a : BitVec 32) : bits .xor .u32 ((a.toNat : Int) / 16) ((reps d32 4 (BitVec.ofNat 32 (a.toNat % 16))).toNat : Int) = ((reps d32 4 a).toNat : Int) := by
  have h := a.isLt
  have e : a &&& 15#32 = BitVec.ofNat 32 (a.toNat % 16) := by
    apply BitVec.eq_of_toNat_eq
    rw [BitVec.toNat_and, BitVec.toNat_ofNat, BitVec.toNat_ofNat, show 15 % 2 ^ 32 = 2 ^ 4 - 1 by decide, Nat.and_two_pow_sub_one_eq_mod]
    omega
  rw [nib32 a, e, show (a.toNat : Int) / 16 = ((a.toNat / 16 : Nat) : Int) by omega, u32_xor_nat _ _ (by omega) (BitVec.isLt _), BitVec.toNat_xor, BitVec.toNat_ushiftRight, Nat.shiftRight_eq_div_pow]
theorem byte16 (s : BitVec 16) (x : UInt8) : way16.byte s x = reps d16 4 (reps d16 4 (s ^^^ emb16 x)) := by
  show reps d16 (4 + 4) _ = _
  rw [reps_add]
  rfl
theorem byte32 (s : BitVec 32) (x : UInt8) : way32.byte s x = reps d32 4 (reps d32 4 (s ^^^ emb32 x)) := by
  show reps d32 (4 + 4) _ = _
  rw [reps_add]
  rfl

end Go.Proofs.YtnhfmcijadficaaGreatDoor

/- The walks over crc's tables. -/
namespace Go.Proofs.YtnhfmcijadficaaGreatDoor
set_option maxRecDepth 100000
open Go.RowKit

/-- The table's k first places. -/
def tab16 (k : Nat) : Array Value := ((List.range 16).map fun i => if i < k then V16 (reps d16 4 (BitVec.ofNat 16 (i * 4096))) else V16 0#16).toArray
def tab32 (k : Nat) : Array Value := ((List.range 16).map fun i => if i < k then V32 (reps d32 4 (BitVec.ofNat 32 i)) else V32 0#32).toArray

theorem tab16_get (k i : Nat) (h : i < 16) : (tab16 k)[i]? = some (if i < k then V16 (reps d16 4 (BitVec.ofNat 16 (i * 4096))) else V16 0#16) := by
  simp [tab16, h]
theorem tab16_next (k : Nat) : (tab16 k).setIfInBounds k (V16 (reps d16 4 (BitVec.ofNat 16 (k * 4096)))) = tab16 (k + 1) := by
  apply Array.ext_getElem?
  intro i
  rw [Array.getElem?_setIfInBounds]
  by_cases hi : i < 16
  · rw [tab16_get _ _ hi, tab16_get _ _ hi]
    by_cases h : k = i
    · subst h
      simp [tab16, hi]
    · rw [if_neg h]
      by_cases h2 : i < k
      · rw [if_pos h2, if_pos (by omega)]
      · rw [if_neg h2, if_neg (by omega)]
  · have h1 : (tab16 k)[i]? = none := Array.getElem?_eq_none (by simp [tab16]; omega)
    have h2 : (tab16 (k + 1))[i]? = none := Array.getElem?_eq_none (by simp [tab16]; omega)
    rw [h1, h2]
    by_cases h : k = i
    · rw [if_pos h, if_neg (by simp [tab16]; omega)]
    · rw [if_neg h]
theorem tab32_get (k i : Nat) (h : i < 16) : (tab32 k)[i]? = some (if i < k then V32 (reps d32 4 (BitVec.ofNat 32 i)) else V32 0#32) := by
  simp [tab32, h]
theorem tab32_next (k : Nat) : (tab32 k).setIfInBounds k (V32 (reps d32 4 (BitVec.ofNat 32 k))) = tab32 (k + 1) := by
  apply Array.ext_getElem?
  intro i
  rw [Array.getElem?_setIfInBounds]
  by_cases hi : i < 16
  · rw [tab32_get _ _ hi, tab32_get _ _ hi]
    by_cases h : k = i
    · subst h
      simp [tab32, hi]
    · rw [if_neg h]
      by_cases h2 : i < k
      · rw [if_pos h2, if_pos (by omega)]
      · rw [if_neg h2, if_neg (by omega)]
  · have h1 : (tab32 k)[i]? = none := Array.getElem?_eq_none (by simp [tab32]; omega)
    have h2 : (tab32 (k + 1))[i]? = none := Array.getElem?_eq_none (by simp [tab32]; omega)
    rw [h1, h2]
    by_cases h : k = i
    · rw [if_pos h, if_neg (by simp [tab32]; omega)]
    · rw [if_neg h]

set_option maxHeartbeats 400000 in
theorem table16_any (w : World) :
    Calls Tryz.prog 204 #[] w fun e w' => e = .returned (.agg (tab16 16)) ∧ Below w.heap.size w w' := by
  go_enter Tryz.func204, Tryz.ntmps204
  go_wp2
  go_loopw [5] (fun i wr => ∃ k : Nat, k ≤ 16 ∧ i = .int .i64 (k : Int) ∧ Blk wr (w.heap.size + 1) 278 (tab16 k) ∧ (∃ cs, Blk wr w.heap.size 278 cs ∧ cs.size = 16) ∧ Below w.heap.size w wr) (fun i _ => 16 - (intOf i).toNat)
  case atStart =>
    refine ⟨0, by omega, rfl, ?_, ⟨_, (Blk.new w 278 _).alloc _, rfl⟩, ((Below.refl _ _).alloc (Nat.le_refl _) _).alloc (by simp) _⟩
    have h2 := Blk.new (w.alloc (.cells (tab16 0) 278)) 278 (tab16 0)
    rw [show (w.alloc (.cells (tab16 0) 278)).heap.size = w.heap.size + 1 by simp] at h2
    exact h2
  case round =>
    obtain ⟨k, hk, rfl, hb, ⟨cs, hcs, hcz⟩, hw⟩ := hrel
    by_cases hlt : k < 16
    · have hc : wr.cell? ⟨w.heap.size + 1, k, none⟩ = some (V16 0#16) := by rw [hb.cell, tab16_get k k hlt, if_neg (by omega)]
      have hfr := hb.frozen k
      go_wp2
      go_loop [3, 11] (fun s j => ∃ i : Nat, i ≤ 4 ∧ j = .int .i64 (i : Int) ∧ s = .int .u16 ((reps d16 i (BitVec.ofNat 16 (k * 4096))).toNat : Int)) (fun _ j => 4 - (intOf j).toNat)
      case atStart => exact ⟨0, by omega, rfl, by simp [reps]; omega⟩
      case round =>
        obtain ⟨i, hi, rfl, rfl⟩ := hrel
        by_cases hil : i < 4
        · obtain ⟨y, hy, hyd⟩ : ∃ y : Nat, y < 65536 ∧ (reps d16 i (BitVec.ofNat 16 (k * 4096))).toNat = y := ⟨_, (reps d16 i (BitVec.ofNat 16 (k * 4096))).isLt, rfl⟩
          rw [hyd]
          have Hyd := Lib.hid hyd
          clear hyd
          go_wp2
          go_round
          case rel => exact ⟨i + 1, by omega, by go_num, by rw [step16 _ y Hyd.out, reps_succ]⟩
          case measure => simp [intOf]; omega
        · obtain rfl : i = 4 := by omega
          go_wp2
          go_roundw
          case rel => exact ⟨k + 1, by omega, by go_num, by rw [← tab16_next]; exact hb.set_ _ _, ⟨cs, hcs.far (by simp) _, hcz⟩, hw.setCell (by simp) _⟩
          case measure => simp [intOf]; omega
    · obtain rfl : k = 16 := by omega
      have hi : (Tryz.prog.info? 278).map (·.size) = some (tab16 16).size := by kernel_rfl
      have h1 : (tab16 16).all (·.oneCell') = true := by kernel_rfl
      go_wp2_with (first
        | (refine wpList_load_row rfl _ _ rfl (w.heap.size + 1) rfl 278 (tab16 16) (0, 0) _ hb Tryz.underlying278 rfl hi ?_)
        | (refine wpList_store_row rfl _ _ _ rfl w.heap.size (tab16 16) rfl rfl 278 cs hcs hi hcz h1 ?_))
      have hr : Blk (wr.setRow w.heap.size (tab16 16)) w.heap.size 278 (tab16 16) := setRow_heap wr w.heap.size cs (tab16 16) 278 (0, 0) hcs
      refine bodyPost_ret (results_cell_row rfl _ _ w.heap.size 278 (tab16 16) (0, 0) _ rfl hr Tryz.underlying278 rfl hi) rfl ⟨rfl, below_setRow hw (Nat.le_refl _) _⟩

set_option maxHeartbeats 400000 in
theorem table32_any (w : World) :
    Calls Tryz.prog 184 #[] w fun e w' => e = .returned (.agg (tab32 16)) ∧ Below w.heap.size w w' := by
  go_enter Tryz.func184, Tryz.ntmps184
  go_wp2
  go_loopw [5] (fun i wr => ∃ k : Nat, k ≤ 16 ∧ i = .int .i64 (k : Int) ∧ Blk wr (w.heap.size + 1) 262 (tab32 k) ∧ (∃ cs, Blk wr w.heap.size 262 cs ∧ cs.size = 16) ∧ Below w.heap.size w wr) (fun i _ => 16 - (intOf i).toNat)
  case atStart =>
    refine ⟨0, by omega, rfl, ?_, ⟨_, (Blk.new w 262 _).alloc _, rfl⟩, ((Below.refl _ _).alloc (Nat.le_refl _) _).alloc (by simp) _⟩
    have h2 := Blk.new (w.alloc (.cells (tab32 0) 262)) 262 (tab32 0)
    rw [show (w.alloc (.cells (tab32 0) 262)).heap.size = w.heap.size + 1 by simp] at h2
    exact h2
  case round =>
    obtain ⟨k, hk, rfl, hb, ⟨cs, hcs, hcz⟩, hw⟩ := hrel
    by_cases hlt : k < 16
    · have hc : wr.cell? ⟨w.heap.size + 1, k, none⟩ = some (V32 0#32) := by rw [hb.cell, tab32_get k k hlt, if_neg (by omega)]
      have hfr := hb.frozen k
      go_wp2
      go_loop [3, 10] (fun s j => ∃ i : Nat, i ≤ 4 ∧ j = .int .i64 (i : Int) ∧ s = .int .u32 ((reps d32 i (BitVec.ofNat 32 k)).toNat : Int)) (fun _ j => 4 - (intOf j).toNat)
      case atStart => exact ⟨0, by omega, rfl, by simp [reps]; omega⟩
      case round =>
        obtain ⟨i, hi, rfl, rfl⟩ := hrel
        by_cases hil : i < 4
        · obtain ⟨y, hy, hyd⟩ : ∃ y : Nat, y < 4294967296 ∧ (reps d32 i (BitVec.ofNat 32 k)).toNat = y := ⟨_, (reps d32 i (BitVec.ofNat 32 k)).isLt, rfl⟩
          rw [hyd]
          have Hyd := Lib.hid hyd
          clear hyd
          go_wp2
          go_round
          case rel => exact ⟨i + 1, by omega, by go_num, by rw [step32 _ y Hyd.out, reps_succ]⟩
          case measure => simp [intOf]; omega
        · obtain rfl : i = 4 := by omega
          go_wp2
          go_roundw
          case rel => exact ⟨k + 1, by omega, by go_num, by rw [← tab32_next]; exact hb.set_ _ _, ⟨cs, hcs.far (by simp) _, hcz⟩, hw.setCell (by simp) _⟩
          case measure => simp [intOf]; omega
    · obtain rfl : k = 16 := by omega
      have hi : (Tryz.prog.info? 262).map (·.size) = some (tab32 16).size := by kernel_rfl
      have h1 : (tab32 16).all (·.oneCell') = true := by kernel_rfl
      go_wp2_with (first
        | (refine wpList_load_row rfl _ _ rfl (w.heap.size + 1) rfl 262 (tab32 16) (0, 0) _ hb Tryz.underlying262 rfl hi ?_)
        | (refine wpList_store_row rfl _ _ _ rfl w.heap.size (tab32 16) rfl rfl 262 cs hcs hi hcz h1 ?_))
      have hr : Blk (wr.setRow w.heap.size (tab32 16)) w.heap.size 262 (tab32 16) := setRow_heap wr w.heap.size cs (tab32 16) 262 (0, 0) hcs
      refine bodyPost_ret (results_cell_row rfl _ _ w.heap.size 262 (tab32 16) (0, 0) _ rfl hr Tryz.underlying262 rfl hi) rfl ⟨rfl, below_setRow hw (Nat.le_refl _) _⟩

end Go.Proofs.YtnhfmcijadficaaGreatDoor

/- The walks over crc's sums. -/
namespace Go.Proofs.YtnhfmcijadficaaGreatDoor
set_option maxRecDepth 100000
open Go.RowKit

/-- The sums as the document has them. -/
def crc16 (xs : List UInt8) : BitVec 16 := way16.sum (BitVec.allOnes 16) xs
def crc32 (xs : List UInt8) : BitVec 32 := ~~~(way32.sum (BitVec.allOnes 32) xs)

set_option maxHeartbeats 1000000 in
theorem more16_any (s : BitVec 16) (A : Option Addr) (n cap : Nat) (xs : List UInt8) (w : World) (hB : ByteSl w Empty A n cap xs) :
    Calls Tryz.prog 193 #[V16 s, .slice A n cap] w fun e w' => e = .returned (V16 (way16.sum s xs)) ∧ Below w.heap.size w w' := by
  unfold V16
  have hn : n ≤ 9223372036854775807 := by have := hB.2.1; have := hB.2.2.1; unfold maxLen at this; omega
  go_enter Tryz.func193, Tryz.ntmps193
  go_wp2_with fail
  refine (table16_any _).mono ?_
  rintro e1 w1 ⟨rfl, hb1⟩
  have hnew : Blk (w1.alloc (.cells (tab16 0) 278)) w1.heap.size 278 (tab16 0) := Blk.new _ _ _
  have hi : (Tryz.prog.info? 278).map (·.size) = some (tab16 16).size := by kernel_rfl
  have h1 : (tab16 16).all (·.oneCell') = true := by kernel_rfl
  go_wp2_with (refine wpList_store_row rfl _ _ _ rfl w1.heap.size (tab16 16) rfl rfl 278 (tab16 0) hnew hi rfl h1 ?_)
  generalize hw2 : World.setRow _ _ _ = w2
  have hT : Blk w2 w1.heap.size 278 (tab16 16) := by rw [← hw2]; exact setRow_heap _ _ (tab16 0) _ _ (0, 0) hnew
  have hbw : Below w.heap.size w w2 := by rw [← hw2]; exact below_setRow (hb1.alloc hb1.size _) hb1.size _
  have hB2 := hB.only (Only.of_below (S := Empty) (hbw.mono (Nat.le_refl _))) (fun _ _ h => h)
  clear hw2 hnew hi h1 hB
  go_loop [0, 11] (fun v i => ∃ k : Nat, k ≤ n ∧ i = .int .i64 (k : Int) ∧ v = .int .u16 ((way16.sum s (xs.take k)).toNat : Int)) (fun _ i => n - (intOf i).toNat)
  case atStart => exact ⟨0, Nat.zero_le _, rfl, rfl⟩
  case round =>
    obtain ⟨k, hk, rfl, rfl⟩ := hrel
    by_cases hlt : k < n
    · obtain ⟨ad, x, rfl, hbl, -, hx, hc⟩ := hB2.at_ hlt
      unfold B8 at hc
      have hsum : way16.sum s (xs.take (k + 1)) = reps d16 4 (reps d16 4 (way16.sum s (xs.take k) ^^^ emb16 x)) := by rw [take_one xs k x hx, way16.sum_snoc, byte16]
      have Hsum := Lib.hid hsum
      clear hsum
      generalize way16.sum s (xs.take k) = S at Hsum ⊢
      have e1 := in16 S x
      have e2 := half16 (S ^^^ emb16 x)
      have e3 := half16 (reps d16 4 (S ^^^ emb16 x))
      have b1 := (S ^^^ emb16 x).isLt
      have b2 := (reps d16 4 (S ^^^ emb16 x)).isLt
      have c1 : w2.cell? ⟨w1.heap.size, (S ^^^ emb16 x).toNat / 4096, none⟩ = some (.int .u16 ((reps d16 4 (BitVec.ofNat 16 ((S ^^^ emb16 x).toNat / 4096 * 4096))).toNat : Int)) := by
        rw [hT.cell, tab16_get _ _ (by omega), if_pos (by omega)]; rfl
      have c2 : w2.cell? ⟨w1.heap.size, (reps d16 4 (S ^^^ emb16 x)).toNat / 4096, none⟩ = some (.int .u16 ((reps d16 4 (BitVec.ofNat 16 ((reps d16 4 (S ^^^ emb16 x)).toNat / 4096 * 4096))).toNat : Int)) := by
        rw [hT.cell, tab16_get _ _ (by omega), if_pos (by omega)]; rfl
      obtain ⟨z3, hz3⟩ : ∃ z, z = (reps d16 4 (reps d16 4 (S ^^^ emb16 x))).toNat := ⟨_, rfl⟩
      rw [← hz3] at e3
      have H3 := Lib.hid hz3
      clear hz3
      generalize (reps d16 4 (BitVec.ofNat 16 ((reps d16 4 (S ^^^ emb16 x)).toNat / 4096 * 4096))).toNat = t2 at c2 e3
      generalize (reps d16 4 (BitVec.ofNat 16 ((S ^^^ emb16 x).toNat / 4096 * 4096))).toNat = t1 at c1 e2
      generalize (reps d16 4 (S ^^^ emb16 x)).toNat = z2 at c2 e2 e3 b2
      generalize (S ^^^ emb16 x).toNat = z1 at c1 e1 e2 b1
      obtain ⟨q1, hq1⟩ : ∃ q, z1 / 4096 = q := ⟨_, rfl⟩
      obtain ⟨q2, hq2⟩ : ∃ q, z2 / 4096 = q := ⟨_, rfl⟩
      rw [hq1] at c1
      rw [hq2] at c2
      have f1 : (z1 : Int) / 4096 = (q1 : Int) := by omega
      have f2 : (z2 : Int) / 4096 = (q2 : Int) := by omega
      have g1 : q1 < 16 := by omega
      have g2 : q2 < 16 := by omega
      have hm : x.toNat < 256 := x.toNat_lt
      have hS : S.toNat < 65536 := S.isLt
      clear b1 b2 hq1 hq2
      generalize S.toNat = y at e1 hS ⊢
      generalize x.toNat = m at e1 hm hc
      go_wp2
      go_round
      case rel => exact ⟨k + 1, by omega, by go_num, by rw [Hsum.out, ← H3.out]⟩
      case measure => simp [intOf]; omega
    · obtain rfl : k = n := by omega
      go_wp2
      go_ret
      exact ⟨by rw [List.take_of_length_le (by have := hB2.1; omega)]; rfl, hbw⟩

set_option maxHeartbeats 1000000 in
theorem sum32_any (A : Option Addr) (n cap : Nat) (xs : List UInt8) (w : World) (hB : ByteSl w Empty A n cap xs) :
    Calls Tryz.prog 159 #[.slice A n cap] w fun e w' => e = .returned (V32 (crc32 xs)) ∧ Below w.heap.size w w' := by
  unfold V32
  have hn : n ≤ 9223372036854775807 := by have := hB.2.1; have := hB.2.2.1; unfold maxLen at this; omega
  go_enter Tryz.func159, Tryz.ntmps159
  go_wp2_with fail
  refine (table32_any _).mono ?_
  rintro e1 w1 ⟨rfl, hb1⟩
  have hnew : Blk (w1.alloc (.cells (tab32 0) 262)) w1.heap.size 262 (tab32 0) := Blk.new _ _ _
  have hi : (Tryz.prog.info? 262).map (·.size) = some (tab32 16).size := by kernel_rfl
  have h1 : (tab32 16).all (·.oneCell') = true := by kernel_rfl
  go_wp2_with (refine wpList_store_row rfl _ _ _ rfl w1.heap.size (tab32 16) rfl rfl 262 (tab32 0) hnew hi rfl h1 ?_)
  generalize hw2 : World.setRow _ _ _ = w2
  have hT : Blk w2 w1.heap.size 262 (tab32 16) := by rw [← hw2]; exact setRow_heap _ _ (tab32 0) _ _ (0, 0) hnew
  have hbw : Below w.heap.size w w2 := by rw [← hw2]; exact below_setRow (hb1.alloc hb1.size _) hb1.size _
  have hB2 := hB.only (Only.of_below (S := Empty) (hbw.mono (Nat.le_refl _))) (fun _ _ h => h)
  clear hw2 hnew hi h1 hB
  go_loop [4, 10] (fun v i => ∃ k : Nat, k ≤ n ∧ i = .int .i64 (k : Int) ∧ v = .int .u32 ((way32.sum (BitVec.allOnes 32) (xs.take k)).toNat : Int)) (fun _ i => n - (intOf i).toNat)
  case atStart => exact ⟨0, Nat.zero_le _, rfl, rfl⟩
  case round =>
    obtain ⟨k, hk, rfl, rfl⟩ := hrel
    by_cases hlt : k < n
    · obtain ⟨ad, x, rfl, hbl, -, hx, hc⟩ := hB2.at_ hlt
      unfold B8 at hc
      have hsum : way32.sum (BitVec.allOnes 32) (xs.take (k + 1)) = reps d32 4 (reps d32 4 (way32.sum (BitVec.allOnes 32) (xs.take k) ^^^ emb32 x)) := by rw [take_one xs k x hx, way32.sum_snoc, byte32]
      have Hsum := Lib.hid hsum
      clear hsum
      generalize way32.sum (BitVec.allOnes 32) (xs.take k) = S at Hsum ⊢
      have e1 := in32 S x
      have e2 := half32 (S ^^^ emb32 x)
      have e3 := half32 (reps d32 4 (S ^^^ emb32 x))
      have b1 := (S ^^^ emb32 x).isLt
      have b2 := (reps d32 4 (S ^^^ emb32 x)).isLt
      have c1 : w2.cell? ⟨w1.heap.size, (S ^^^ emb32 x).toNat % 16, none⟩ = some (.int .u32 ((reps d32 4 (BitVec.ofNat 32 ((S ^^^ emb32 x).toNat % 16))).toNat : Int)) := by
        rw [hT.cell, tab32_get _ _ (by omega), if_pos (by omega)]; rfl
      have c2 : w2.cell? ⟨w1.heap.size, (reps d32 4 (S ^^^ emb32 x)).toNat % 16, none⟩ = some (.int .u32 ((reps d32 4 (BitVec.ofNat 32 ((reps d32 4 (S ^^^ emb32 x)).toNat % 16))).toNat : Int)) := by
        rw [hT.cell, tab32_get _ _ (by omega), if_pos (by omega)]; rfl
      obtain ⟨z3, hz3⟩ : ∃ z, z = (reps d32 4 (reps d32 4 (S ^^^ emb32 x))).toNat := ⟨_, rfl⟩
      rw [← hz3] at e3
      have H3 := Lib.hid hz3
      clear hz3
      generalize (reps d32 4 (BitVec.ofNat 32 ((reps d32 4 (S ^^^ emb32 x)).toNat % 16))).toNat = t2 at c2 e3
      generalize (reps d32 4 (BitVec.ofNat 32 ((S ^^^ emb32 x).toNat % 16))).toNat = t1 at c1 e2
      generalize (reps d32 4 (S ^^^ emb32 x)).toNat = z2 at c2 e2 e3 b2
      generalize (S ^^^ emb32 x).toNat = z1 at c1 e1 e2 b1
      obtain ⟨q1, hq1⟩ : ∃ q, z1 % 16 = q := ⟨_, rfl⟩
      obtain ⟨q2, hq2⟩ : ∃ q, z2 % 16 = q := ⟨_, rfl⟩
      rw [hq1] at c1
      rw [hq2] at c2
      have g1 : q1 < 16 := by omega
      have g2 : q2 < 16 := by omega
      have hm : x.toNat < 256 := x.toNat_lt
      have hS : S.toNat < 4294967296 := S.isLt
      have a1 := and_15_32 z1 b1
      have a2 := and_15_32 z2 b2
      rw [hq1] at a1
      rw [hq2] at a2
      clear hq1 hq2
      generalize S.toNat = y at e1 hS ⊢
      generalize x.toNat = m at e1 hm hc
      go_wp2
      go_round
      case rel => exact ⟨k + 1, by omega, by go_num, by rw [Hsum.out, ← H3.out]⟩
      case measure => simp [intOf]; omega
    · obtain rfl : k = n := by omega
      go_wp2
      go_ret
      exact ⟨by rw [List.take_of_length_le (by have := hB2.1; omega)]; exact congrArg (fun v : Int => Ending.returned (Value.int .u32 v)) (not32 _), hbw⟩


theorem sum16_any (A : Option Addr) (n cap : Nat) (xs : List UInt8) (w : World) (hB : ByteSl w Empty A n cap xs) :
    Calls Tryz.prog 169 #[.slice A n cap] w fun e w' => e = .returned (V16 (crc16 xs)) ∧ Below w.heap.size w w' := by
  go_enter Tryz.func169, Tryz.ntmps169
  go_wp2_with fail
  refine (more16_any (BitVec.allOnes 16) A n cap xs _ hB).mono ?_
  rintro e1 w1 ⟨rfl, hb1⟩
  go_wp2
  go_ret
  exact ⟨rfl, hb1⟩

end Go.Proofs.YtnhfmcijadficaaGreatDoor
