/- The walks over crc's tables. -/
import Derived.Test.YtidbipbangifbaaGreatDoorZah
import Derived.Outline
import Derived.Laws.Rows
import Derived.Laws.CopyOwn
namespace Go.Proofs.YtidbipbangifbaaGreatDoor
set_option maxRecDepth 100000
open Go.RowKit

/-- The table's k first places. -/
def tab16 (k : Nat) : Array Value := ((List.range 16).map fun i => if i < k then V16 (reps d16 4 (BitVec.ofNat 16 (i * 4096))) else V16 0#16).toArray
def tab32 (k : Nat) : Array Value := ((List.range 16).map fun i => if i < k then V32 (reps d32 4 (BitVec.ofNat 32 i)) else V32 0#32).toArray

theorem tab16_get (k i : Nat) (h : i < 16) : (tab16 k)[i]? = some (if i < k then V16 (reps d16 4 (BitVec.ofNat 16 (i * 4096))) else V16 0#16) := by
  simp [tab16, h]
theorem tab16_next (k : Nat) : (tab16 k).setIfInBounds k (V16 (reps d16 4 (BitVec.ofNat 16 (k * 4096)))) = tab16 (k + 1) := by
  apply Array.ext_getElem?
  intro i
  rw [Array.getElem?_setIfInBounds]
  by_cases hi : i < 16
  · rw [tab16_get _ _ hi, tab16_get _ _ hi]
    by_cases h : k = i
    · subst h
      simp [tab16, hi]
    · rw [if_neg h]
      by_cases h2 : i < k
      · rw [if_pos h2, if_pos (by omega)]
      · rw [if_neg h2, if_neg (by omega)]
  · have h1 : (tab16 k)[i]? = none := Array.getElem?_eq_none (by simp [tab16]; omega)
    have h2 : (tab16 (k + 1))[i]? = none := Array.getElem?_eq_none (by simp [tab16]; omega)
    rw [h1, h2]
    by_cases h : k = i
    · rw [if_pos h, if_neg (by simp [tab16]; omega)]
    · rw [if_neg h]
theorem tab32_get (k i : Nat) (h : i < 16) : (tab32 k)[i]? = some (if i < k then V32 (reps d32 4 (BitVec.ofNat 32 i)) else V32 0#32) := by
  simp [tab32, h]
theorem tab32_next (k : Nat) : (tab32 k).setIfInBounds k (V32 (reps d32 4 (BitVec.ofNat 32 k))) = tab32 (k + 1) := by
  apply Array.ext_getElem?
  intro i
  rw [Array.getElem?_setIfInBounds]
  by_cases hi : i < 16
  · rw [tab32_get _ _ hi, tab32_get _ _ hi]
    by_cases h : k = i
    · subst h
      simp [tab32, hi]
    · rw [if_neg h]
      by_cases h2 : i < k
      · rw [if_pos h2, if_pos (by omega)]
      · rw [if_neg h2, if_neg (by omega)]
  · have h1 : (tab32 k)[i]? = none := Array.getElem?_eq_none (by simp [tab32]; omega)
    have h2 : (tab32 (k + 1))[i]? = none := Array.getElem?_eq_none (by simp [tab32]; omega)
    rw [h1, h2]
    by_cases h : k = i
    · rw [if_pos h, if_neg (by simp [tab32]; omega)]
    · rw [if_neg h]

set_option maxHeartbeats 400000 in
theorem table16_any (w : World) :
    Calls Tryz.prog 196 #[] w fun e w' => e = .returned (.agg (tab16 16)) ∧ Below w.heap.size w w' := by
  go_enter Tryz.func196, Tryz.ntmps196
  go_wp2
  go_loopw [5] (fun i wr => ∃ k : Nat, k ≤ 16 ∧ i = .int .i64 (k : Int) ∧ Blk wr (w.heap.size + 1) 270 (tab16 k) ∧ (∃ cs, Blk wr w.heap.size 270 cs ∧ cs.size = 16) ∧ Below w.heap.size w wr) (fun i _ => 16 - (intOf i).toNat)
  case atStart =>
    refine ⟨0, by omega, rfl, ?_, ⟨_, (Blk.new w 270 _).alloc _, rfl⟩, ((Below.refl _ _).alloc (Nat.le_refl _) _).alloc (by simp) _⟩
    have h2 := Blk.new (w.alloc (.cells (tab16 0) 270)) 270 (tab16 0)
    rw [show (w.alloc (.cells (tab16 0) 270)).heap.size = w.heap.size + 1 by simp] at h2
    exact h2
  case round =>
    obtain ⟨k, hk, rfl, hb, ⟨cs, hcs, hcz⟩, hw⟩ := hrel
    by_cases hlt : k < 16
    · have hc : wr.cell? ⟨w.heap.size + 1, k, none⟩ = some (V16 0#16) := by rw [hb.cell, tab16_get k k hlt, if_neg (by omega)]
      have hfr := hb.frozen k
      go_wp2
      go_loop [3, 11] (fun s j => ∃ i : Nat, i ≤ 4 ∧ j = .int .i64 (i : Int) ∧ s = .int .u16 ((reps d16 i (BitVec.ofNat 16 (k * 4096))).toNat : Int)) (fun _ j => 4 - (intOf j).toNat)
      case atStart => exact ⟨0, by omega, rfl, by simp [reps]; omega⟩
      case round =>
        obtain ⟨i, hi, rfl, rfl⟩ := hrel
        by_cases hil : i < 4
        · obtain ⟨y, hy, hyd⟩ : ∃ y : Nat, y < 65536 ∧ (reps d16 i (BitVec.ofNat 16 (k * 4096))).toNat = y := ⟨_, (reps d16 i (BitVec.ofNat 16 (k * 4096))).isLt, rfl⟩
          rw [hyd]
          have Hyd := Lib.hid hyd
          clear hyd
          go_wp2
          go_round
          case rel => exact ⟨i + 1, by omega, by go_num, by rw [step16 _ y Hyd.out, reps_succ]⟩
          case measure => simp [intOf]; omega
        · obtain rfl : i = 4 := by omega
          go_wp2
          go_roundw
          case rel => exact ⟨k + 1, by omega, by go_num, by rw [← tab16_next]; exact hb.set_ _ _, ⟨cs, hcs.far (by simp) _, hcz⟩, hw.setCell (by simp) _⟩
          case measure => simp [intOf]; omega
    · obtain rfl : k = 16 := by omega
      have hi : (Tryz.prog.info? 270).map (·.size) = some (tab16 16).size := by kernel_rfl
      have h1 : (tab16 16).all (·.oneCell') = true := by kernel_rfl
      go_wp2_with (first
        | (refine wpList_load_row rfl _ _ rfl (w.heap.size + 1) rfl 270 (tab16 16) (0, 0) _ hb Tryz.underlying270 rfl hi ?_)
        | (refine wpList_store_row rfl _ _ _ rfl w.heap.size (tab16 16) rfl rfl 270 cs hcs hi hcz h1 ?_))
      have hr : Blk (wr.setRow w.heap.size (tab16 16)) w.heap.size 270 (tab16 16) := setRow_heap wr w.heap.size cs (tab16 16) 270 (0, 0) hcs
      refine bodyPost_ret (results_cell_row rfl _ _ w.heap.size 270 (tab16 16) (0, 0) _ rfl hr Tryz.underlying270 rfl hi) rfl ⟨rfl, below_setRow hw (Nat.le_refl _) _⟩

set_option maxHeartbeats 400000 in
theorem table32_any (w : World) :
    Calls Tryz.prog 185 #[] w fun e w' => e = .returned (.agg (tab32 16)) ∧ Below w.heap.size w w' := by
  go_enter Tryz.func185, Tryz.ntmps185
  go_wp2
  go_loopw [5] (fun i wr => ∃ k : Nat, k ≤ 16 ∧ i = .int .i64 (k : Int) ∧ Blk wr (w.heap.size + 1) 259 (tab32 k) ∧ (∃ cs, Blk wr w.heap.size 259 cs ∧ cs.size = 16) ∧ Below w.heap.size w wr) (fun i _ => 16 - (intOf i).toNat)
  case atStart =>
    refine ⟨0, by omega, rfl, ?_, ⟨_, (Blk.new w 259 _).alloc _, rfl⟩, ((Below.refl _ _).alloc (Nat.le_refl _) _).alloc (by simp) _⟩
    have h2 := Blk.new (w.alloc (.cells (tab32 0) 259)) 259 (tab32 0)
    rw [show (w.alloc (.cells (tab32 0) 259)).heap.size = w.heap.size + 1 by simp] at h2
    exact h2
  case round =>
    obtain ⟨k, hk, rfl, hb, ⟨cs, hcs, hcz⟩, hw⟩ := hrel
    by_cases hlt : k < 16
    · have hc : wr.cell? ⟨w.heap.size + 1, k, none⟩ = some (V32 0#32) := by rw [hb.cell, tab32_get k k hlt, if_neg (by omega)]
      have hfr := hb.frozen k
      go_wp2
      go_loop [3, 10] (fun s j => ∃ i : Nat, i ≤ 4 ∧ j = .int .i64 (i : Int) ∧ s = .int .u32 ((reps d32 i (BitVec.ofNat 32 k)).toNat : Int)) (fun _ j => 4 - (intOf j).toNat)
      case atStart => exact ⟨0, by omega, rfl, by simp [reps]; omega⟩
      case round =>
        obtain ⟨i, hi, rfl, rfl⟩ := hrel
        by_cases hil : i < 4
        · obtain ⟨y, hy, hyd⟩ : ∃ y : Nat, y < 4294967296 ∧ (reps d32 i (BitVec.ofNat 32 k)).toNat = y := ⟨_, (reps d32 i (BitVec.ofNat 32 k)).isLt, rfl⟩
          rw [hyd]
          have Hyd := Lib.hid hyd
          clear hyd
          go_wp2
          go_round
          case rel => exact ⟨i + 1, by omega, by go_num, by rw [step32 _ y Hyd.out, reps_succ]⟩
          case measure => simp [intOf]; omega
        · obtain rfl : i = 4 := by omega
          go_wp2
          go_roundw
          case rel => exact ⟨k + 1, by omega, by go_num, by rw [← tab32_next]; exact hb.set_ _ _, ⟨cs, hcs.far (by simp) _, hcz⟩, hw.setCell (by simp) _⟩
          case measure => simp [intOf]; omega
    · obtain rfl : k = 16 := by omega
      have hi : (Tryz.prog.info? 259).map (·.size) = some (tab32 16).size := by kernel_rfl
      have h1 : (tab32 16).all (·.oneCell') = true := by kernel_rfl
      go_wp2_with (first
        | (refine wpList_load_row rfl _ _ rfl (w.heap.size + 1) rfl 259 (tab32 16) (0, 0) _ hb Tryz.underlying259 rfl hi ?_)
        | (refine wpList_store_row rfl _ _ _ rfl w.heap.size (tab32 16) rfl rfl 259 cs hcs hi hcz h1 ?_))
      have hr : Blk (wr.setRow w.heap.size (tab32 16)) w.heap.size 259 (tab32 16) := setRow_heap wr w.heap.size cs (tab32 16) 259 (0, 0) hcs
      refine bodyPost_ret (results_cell_row rfl _ _ w.heap.size 259 (tab32 16) (0, 0) _ rfl hr Tryz.underlying259 rfl hi) rfl ⟨rfl, below_setRow hw (Nat.le_refl _) _⟩

end Go.Proofs.YtidbipbangifbaaGreatDoor
