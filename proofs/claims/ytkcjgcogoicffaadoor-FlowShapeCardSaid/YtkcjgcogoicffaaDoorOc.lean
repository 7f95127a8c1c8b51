/- The walks over ops.allForms, ops.Form. -/
import Derived.Test.YtkcjgcogoicffaaDoorOb
import Derived.Laws.CopyOwn
namespace Go.Proofs.YtkcjgcogoicffaaDoor
set_option maxRecDepth 100000
open Go.RowKit

theorem zero_forms (w : World) : Sem.run Tryd.prog (zeroValue 79) w = .ok (.agg (cellsB (fillL 0))) w := by kernel_rfl

set_option maxHeartbeats 1000000 in
theorem allS_any (w : World) (hT : Spans w) :
    Calls Tryd.prog 42 #[] w fun e w' => e = .returned (.agg (cellsB formsL)) ∧ Below w.heap.size w w' := by
  obtain ⟨ts, fr, hs⟩ := id hT
  have h0 : 0 < w.heap.size := hT.lt
  have hs2 : ∀ o1 o2, ((w.alloc o1).alloc o2).heap[0]? = some (.cells spansA ts fr) := fun o1 o2 => by
    rw [Below.heap_alloc _ _ _ (Nat.lt_of_lt_of_le h0 (by simp)), Below.heap_alloc _ _ _ h0]
    exact hs
  have hi : (Tryd.prog.info? 97).map (·.size) = some spansA.size := by kernel_rfl
  clear hs hT
  have hz := zero_forms
  go_enter Tryd.func42, Tryd.ntmps42
  go_wp2_with (refine wpList_load_row rfl _ _ rfl 0 rfl ts spansA fr _ (hs2 _ _) Tryd.underlying97 rfl hi ?_)
  go_loopw [6] (fun i wr => ∃ k : Nat, k ≤ 38 ∧ i = .int .i64 (k : Int) ∧ Blk wr (w.heap.size + 1) 79 (cellsB (fillL k)) ∧ (∃ cs, Blk wr w.heap.size 79 cs ∧ cs.size = 256) ∧ Below w.heap.size w wr) (fun i _ => 38 - (intOf i).toNat)
  case atStart =>
    refine ⟨0, by omega, rfl, ?_, ⟨_, (Blk.new w 79 _).alloc _, by simp [cellsB_len, fillL_len]⟩, ((Below.refl _ _).alloc (Nat.le_refl _) _).alloc (by simp) _⟩
    have h2 := Blk.new (w.alloc (.cells (cellsB (fillL 0)) 79)) 79 (cellsB (fillL 0))
    rw [show (w.alloc (.cells (cellsB (fillL 0)) 79)).heap.size = w.heap.size + 1 by simp] at h2
    exact h2
  case round =>
    obtain ⟨k, hk, rfl, hb, ⟨cs, hcs, hcz⟩, hw⟩ := hrel
    clear hs2 hz
    by_cases hlt : k < 38
    · have hx := span_index k hlt
      obtain ⟨b1, b2, b3⟩ := span_bd k hlt
      have Hf : Hid (fillL (k + 1) = fillS (fillL k) (spanL.getD k (0, 0, 0)).1 (spanL.getD k (0, 0, 0)).2.2 ((spanL.getD k (0, 0, 0)).2.1 - (spanL.getD k (0, 0, 0)).1 + 1)) := Lib.hid rfl
      unfold spanV at hx
      generalize (spanL.getD k (0, 0, 0)).1 = a at hx b1 b2 b3 Hf
      generalize (spanL.getD k (0, 0, 0)).2.1 = b at hx b1 b2 b3 Hf
      generalize (spanL.getD k (0, 0, 0)).2.2 = c at hx b1 b2 b3 Hf
      have hsz : w.heap.size + 1 < wr.heap.size := hb.lt
      have Hb := Lib.hid hb
      have Hcs := Lib.hid hcs
      have Hcz := Lib.hid hcz
      have Hw := Lib.hid hw
      clear hb hcs hcz hw
      go_wp2
      go_loopw [15] (fun i wx => ∃ j : Nat, j ≤ b - a + 1 ∧ i = .int .u8 (j : Int) ∧ Blk wx (w.heap.size + 1) 79 (cellsB (fillS (fillL k) a c j)) ∧ (∃ cs, Blk wx w.heap.size 79 cs ∧ cs.size = 256) ∧ Below w.heap.size w wx ∧
        Blk wx wr.heap.size 96 #[.int .u8 (a : Int), .int .u8 (b : Int), .int .u8 (c : Int)]) (fun i _ => 256 - (intOf i).toNat)
      case atStart =>
        exact ⟨0, by omega, rfl, Hb.out.alloc _, ⟨_, Hcs.out.alloc _, Hcz.out⟩, Hw.out.alloc (by omega) _, Blk.new wr 96 _⟩
      case round =>
        obtain ⟨j, hj, rfl, hb, ⟨cs2, hcs2, hcz2⟩, hw, hsp⟩ := hrel
        by_cases hjl : j < b - a + 1
        · have hjd : decide ((j : Int) < (b : Int) - (a : Int) + 1) = true := by simp; omega
          have s0 := hsp.cell 0
          have s1 := hsp.cell 1
          have s2 := hsp.cell 2
          simp at s0 s1 s2
          have hfr := hb.frozen (a + j)
          have hl : a + j < (fillS (fillL k) a c j).length := by rw [fillS_len, fillL_len]; omega
          obtain ⟨z, hc⟩ : ∃ z, wr.cell? ⟨w.heap.size + 1, a + j, none⟩ = some z := ⟨B8 ((fillS (fillL k) a c j)[a + j]), by
            rw [hb.cell, cellsB_get, List.getElem?_eq_getElem hl]
            rfl⟩
          have Hb2 := Lib.hid hb
          have Hc2 := Lib.hid hcs2
          have Hz2 := Lib.hid hcz2
          have Hw2 := Lib.hid hw
          have Hsp := Lib.hid hsp
          clear hb hcs2 hcz2 hw hsp hl
          go_wp2
          go_roundw
          case rel =>
            refine ⟨j + 1, by omega, by go_num, ?_, ⟨cs2, Hc2.out.far (by simp) _, Hz2.out⟩, Hw2.out.setCell (by simp) _, Hsp.out.far (by simp; omega) _⟩
            have h8 : Value.int .u8 (c : Int) = B8 (UInt8.ofNat c) := by
              unfold B8
              rw [UInt8.toNat_ofNat']
              congr 1
              omega
            rw [h8]
            have hset := Hb2.out.set_ (a + j) (B8 (UInt8.ofNat c))
            rw [cellsB_set] at hset
            exact hset
          case measure => simp [intOf]; omega
        · obtain rfl : j = b - a + 1 := by omega
          have hjd : decide (((b - a + 1 : Nat) : Int) < (b : Int) - (a : Int) + 1) = false := by simp; omega
          go_wp2
          go_roundw
          case rel => exact ⟨k + 1, by omega, by go_num, by rw [Hf.out]; exact hb, ⟨cs2, hcs2, hcz2⟩, hw⟩
          case measure => simp [intOf]; omega
    · obtain rfl : k = 38 := by omega
      have hi : (Tryd.prog.info? 79).map (·.size) = some (cellsB formsL).size := by rw [cellsB_len, formsL_len]; kernel_rfl
      have hi2 : (Tryd.prog.info? 79).map (·.size) = some cs.size := by rw [hcz]; kernel_rfl
      have h1 : (cellsB formsL).all (·.oneCell') = true := by kernel_rfl
      have hb : Blk wr (w.heap.size + 1) 79 (cellsB formsL) := hb
      have hcz3 : cs.size = (cellsB formsL).size := by rw [cellsB_len, formsL_len]; exact hcz
      go_wp2_with (first
        | (refine wpList_load_row rfl _ _ rfl (w.heap.size + 1) rfl 79 (cellsB formsL) (0, 0) _ hb Tryd.underlying79 rfl hi ?_)
        | (refine wpList_store_row rfl _ _ _ rfl w.heap.size (cellsB formsL) rfl rfl 79 cs hcs hi hcz3 h1 ?_))
      have hr : Blk (wr.setRow w.heap.size (cellsB formsL)) w.heap.size 79 (cellsB formsL) := setRow_heap wr w.heap.size cs (cellsB formsL) 79 (0, 0) hcs
      refine bodyPost_ret (results_cell_row rfl _ _ w.heap.size 79 (cellsB formsL) (0, 0) _ rfl hr Tryd.underlying79 rfl hi) rfl ⟨rfl, below_setRow hw (Nat.le_refl _) _⟩

/-! ### The block of forms that a call makes -/
def withForms (w : World) : World := (w.alloc (.cells (cellsB (fillL 0)) 79)).setRow w.heap.size (cellsB formsL)
theorem withForms_at (w : World) : FormsAt (withForms w) w.heap.size := setRow_heap _ _ _ _ _ (0, 0) (Blk.new w 79 (cellsB (fillL 0)))
theorem withForms_below (w : World) : Below w.heap.size w (withForms w) := below_setRow ((Below.refl _ _).alloc (Nat.le_refl _) _) (Nat.le_refl _) _
theorem withForms_size (w : World) : (withForms w).heap.size = w.heap.size + 1 := by unfold withForms; simp
theorem sizeForms : (Tryd.prog.info? 79).map (·.size) = some (cellsB formsL).size := by rw [cellsB_len, formsL_len]; kernel_rfl
theorem fill_size : (cellsB (fillL 0)).size = (cellsB formsL).size := by rw [cellsB_len, cellsB_len, formsL_len, fillL_len]
theorem forms_one : (cellsB formsL).all (·.oneCell') = true := by kernel_rfl

set_option maxHeartbeats 1000000 in
theorem oFormS_any (x : Nat) (hx : x < 256) (w : World) (hT : Spans w) : Calls Tryd.prog 33 #[.int .u8 (x : Int)] w fun e w' => e = .returned (.int .i64 (formN x : Int)) ∧ Below w.heap.size w w' := by
  have HA : Hid (Calls Tryd.prog 42 #[] w fun e w' => e = .returned (.agg (cellsB formsL)) ∧ Below w.heap.size w w') := Lib.hid (allS_any w hT)
  have hz := zero_forms
  have hf9 := formN_le x
  clear hT
  go_enter Tryd.func33, Tryd.ntmps33
  go_wp2_with fail
  refine HA.out.mono ?_
  rintro e1 w1 ⟨rfl, hb1⟩
  have HW1 := Lib.hid hb1
  have hc : ((w1.alloc (.cells (cellsB (fillL 0)) 79)).setRow w1.heap.size (cellsB formsL)).cell? ⟨w1.heap.size, x, none⟩ = some (.int .u8 (formN x : Int)) := FormsAt.cell (withForms_at w1) x hx
  obtain ⟨f, hf⟩ : ∃ f, f = formN x := ⟨_, rfl⟩
  rw [← hf] at hc hf9
  have Hf := Lib.hid hf
  clear hb1 hf
  go_wp2_with (refine wpList_store_row rfl _ _ _ rfl w1.heap.size (cellsB formsL) rfl rfl 79 (cellsB (fillL 0)) (Blk.new _ _ _) sizeForms fill_size forms_one ?_)
  go_ret
  exact ⟨by rw [← Hf.out]; rfl, HW1.out.trans ((withForms_below w1).mono HW1.out.size)⟩

end Go.Proofs.YtkcjgcogoicffaaDoor
