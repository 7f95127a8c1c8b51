/- The walk over ops.allForms. -/
import Derived.Test.YtcpcjcbeeeoabaaDoorEa
import Derived.Laws.CopyOwn
namespace Go.Proofs.YtcpcjcbeeeoabaaDoor
set_option maxRecDepth 100000
open Go.RowKit

theorem zero_forms (w : World) : Sem.run Tryd.prog (zeroValue 38) w = .ok (.agg (cellsB (fillL 0))) w := by kernel_rfl

set_option maxHeartbeats 1000000 in
theorem all_any (w : World) (hT : Tables w) :
    Calls Tryd.prog 17 #[] w fun e w' => e = .returned (.agg (cellsB formsL)) ∧ Below w.heap.size w w' := by
  obtain ⟨ts, fr, hs⟩ := hT.spans
  have h0 : 0 < w.heap.size := by have := hT.pos; omega
  have hs2 : ∀ o1 o2, ((w.alloc o1).alloc o2).heap[0]? = some (.cells spansA ts fr) := fun o1 o2 => by
    rw [Below.heap_alloc _ _ 0 (by simp), Below.heap_alloc _ _ 0 h0]
    exact hs
  have hi : (Tryd.prog.info? 53).map (·.size) = some spansA.size := by kernel_rfl
  clear hs hT
  have hz := zero_forms
  go_enter Tryd.func17, Tryd.ntmps17
  go_wp2_with (refine wpList_load_row rfl _ _ rfl 0 rfl ts spansA fr _ (hs2 _ _) Tryd.underlying53 rfl hi ?_)
  go_loopw [6] (fun i wr => ∃ k : Nat, k ≤ 38 ∧ i = .int .i64 (k : Int) ∧ Blk wr (w.heap.size + 1) 38 (cellsB (fillL k)) ∧ (∃ cs, Blk wr w.heap.size 38 cs ∧ cs.size = 256) ∧ Below w.heap.size w wr) (fun i _ => 38 - (intOf i).toNat)
  case atStart =>
    refine ⟨0, by omega, rfl, ?_, ⟨_, (Blk.new w 38 _).alloc _, by simp [cellsB_len, fillL_len]⟩, ((Below.refl _ _).alloc (Nat.le_refl _) _).alloc (by simp) _⟩
    have h2 := Blk.new (w.alloc (.cells (cellsB (fillL 0)) 38)) 38 (cellsB (fillL 0))
    rw [show (w.alloc (.cells (cellsB (fillL 0)) 38)).heap.size = w.heap.size + 1 by simp] at h2
    exact h2
  case round =>
    obtain ⟨k, hk, rfl, hb, ⟨cs, hcs, hcz⟩, hw⟩ := hrel
    clear hs2 hz
    by_cases hlt : k < 38
    · have hx := span_index k hlt
      obtain ⟨b1, b2, b3⟩ := span_bd k hlt
      have Hf : Hid (fillL (k + 1) = fillS (fillL k) (spanL.getD k (0, 0, 0)).1 (spanL.getD k (0, 0, 0)).2.2 ((spanL.getD k (0, 0, 0)).2.1 - (spanL.getD k (0, 0, 0)).1 + 1)) := Lib.hid rfl
      unfold spanV at hx
      generalize (spanL.getD k (0, 0, 0)).1 = a at hx b1 b2 b3 Hf
      generalize (spanL.getD k (0, 0, 0)).2.1 = b at hx b1 b2 b3 Hf
      generalize (spanL.getD k (0, 0, 0)).2.2 = c at hx b1 b2 b3 Hf
      have hsz : w.heap.size + 1 < wr.heap.size := hb.lt
      have Hb := Lib.hid hb
      have Hcs := Lib.hid hcs
      have Hcz := Lib.hid hcz
      have Hw := Lib.hid hw
      clear hb hcs hcz hw
      go_wp2
      go_loopw [15] (fun i wx => ∃ j : Nat, j ≤ b - a + 1 ∧ i = .int .u8 (j : Int) ∧ Blk wx (w.heap.size + 1) 38 (cellsB (fillS (fillL k) a c j)) ∧ (∃ cs, Blk wx w.heap.size 38 cs ∧ cs.size = 256) ∧ Below w.heap.size w wx ∧
        Blk wx wr.heap.size 52 #[.int .u8 (a : Int), .int .u8 (b : Int), .int .u8 (c : Int)]) (fun i _ => 256 - (intOf i).toNat)
      case atStart =>
        exact ⟨0, by omega, rfl, Hb.out.alloc _, ⟨_, Hcs.out.alloc _, Hcz.out⟩, Hw.out.alloc (by omega) _, Blk.new wr 52 _⟩
      case round =>
        obtain ⟨j, hj, rfl, hb, ⟨cs2, hcs2, hcz2⟩, hw, hsp⟩ := hrel
        by_cases hjl : j < b - a + 1
        · have hjd : decide ((j : Int) < (b : Int) - (a : Int) + 1) = true := by simp; omega
          have s0 := hsp.cell 0
          have s1 := hsp.cell 1
          have s2 := hsp.cell 2
          simp at s0 s1 s2
          have hfr := hb.frozen (a + j)
          have hl : a + j < (fillS (fillL k) a c j).length := by rw [fillS_len, fillL_len]; omega
          obtain ⟨z, hc⟩ : ∃ z, wr.cell? ⟨w.heap.size + 1, a + j, none⟩ = some z := ⟨B8 ((fillS (fillL k) a c j)[a + j]), by
            rw [hb.cell, cellsB_get, List.getElem?_eq_getElem hl]
            rfl⟩
          have Hb2 := Lib.hid hb
          have Hc2 := Lib.hid hcs2
          have Hz2 := Lib.hid hcz2
          have Hw2 := Lib.hid hw
          have Hsp := Lib.hid hsp
          clear hb hcs2 hcz2 hw hsp hl
          go_wp2
          go_roundw
          case rel =>
            refine ⟨j + 1, by omega, by go_num, ?_, ⟨cs2, Hc2.out.far (by simp) _, Hz2.out⟩, Hw2.out.setCell (by simp) _, Hsp.out.far (by simp; omega) _⟩
            have h8 : Value.int .u8 (c : Int) = B8 (UInt8.ofNat c) := by
              unfold B8
              rw [UInt8.toNat_ofNat']
              congr 1
              omega
            rw [h8]
            have hset := Hb2.out.set_ (a + j) (B8 (UInt8.ofNat c))
            rw [cellsB_set] at hset
            exact hset
          case measure => simp [intOf]; omega
        · obtain rfl : j = b - a + 1 := by omega
          have hjd : decide (((b - a + 1 : Nat) : Int) < (b : Int) - (a : Int) + 1) = false := by simp; omega
          go_wp2
          go_roundw
          case rel => exact ⟨k + 1, by omega, by go_num, by rw [Hf.out]; exact hb, ⟨cs2, hcs2, hcz2⟩, hw⟩
          case measure => simp [intOf]; omega
    · obtain rfl : k = 38 := by omega
      have hi : (Tryd.prog.info? 38).map (·.size) = some (cellsB formsL).size := by rw [cellsB_len, formsL_len]; kernel_rfl
      have hi2 : (Tryd.prog.info? 38).map (·.size) = some cs.size := by rw [hcz]; kernel_rfl
      have h1 : (cellsB formsL).all (·.oneCell') = true := by kernel_rfl
      have hb : Blk wr (w.heap.size + 1) 38 (cellsB formsL) := hb
      have hcz3 : cs.size = (cellsB formsL).size := by rw [cellsB_len, formsL_len]; exact hcz
      go_wp2_with (first
        | (refine wpList_load_row rfl _ _ rfl (w.heap.size + 1) rfl 38 (cellsB formsL) (0, 0) _ hb Tryd.underlying38 rfl hi ?_)
        | (refine wpList_store_row rfl _ _ _ rfl w.heap.size (cellsB formsL) rfl rfl 38 cs hcs hi hcz3 h1 ?_))
      have hr : Blk (wr.setRow w.heap.size (cellsB formsL)) w.heap.size 38 (cellsB formsL) := setRow_heap wr w.heap.size cs (cellsB formsL) 38 (0, 0) hcs
      refine bodyPost_ret (results_cell_row rfl _ _ w.heap.size 38 (cellsB formsL) (0, 0) _ rfl hr Tryd.underlying38 rfl hi) rfl ⟨rfl, below_setRow hw (Nat.le_refl _) _⟩

end Go.Proofs.YtcpcjcbeeeoabaaDoor
