/- The laws of crc: fixed, CrcSums, CrcMore. -/
import Derived.Test.YtadnenoehdemkaaCr
import Derived.Test.YtadnenoehdemkaaLw
import Derived.Lib.SlBytesConst
namespace Go.Proofs.Ytadnenoehdemkaa
open Go.ChangeShapes Go.WideShapes Go.ChangeAt Go.RowKit Go.Joins

def nine : List UInt8 := [49, 50, 51, 52, 53, 54, 55, 56, 57]
theorem crc16_nine : (crc16 nine).toNat = 10673 := by decide +kernel
theorem crc32_nine : (crc32 nine).toNat = 3808858755 := by decide +kernel

set_option maxHeartbeats 1000000 in
theorem fixed_any (w : World) :
    Calls Try.prog 25 #[] w fun e w' => e = .returned (.bool true) ∧ Below w.heap.size w w' := by
  have kc := fun (w : World) (C : Array Value) (n c : Nat) => Lib.run_convert_bytes_const (P := Try.prog) w 22 5 C n c Try.underlying22 Try.underlying5
  go_enter Try.func25, Try.ntmps25
  go_wp2_with fail
  have hB : ByteSl (w.alloc (.cells (cellsB nine) 5 (9, 10))) Empty (some ⟨w.heap.size, 0, none⟩) 9 9 nine := ByteSl.marked w _ nine 9 _ rfl (fun h => h) (by decide)
  refine (sum16_any _ 9 9 nine _ hB).mono ?_
  rintro e1 w1 ⟨rfl, hb1⟩
  have hB1 := hB.only (Only.of_below (S := Empty) hb1) (fun _ _ h => h)
  unfold V16
  rw [crc16_nine]
  have h0 : Below w.heap.size w w1 := ((Below.refl _ _).alloc (Nat.le_refl _) (.cells (cellsB nine) 5 (9, 10))).trans (hb1.mono (by simp))
  clear hb1 hB
  go_wp2_with fail
  refine (sum32_any _ 9 9 nine _ hB1).mono ?_
  rintro e1 w2 ⟨rfl, hb2⟩
  unfold V32
  rw [crc32_nine]
  go_wp2
  go_ret
  exact ⟨rfl, h0.trans (hb2.mono h0.size)⟩

end Go.Proofs.Ytadnenoehdemkaa
