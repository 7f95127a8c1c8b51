/- ShaSums: the program's sum of any bytes is the document's. -/
import Derived.Test.YtpcjmicciccihaaDoorZai
import Derived.Test.YtpcjmicciccihaaDoorZaj
namespace Go.Proofs.YtpcjmicciccihaaDoor
set_option maxRecDepth 100000
open Go.RowKit

set_option maxHeartbeats 4000000 in
theorem law_sums (w : World) (hT : ShaT w) (A : Option Addr) (n cap : Nat) (xs : List UInt8) (hB : ByteSl w Empty A n cap xs) (hA : A = none → n = 0 ∧ cap = 0) : Calls Tryd.prog 3 #[.slice A n cap] w fun e w' => e = .returned (.bool true) ∧ Below w.heap.size w w' := by
  have HT := Lib.hid hT
  have HB := Lib.hid hB
  have HA := Lib.hid hA
  have CF := Lib.hid (fixed21_any w hT)
  obtain ⟨l, hl⟩ : ∃ l, l = sumF xs := ⟨_, rfl⟩
  have Hl := Lib.hid hl
  have hll : l.length = 32 := by rw [hl]; exact sumF_len _
  have HE1 := Lib.hid (fun W => eqI W l l hll hll)
  obtain ⟨CL, hCL⟩ : ∃ CL, CL = cellsB l := ⟨_, rfl⟩
  have HCL := Lib.hid hCL
  rw [← hCL] at HE1
  have HCS : Hid (cellsB (sumF xs) = CL) := Lib.hid (by rw [hCL, hl])
  clear hT hB hA hl hCL hll
  go_enter Tryd.func3, Tryd.ntmps3
  go_wp2_with fail
  refine CF.out.mono ?_
  rintro e1 w1 ⟨rfl, hb1⟩
  have HT1 := Lib.hid (HT.out.only (Only.of_below hb1 : Only Empty w w1) (fun h => h) (fun h => h))
  have HB1 := Lib.hid (HB.out.only (Only.of_below hb1 : Only Empty w w1) (fun _ _ h => h))
  have HW1 := Lib.hid hb1
  clear hb1 CF
  by_cases hgt : 400 < n
  · have hgtI : decide ((400 : Int) < (n : Int)) = true := by simp; omega
    go_wp2
    go_ret
    exact ⟨rfl, HW1.out⟩
  · have hgtI : decide ((400 : Int) < (n : Int)) = false := by simp; omega
    have hgt2 : n ≤ 400 := by omega
    clear hgt
    go_wp2_with fail
    refine (shsum_any w1 xs A n cap HT1.out HB1.out (by omega)).mono ?_
    rintro e2 w2 ⟨rfl, hb2⟩
    rw [HCS.out]
    have HB2 := Lib.hid (HB1.out.only (Only.of_below hb2 : Only Empty w1 w2) (fun _ _ h => h))
    have HW2 := Lib.hid (HW1.out.trans (hb2.mono HW1.out.size))
    clear hb2
    go_wp2_with fail
    refine (r21sum_any w2 A n cap xs HB2.out HA.out (by omega)).mono ?_
    rintro e3 w3 ⟨rfl, hb3⟩
    rw [HCS.out]
    have HW3 := Lib.hid (HW2.out.trans (hb3.mono HW2.out.size))
    have q1 := HE1.out w3
    rw [show (l == l) = true by simp] at q1
    clear hb3
    go_wp2
    go_ret
    exact ⟨rfl, HW3.out⟩
end Go.Proofs.YtpcjmicciccihaaDoor
