/- The law's 'fixed' of num; NumInts, NumLongs, NumBack. -/
import Derived.Test.YtadnenoehdemkaaNf
import Derived.Test.YtadnenoehdemkaaNg
import Derived.Test.YtadnenoehdemkaaNh
import Derived.Test.YtadnenoehdemkaaLw
namespace Go.Proofs.Ytadnenoehdemkaa
open Go.ChangeShapes Go.WideShapes Go.ChangeAt Go.RowKit Go.Joins

set_option maxHeartbeats 1000000 in
theorem fixed2_any (w : World) :
    Calls Try.prog 12 #[] w fun e w' => e = .returned (.bool true) ∧ Below w.heap.size w w' := by
  have hput := put_yes none 0 0 [] 258 2 w (ByteSl.nil_ w Empty none 0 (by simp [maxLen])) (by omega) (by omega) (by omega) (by omega)
  have Hput := Lib.hid hput
  clear hput
  go_enter Try.func12, Try.ntmps12
  go_wp2_with fail
  refine Hput.out.mono ?_
  rintro e1 w1 ⟨⟨u, rfl, hown⟩, hb1⟩
  have e12 : ([] : List UInt8) ++ putL 258 2 = [1, 2] := by decide
  rw [e12] at hown
  obtain ⟨A, cap, rfl, hB, -⟩ := ByteSl.of_own (S := Empty) hown (fun _ _ _ h => h)
  have hcv := conv_bytes hB
  rw [show strB [1, 2] = ⟨#[1, 2]⟩ from rfl] at hcv
  have hget := get_yes A (0 + 2) cap 0 2 [1, 2] w1 hB (by omega) (by omega) (by omega) (by omega)
  rw [show getV (([1, 2] : List UInt8).drop 0 |>.take 2) = 258 by decide] at hget
  have Hget := Lib.hid hget
  have Hi1 := Lib.hid (int_any 4 (-7) 2 w1 (by omega) (by omega))
  rw [show outOf val32 4 (-7) 2 = (-3, 0) by decide +kernel] at Hi1
  have Hi2 := Lib.hid (int_any 5 1 0 w1 (by omega) (by omega))
  rw [show outOf val32 5 1 0 = (0, 2) by decide +kernel] at Hi2
  have Hc := Lib.hid (cmp_any 2 1 w1)
  rw [show cmpV 2 1 = 1 by decide] at Hc
  clear hget hown e12 hB
  go_wp2_with fail
  refine Hget.out.mono ?_
  rintro e1 w2 ⟨rfl, rfl⟩
  go_wp2_with fail
  refine Hi1.out.mono ?_
  rintro e1 w2 ⟨rfl, rfl⟩
  go_wp2_with fail
  refine Hi2.out.mono ?_
  rintro e1 w2 ⟨rfl, rfl⟩
  go_wp2_with fail
  refine Hc.out.mono ?_
  rintro e1 w2 ⟨rfl, rfl⟩
  go_wp2
  go_ret
  exact ⟨rfl, hb1⟩

end Go.Proofs.Ytadnenoehdemkaa
