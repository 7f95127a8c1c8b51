/- The walk over the law's sector: a header, and bytes behind it. -/
import Derived.Test.YtidcgobnhfganaaGa
import Derived.Test.YtidcgobnhfganaaHe
import Derived.Test.YtidcgobnhfganaaIc
namespace Go.Proofs.Ytidcgobnhfganaa
open Go.RowKit

/-- A sector's bytes: a header with the number 3, and bytes behind it. -/
def sec3 (xs : List UInt8) : List UInt8 := headB 3 ++ [0, 255, 255, 255] ++ xs
theorem sec3_len (xs : List UInt8) : (sec3 xs).length = 12 + xs.length := by simp only [sec3, List.length_append, headB_len, List.length_cons, List.length_nil]

set_option maxHeartbeats 1000000 in
theorem sector6_any (A : Option Addr) (n cap : Nat) (xs : List UInt8) (w : World) (hB : ByteSl w Empty A n cap xs) (hA : A = none → n = 0 ∧ cap = 0) (hm : n ≤ 1048576) :
    Calls Try.prog 9 #[.slice A n cap] w fun e w' => (∃ A' cap', e = .returned (.slice A' (12 + n) cap') ∧ Got w.heap.size w' A' (12 + n) cap' (sec3 xs)) ∧ Below w.heap.size w w' := by
  have HB := Lib.hid hB
  have HA := Lib.hid hA
  clear hB hA
  go_enter Try.func9, Try.ntmps9
  go_wp2_with fail
  refine (refBytes_any 3 _ (by omega)).mono ?_
  rintro e1 w1 ⟨⟨u, rfl, hown1⟩, hb1⟩
  obtain ⟨A1, c1, rfl, hG1⟩ := Got.of_own hown1
  have HB1 := Lib.hid (hb1.alloc hb1.size (.cells #[.int .u8 0, .int .u8 255, .int .u8 255, .int .u8 255] 5))
  have HG1 := Lib.hid (hG1.alloc (.cells #[.int .u8 0, .int .u8 255, .int .u8 255, .int .u8 255] 5))
  have HL1 : Hid (ByteSl (w1.alloc (.cells #[.int .u8 0, .int .u8 255, .int .u8 255, .int .u8 255] 5)) Empty (some ⟨w1.heap.size, 0, none⟩) 4 4 [0, 255, 255, 255]) := Lib.hid (ByteSl.lit w1 Empty [0, 255, 255, 255] 4 rfl (fun h => h) (by decide))
  clear hown1 hb1 hG1
  go_wp2_with (at_builtin; refine wpList_append_bytes rfl (.tmp 3) (.tmp 4) rfl w.heap.size _ rfl 8 (headB 3) HG1.out.own (some ⟨w1.heap.size, 0, none⟩) 4 4 [0, 255, 255, 255] Empty rfl HL1.out (fun h => by cases h) (by omega) HB1.out.size ?_)
  intro v2 w2 hown2 hg2 _
  have hlt := HG1.out.own.lt
  have HB2 := Lib.hid (below_grown HB1.out HB1.out.size hg2 (fun q hq => (hlt q hq).1))
  have hown2' : w2.ownsRow w.heap.size 5 1 v2 12 ((headB 3 ++ [0, 255, 255, 255]).map B8) := by
    first | exact hown2 | (rw [List.map_append]; exact hown2)
  have Hown2 := Lib.hid hown2'
  have HX2 := Lib.hid (HB.out.only (Only.of_below (S := Empty) HB2.out) (fun _ _ h => h))
  clear hown2 hown2' hg2 hlt
  go_wp2_with (at_builtin; refine wpList_append_bytes rfl (.tmp 5) (.tmp 6) rfl w.heap.size _ rfl 12 (headB 3 ++ [0, 255, 255, 255]) Hown2.out A n cap xs Empty rfl HX2.out HA.out (by omega) HB2.out.size ?_)
  intro v3 w3 hown3 hg3 _
  have hlt := Hown2.out.lt
  have HB3 := Lib.hid (below_grown HB2.out HB2.out.size hg3 (fun q hq => (hlt q hq).1))
  have hown4 : w3.ownsRow w.heap.size 5 1 v3 (12 + n) ((sec3 xs).map B8) := by
    unfold sec3
    first | exact hown3 | (simp only [List.map_append, List.append_assoc] at hown3 ⊢; exact hown3)
  obtain ⟨A3, c3, rfl, hG3⟩ := Got.of_own hown4
  have HG3 := Lib.hid hG3
  clear hown3 hg3 hlt hown4 hG3
  go_wp2
  go_ret
  exact ⟨⟨A3, c3, rfl, HG3.out⟩, HB3.out⟩

end Go.Proofs.Ytidcgobnhfganaa
