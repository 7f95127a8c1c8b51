/- The law's fixed facts. -/
import Derived.Test.YtglagchgaclhaaaHj
namespace Go.Proofs.Ytglagchgaclhaaa
open Go.RowKit

theorem out_one : out (recB 3 1 0 [] [] ++ [0]) = ⟨3, 1, [], [], 0, 16, true, 0⟩ := by
  have h1 : pE (recB 3 1 0 [] [] ++ [0]) = 0 := by decide +kernel
  have h2 : sumOk (recB 3 1 0 [] [] ++ [0]) = true := by decide +kernel
  have h3 : nK (recB 3 1 0 [] [] ++ [0]) = 3 := by decide +kernel
  have h4 : nT (recB 3 1 0 [] [] ++ [0]) = 1 := by decide +kernel
  have h5 : nA (recB 3 1 0 [] [] ++ [0]) = 0 := by decide +kernel
  have h6 : nB (recB 3 1 0 [] [] ++ [0]) = 0 := by decide +kernel
  have h7 : nC (recB 3 1 0 [] [] ++ [0]) = 0 := by decide +kernel
  have h8 : szOf (recB 3 1 0 [] [] ++ [0]) = 16 := by decide +kernel
  have h9 : decide ((recB 3 1 0 [] [] ++ [0])[15]?.getD 1 = 0) = true := by decide +kernel
  unfold out
  rw [if_pos h1, if_pos h2, h3, h4, h5, h6, h7, h8]
  simp only [List.take_zero, Nat.zero_add]
  rw [h9]
theorem out_nil : out [] = ⟨0, 0, [], [], 0, 0, false, 11⟩ := by
  have h1 : pE [] = 11 := by decide +kernel
  unfold out
  rw [h1]
  rfl

set_option maxHeartbeats 2000000 in
theorem fixed5_any (w : World) :
    Calls Try.prog 6 #[] w fun e w' => e = .returned (.bool true) ∧ Below w.heap.size w w' := by
  have N1 : Hid (Calls Try.prog 7 #[.agg #[.int .i64 3, .int .u32 1, .string ⟨#[]⟩, .slice none 0 0, .int .i64 0]] w fun e w' =>
      (∃ A' cap', e = .returned (.tuple #[.slice A' 15 cap', .int .i64 0]) ∧ Got w.heap.size w' A' 15 cap' (recB 3 1 0 [] [])) ∧ Below w.heap.size w w') := Lib.hid
    (rcBytes_yes 3 1 0 ⟨#[]⟩ none 0 0 [] w (by decide) (by decide) (ByteSl.nil_ _ _ _ _ (by simp [maxLen])) (fun _ => ⟨rfl, rfl⟩))
  go_enter Try.func6, Try.ntmps6
  go_wp2_with fail
  refine N1.out.mono ?_
  rintro e1 w1 ⟨⟨A1, c1, rfl, hG1⟩, hb1⟩
  have HB1 := Lib.hid hb1
  have HG1 := Lib.hid (hG1.alloc (.cells #[] 5))
  have HO1 := Lib.hid (own_made w1 w.heap.size hb1.size)
  have HL1 : Hid (w.heap.size ≤ (w1.alloc (.cells #[] 5)).heap.size) := Lib.hid (by have := hb1.size; simp; omega)
  have HN1 := Lib.hid hG1.isNil
  clear hG1 hb1
  go_wp2_with (at_builtin; refine wpList_append_bytes rfl (.tmp 17) (.tmp 18) rfl w.heap.size _ rfl 0 [] HO1.out A1 15 c1 (recB 3 1 0 [] []) Empty rfl HG1.out.bytes HN1.out (by omega) HL1.out ?_)
  intro v2 w2 hown2 hg2 _
  have hown3 : w2.ownsRow w.heap.size 5 1 v2 15 ((recB 3 1 0 [] []).map B8) := by simpa using hown2
  have hlt := HO1.out.lt
  have hb2 : Below w.heap.size w w2 := below_grown (HB1.out.alloc HB1.out.size (.cells #[] 5)) HL1.out hg2 (fun q hq => (hlt q hq).1)
  obtain ⟨A2, c2, rfl, hG2⟩ := Got.of_own hown3
  have HB2 := Lib.hid hb2
  have HG2 := Lib.hid (hG2.alloc (.cells #[.int .u8 0] 5))
  have HL2 : Hid (w.heap.size ≤ (w2.alloc (.cells #[.int .u8 0] 5)).heap.size) := Lib.hid (by have := hb2.size; simp; omega)
  have HC2 : Hid (ByteSl (w2.alloc (.cells #[.int .u8 0] 5)) Empty (some ⟨w2.heap.size, 0, none⟩) 1 1 [0]) := Lib.hid (ByteSl.lit w2 Empty [0] 1 rfl (fun h => h) (by decide))
  clear hown2 hg2 hown3 hlt hb2 hG2
  go_wp2_with (at_builtin; refine wpList_append_bytes rfl (.tmp 19) (.tmp 20) rfl w.heap.size _ rfl 15 (recB 3 1 0 [] []) HG2.out.own (some ⟨w2.heap.size, 0, none⟩) 1 1 [0] Empty rfl HC2.out (fun h => by cases h) (by omega) HL2.out ?_)
  intro v3 w3 hown4 hg3 _
  have hown5 : w3.ownsRow w.heap.size 5 1 v3 16 ((recB 3 1 0 [] [] ++ [0]).map B8) := by
    first | exact hown4 | simpa using hown4
  have hlt := HG2.out.own.lt
  have hb3 : Below w.heap.size w w3 := below_grown (HB2.out.alloc HB2.out.size (.cells #[.int .u8 0] 5)) HL2.out hg3 (fun q hq => (hlt q hq).1)
  obtain ⟨A3, c3, rfl, hG3⟩ := Got.of_own hown5
  have HB3 := Lib.hid hb3
  have HG3 := Lib.hid hG3
  clear hown4 hown5 hg3 hlt hb3 hG3
  have N2 : Hid (∀ W, ByteSl W Empty A3 16 c3 (recB 3 1 0 [] [] ++ [0]) → Calls Try.prog 9 #[.slice A3 16 c3] W fun e W' => (∃ A n cap, e = .returned (.tuple #[.agg #[.int .i64 3, .int .u32 1, .string ⟨#[]⟩, .slice A n cap, .int .i64 0], .int .i64 16, .bool true, .int .i64 0])) ∧ Below W.heap.size W W') := Lib.hid (fun W h =>
    (rcParse_any A3 16 c3 _ W h (by omega)).mono fun e W' ⟨⟨A, n, cap, he, _⟩, hb⟩ => by
      rw [out_one] at he
      exact ⟨⟨A, n, cap, he⟩, hb⟩)
  have N3 : Hid (∀ W, Calls Try.prog 9 #[.slice none 0 0] W fun e W' => (∃ A n cap, e = .returned (.tuple #[.agg #[.int .i64 0, .int .u32 0, .string ⟨#[]⟩, .slice A n cap, .int .i64 0], .int .i64 0, .bool false, .int .i64 11])) ∧ Below W.heap.size W W') := Lib.hid (fun W =>
    (rcParse_any none 0 0 [] W (ByteSl.nil_ _ _ _ _ (by simp [maxLen])) (by omega)).mono fun e W' ⟨⟨A, n, cap, he, _⟩, hb⟩ => by
      rw [out_nil] at he
      exact ⟨⟨A, n, cap, he⟩, hb⟩)
  go_wp2_with fail
  refine (N2.out _ HG3.out.bytes).mono ?_
  rintro e1 w4 ⟨⟨A4, n4, c4, rfl⟩, hb4⟩
  have HB4 := Lib.hid (HB3.out.trans (hb4.mono HB3.out.size))
  clear hb4
  go_wp2_with fail
  have HB5 := Lib.hid (HB4.out.alloc HB4.out.size (.cells #[.int .i64 3, .int .u32 1, .string ⟨#[]⟩, .slice A4 n4 c4, .int .i64 0] 25))
  refine (N3.out _).mono ?_
  rintro e1 w6 ⟨⟨A6, n6, c6, rfl⟩, hb6⟩
  have hk6 := (Blk.new w4 25 #[.int .i64 3, .int .u32 1, .string ⟨#[]⟩, .slice A4 n4 c4, .int .i64 0]).of (hb6.block w4.heap.size (by simp))
  have HB6 := Lib.hid (HB5.out.trans (hb6.mono HB5.out.size))
  have k0 := hk6.cell 0
  have k1 := hk6.cell 1
  simp at k0 k1
  have hz6 : w4.heap.size < w6.heap.size := hk6.lt
  clear hb6 hk6
  go_wp2
  go_ret
  exact ⟨rfl, HB6.out.alloc HB6.out.size _⟩

end Go.Proofs.Ytglagchgaclhaaa
