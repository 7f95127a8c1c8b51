/- The law's fixed facts. -/
import Derived.Test.YtdhnbeimkeoefaaDoorGd
namespace Go.Proofs.YtdhnbeimkeoefaaDoor
open Go.RowKit

theorem head_one : parseC (headB 1 ++ [0, 255, 255, 255]) = 0 ∧ (parseH (headB 1 ++ [0, 255, 255, 255])).v = .agg #[.int .u32 1, .bool true, .bool false] := by
  have h0 : parseC (headB 1 ++ [0, 255, 255, 255]) = 0 := by decide +kernel
  refine ⟨h0, ?_⟩
  unfold parseH
  rw [if_pos h0]
  have h1 : getV (((headB 1 ++ [0, 255, 255, 255]).drop 2).take 4) = 1 := by decide +kernel
  have h2 : (decide ((headB 1 ++ [0, 255, 255, 255])[8]?.getD 0 = 0)) = true := by decide +kernel
  have h3 : (decide ((headB 1 ++ [0, 255, 255, 255])[9]?.getD 0 ≠ 255)) = false := by decide +kernel
  simp only [Hd.v, h1, h2, h3]
  rfl

set_option maxHeartbeats 1000000 in
theorem fixed4_any (w : World) (hM : Mark w) :
    Calls Tryd.prog 6 #[] w fun e w' => e = .returned (.bool true) ∧ Below w.heap.size w w' := by
  have HM := Lib.hid hM
  clear hM
  go_enter Tryd.func6, Tryd.ntmps6
  go_wp2_with fail
  refine (pgBytes_any 1 _ (by omega) HM.out).mono ?_
  rintro e1 w1 ⟨⟨u1, rfl, hown1⟩, hb1⟩
  have HM1 := Lib.hid (HM.out.below hb1)
  have HO2 := Lib.hid (own_alloc hown1 (.cells (cellsB [0, 255, 255, 255]) 5))
  have HB1 := Lib.hid hb1
  have HL := Lib.hid (ByteSl.lit w1 (fun q => q < w1.heap.size) [0, 255, 255, 255] 4 rfl (by omega) (by decide))
  have Hv1 := Lib.hid (fun q hq => hown1.lt q hq)
  clear hown1 hb1
  go_wp2_with (at_builtin; refine wpList_append_bytes rfl (.tmp 6) (.tmp 7) rfl w.heap.size _ rfl 8 (headB 1) HO2.out (some ⟨w1.heap.size, 0, none⟩) 4 4 [0, 255, 255, 255] _ rfl HL.out (fun h => by cases h) (by omega) (by have := HB1.out.size; simp; omega) ?_)
  intro v8 w8 hown8 hg8 hnn
  have hown9 : w8.ownsRow w.heap.size 5 1 v8 12 ((headB 1 ++ [0, 255, 255, 255]).map B8) := hown8
  obtain ⟨A8, cap8, rfl, hB8, -⟩ := ByteSl.of_own (S := Empty) hown9 (fun _ _ _ h => h)
  have hb8 : Below w.heap.size w w8 := below_grown ((HB1.out).alloc HB1.out.size (.cells (cellsB [0, 255, 255, 255]) 5)) (by have := HB1.out.size; simp; omega) hg8 (fun q hq => (Hv1.out q hq).1)
  have HB8 := Lib.hid hB8
  have Hb8 := Lib.hid hb8
  have HM8 := Lib.hid (HM.out.below hb8)
  clear hown8 hown9 hB8 hb8 hg8 hnn
  go_wp2_with fail
  refine (parse_any A8 12 cap8 _ _ HB8.out HM8.out (by omega)).mono ?_
  rintro e1 w9 ⟨he, hb9⟩
  rw [head_one.1, head_one.2] at he
  subst he
  have Hb9 := Lib.hid (Hb8.out.trans (hb9.mono Hb8.out.size))
  have HM9 := Lib.hid (HM8.out.below hb9)
  clear hb9
  go_wp2_with fail
  have Hb10 := Lib.hid (Hb9.out.alloc Hb9.out.size (.cells #[.int .u32 1, .bool true, .bool false] 26))
  refine (parse_short none 0 0 [] _ rfl (by omega)).mono ?_
  rintro e1 w10 ⟨he, hb10⟩
  have he2 : e1 = .returned (.tuple #[.agg #[.int .u32 0, .bool false, .bool false], .int .i64 6]) := he
  subst he2
  clear he
  have hblk : Blk w10 w9.heap.size 26 #[.int .u32 1, .bool true, .bool false] := (Blk.new w9 26 #[.int .u32 1, .bool true, .bool false]).of (hb10.block w9.heap.size (by simp))
  have hM10 := HM9.out.below (((Below.refl w9.heap.size w9).alloc (Nat.le_refl _) (.cells #[.int .u32 1, .bool true, .bool false] 26)).trans (hb10.mono (by simp)))
  have hz : w9.heap.size < w10.heap.size := hblk.lt
  have Hblk := Lib.hid hblk
  have HM10 := Lib.hid hM10
  have Hb11 := Lib.hid (Hb10.out.trans (hb10.mono (Hb10.out.size)))
  clear hb10 hblk hM10
  go_wp2_with fail
  refine (pgBytes_any 1 _ (by omega) ((HM10.out.below ((Below.refl _ _).alloc (Nat.le_refl _) _)))).mono ?_
  rintro e1 w11 ⟨⟨u11, rfl, hown11⟩, hb11⟩
  obtain ⟨A11, cap11, rfl, hB11, -⟩ := ByteSl.of_own (S := Empty) hown11 (fun _ _ _ h => h)
  have hblk11 := ((Hblk.out.alloc (.cells #[.int .u32 0, .bool false, .bool false] 26)).of (hb11.block w9.heap.size (by simp; omega)))
  have c0 := hblk11.cell 0
  have c1 := hblk11.cell 1
  have c2 := hblk11.cell 2
  simp at c0 c1 c2
  have Hend := Lib.hid ((Hb11.out.alloc Hb11.out.size (.cells #[.int .u32 0, .bool false, .bool false] 26)).trans (hb11.mono (by have := Hb11.out.size; simp; omega)))
  clear hb11 hown11 hB11 hblk11
  go_wp2
  go_ret
  exact ⟨rfl, Hend.out⟩

end Go.Proofs.YtdhnbeimkeoefaaDoor
