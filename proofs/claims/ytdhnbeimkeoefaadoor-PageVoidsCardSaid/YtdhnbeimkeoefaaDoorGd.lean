/- The walks over the document's Parse, where the mark is right; Parse as one answer, the program's and the document's. -/
import Derived.Test.YtdhnbeimkeoefaaDoorGc
import Derived.Deep.RegionHeld3
namespace Go.Proofs.YtdhnbeimkeoefaaDoor
open Go.RowKit

set_option maxHeartbeats 2000000 in
theorem refParse_right (b o : Nat) (sp : Option Nat) (n cap : Nat) (xs : List UInt8) (w : World) (hB : ByteSl w Empty (some ⟨b, o, sp⟩) n cap xs) (h : 12 ≤ n) (hn : n ≤ 1048576) (h0 : xs[0]? = some 67) (h1 : xs[1]? = some 66) :
    Calls Tryd.prog 8 #[.slice (some ⟨b, o, sp⟩) n cap] w fun e w' => ParseOk xs w w' e := by
  obtain ⟨ad', e, hbl, -, hcell⟩ := hB.2.2.2 (by omega)
  cases e
  have hxl := hB.1
  obtain ⟨z8, h8⟩ : ∃ z, xs[8]? = some z := ⟨_, List.getElem?_eq_getElem (by omega)⟩
  obtain ⟨z9, h9⟩ : ∃ z, xs[9]? = some z := ⟨_, List.getElem?_eq_getElem (by omega)⟩
  have k0 : w.cell? ⟨b, o, sp⟩ = some (.int .u8 67) := hcell 0 67 h0
  have k1 : w.cell? ⟨b, o + 1, none⟩ = some (.int .u8 66) := hcell 1 66 h1
  have k8 : w.cell? ⟨b, o + 8, none⟩ = some (.int .u8 (z8.toNat : Int)) := hcell 8 z8 h8
  have k9 : w.cell? ⟨b, o + 9, none⟩ = some (.int .u8 (z9.toNat : Int)) := hcell 9 z9 h9
  have hbl : b < w.heap.size := hbl
  have hcap := hB.2.1
  have hcap2 : cap ≤ 9223372036854775807 := by have := hB.2.2.1; unfold maxLen at this; omega
  have HB := Lib.hid hB
  have H8 := Lib.hid h8
  have H9 := Lib.hid h9
  have K8 := Lib.hid k8
  have K9 := Lib.hid k9
  have Hiff := Lib.hid (head_iff xs (by omega) ((take2_iff h0 h1).2 ⟨rfl, rfl⟩))
  have Hpc : Hid (parseC xs = if getV ((xs.drop 6).take 2) = (crc16 (xs.take 6)).toNat then 0 else 7) := Lib.hid (by unfold parseC; rw [if_neg (by omega), if_pos ((take2_iff h0 h1).2 ⟨rfl, rfl⟩)])
  clear hcell hB h0 h1 h8 h9 k8 k9 hxl
  go_enter Tryd.func8, Tryd.ntmps8
  go_wp2_with fail
  clear k0 k1
  have HO1 := Lib.hid ((Only.refl Empty w).alloc (.cells #[.int .u32 0, .bool false, .bool false] 26))
  have HB1 := Lib.hid (HB.out.only HO1.out (fun _ _ h => h))
  refine (refGet_yes _ n cap 2 4 xs _ HB1.out (by omega) (by omega) (by omega) (by omega)).mono ?_
  rintro e1 w1 ⟨rfl, rfl⟩
  have hg4 := getV_lt ((xs.drop 2).take 4)
  have hgl4 : ((xs.drop 2).take 4).length = 4 := by have := HB.out.1; simp; omega
  rw [hgl4] at hg4
  obtain ⟨q, hqe⟩ : ∃ q, q = getV ((xs.drop 2).take 4) := ⟨_, rfl⟩
  rw [← hqe] at hg4 ⊢
  have hq2 : q ≤ 4294967295 := by omega
  have Hqe := Lib.hid hqe
  clear hg4 hgl4 hqe
  go_wp2_with fail
  have HW1 := Lib.hid hq2
  have hI : ∀ W, Only Empty (w.alloc (.cells #[.int .u32 0, .bool false, .bool false] 26)) W → (convert 23 9 (.slice (some ⟨b, o, sp⟩) 8 cap)).run Tryd.prog W = .ok (.string (strB (xs.take 8))) W := fun W hW =>
    conv_bytes ((HB1.out.take_ 8 (by omega)).only hW (fun _ _ h => h))
  have hBy : ∀ W, Only Empty (w.alloc (.cells #[.int .u32 0, .bool false, .bool false] 26)) W → Calls Tryd.prog 10 #[.int .u32 (q : Int)] W fun e W' => (∃ u, e = .returned u ∧ ∀ W2, Only Empty W' W2 → (convert 23 9 u).run Tryd.prog W2 = .ok (.string (strB (headB q))) W2) ∧ Only Empty (w.alloc (.cells #[.int .u32 0, .bool false, .bool false] 26)) W' ∧ Below (w.heap.size + 1) W W' := fun W hW =>
    (refBytes_any q W HW1.out).mono fun e W' ⟨⟨u, he, ho⟩, hb⟩ => ⟨⟨u, he, fun W2 hW2 => by
        obtain ⟨A2, c2, rfl, hB2, -⟩ := ByteSl.of_own (S := Empty) ho (fun _ _ _ h => h)
        exact conv_bytes (hB2.only hW2 (fun _ _ h => h))⟩, hW.trans (Only.of_below hb), hb.mono (by have := hW.size; simp at this; omega)⟩
  have HI := Lib.hid hI
  have HBy := Lib.hid hBy
  clear hI hBy
  have hO0 : Only Empty (w.alloc (.cells #[.int .u32 0, .bool false, .bool false] 26)) (w.alloc (.cells #[.int .u32 0, .bool false, .bool false] 26)) := Only.refl _ _
  have hO1 : Only Empty (w.alloc (.cells #[.int .u32 0, .bool false, .bool false] 26)) (w.alloc (.cells #[.int .u32 0, .bool false, .bool false] 26)).drew := hO0.drew
  have hs0 := HI.out _ hO0
  have hs1 := HI.out _ hO1
  by_cases heq : headB q = xs.take 8
  · rw [heq] at HBy
    have Heq := Lib.hid heq
    clear heq
    have hwr : IntKind.u32.wrap (q : Int) = (q : Int) := by rw [IntKind.wrap_u32]; omega
    go_region_held (fun W => (convert 23 9 (.slice (some ⟨b, o, sp⟩) 8 cap)).run Tryd.prog W = .ok (.string (strB (xs.take 8))) W) (first | exact hs0 | exact hs1 | exact hs10)
      (first | (go_at_call 10; (with_reducible refine (HBy.out _ hO1).mono ?_); rintro e10 w10 ⟨⟨u10, rfl, hcv10⟩, hO10, hb10⟩; have hs10 := HI.out _ hO10; have hc10 := hcv10 _ (Only.refl _ _); clear hcv10))
    have hne0 : ¬ b = w.heap.size := by omega
    clear hs0 hs1 hO0 hO1
    all_goals
      have Hb1 := Lib.hid hb10
      have hblk : Blk w10 w.heap.size 26 #[.int .u32 0, .bool false, .bool false] := ((Blk.new w 26 #[.int .u32 0, .bool false, .bool false]).drew).of (hb10.block w.heap.size (by omega))
      have c0 := hblk.cell 0
      have c1 := hblk.cell 1
      have c2 := hblk.cell 2
      have f0 := hblk.frozen 0
      have f1 := hblk.frozen 1
      have f2 := hblk.frozen 2
      simp at c0 c1 c2
      have HO2 := Lib.hid (HO1.out.trans hO10)
      have k8 := (HO2.out.cell (p := ⟨b, o + 8, none⟩) hbl (fun h => h)).trans K8.out
      have k9 := (HO2.out.cell (p := ⟨b, o + 9, none⟩) hbl (fun h => h)).trans K9.out
      clear hb10 hblk hO10 hs10 hc10
      go_wp2
      go_region
      go_wp2
      refine bodyPost_ret (v := .tuple #[.agg #[.int .u32 (q : Int), .bool ((z8.toNat : Int) == 0), .bool ((z9.toNat : Int) != 255)], .int .i64 0]) (by simp [results, Tryd.results8, go_sem, c0, c1, c2]) rfl ⟨?_, ?_⟩
      · have hc : parseC xs = 0 := by rw [Hpc.out, if_pos (Hiff.out.1 (by rw [← Hqe.out]; exact Heq.out))]
        rw [parseH, hc, if_pos rfl, H8.out, H9.out, u8_eq_dec z8 0 0 rfl, u8_ne_dec z9 255 255 rfl, Hqe.out]
        rfl
      · exact ((((((((Below.refl _ _).alloc (Nat.le_refl _) _).drewN 1).trans (Hb1.out.mono (by simp))).setCell (by simp) _).setCell (by simp) _).setCell (by simp) _).drewN 1)
  · have hsn : ((strB (headB q)).toList == (strB (xs.take 8)).toList) = false := by
      rw [strB_toList, strB_toList, beq_eq_false_iff_ne]
      exact heq
    have Heq := Lib.hid heq
    clear heq
    have hwr : IntKind.u32.wrap (q : Int) = (q : Int) := by rw [IntKind.wrap_u32]; omega
    go_region_held (fun W => (convert 23 9 (.slice (some ⟨b, o, sp⟩) 8 cap)).run Tryd.prog W = .ok (.string (strB (xs.take 8))) W) (first | exact hs0 | exact hs1 | exact hs10)
      (first | (go_at_call 10; (with_reducible refine (HBy.out _ hO1).mono ?_); rintro e10 w10 ⟨⟨u10, rfl, hcv10⟩, hO10, hb10⟩; have hs10 := HI.out _ hO10; have hc10 := hcv10 _ (Only.refl _ _); clear hcv10))
    clear hs0 hs1 hO0 hO1
    all_goals
      have Hb1 := Lib.hid hb10
      have hblk : Blk w10 w.heap.size 26 #[.int .u32 0, .bool false, .bool false] := ((Blk.new w 26 #[.int .u32 0, .bool false, .bool false]).drew).of (hb10.block w.heap.size (by omega))
      have c0 := hblk.cell 0
      have c1 := hblk.cell 1
      have c2 := hblk.cell 2
      have f0 := hblk.frozen 0
      have f1 := hblk.frozen 1
      have f2 := hblk.frozen 2
      simp at c0 c1 c2
      clear hb10 hblk hO10 hs10 hc10
      go_wp2
      refine bodyPost_ret (v := .tuple #[.agg #[.int .u32 0, .bool false, .bool false], .int .i64 7]) (by simp [results, Tryd.results8, go_sem, c0, c1, c2]) rfl ⟨?_, ?_⟩
      · have hc : parseC xs = 7 := by rw [Hpc.out, if_neg (fun e => Heq.out (by rw [Hqe.out]; exact Hiff.out.2 e))]
        rw [parseH, hc]
        rfl
      · exact (((((((Below.refl _ _).alloc (Nat.le_refl _) _).drewN 1).trans (Hb1.out.mono (by simp))).setCell (by simp) _).setCell (by simp) _).setCell (by simp) _)

/-! ### Parse as one answer -/
theorem two_of {xs : List UInt8} (h : 12 ≤ xs.length) : ∃ x y, xs[0]? = some x ∧ xs[1]? = some y := ⟨_, _, List.getElem?_eq_getElem (by omega), List.getElem?_eq_getElem (by omega)⟩

theorem parse_any (A : Option Addr) (n cap : Nat) (xs : List UInt8) (w : World) (hB : ByteSl w Empty A n cap xs) (hM : Mark w) (hn : n ≤ 1048576) :
    Calls Tryd.prog 7 #[.slice A n cap] w fun e w' => ParseOk xs w w' e := by
  by_cases h : n < 12
  · exact parse_short A n cap xs w hB.1 h
  · obtain ⟨⟨b, o, sp⟩, rfl, -, -, -⟩ := hB.2.2.2 (by omega)
    obtain ⟨x, y, h0, h1⟩ := two_of (xs := xs) (by have := hB.1; omega)
    by_cases hm : x = 67 ∧ y = 66
    · obtain ⟨rfl, rfl⟩ := hm
      by_cases hs : getV ((xs.drop 6).take 2) = (crc16 (xs.take 6)).toNat
      · exact parse_yes b o sp n cap xs w hB hM (by omega) hn h0 h1 hs
      · exact parse_sum b o sp n cap xs w hB hM (by omega) hn h0 h1 hs
    · exact parse_form ⟨b, o, sp⟩ n cap xs x y w hB hM (by omega) hn h0 h1 hm

theorem refParse_any (A : Option Addr) (n cap : Nat) (xs : List UInt8) (w : World) (hB : ByteSl w Empty A n cap xs) (hn : n ≤ 1048576) :
    Calls Tryd.prog 8 #[.slice A n cap] w fun e w' => ParseOk xs w w' e := by
  by_cases h : n < 12
  · exact refParse_short A n cap xs w hB.1 h
  · obtain ⟨⟨b, o, sp⟩, rfl, -, -, -⟩ := hB.2.2.2 (by omega)
    obtain ⟨x, y, h0, h1⟩ := two_of (xs := xs) (by have := hB.1; omega)
    by_cases hm : x = 67 ∧ y = 66
    · obtain ⟨rfl, rfl⟩ := hm
      exact refParse_right b o sp n cap xs w hB (by omega) hn h0 h1
    · exact refParse_form b o sp n cap xs x y w hB (by omega) hn h0 h1 hm

end Go.Proofs.YtdhnbeimkeoefaaDoor
