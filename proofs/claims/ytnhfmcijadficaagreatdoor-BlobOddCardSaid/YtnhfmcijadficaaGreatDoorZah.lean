/- The rest of the walks over page.Parse and the document's Parse; both as one answer. -/
import Derived.Test.YtnhfmcijadficaaGreatDoorZag
import Derived.Deep.RegionHeld3
import Derived.Test.YtnhfmcijadficaaGreatDoorZad
namespace Go.Proofs.YtnhfmcijadficaaGreatDoor
set_option maxRecDepth 100000
open Go.RowKit

theorem u8_eq_dec (z c : UInt8) (k : Int) (hk : (c.toNat : Int) = k) : ((z.toNat : Int) == k) = decide (z = c) := by
  subst hk
  rw [Bool.eq_iff_iff]
  simp
  constructor
  · intro h; apply UInt8.toNat_inj.1; omega
  · intro h; rw [h]
theorem u8_ne_dec (z c : UInt8) (k : Int) (hk : (c.toNat : Int) = k) : ((z.toNat : Int) != k) = decide (z ≠ c) := by
  simp only [bne, u8_eq_dec z c k hk]
  simp

set_option maxHeartbeats 1000000 in
theorem parse_yes (b o : Nat) (sp : Option Nat) (n cap : Nat) (xs : List UInt8) (w : World) (hB : ByteSl w Empty (some ⟨b, o, sp⟩) n cap xs) (hM : Mark w) (h : 12 ≤ n) (hn : n ≤ 1048576) (h0 : xs[0]? = some 67) (h1 : xs[1]? = some 66)
    (hne : getV ((xs.drop 6).take 2) = (crc16 (xs.take 6)).toNat) :
    Calls Tryz.prog 136 #[.slice (some ⟨b, o, sp⟩) n cap] w fun e w' => ParseOk xs w w' e := by
  have hc : Hid (parseC xs = 0) := Lib.hid (by unfold parseC; rw [if_neg (by have := hB.1; omega), if_pos ((take2_iff h0 h1).2 ⟨rfl, rfl⟩), if_pos hne])
  obtain ⟨ad', e, hbl, -, hcell⟩ := hB.2.2.2 (by omega)
  cases e
  have hxl := hB.1
  obtain ⟨z8, h8⟩ : ∃ z, xs[8]? = some z := ⟨_, List.getElem?_eq_getElem (by omega)⟩
  obtain ⟨z9, h9⟩ : ∃ z, xs[9]? = some z := ⟨_, List.getElem?_eq_getElem (by omega)⟩
  have k0 : w.cell? ⟨b, o, sp⟩ = some (.int .u8 67) := hcell 0 67 h0
  have k1 : w.cell? ⟨b, o + 1, none⟩ = some (.int .u8 66) := hcell 1 66 h1
  have k8 : w.cell? ⟨b, o + 8, none⟩ = some (.int .u8 (z8.toNat : Int)) := hcell 8 z8 h8
  have k9 : w.cell? ⟨b, o + 9, none⟩ = some (.int .u8 (z9.toNat : Int)) := hcell 9 z9 h9
  have hbl : b < w.heap.size := hbl
  have hcap := hB.2.1
  have hcap2 : cap ≤ 9223372036854775807 := by have := hB.2.2.1; unfold maxLen at this; omega
  have m0 := hM.c0
  have m1 := hM.c1
  have mp := hM.pos
  have hat : ∀ w, (Instr.arrayAt 245 (.slice (some ⟨b, o, sp⟩) n cap)).run Tryz.prog w = .ok (.pointer (some ⟨b, o, sp⟩)) w := fun w => run_arrayAt w 245 _ 2 _ n cap Tryz.underlying245 (by omega)
  have heq := fun W => eq_two_yes W
  have HB := Lib.hid hB
  have Hne := Lib.hid hne
  have H8 := Lib.hid h8
  have H9 := Lib.hid h9
  have K8 := Lib.hid k8
  have K9 := Lib.hid k9
  clear hcell hB hM h0 h1 hne h8 h9 k8 k9 hxl
  go_enter Tryz.func136, Tryz.ntmps136
  go_wp2
  go_quiet (fail)
  clear k0 k1 hat heq m0 m1
  have HO1 := Lib.hid (((Only.refl Empty w).alloc (.cells #[.int .u32 0, .bool false, .bool false] 210)).drewN nq)
  have HB1 := Lib.hid (HB.out.only HO1.out (fun _ _ h => h))
  go_wp2_with fail
  refine (get_yes _ n cap 2 4 xs _ HB1.out (by omega) (by omega) (by omega) (by omega)).mono ?_
  rintro e1 w1 ⟨rfl, rfl⟩
  have hg4 := getV_lt ((xs.drop 2).take 4)
  have hgl4 : ((xs.drop 2).take 4).length = 4 := by have := HB.out.1; simp; omega
  rw [hgl4] at hg4
  obtain ⟨q, hqe⟩ : ∃ q, q = getV ((xs.drop 2).take 4) := ⟨_, rfl⟩
  rw [← hqe] at hg4 ⊢
  have hq2 : q ≤ 4294967295 := by omega
  have Hqe := Lib.hid hqe
  clear hg4 hgl4 hqe
  go_wp2_with fail
  refine (get_yes _ n cap 6 2 xs _ HB1.out (by omega) (by omega) (by omega) (by omega)).mono ?_
  rintro e1 w1 ⟨rfl, rfl⟩
  have hg := getV_lt ((xs.drop 6).take 2)
  have hgl : ((xs.drop 6).take 2).length = 2 := by have := HB.out.1; simp; omega
  rw [hgl] at hg
  obtain ⟨g, hge⟩ : ∃ g, g = getV ((xs.drop 6).take 2) := ⟨_, rfl⟩
  rw [← hge] at hg ⊢
  have hg2 : g ≤ 65535 := by omega
  have Hge := Lib.hid hge
  clear hg hgl hge
  go_wp2_with fail
  refine (sum16_any _ 6 cap (xs.take 6) _ (HB1.out.take_ 6 (by omega))).mono ?_
  rintro e1 w1 ⟨rfl, hb1⟩
  unfold V16
  obtain ⟨s, hs⟩ : ∃ s, s = (crc16 (xs.take 6)).toNat := ⟨_, rfl⟩
  rw [← hs]
  have hsg : s = g := by rw [hs, Hge.out]; exact Hne.out.symm
  subst hsg
  clear hs
  have Hb1 := Lib.hid hb1
  have hblk : Blk w1 w.heap.size 210 #[.int .u32 0, .bool false, .bool false] := ((Blk.new w 210 #[.int .u32 0, .bool false, .bool false]).drewN nq).of (hb1.block w.heap.size (by simp))
  have c0 := hblk.cell 0
  have c1 := hblk.cell 1
  have c2 := hblk.cell 2
  have f0 := hblk.frozen 0
  have f1 := hblk.frozen 1
  have f2 := hblk.frozen 2
  simp at c0 c1 c2
  have HO2 := Lib.hid (HO1.out.trans (Only.of_below (S := Empty) hb1))
  have k8 := (HO2.out.cell (p := ⟨b, o + 8, none⟩) hbl (fun h => h)).trans K8.out
  have k9 := (HO2.out.cell (p := ⟨b, o + 9, none⟩) hbl (fun h => h)).trans K9.out
  have hne0 : ¬ b = w.heap.size := by omega
  clear hb1 hblk
  go_wp2
  go_region
  go_wp2
  refine bodyPost_ret (v := .tuple #[.agg #[.int .u32 (q : Int), .bool ((z8.toNat : Int) == 0), .bool ((z9.toNat : Int) != 255)], .int .i64 0]) (by simp [results, Tryz.results136, go_sem, c0, c1, c2]) rfl ⟨?_, ?_⟩
  · rw [parseH, hc.out, if_pos rfl, H8.out, H9.out, u8_eq_dec z8 0 0 rfl, u8_ne_dec z9 255 255 rfl, Hqe.out]
    rfl
  · exact ((((((((Below.refl _ _).alloc (Nat.le_refl _) _).drewN _).trans (Hb1.out.mono (by simp))).setCell (by simp) _).setCell (by simp) _).setCell (by simp) _).drewN 1)

/-! ### The document's Parse -/
theorem putL_snoc (v n : Nat) (x : UInt8) : putL (v * 256 + x.toNat) (n + 1) = putL v n ++ [x] := by
  have hx := x.toNat_lt
  unfold putL
  rw [List.range_succ, List.map_append]
  congr 1
  · apply List.map_congr_left
    intro j hj
    have hj := List.mem_range.1 hj
    unfold byteOf
    have e : 8 * (n + 1 - 1 - j) = 8 + 8 * (n - 1 - j) := by omega
    rw [e, Nat.pow_add, ← Nat.div_div_eq_div_mul]
    congr 2
    omega
  · simp only [List.map_cons, List.map_nil, byteOf]
    congr 1
    apply UInt8.toNat_inj.1
    rw [UInt8.toNat_ofNat']
    simp
theorem putL_getV' : ∀ (n : Nat) (xs : List UInt8), xs.length = n → putL (getV xs) n = xs
  | 0, xs, h => by rw [List.eq_nil_of_length_eq_zero h]; rfl
  | n + 1, xs, h => by
    rcases List.eq_nil_or_concat xs with rfl | ⟨ys, y, rfl⟩
    · simp at h
    · rw [List.concat_eq_append] at h ⊢
      rw [getV_snoc, putL_snoc, putL_getV' n ys (by simpa using h)]
theorem putL_getV (xs : List UInt8) : putL (getV xs) xs.length = xs := putL_getV' _ xs rfl

/-- The bytes of the number that stands there are those that stand there just if the sum is right. -/
theorem head_iff (xs : List UInt8) (hl : 12 ≤ xs.length) (h2 : xs.take 2 = [67, 66]) : headB (getV ((xs.drop 2).take 4)) = xs.take 8 ↔ getV ((xs.drop 6).take 2) = (crc16 (xs.take 6)).toNat := by
  have h4 : putL (getV ((xs.drop 2).take 4)) 4 = (xs.drop 2).take 4 := by
    have h := putL_getV ((xs.drop 2).take 4)
    rw [show ((xs.drop 2).take 4).length = 4 by simp; omega] at h
    exact h
  have h6 : head6 (getV ((xs.drop 2).take 4)) = xs.take 6 := by
    unfold head6
    rw [h4, ← h2, show (6 : Nat) = 2 + 4 by rfl, List.take_add]
  have h8 : xs.take 8 = xs.take 6 ++ (xs.drop 6).take 2 := by rw [show (8 : Nat) = 6 + 2 by rfl, List.take_add]
  have hc := (crc16 (xs.take 6)).isLt
  unfold headB
  rw [h6, h8, List.append_cancel_left_eq]
  constructor
  · intro h
    rw [← h, getV_putL]
    omega
  · intro h
    rw [← h]
    have h := putL_getV ((xs.drop 6).take 2)
    rw [show ((xs.drop 6).take 2).length = 2 by simp; omega] at h
    exact h


end Go.Proofs.YtnhfmcijadficaaGreatDoor

/- The walks over the document's Parse, where the mark is right; Parse as one answer, the program's and the document's. -/
namespace Go.Proofs.YtnhfmcijadficaaGreatDoor
set_option maxRecDepth 100000
open Go.RowKit


/-! ### Parse as one answer -/
theorem two_of {xs : List UInt8} (h : 12 ≤ xs.length) : ∃ x y, xs[0]? = some x ∧ xs[1]? = some y := ⟨_, _, List.getElem?_eq_getElem (by omega), List.getElem?_eq_getElem (by omega)⟩

theorem parse_any (A : Option Addr) (n cap : Nat) (xs : List UInt8) (w : World) (hB : ByteSl w Empty A n cap xs) (hM : Mark w) (hn : n ≤ 1048576) :
    Calls Tryz.prog 136 #[.slice A n cap] w fun e w' => ParseOk xs w w' e := by
  by_cases h : n < 12
  · exact parse_short A n cap xs w hB.1 h
  · obtain ⟨⟨b, o, sp⟩, rfl, -, -, -⟩ := hB.2.2.2 (by omega)
    obtain ⟨x, y, h0, h1⟩ := two_of (xs := xs) (by have := hB.1; omega)
    by_cases hm : x = 67 ∧ y = 66
    · obtain ⟨rfl, rfl⟩ := hm
      by_cases hs : getV ((xs.drop 6).take 2) = (crc16 (xs.take 6)).toNat
      · exact parse_yes b o sp n cap xs w hB hM (by omega) hn h0 h1 hs
      · exact parse_sum b o sp n cap xs w hB hM (by omega) hn h0 h1 hs
    · exact parse_form ⟨b, o, sp⟩ n cap xs x y w hB hM (by omega) hn h0 h1 hm


end Go.Proofs.YtnhfmcijadficaaGreatDoor

/- The walks over page's calls of a nil flash, and of a sector that there is not. -/
namespace Go.Proofs.YtnhfmcijadficaaGreatDoor
set_option maxRecDepth 100000
open Go.RowKit

/-- A part of a geometry that was handed back. -/
theorem geo_field0 (a b c : Int) (W : World) : (Instr.field 29 (.agg #[.int .i64 a, .int .i64 b, .int .i64 c]) 0).run Tryz.prog W = .ok (.int .i64 a) W := by kernel_rfl
theorem geo_field1 (a b c : Int) (W : World) : (Instr.field 29 (.agg #[.int .i64 a, .int .i64 b, .int .i64 c]) 1).run Tryz.prog W = .ok (.int .i64 b) W := by kernel_rfl

theorem pgHas_nil (k : Int) (w : World) : Calls Tryz.prog 107 #[.pointer none, .int .i64 k] w fun e w' => e = .returned (.bool false) ∧ Below w.heap.size w w' := by
  by_cases h : 0 ≤ k
  · have hd : decide (k < 0) = false := by simpa using h
    have hg := geo_field0 0 0 0
    go_enter Tryz.func107, Tryz.ntmps107
    go_wp2_with fail
    refine (geometry_nil _).mono ?_
    rintro e1 w1 ⟨rfl, hb1⟩
    go_wp2
    go_ret
    exact ⟨rfl, hb1⟩
  · go_enter Tryz.func107, Tryz.ntmps107
    go_wp2
    go_ret
    exact ⟨rfl, Below.refl _ _⟩

theorem pgHas_any (p c e : Nat) (fl : Fl) (k : Int) (w : World) (hf : FlashAt w p c e fl) :
    Calls Tryz.prog 107 #[.pointer (some ⟨p, 0, none⟩), .int .i64 k] w fun e w' => e = .returned (.bool (decide (0 ≤ k) && decide (k < (fl.S : Int)))) ∧ Below w.heap.size w w' := by
  have HF := Lib.hid hf
  clear hf
  by_cases h : 0 ≤ k
  · have hg := geo_field0 (fl.S : Int) (fl.Z : Int) (fl.L : Int)
    go_enter Tryz.func107, Tryz.ntmps107
    go_wp2_with fail
    refine (geometry_any p c e fl _ HF.out).mono ?_
    rintro e1 w1 ⟨rfl, hb1⟩
    go_wp2
    go_ret
    exact ⟨by simp [h], hb1⟩
  · go_enter Tryz.func107, Tryz.ntmps107
    go_wp2
    go_ret
    exact ⟨by simp; omega, Below.refl _ _⟩

theorem look_nil (k : Int) (w : World) : Calls Tryz.prog 70 #[.pointer none, .int .i64 k] w fun e w' => e = .returned (.tuple #[.agg #[.int .i64 0, .int .u32 0, .int .i64 0], .int .i64 2]) ∧ Below w.heap.size w w' := by
  go_enter Tryz.func70, Tryz.ntmps70
  go_wp2_with fail
  refine (pgHas_nil k _).mono ?_
  rintro e1 w1 ⟨rfl, hb1⟩
  have hblk : Blk w1 w.heap.size 96 #[.int .i64 0, .int .u32 0, .int .i64 0] := (Blk.new w 96 #[.int .i64 0, .int .u32 0, .int .i64 0]).of (hb1.block w.heap.size (by simp))
  have c0 := hblk.cell 0
  have c1 := hblk.cell 1
  have c2 := hblk.cell 2
  have f0 := hblk.frozen 0
  have f1 := hblk.frozen 1
  have f2 := hblk.frozen 2
  simp at c0 c1 c2
  have Hb1 := Lib.hid hb1
  clear hb1 hblk
  go_wp2
  refine bodyPost_ret (v := .tuple #[.agg #[.int .i64 0, .int .u32 0, .int .i64 0], .int .i64 2]) (by simp [results, Tryz.results70, go_sem, c0, c1, c2]) rfl ⟨rfl, ?_⟩
  exact ((((((Below.refl _ _).alloc (Nat.le_refl _) _).trans (Hb1.out.mono (by simp))).setCell (by simp) _).setCell (by simp) _).setCell (by simp) _)

theorem void_nil (k : Int) (w : World) : Calls Tryz.prog 118 #[.pointer none, .int .i64 k] w fun e w' => e = .returned (.int .i64 2) ∧ Below w.heap.size w w' := by
  go_enter Tryz.func118, Tryz.ntmps118
  go_wp2_with fail
  refine (pgHas_nil k _).mono ?_
  rintro e1 w1 ⟨rfl, hb1⟩
  go_wp2
  go_ret
  exact ⟨rfl, hb1⟩

theorem open_nil (k s : Int) (w : World) : Calls Tryz.prog 187 #[.pointer none, .int .i64 k, .int .u32 s] w fun e w' => e = .returned (.int .i64 2) ∧ Below w.heap.size w w' := by
  go_enter Tryz.func187, Tryz.ntmps187
  go_wp2_with fail
  refine (look_nil k _).mono ?_
  rintro e1 w1 ⟨rfl, hb1⟩
  go_wp2
  go_ret
  exact ⟨rfl, hb1.alloc hb1.size _⟩

end Go.Proofs.YtnhfmcijadficaaGreatDoor
