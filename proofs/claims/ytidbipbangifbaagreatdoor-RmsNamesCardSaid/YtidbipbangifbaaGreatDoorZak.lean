/- The walks over page.Parse and the document's Parse. -/
import Derived.Test.YtidbipbangifbaaGreatDoorZaj
import Derived.Deep.QuietTactic
import Derived.BigQuiet
import Derived.RegionTactic
import Derived.ChangeAlike
import Derived.Laws.Cover3
import Derived.Stop.BytesEq
namespace Go.Proofs.YtidbipbangifbaaGreatDoor
set_option maxRecDepth 100000
open Go.RowKit

/-- What a header tells. -/
structure Hd where
  seq : Nat
  live : Bool
  void : Bool
/-- Parse's error of any bytes. -/
def parseC (xs : List UInt8) : Int :=
  if xs.length < 12 then 6 else if xs.take 2 = [67, 66] then (if getV ((xs.drop 6).take 2) = (crc16 (xs.take 6)).toNat then 0 else 7) else 8
/-- What Parse tells of any bytes. -/
def parseH (xs : List UInt8) : Hd := if parseC xs = 0 then ⟨getV ((xs.drop 2).take 4), decide (xs[8]?.getD 0 = 0), decide (xs[9]?.getD 0 ≠ 255)⟩ else ⟨0, false, false⟩
def Hd.v (h : Hd) : Value := .agg #[.int .u32 (h.seq : Int), .bool h.live, .bool h.void]
/-- Parse's answer. -/
def ParseOk (xs : List UInt8) (w w' : World) (e : Ending) : Prop := e = .returned (.tuple #[(parseH xs).v, .int .i64 (parseC xs)]) ∧ Below w.heap.size w w'

theorem parse_short (A : Option Addr) (n cap : Nat) (xs : List UInt8) (w : World) (hx : xs.length = n) (h : n < 12) :
    Calls Tryz.prog 119 #[.slice A n cap] w fun e w' => ParseOk xs w w' e := by
  have hc : Hid (parseC xs = 6) := Lib.hid (by unfold parseC; rw [if_pos (by omega)])
  go_enter Tryz.func119, Tryz.ntmps119
  go_wp2
  refine bodyPost_ret (v := .tuple #[.agg #[.int .u32 0, .bool false, .bool false], .int .i64 6]) (by simp [results, Tryz.results119, go_sem]) rfl ⟨?_, (Below.refl _ _).alloc (Nat.le_refl _) _⟩
  rw [parseH, hc.out]
  rfl


theorem take2_iff {xs : List UInt8} {x y : UInt8} (h0 : xs[0]? = some x) (h1 : xs[1]? = some y) : xs.take 2 = [67, 66] ↔ x = 67 ∧ y = 66 := by
  match xs, h0, h1 with
  | a :: b :: l, h0, h1 =>
    simp at h0 h1
    subst h0 h1
    simp

theorem u8_ne {x y : UInt8} (h : x ≠ y) : ((x.toNat : Int) == (y.toNat : Int)) = false := by
  rw [beq_eq_false_iff_ne]
  intro e
  apply h
  apply UInt8.toNat_inj.1
  omega

/-- Two bytes held against the mark. -/
theorem eq_two (x y : UInt8) (W : World) : (Op.equalIn 10000 231 (.agg #[.int .u8 (x.toNat : Int), .int .u8 (y.toNat : Int)]) (.agg #[.int .u8 67, .int .u8 66])).run Tryz.prog W = .ok ([x, y] == [67, 66]) W := by
  have h := run_equalIn_bytes (P := Tryz.prog) W 9998 231 5 2 Tryz.underlying231 Tryz.underlying5 (fun W => by
    have hi : (Tryz.prog.info? 5).map (·.size) = some 1 := Tryz.sizeU8
    cases hq : Tryz.prog.info? 5 with
    | none => simp [hq] at hi
    | some i =>
      have hs : i.size = 1 := by simpa [hq] using hi
      simp [sizeOf, typeInfo, hq, hs]) [x, y] [67, 66] rfl rfl
  exact h
theorem eq_two_no {x y : UInt8} (h : ¬ (x = 67 ∧ y = 66)) (W : World) : (Op.equalIn 10000 231 (.agg #[.int .u8 (x.toNat : Int), .int .u8 (y.toNat : Int)]) (.agg #[.int .u8 67, .int .u8 66])).run Tryz.prog W = .ok false W := by
  rw [eq_two]
  congr 1
  simpa using h
theorem eq_two_yes (W : World) : (Op.equalIn 10000 231 (.agg #[.int .u8 67, .int .u8 66]) (.agg #[.int .u8 67, .int .u8 66])).run Tryz.prog W = .ok true W := eq_two 67 66 W

theorem parse_form (ad : Addr) (n cap : Nat) (xs : List UInt8) (x y : UInt8) (w : World) (hB : ByteSl w Empty (some ad) n cap xs) (hM : Mark w) (h : 12 ≤ n) (hn : n ≤ 1048576) (h0 : xs[0]? = some x) (h1 : xs[1]? = some y) (hne : ¬ (x = 67 ∧ y = 66)) :
    Calls Tryz.prog 119 #[.slice (some ad) n cap] w fun e w' => ParseOk xs w w' e := by
  have hc : Hid (parseC xs = 8) := Lib.hid (by unfold parseC; rw [if_neg (by have := hB.1; omega), if_neg (by rw [take2_iff h0 h1]; exact hne)])
  obtain ⟨ad', e, hbl, -, hcell⟩ := hB.2.2.2 (by omega)
  cases e
  obtain ⟨b, o, sp⟩ := ad
  have k0 : w.cell? ⟨b, o, sp⟩ = some (.int .u8 (x.toNat : Int)) := hcell 0 x h0
  have k1 : w.cell? ⟨b, o + 1, none⟩ = some (.int .u8 (y.toNat : Int)) := hcell 1 y h1
  have hbl : b < w.heap.size := hbl
  have m0 := hM.c0
  have m1 := hM.c1
  have mp := hM.pos
  have hat : ∀ w, (Instr.arrayAt 231 (.slice (some ⟨b, o, sp⟩) n cap)).run Tryz.prog w = .ok (.pointer (some ⟨b, o, sp⟩)) w := fun w => run_arrayAt w 231 _ 2 _ n cap Tryz.underlying231 (by omega)
  have heq := fun W => eq_two_no hne W
  clear hcell hB hM h0 h1 hne
  go_enter Tryz.func119, Tryz.ntmps119
  go_wp2
  go_quiet (fail)
  go_wp2
  refine bodyPost_ret (v := .tuple #[.agg #[.int .u32 0, .bool false, .bool false], .int .i64 8]) (by simp [results, Tryz.results119, go_sem]) rfl ⟨?_, (((((Below.refl _ _).alloc (Nat.le_refl _) _).drewN _).setCell (by simp) _).setCell (by simp) _).setCell (by simp) _⟩
  rw [parseH, hc.out]
  rfl

set_option maxHeartbeats 1000000 in
theorem parse_sum (b o : Nat) (sp : Option Nat) (n cap : Nat) (xs : List UInt8) (w : World) (hB : ByteSl w Empty (some ⟨b, o, sp⟩) n cap xs) (hM : Mark w) (h : 12 ≤ n) (hn : n ≤ 1048576) (h0 : xs[0]? = some 67) (h1 : xs[1]? = some 66)
    (hne : getV ((xs.drop 6).take 2) ≠ (crc16 (xs.take 6)).toNat) :
    Calls Tryz.prog 119 #[.slice (some ⟨b, o, sp⟩) n cap] w fun e w' => ParseOk xs w w' e := by
  have hc : Hid (parseC xs = 7) := Lib.hid (by unfold parseC; rw [if_neg (by have := hB.1; omega), if_pos ((take2_iff h0 h1).2 ⟨rfl, rfl⟩), if_neg hne])
  obtain ⟨ad', e, hbl, -, hcell⟩ := hB.2.2.2 (by omega)
  cases e
  have k0 : w.cell? ⟨b, o, sp⟩ = some (.int .u8 67) := hcell 0 67 h0
  have k1 : w.cell? ⟨b, o + 1, none⟩ = some (.int .u8 66) := hcell 1 66 h1
  have hbl : b < w.heap.size := hbl
  have hcap := hB.2.1
  have hcap2 : cap ≤ 9223372036854775807 := by have := hB.2.2.1; unfold maxLen at this; omega
  have m0 := hM.c0
  have m1 := hM.c1
  have mp := hM.pos
  have hat : ∀ w, (Instr.arrayAt 231 (.slice (some ⟨b, o, sp⟩) n cap)).run Tryz.prog w = .ok (.pointer (some ⟨b, o, sp⟩)) w := fun w => run_arrayAt w 231 _ 2 _ n cap Tryz.underlying231 (by omega)
  have heq := fun W => eq_two_yes W
  have HB := Lib.hid hB
  have Hne := Lib.hid hne
  clear hcell hB hM h0 h1 hne
  go_enter Tryz.func119, Tryz.ntmps119
  go_wp2
  go_quiet (fail)
  clear k0 k1 hat heq m0 m1
  have HB1 := Lib.hid (HB.out.only (((Only.refl Empty w).alloc (.cells #[.int .u32 0, .bool false, .bool false] 194)).drewN nq) (fun _ _ h => h))
  go_wp2_with fail
  refine (get_yes _ n cap 2 4 xs _ HB1.out (by omega) (by omega) (by omega) (by omega)).mono ?_
  rintro e1 w1 ⟨rfl, rfl⟩
  go_wp2_with fail
  refine (get_yes _ n cap 6 2 xs _ HB1.out (by omega) (by omega) (by omega) (by omega)).mono ?_
  rintro e1 w1 ⟨rfl, rfl⟩
  have hg := getV_lt ((xs.drop 6).take 2)
  have hgl : ((xs.drop 6).take 2).length = 2 := by have := HB.out.1; simp; omega
  rw [hgl] at hg
  obtain ⟨g, hge⟩ : ∃ g, g = getV ((xs.drop 6).take 2) := ⟨_, rfl⟩
  rw [← hge] at hg ⊢
  have hg2 : g ≤ 65535 := by omega
  have Hge := Lib.hid hge
  clear hg hgl hge
  go_wp2_with fail
  refine (sum16_any _ 6 cap (xs.take 6) _ (HB1.out.take_ 6 (by omega))).mono ?_
  rintro e1 w1 ⟨rfl, hb1⟩
  unfold V16
  have hneq : ((g : Int) == ((crc16 (xs.take 6)).toNat : Int)) = false := by
    rw [beq_eq_false_iff_ne, Hge.out]
    intro e
    exact Hne.out (by omega)
  have hx16 := (crc16 (xs.take 6)).isLt
  generalize (crc16 (xs.take 6)).toNat = s at hneq hx16 ⊢
  have hs2 : s ≤ 65535 := by omega
  have hneq2 : ((g : Int) != (s : Int)) = true := by simp only [bne, hneq]; rfl
  clear hx16
  have Hb1 := Lib.hid hb1
  have hblk : Blk w1 w.heap.size 194 #[.int .u32 0, .bool false, .bool false] := ((Blk.new w 194 #[.int .u32 0, .bool false, .bool false]).drewN nq).of (hb1.block w.heap.size (by simp))
  have c0 := hblk.cell 0
  have c1 := hblk.cell 1
  have c2 := hblk.cell 2
  have f0 := hblk.frozen 0
  have f1 := hblk.frozen 1
  have f2 := hblk.frozen 2
  simp at c0 c1 c2
  clear hb1 hblk
  go_wp2
  refine bodyPost_ret (v := .tuple #[.agg #[.int .u32 0, .bool false, .bool false], .int .i64 7]) (by simp [results, Tryz.results119, go_sem, c0, c1, c2]) rfl ⟨?_, ?_⟩
  · rw [parseH, hc.out]
    rfl
  · exact (((((((Below.refl _ _).alloc (Nat.le_refl _) _).drewN _).trans (Hb1.out.mono (by simp))).setCell (by simp) _).setCell (by simp) _).setCell (by simp) _)

end Go.Proofs.YtidbipbangifbaaGreatDoor

/- The rest of the walks over page.Parse and the document's Parse; both as one answer. -/
namespace Go.Proofs.YtidbipbangifbaaGreatDoor
set_option maxRecDepth 100000
open Go.RowKit

theorem u8_eq_dec (z c : UInt8) (k : Int) (hk : (c.toNat : Int) = k) : ((z.toNat : Int) == k) = decide (z = c) := by
  subst hk
  rw [Bool.eq_iff_iff]
  simp
  constructor
  · intro h; apply UInt8.toNat_inj.1; omega
  · intro h; rw [h]
theorem u8_ne_dec (z c : UInt8) (k : Int) (hk : (c.toNat : Int) = k) : ((z.toNat : Int) != k) = decide (z ≠ c) := by
  simp only [bne, u8_eq_dec z c k hk]
  simp

set_option maxHeartbeats 1000000 in
theorem parse_yes (b o : Nat) (sp : Option Nat) (n cap : Nat) (xs : List UInt8) (w : World) (hB : ByteSl w Empty (some ⟨b, o, sp⟩) n cap xs) (hM : Mark w) (h : 12 ≤ n) (hn : n ≤ 1048576) (h0 : xs[0]? = some 67) (h1 : xs[1]? = some 66)
    (hne : getV ((xs.drop 6).take 2) = (crc16 (xs.take 6)).toNat) :
    Calls Tryz.prog 119 #[.slice (some ⟨b, o, sp⟩) n cap] w fun e w' => ParseOk xs w w' e := by
  have hc : Hid (parseC xs = 0) := Lib.hid (by unfold parseC; rw [if_neg (by have := hB.1; omega), if_pos ((take2_iff h0 h1).2 ⟨rfl, rfl⟩), if_pos hne])
  obtain ⟨ad', e, hbl, -, hcell⟩ := hB.2.2.2 (by omega)
  cases e
  have hxl := hB.1
  obtain ⟨z8, h8⟩ : ∃ z, xs[8]? = some z := ⟨_, List.getElem?_eq_getElem (by omega)⟩
  obtain ⟨z9, h9⟩ : ∃ z, xs[9]? = some z := ⟨_, List.getElem?_eq_getElem (by omega)⟩
  have k0 : w.cell? ⟨b, o, sp⟩ = some (.int .u8 67) := hcell 0 67 h0
  have k1 : w.cell? ⟨b, o + 1, none⟩ = some (.int .u8 66) := hcell 1 66 h1
  have k8 : w.cell? ⟨b, o + 8, none⟩ = some (.int .u8 (z8.toNat : Int)) := hcell 8 z8 h8
  have k9 : w.cell? ⟨b, o + 9, none⟩ = some (.int .u8 (z9.toNat : Int)) := hcell 9 z9 h9
  have hbl : b < w.heap.size := hbl
  have hcap := hB.2.1
  have hcap2 : cap ≤ 9223372036854775807 := by have := hB.2.2.1; unfold maxLen at this; omega
  have m0 := hM.c0
  have m1 := hM.c1
  have mp := hM.pos
  have hat : ∀ w, (Instr.arrayAt 231 (.slice (some ⟨b, o, sp⟩) n cap)).run Tryz.prog w = .ok (.pointer (some ⟨b, o, sp⟩)) w := fun w => run_arrayAt w 231 _ 2 _ n cap Tryz.underlying231 (by omega)
  have heq := fun W => eq_two_yes W
  have HB := Lib.hid hB
  have Hne := Lib.hid hne
  have H8 := Lib.hid h8
  have H9 := Lib.hid h9
  have K8 := Lib.hid k8
  have K9 := Lib.hid k9
  clear hcell hB hM h0 h1 hne h8 h9 k8 k9 hxl
  go_enter Tryz.func119, Tryz.ntmps119
  go_wp2
  go_quiet (fail)
  clear k0 k1 hat heq m0 m1
  have HO1 := Lib.hid (((Only.refl Empty w).alloc (.cells #[.int .u32 0, .bool false, .bool false] 194)).drewN nq)
  have HB1 := Lib.hid (HB.out.only HO1.out (fun _ _ h => h))
  go_wp2_with fail
  refine (get_yes _ n cap 2 4 xs _ HB1.out (by omega) (by omega) (by omega) (by omega)).mono ?_
  rintro e1 w1 ⟨rfl, rfl⟩
  have hg4 := getV_lt ((xs.drop 2).take 4)
  have hgl4 : ((xs.drop 2).take 4).length = 4 := by have := HB.out.1; simp; omega
  rw [hgl4] at hg4
  obtain ⟨q, hqe⟩ : ∃ q, q = getV ((xs.drop 2).take 4) := ⟨_, rfl⟩
  rw [← hqe] at hg4 ⊢
  have hq2 : q ≤ 4294967295 := by omega
  have Hqe := Lib.hid hqe
  clear hg4 hgl4 hqe
  go_wp2_with fail
  refine (get_yes _ n cap 6 2 xs _ HB1.out (by omega) (by omega) (by omega) (by omega)).mono ?_
  rintro e1 w1 ⟨rfl, rfl⟩
  have hg := getV_lt ((xs.drop 6).take 2)
  have hgl : ((xs.drop 6).take 2).length = 2 := by have := HB.out.1; simp; omega
  rw [hgl] at hg
  obtain ⟨g, hge⟩ : ∃ g, g = getV ((xs.drop 6).take 2) := ⟨_, rfl⟩
  rw [← hge] at hg ⊢
  have hg2 : g ≤ 65535 := by omega
  have Hge := Lib.hid hge
  clear hg hgl hge
  go_wp2_with fail
  refine (sum16_any _ 6 cap (xs.take 6) _ (HB1.out.take_ 6 (by omega))).mono ?_
  rintro e1 w1 ⟨rfl, hb1⟩
  unfold V16
  obtain ⟨s, hs⟩ : ∃ s, s = (crc16 (xs.take 6)).toNat := ⟨_, rfl⟩
  rw [← hs]
  have hsg : s = g := by rw [hs, Hge.out]; exact Hne.out.symm
  subst hsg
  clear hs
  have Hb1 := Lib.hid hb1
  have hblk : Blk w1 w.heap.size 194 #[.int .u32 0, .bool false, .bool false] := ((Blk.new w 194 #[.int .u32 0, .bool false, .bool false]).drewN nq).of (hb1.block w.heap.size (by simp))
  have c0 := hblk.cell 0
  have c1 := hblk.cell 1
  have c2 := hblk.cell 2
  have f0 := hblk.frozen 0
  have f1 := hblk.frozen 1
  have f2 := hblk.frozen 2
  simp at c0 c1 c2
  have HO2 := Lib.hid (HO1.out.trans (Only.of_below (S := Empty) hb1))
  have k8 := (HO2.out.cell (p := ⟨b, o + 8, none⟩) hbl (fun h => h)).trans K8.out
  have k9 := (HO2.out.cell (p := ⟨b, o + 9, none⟩) hbl (fun h => h)).trans K9.out
  have hne0 : ¬ b = w.heap.size := by omega
  clear hb1 hblk
  go_wp2
  go_region
  go_wp2
  refine bodyPost_ret (v := .tuple #[.agg #[.int .u32 (q : Int), .bool ((z8.toNat : Int) == 0), .bool ((z9.toNat : Int) != 255)], .int .i64 0]) (by simp [results, Tryz.results119, go_sem, c0, c1, c2]) rfl ⟨?_, ?_⟩
  · rw [parseH, hc.out, if_pos rfl, H8.out, H9.out, u8_eq_dec z8 0 0 rfl, u8_ne_dec z9 255 255 rfl, Hqe.out]
    rfl
  · exact ((((((((Below.refl _ _).alloc (Nat.le_refl _) _).drewN _).trans (Hb1.out.mono (by simp))).setCell (by simp) _).setCell (by simp) _).setCell (by simp) _).drewN 1)

/-! ### The document's Parse -/
theorem putL_snoc (v n : Nat) (x : UInt8) : putL (v * 256 + x.toNat) (n + 1) = putL v n ++ [x] := by
  have hx := x.toNat_lt
  unfold putL
  rw [List.range_succ, List.map_append]
  congr 1
  · apply List.map_congr_left
    intro j hj
    have hj := List.mem_range.1 hj
    unfold byteOf
    have e : 8 * (n + 1 - 1 - j) = 8 + 8 * (n - 1 - j) := by omega
    rw [e, Nat.pow_add, ← Nat.div_div_eq_div_mul]
    congr 2
    omega
  · simp only [List.map_cons, List.map_nil, byteOf]
    congr 1
    apply UInt8.toNat_inj.1
    rw [UInt8.toNat_ofNat']
    simp
theorem putL_getV' : ∀ (n : Nat) (xs : List UInt8), xs.length = n → putL (getV xs) n = xs
  | 0, xs, h => by rw [List.eq_nil_of_length_eq_zero h]; rfl
  | n + 1, xs, h => by
    rcases List.eq_nil_or_concat xs with rfl | ⟨ys, y, rfl⟩
    · simp at h
    · rw [List.concat_eq_append] at h ⊢
      rw [getV_snoc, putL_snoc, putL_getV' n ys (by simpa using h)]
theorem putL_getV (xs : List UInt8) : putL (getV xs) xs.length = xs := putL_getV' _ xs rfl

/-- The bytes of the number that stands there are those that stand there just if the sum is right. -/
theorem head_iff (xs : List UInt8) (hl : 12 ≤ xs.length) (h2 : xs.take 2 = [67, 66]) : headB (getV ((xs.drop 2).take 4)) = xs.take 8 ↔ getV ((xs.drop 6).take 2) = (crc16 (xs.take 6)).toNat := by
  have h4 : putL (getV ((xs.drop 2).take 4)) 4 = (xs.drop 2).take 4 := by
    have h := putL_getV ((xs.drop 2).take 4)
    rw [show ((xs.drop 2).take 4).length = 4 by simp; omega] at h
    exact h
  have h6 : head6 (getV ((xs.drop 2).take 4)) = xs.take 6 := by
    unfold head6
    rw [h4, ← h2, show (6 : Nat) = 2 + 4 by rfl, List.take_add]
  have h8 : xs.take 8 = xs.take 6 ++ (xs.drop 6).take 2 := by rw [show (8 : Nat) = 6 + 2 by rfl, List.take_add]
  have hc := (crc16 (xs.take 6)).isLt
  unfold headB
  rw [h6, h8, List.append_cancel_left_eq]
  constructor
  · intro h
    rw [← h, getV_putL]
    omega
  · intro h
    rw [← h]
    have h := putL_getV ((xs.drop 6).take 2)
    rw [show ((xs.drop 6).take 2).length = 2 by simp; omega] at h
    exact h


end Go.Proofs.YtidbipbangifbaaGreatDoor
