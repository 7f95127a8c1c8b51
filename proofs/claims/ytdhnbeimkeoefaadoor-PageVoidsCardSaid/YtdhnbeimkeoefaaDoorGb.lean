/- The walks over page.Parse and the document's Parse. -/
import Derived.Test.YtdhnbeimkeoefaaDoorGa
import Derived.Deep.QuietTactic
import Derived.BigQuiet
import Derived.RegionTactic
import Derived.ChangeAlike
import Derived.Laws.Cover3
import Derived.Stop.BytesEq
namespace Go.Proofs.YtdhnbeimkeoefaaDoor
open Go.RowKit

/-- What a header tells. -/
structure Hd where
  seq : Nat
  live : Bool
  void : Bool
/-- Parse's error of any bytes. -/
def parseC (xs : List UInt8) : Int :=
  if xs.length < 12 then 6 else if xs.take 2 = [67, 66] then (if getV ((xs.drop 6).take 2) = (crc16 (xs.take 6)).toNat then 0 else 7) else 8
/-- What Parse tells of any bytes. -/
def parseH (xs : List UInt8) : Hd := if parseC xs = 0 then ⟨getV ((xs.drop 2).take 4), decide (xs[8]?.getD 0 = 0), decide (xs[9]?.getD 0 ≠ 255)⟩ else ⟨0, false, false⟩
def Hd.v (h : Hd) : Value := .agg #[.int .u32 (h.seq : Int), .bool h.live, .bool h.void]
/-- Parse's answer. -/
def ParseOk (xs : List UInt8) (w w' : World) (e : Ending) : Prop := e = .returned (.tuple #[(parseH xs).v, .int .i64 (parseC xs)]) ∧ Below w.heap.size w w'

theorem parse_short (A : Option Addr) (n cap : Nat) (xs : List UInt8) (w : World) (hx : xs.length = n) (h : n < 12) :
    Calls Tryd.prog 7 #[.slice A n cap] w fun e w' => ParseOk xs w w' e := by
  have hc : Hid (parseC xs = 6) := Lib.hid (by unfold parseC; rw [if_pos (by omega)])
  go_enter Tryd.func7, Tryd.ntmps7
  go_wp2
  refine bodyPost_ret (v := .tuple #[.agg #[.int .u32 0, .bool false, .bool false], .int .i64 6]) (by simp [results, Tryd.results7, go_sem]) rfl ⟨?_, (Below.refl _ _).alloc (Nat.le_refl _) _⟩
  rw [parseH, hc.out]
  rfl

theorem refParse_short (A : Option Addr) (n cap : Nat) (xs : List UInt8) (w : World) (hx : xs.length = n) (h : n < 12) :
    Calls Tryd.prog 8 #[.slice A n cap] w fun e w' => ParseOk xs w w' e := by
  have hc : Hid (parseC xs = 6) := Lib.hid (by unfold parseC; rw [if_pos (by omega)])
  go_enter Tryd.func8, Tryd.ntmps8
  go_wp2
  refine bodyPost_ret (v := .tuple #[.agg #[.int .u32 0, .bool false, .bool false], .int .i64 6]) (by simp [results, Tryd.results8, go_sem]) rfl ⟨?_, (Below.refl _ _).alloc (Nat.le_refl _) _⟩
  rw [parseH, hc.out]
  rfl

theorem take2_iff {xs : List UInt8} {x y : UInt8} (h0 : xs[0]? = some x) (h1 : xs[1]? = some y) : xs.take 2 = [67, 66] ↔ x = 67 ∧ y = 66 := by
  match xs, h0, h1 with
  | a :: b :: l, h0, h1 =>
    simp at h0 h1
    subst h0 h1
    simp

theorem u8_ne {x y : UInt8} (h : x ≠ y) : ((x.toNat : Int) == (y.toNat : Int)) = false := by
  rw [beq_eq_false_iff_ne]
  intro e
  apply h
  apply UInt8.toNat_inj.1
  omega

/-- Two bytes held against the mark. -/
theorem eq_two (x y : UInt8) (W : World) : (Op.equalIn 10000 50 (.agg #[.int .u8 (x.toNat : Int), .int .u8 (y.toNat : Int)]) (.agg #[.int .u8 67, .int .u8 66])).run Tryd.prog W = .ok ([x, y] == [67, 66]) W := by
  have h := run_equalIn_bytes (P := Tryd.prog) W 9998 50 5 2 Tryd.underlying50 Tryd.underlying5 (fun W => by
    have hi : (Tryd.prog.info? 5).map (·.size) = some 1 := Tryd.sizeU8
    cases hq : Tryd.prog.info? 5 with
    | none => simp [hq] at hi
    | some i =>
      have hs : i.size = 1 := by simpa [hq] using hi
      simp [sizeOf, typeInfo, hq, hs]) [x, y] [67, 66] rfl rfl
  exact h
theorem eq_two_no {x y : UInt8} (h : ¬ (x = 67 ∧ y = 66)) (W : World) : (Op.equalIn 10000 50 (.agg #[.int .u8 (x.toNat : Int), .int .u8 (y.toNat : Int)]) (.agg #[.int .u8 67, .int .u8 66])).run Tryd.prog W = .ok false W := by
  rw [eq_two]
  congr 1
  simpa using h
theorem eq_two_yes (W : World) : (Op.equalIn 10000 50 (.agg #[.int .u8 67, .int .u8 66]) (.agg #[.int .u8 67, .int .u8 66])).run Tryd.prog W = .ok true W := eq_two 67 66 W

theorem parse_form (ad : Addr) (n cap : Nat) (xs : List UInt8) (x y : UInt8) (w : World) (hB : ByteSl w Empty (some ad) n cap xs) (hM : Mark w) (h : 12 ≤ n) (hn : n ≤ 1048576) (h0 : xs[0]? = some x) (h1 : xs[1]? = some y) (hne : ¬ (x = 67 ∧ y = 66)) :
    Calls Tryd.prog 7 #[.slice (some ad) n cap] w fun e w' => ParseOk xs w w' e := by
  have hc : Hid (parseC xs = 8) := Lib.hid (by unfold parseC; rw [if_neg (by have := hB.1; omega), if_neg (by rw [take2_iff h0 h1]; exact hne)])
  obtain ⟨ad', e, hbl, -, hcell⟩ := hB.2.2.2 (by omega)
  cases e
  obtain ⟨b, o, sp⟩ := ad
  have k0 : w.cell? ⟨b, o, sp⟩ = some (.int .u8 (x.toNat : Int)) := hcell 0 x h0
  have k1 : w.cell? ⟨b, o + 1, none⟩ = some (.int .u8 (y.toNat : Int)) := hcell 1 y h1
  have hbl : b < w.heap.size := hbl
  have m0 := hM.c0
  have m1 := hM.c1
  have mp := hM.pos
  have hat : ∀ w, (Instr.arrayAt 50 (.slice (some ⟨b, o, sp⟩) n cap)).run Tryd.prog w = .ok (.pointer (some ⟨b, o, sp⟩)) w := fun w => run_arrayAt w 50 _ 2 _ n cap Tryd.underlying50 (by omega)
  have heq := fun W => eq_two_no hne W
  clear hcell hB hM h0 h1 hne
  go_enter Tryd.func7, Tryd.ntmps7
  go_wp2
  go_quiet (fail)
  go_wp2
  refine bodyPost_ret (v := .tuple #[.agg #[.int .u32 0, .bool false, .bool false], .int .i64 8]) (by simp [results, Tryd.results7, go_sem]) rfl ⟨?_, (((((Below.refl _ _).alloc (Nat.le_refl _) _).drewN _).setCell (by simp) _).setCell (by simp) _).setCell (by simp) _⟩
  rw [parseH, hc.out]
  rfl

set_option maxHeartbeats 1000000 in
theorem parse_sum (b o : Nat) (sp : Option Nat) (n cap : Nat) (xs : List UInt8) (w : World) (hB : ByteSl w Empty (some ⟨b, o, sp⟩) n cap xs) (hM : Mark w) (h : 12 ≤ n) (hn : n ≤ 1048576) (h0 : xs[0]? = some 67) (h1 : xs[1]? = some 66)
    (hne : getV ((xs.drop 6).take 2) ≠ (crc16 (xs.take 6)).toNat) :
    Calls Tryd.prog 7 #[.slice (some ⟨b, o, sp⟩) n cap] w fun e w' => ParseOk xs w w' e := by
  have hc : Hid (parseC xs = 7) := Lib.hid (by unfold parseC; rw [if_neg (by have := hB.1; omega), if_pos ((take2_iff h0 h1).2 ⟨rfl, rfl⟩), if_neg hne])
  obtain ⟨ad', e, hbl, -, hcell⟩ := hB.2.2.2 (by omega)
  cases e
  have k0 : w.cell? ⟨b, o, sp⟩ = some (.int .u8 67) := hcell 0 67 h0
  have k1 : w.cell? ⟨b, o + 1, none⟩ = some (.int .u8 66) := hcell 1 66 h1
  have hbl : b < w.heap.size := hbl
  have hcap := hB.2.1
  have hcap2 : cap ≤ 9223372036854775807 := by have := hB.2.2.1; unfold maxLen at this; omega
  have m0 := hM.c0
  have m1 := hM.c1
  have mp := hM.pos
  have hat : ∀ w, (Instr.arrayAt 50 (.slice (some ⟨b, o, sp⟩) n cap)).run Tryd.prog w = .ok (.pointer (some ⟨b, o, sp⟩)) w := fun w => run_arrayAt w 50 _ 2 _ n cap Tryd.underlying50 (by omega)
  have heq := fun W => eq_two_yes W
  have HB := Lib.hid hB
  have Hne := Lib.hid hne
  clear hcell hB hM h0 h1 hne
  go_enter Tryd.func7, Tryd.ntmps7
  go_wp2
  go_quiet (fail)
  clear k0 k1 hat heq m0 m1
  have HB1 := Lib.hid (HB.out.only (((Only.refl Empty w).alloc (.cells #[.int .u32 0, .bool false, .bool false] 26)).drewN nq) (fun _ _ h => h))
  go_wp2_with fail
  refine (get_yes _ n cap 2 4 xs _ HB1.out (by omega) (by omega) (by omega) (by omega)).mono ?_
  rintro e1 w1 ⟨rfl, rfl⟩
  go_wp2_with fail
  refine (get_yes _ n cap 6 2 xs _ HB1.out (by omega) (by omega) (by omega) (by omega)).mono ?_
  rintro e1 w1 ⟨rfl, rfl⟩
  have hg := getV_lt ((xs.drop 6).take 2)
  have hgl : ((xs.drop 6).take 2).length = 2 := by have := HB.out.1; simp; omega
  rw [hgl] at hg
  obtain ⟨g, hge⟩ : ∃ g, g = getV ((xs.drop 6).take 2) := ⟨_, rfl⟩
  rw [← hge] at hg ⊢
  have hg2 : g ≤ 65535 := by omega
  have Hge := Lib.hid hge
  clear hg hgl hge
  go_wp2_with fail
  refine (sum16_any _ 6 cap (xs.take 6) _ (HB1.out.take_ 6 (by omega))).mono ?_
  rintro e1 w1 ⟨rfl, hb1⟩
  unfold V16
  have hneq : ((g : Int) == ((crc16 (xs.take 6)).toNat : Int)) = false := by
    rw [beq_eq_false_iff_ne, Hge.out]
    intro e
    exact Hne.out (by omega)
  have hx16 := (crc16 (xs.take 6)).isLt
  generalize (crc16 (xs.take 6)).toNat = s at hneq hx16 ⊢
  have hs2 : s ≤ 65535 := by omega
  have hneq2 : ((g : Int) != (s : Int)) = true := by simp only [bne, hneq]; rfl
  clear hx16
  have Hb1 := Lib.hid hb1
  have hblk : Blk w1 w.heap.size 26 #[.int .u32 0, .bool false, .bool false] := ((Blk.new w 26 #[.int .u32 0, .bool false, .bool false]).drewN nq).of (hb1.block w.heap.size (by simp))
  have c0 := hblk.cell 0
  have c1 := hblk.cell 1
  have c2 := hblk.cell 2
  have f0 := hblk.frozen 0
  have f1 := hblk.frozen 1
  have f2 := hblk.frozen 2
  simp at c0 c1 c2
  clear hb1 hblk
  go_wp2
  refine bodyPost_ret (v := .tuple #[.agg #[.int .u32 0, .bool false, .bool false], .int .i64 7]) (by simp [results, Tryd.results7, go_sem, c0, c1, c2]) rfl ⟨?_, ?_⟩
  · rw [parseH, hc.out]
    rfl
  · exact (((((((Below.refl _ _).alloc (Nat.le_refl _) _).drewN _).trans (Hb1.out.mono (by simp))).setCell (by simp) _).setCell (by simp) _).setCell (by simp) _)

end Go.Proofs.YtdhnbeimkeoefaaDoor
