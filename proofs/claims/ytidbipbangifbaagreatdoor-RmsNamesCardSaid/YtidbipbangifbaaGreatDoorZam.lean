/- The walks over page's calls of a nil flash, and of a sector that there is not. -/
import Derived.Test.YtidbipbangifbaaGreatDoorZad
import Derived.Test.YtidbipbangifbaaGreatDoorZaj
namespace Go.Proofs.YtidbipbangifbaaGreatDoor
set_option maxRecDepth 100000
open Go.RowKit

/-- A part of a geometry that was handed back. -/
theorem geo_field0 (a b c : Int) (W : World) : (Instr.field 66 (.agg #[.int .i64 a, .int .i64 b, .int .i64 c]) 0).run Tryz.prog W = .ok (.int .i64 a) W := by kernel_rfl
theorem geo_field1 (a b c : Int) (W : World) : (Instr.field 66 (.agg #[.int .i64 a, .int .i64 b, .int .i64 c]) 1).run Tryz.prog W = .ok (.int .i64 b) W := by kernel_rfl

theorem pgHas_nil (k : Int) (w : World) : Calls Tryz.prog 90 #[.pointer none, .int .i64 k] w fun e w' => e = .returned (.bool false) ∧ Below w.heap.size w w' := by
  by_cases h : 0 ≤ k
  · have hd : decide (k < 0) = false := by simpa using h
    have hg := geo_field0 0 0 0
    go_enter Tryz.func90, Tryz.ntmps90
    go_wp2_with fail
    refine (geometry_nil _).mono ?_
    rintro e1 w1 ⟨rfl, hb1⟩
    go_wp2
    go_ret
    exact ⟨rfl, hb1⟩
  · go_enter Tryz.func90, Tryz.ntmps90
    go_wp2
    go_ret
    exact ⟨rfl, Below.refl _ _⟩

theorem pgHas_any (p c e : Nat) (fl : Fl) (k : Int) (w : World) (hf : FlashAt w p c e fl) :
    Calls Tryz.prog 90 #[.pointer (some ⟨p, 0, none⟩), .int .i64 k] w fun e w' => e = .returned (.bool (decide (0 ≤ k) && decide (k < (fl.S : Int)))) ∧ Below w.heap.size w w' := by
  have HF := Lib.hid hf
  clear hf
  by_cases h : 0 ≤ k
  · have hg := geo_field0 (fl.S : Int) (fl.Z : Int) (fl.L : Int)
    go_enter Tryz.func90, Tryz.ntmps90
    go_wp2_with fail
    refine (geometry_any p c e fl _ HF.out).mono ?_
    rintro e1 w1 ⟨rfl, hb1⟩
    go_wp2
    go_ret
    exact ⟨by simp [h], hb1⟩
  · go_enter Tryz.func90, Tryz.ntmps90
    go_wp2
    go_ret
    exact ⟨by simp; omega, Below.refl _ _⟩

theorem look_nil (k : Int) (w : World) : Calls Tryz.prog 56 #[.pointer none, .int .i64 k] w fun e w' => e = .returned (.tuple #[.agg #[.int .i64 0, .int .u32 0, .int .i64 0], .int .i64 2]) ∧ Below w.heap.size w w' := by
  go_enter Tryz.func56, Tryz.ntmps56
  go_wp2_with fail
  refine (pgHas_nil k _).mono ?_
  rintro e1 w1 ⟨rfl, hb1⟩
  have hblk : Blk w1 w.heap.size 81 #[.int .i64 0, .int .u32 0, .int .i64 0] := (Blk.new w 81 #[.int .i64 0, .int .u32 0, .int .i64 0]).of (hb1.block w.heap.size (by simp))
  have c0 := hblk.cell 0
  have c1 := hblk.cell 1
  have c2 := hblk.cell 2
  have f0 := hblk.frozen 0
  have f1 := hblk.frozen 1
  have f2 := hblk.frozen 2
  simp at c0 c1 c2
  have Hb1 := Lib.hid hb1
  clear hb1 hblk
  go_wp2
  refine bodyPost_ret (v := .tuple #[.agg #[.int .i64 0, .int .u32 0, .int .i64 0], .int .i64 2]) (by simp [results, Tryz.results56, go_sem, c0, c1, c2]) rfl ⟨rfl, ?_⟩
  exact ((((((Below.refl _ _).alloc (Nat.le_refl _) _).trans (Hb1.out.mono (by simp))).setCell (by simp) _).setCell (by simp) _).setCell (by simp) _)

theorem void_nil (k : Int) (w : World) : Calls Tryz.prog 101 #[.pointer none, .int .i64 k] w fun e w' => e = .returned (.int .i64 2) ∧ Below w.heap.size w w' := by
  go_enter Tryz.func101, Tryz.ntmps101
  go_wp2_with fail
  refine (pgHas_nil k _).mono ?_
  rintro e1 w1 ⟨rfl, hb1⟩
  go_wp2
  go_ret
  exact ⟨rfl, hb1⟩

theorem open_nil (k s : Int) (w : World) : Calls Tryz.prog 190 #[.pointer none, .int .i64 k, .int .u32 s] w fun e w' => e = .returned (.int .i64 2) ∧ Below w.heap.size w w' := by
  go_enter Tryz.func190, Tryz.ntmps190
  go_wp2_with fail
  refine (look_nil k _).mono ?_
  rintro e1 w1 ⟨rfl, hb1⟩
  go_wp2
  go_ret
  exact ⟨rfl, hb1.alloc hb1.size _⟩

end Go.Proofs.YtidbipbangifbaaGreatDoor
