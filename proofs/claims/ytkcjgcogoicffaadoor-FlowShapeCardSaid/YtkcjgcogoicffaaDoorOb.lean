/- Layer 13's table of spans as plain data; each byte's form; how the table lies in memory. -/
import Derived.Test.YtkcjgcogoicffaaDoorBy
import Derived.Outline
import Derived.Laws.Rows
namespace Go.Proofs.YtkcjgcogoicffaaDoor
open Go.RowKit

/-- The spans: first, last, form. -/
def spanL : List (Nat × Nat × Nat) := [(0, 10, 1), (16, 16, 3), (17, 17, 4), (18, 18, 5), (20, 20, 6), (21, 22, 2), (25, 25, 2), (46, 46, 1), (50, 51, 1), (54, 55, 2), (58, 58, 2), (79, 79, 1), (83, 84, 1), (87, 87, 1), (89, 89, 1), (95, 97, 1), (100, 101, 1), (104, 105, 1), (108, 109, 1), (112, 113, 1), (116, 117, 1), (120, 131, 1), (132, 132, 8), (133, 133, 1), (136, 136, 1), (145, 145, 1), (148, 148, 1), (153, 167, 7), (172, 173, 1), (176, 177, 1), (178, 182, 6), (184, 184, 6), (187, 187, 6), (188, 188, 9), (189, 189, 6), (190, 191, 1), (192, 193, 6), (198, 199, 7)]
def spansA : Array Value := (spanL.flatMap fun s => [.int .u8 (s.1 : Int), .int .u8 (s.2.1 : Int), .int .u8 (s.2.2 : Int)]).toArray
def spanV (k : Nat) : Value := .agg #[.int .u8 ((spanL.getD k (0, 0, 0)).1 : Int), .int .u8 ((spanL.getD k (0, 0, 0)).2.1 : Int), .int .u8 ((spanL.getD k (0, 0, 0)).2.2 : Int)]
/-- The shapes: A's size, whether it has a sign, B's. -/
def shapeL : List (Nat × Bool × Nat × Bool) := [(0, false, 0, false), (0, false, 0, false), (1, false, 0, false), (1, true, 0, false), (2, true, 0, false), (1, false, 0, false), (2, false, 0, false), (2, true, 0, false), (1, false, 1, true), (1, false, 0, false)]
def shapesA : Array Value := (shapeL.flatMap fun s => [.int .i64 (s.1 : Int), .bool s.2.1, .int .i64 (s.2.2.1 : Int), .bool s.2.2.2]).toArray
def shapeF (f : Nat) : Nat × Bool × Nat × Bool := shapeL.getD f (0, false, 0, false)

/-- So many of a span's operations laid. -/
def fillS (T : List UInt8) (a c : Nat) : Nat → List UInt8
  | 0 => T
  | i + 1 => (fillS T a c i).set (a + i) (UInt8.ofNat c)
/-- So many spans laid. -/
def fillL : Nat → List UInt8
  | 0 => List.replicate 256 0
  | k + 1 => fillS (fillL k) (spanL.getD k (0, 0, 0)).1 (spanL.getD k (0, 0, 0)).2.2 ((spanL.getD k (0, 0, 0)).2.1 - (spanL.getD k (0, 0, 0)).1 + 1)
def formsL : List UInt8 := fillL 38
/-- A byte's form. -/
def formN (x : Nat) : Nat := (formsL.getD x 0).toNat

theorem fillS_len (T : List UInt8) (a c : Nat) : ∀ i, (fillS T a c i).length = T.length
  | 0 => rfl
  | i + 1 => by simp [fillS, fillS_len T a c i]
theorem fillL_len : ∀ k, (fillL k).length = 256
  | 0 => List.length_replicate
  | k + 1 => by simp [fillL, fillS_len, fillL_len k]
theorem formsL_len : formsL.length = 256 := fillL_len 38
theorem formsL_get (x : Nat) (h : x < 256) : formsL[x]? = some (UInt8.ofNat (formN x)) := by
  have hl : x < formsL.length := by rw [formsL_len]; exact h
  rw [List.getElem?_eq_getElem hl]
  congr 1
  unfold formN
  simp [List.getD, hl]
/-- No form is greater than 9. -/
theorem formN_le (x : Nat) : formN x ≤ 9 := by
  by_cases h : x < 256
  · have hall : ((List.range 256).all fun x => decide (formN x ≤ 9)) = true := by kernel_rfl
    exact of_decide_eq_true (List.all_eq_true.1 hall x (List.mem_range.2 h))
  · have hn : formsL[x]? = none := List.getElem?_eq_none (by rw [formsL_len]; omega)
    unfold formN
    simp [List.getD, hn]
theorem span_bd (k : Nat) (h : k < 38) : (spanL.getD k (0, 0, 0)).1 ≤ (spanL.getD k (0, 0, 0)).2.1 ∧ (spanL.getD k (0, 0, 0)).2.1 < 200 ∧ (spanL.getD k (0, 0, 0)).2.2 ≤ 9 := by
  have hall : ((List.range 38).all fun k => decide ((spanL.getD k (0, 0, 0)).1 ≤ (spanL.getD k (0, 0, 0)).2.1 ∧ (spanL.getD k (0, 0, 0)).2.1 < 200 ∧ (spanL.getD k (0, 0, 0)).2.2 ≤ 9)) = true := by kernel_rfl
  exact of_decide_eq_true (List.all_eq_true.1 hall k (List.mem_range.2 h))

set_option maxRecDepth 100000 in
theorem span_index : ∀ k : Nat, k < 38 → ∀ w, (Instr.index 97 (.agg spansA) (.int .i64 (k : Int))).run Tryd.prog w = .ok (spanV k) w
  | 0, _, _ => by kernel_rfl
  | 1, _, _ => by kernel_rfl
  | 2, _, _ => by kernel_rfl
  | 3, _, _ => by kernel_rfl
  | 4, _, _ => by kernel_rfl
  | 5, _, _ => by kernel_rfl
  | 6, _, _ => by kernel_rfl
  | 7, _, _ => by kernel_rfl
  | 8, _, _ => by kernel_rfl
  | 9, _, _ => by kernel_rfl
  | 10, _, _ => by kernel_rfl
  | 11, _, _ => by kernel_rfl
  | 12, _, _ => by kernel_rfl
  | 13, _, _ => by kernel_rfl
  | 14, _, _ => by kernel_rfl
  | 15, _, _ => by kernel_rfl
  | 16, _, _ => by kernel_rfl
  | 17, _, _ => by kernel_rfl
  | 18, _, _ => by kernel_rfl
  | 19, _, _ => by kernel_rfl
  | 20, _, _ => by kernel_rfl
  | 21, _, _ => by kernel_rfl
  | 22, _, _ => by kernel_rfl
  | 23, _, _ => by kernel_rfl
  | 24, _, _ => by kernel_rfl
  | 25, _, _ => by kernel_rfl
  | 26, _, _ => by kernel_rfl
  | 27, _, _ => by kernel_rfl
  | 28, _, _ => by kernel_rfl
  | 29, _, _ => by kernel_rfl
  | 30, _, _ => by kernel_rfl
  | 31, _, _ => by kernel_rfl
  | 32, _, _ => by kernel_rfl
  | 33, _, _ => by kernel_rfl
  | 34, _, _ => by kernel_rfl
  | 35, _, _ => by kernel_rfl
  | 36, _, _ => by kernel_rfl
  | 37, _, _ => by kernel_rfl
  | k + 38, h, _ => absurd h (by omega)

/-- The program's table of spans lies as it was laid. -/
def Spans (w : World) : Prop := ∃ t fr, w.heap[0]? = some (.cells spansA t fr)
theorem Spans.lt {w : World} (h : Spans w) : 0 < w.heap.size := by
  obtain ⟨t, fr, e⟩ := h
  exact (Array.getElem?_eq_some_iff.1 e).1
theorem Spans.below {w w' : World} (h : Spans w) (k : Below w.heap.size w w') : Spans w' := by
  obtain ⟨t, fr, e⟩ := h
  exact ⟨t, fr, (k.block _ (Array.getElem?_eq_some_iff.1 e).1).trans e⟩

/-- The forms of all bytes lie in block g. -/
def FormsAt (w : World) (g : Nat) : Prop := Blk w g 79 (cellsB formsL)
theorem FormsAt.cell {w : World} {g : Nat} (h : FormsAt w g) (x : Nat) (hx : x < 256) : w.cell? ⟨g, x, none⟩ = some (.int .u8 (formN x : Int)) := by
  rw [Blk.cell h, cellsB_get, formsL_get x hx]
  have := formN_le x
  show some (B8 _) = _
  unfold B8
  congr 2
  rw [UInt8.toNat_ofNat']
  omega

end Go.Proofs.YtkcjgcogoicffaaDoor
