/- The document's Form and Len; the program's. -/
import Derived.Test.YtcpcjcbeeeoabaaDoorEb
namespace Go.Proofs.YtcpcjcbeeeoabaaDoor
set_option maxRecDepth 100000
open Go.RowKit

/-- A byte that has a form is one of these. -/
theorem formN_no (x : Nat) (h : ¬ ((x ≤ 10) ∨ (16 ≤ x ∧ x ≤ 18) ∨ (20 ≤ x ∧ x ≤ 22) ∨ x = 25 ∨ x = 46 ∨ x = 50 ∨ x = 51 ∨ x = 54 ∨ x = 55 ∨ x = 58 ∨ x = 79 ∨ x = 83 ∨ x = 84 ∨ x = 87 ∨ x = 89 ∨ (95 ≤ x ∧ x ≤ 97) ∨ x = 100 ∨ x = 101 ∨ x = 104 ∨ x = 105 ∨ x = 108 ∨ x = 109 ∨ x = 112 ∨ x = 113 ∨ x = 116 ∨ x = 117 ∨
    (120 ≤ x ∧ x ≤ 133) ∨ x = 136 ∨ x = 145 ∨ x = 148 ∨ (153 ≤ x ∧ x ≤ 167) ∨ x = 172 ∨ x = 173 ∨ (176 ≤ x ∧ x ≤ 182) ∨ x = 184 ∨ (187 ≤ x ∧ x ≤ 193) ∨ x = 198 ∨ x = 199)) : formN x = 0 := by
  by_cases hx : x < 256
  · have hall : ((List.range 256).all fun x => decide (((x ≤ 10) ∨ (16 ≤ x ∧ x ≤ 18) ∨ (20 ≤ x ∧ x ≤ 22) ∨ x = 25 ∨ x = 46 ∨ x = 50 ∨ x = 51 ∨ x = 54 ∨ x = 55 ∨ x = 58 ∨ x = 79 ∨ x = 83 ∨ x = 84 ∨ x = 87 ∨ x = 89 ∨ (95 ≤ x ∧ x ≤ 97) ∨ x = 100 ∨ x = 101 ∨ x = 104 ∨ x = 105 ∨ x = 108 ∨ x = 109 ∨ x = 112 ∨ x = 113 ∨ x = 116 ∨ x = 117 ∨
        (120 ≤ x ∧ x ≤ 133) ∨ x = 136 ∨ x = 145 ∨ x = 148 ∨ (153 ≤ x ∧ x ≤ 167) ∨ x = 172 ∨ x = 173 ∨ (176 ≤ x ∧ x ≤ 182) ∨ x = 184 ∨ (187 ≤ x ∧ x ≤ 193) ∨ x = 198 ∨ x = 199) ∨ formN x = 0)) = true := by kernel_rfl
    exact (of_decide_eq_true (List.all_eq_true.1 hall x (List.mem_range.2 hx))).resolve_left h
  · have hn : formsL[x]? = none := List.getElem?_eq_none (by rw [formsL_len]; omega)
    unfold formN
    simp [List.getD, hn]

def FormIs (x : Nat) (e : Ending) : Prop := e = .returned (.int .i64 (formN x : Int))
theorem formIs {x : Nat} {n : Int} (h : (formN x : Int) = n) : FormIs x (.returned (.int .i64 n)) := by unfold FormIs; rw [h]

theorem formAt {x : Nat} {k n : Int} (h : ((x : Int) == k) = true) (hf : (formN k.toNat : Int) = n) : (formN x : Int) = n := by
  have e := beq_iff_eq.1 h
  subst e
  rwa [Int.toNat_natCast] at hf

set_option maxHeartbeats 40000000 in
theorem refForm_small (x : Nat) (hx : x ≤ 8) (w : World) : Calls Tryd.prog 9 #[.int .u8 (x : Int)] w fun e w' => FormIs x e ∧ w = w' := by
  rcases (by omega : x = 0 ∨ x = 1 ∨ x = 2 ∨ x = 3 ∨ x = 4 ∨ x = 5 ∨ x = 6 ∨ x = 7 ∨ x = 8) with rfl | rfl | rfl | rfl | rfl | rfl | rfl | rfl | rfl
  all_goals
    go_enter Tryd.func9, Tryd.ntmps9
    go_wp2
    go_ret
    exact ⟨formIs (by kernel_rfl), rfl⟩

set_option maxHeartbeats 40000000 in
theorem refForm_great (x : Nat) (hx : x < 256) (h9 : 9 ≤ x) (w : World) : Calls Tryd.prog 9 #[.int .u8 (x : Int)] w fun e w' => FormIs x e ∧ w = w' := by
  have d1 : decide (2 ≤ (x : Int)) = true := by simp; omega
  have d2 : decide ((x : Int) ≤ 8) = false := by simp; omega
  go_enter Tryd.func9, Tryd.ntmps9
  go_wp2
  all_goals go_ret
  all_goals refine ⟨formIs ?_, rfl⟩
  all_goals first
    | exact formAt (by assumption) (by kernel_rfl)
    | (rw [formN_no]; rfl; simp only [beq_eq_false_iff_ne, ne_eq] at *; omega)

end Go.Proofs.YtcpcjcbeeeoabaaDoor
