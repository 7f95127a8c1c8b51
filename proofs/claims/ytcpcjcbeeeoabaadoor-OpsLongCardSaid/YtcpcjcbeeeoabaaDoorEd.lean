/- The walks over ops.forms.size, ops.Form, ops.Len and the document's Len. -/
import Derived.Test.YtcpcjcbeeeoabaaDoorEc
namespace Go.Proofs.YtcpcjcbeeeoabaaDoor
set_option maxRecDepth 100000
open Go.RowKit

theorem refForm_any (x : Nat) (hx : x < 256) (w : World) : Calls Tryd.prog 9 #[.int .u8 (x : Int)] w fun e w' => e = .returned (.int .i64 (formN x : Int)) ∧ w = w' := by
  by_cases h : x ≤ 8
  · exact refForm_small x h w
  · exact refForm_great x hx (by omega) w

/-- A form's length. -/
def lenF (f : Nat) : Nat := if f = 0 then 0 else 1 + (shapeF f).1 + (shapeF f).2.2.1
/-- How many bytes an operation has. -/
def lenN (x : Nat) : Nat := lenF (formN x)
theorem lenF_le (f : Nat) (h : f ≤ 9) : lenF f ≤ 3 := by
  rcases (by omega : f = 0 ∨ f = 1 ∨ f = 2 ∨ f = 3 ∨ f = 4 ∨ f = 5 ∨ f = 6 ∨ f = 7 ∨ f = 8 ∨ f = 9) with rfl | rfl | rfl | rfl | rfl | rfl | rfl | rfl | rfl | rfl <;> decide
theorem lenN_le (x : Nat) : lenN x ≤ 3 := lenF_le _ (formN_le x)
theorem shapeF_le (f : Nat) (h : f ≤ 9) : (shapeF f).1 ≤ 2 ∧ (shapeF f).2.2.1 ≤ 1 := by
  rcases (by omega : f = 0 ∨ f = 1 ∨ f = 2 ∨ f = 3 ∨ f = 4 ∨ f = 5 ∨ f = 6 ∨ f = 7 ∨ f = 8 ∨ f = 9) with rfl | rfl | rfl | rfl | rfl | rfl | rfl | rfl | rfl | rfl <;> decide

set_option maxHeartbeats 1000000 in
theorem refLen_any (x : Nat) (hx : x < 256) (w : World) : Calls Tryd.prog 11 #[.int .u8 (x : Int)] w fun e w' => e = .returned (.int .i64 (lenN x : Int)) ∧ w = w' := by
  have hc := fun w => refForm_any x hx w
  have hl : lenN x = lenF (formN x) := rfl
  have hf := formN_le x
  rw [hl]
  clear hl
  generalize formN x = f at hc hf ⊢
  rcases (by omega : f = 0 ∨ f = 1 ∨ f = 2 ∨ f = 3 ∨ f = 4 ∨ f = 5 ∨ f = 6 ∨ f = 7 ∨ f = 8 ∨ f = 9) with rfl | rfl | rfl | rfl | rfl | rfl | rfl | rfl | rfl | rfl
  all_goals
    clear hf
    have HC := Lib.hid hc
    clear hc
    go_enter Tryd.func11, Tryd.ntmps11
    go_wp2_with fail
    refine (HC.out _).mono ?_
    rintro e1 w1 ⟨rfl, rfl⟩
    go_wp2
    go_ret
    exact ⟨rfl, rfl⟩

set_option maxHeartbeats 1000000 in
theorem size_any (g x : Nat) (hx : x < 256) (w : World) (hT : Tables w) (hF : FormsAt w g) :
    Calls Tryd.prog 18 #[.pointer (some ⟨g, 0, none⟩), .int .u8 (x : Int)] w fun e w' => e = .returned (.int .i64 (lenN x : Int)) ∧ Below w.heap.size w w' := by
  have hc := hF.cell x hx
  have hf := formN_le x
  have hl : Hid (lenN x = lenF (formN x)) := Lib.hid rfl
  obtain ⟨s0, s1, s2, s3⟩ := hT.shape (formN x) hf
  obtain ⟨z1, z2⟩ := shapeF_le (formN x) hf
  have hp := hT.pos
  clear hT hF
  by_cases h0 : formN x = 0
  · rw [h0] at hc
    have hl2 : Hid (lenN x = 0) := Lib.hid (by rw [hl.out, h0]; rfl)
    clear s0 s1 s2 s3 z1 z2 h0 hf hl
    go_enter Tryd.func18, Tryd.ntmps18
    go_wp2
    go_ret
    exact ⟨by rw [hl2.out]; rfl, Below.refl _ _⟩
  · have hl2 : Hid (lenN x = 1 + (shapeF (formN x)).1 + (shapeF (formN x)).2.2.1) := Lib.hid (by rw [hl.out]; unfold lenF; rw [if_neg h0])
    clear hl
    generalize formN x = f at *
    generalize (shapeF f).1 = a at *
    generalize (shapeF f).2.1 = b at *
    generalize (shapeF f).2.2.1 = c at *
    generalize (shapeF f).2.2.2 = d at *
    have hne : ((f : Int) == 0) = false := by simp; omega
    go_enter Tryd.func18, Tryd.ntmps18
    go_wp2
    trace_state
    go_ret
    exact ⟨by rw [hl2.out]; go_num, (Below.refl _ _).alloc (Nat.le_refl _) _⟩

end Go.Proofs.YtcpcjcbeeeoabaaDoor
