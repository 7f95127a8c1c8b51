/- The condition on the program's mark: what the list of variables says, that the start-up code lays it, and what the walks take of it. -/
import Derived.Test.YtidbipbangifbaaGreatDoorZaj
import Derived.Test.YtidbipbangifbaaGreatDoorCards
import Derived.Test.YtidbipbangifbaaGreatDoorTie
import Derived.ProofKit
import Derived.LaidMore
import Derived.OpenShut
import Derived.Stop.Joined
import Derived.SevenTiedAt
namespace Go.Proofs.YtidbipbangifbaaGreatDoor
set_option maxRecDepth 100000
open Go.ChangeShapes Go.WideShapes Go.ChangeAt Go.RowKit Go.Joins

/-- The one variable that the rows list. -/
def laidD {H : Type} : List (String × DataW H) := [("carpetbag/page.mark", Rows.laid_carpetbag_page_mark)]
theorem gMark : Tryz.prog.globalNamed "carpetbag/page.mark" = some 0 := by kernel_rfl
theorem tMark : (Tryz.prog.globals[0]?).map (·.type) = some 231 := by kernel_rfl
theorem cMark : Tryz.prog.cellsOf 231 = 2 := by kernel_rfl
theorem cU8 : Tryz.prog.cellsOf 5 = 1 := by kernel_rfl

/-- The start-up code's own heap meets the condition. -/
theorem door_met (os : Os) (args : Array Value) : laidMetH Tryz.prog laidD ((World.doorLaid Tryz.prog 14 os).forCall (fun _ _ => 0) ⟨#[], args, []⟩).memory :=
  laidMetH_of_parts3 (fuel := 8) (laidMet_of_run' 8 (by kernel_rfl) (by kernel_rfl)) (by kernel_rfl) (by kernel_rfl)

/-- What the condition gives the walks: the mark's two bytes. -/
theorem mark_of_laid {W : World} (h : laidMetH Tryz.prog laidD W) : Mark W := by
  rw [MakeChecks.laidMetH_plain _ _ _ (by kernel_rfl)] at h
  obtain ⟨ps, ⟨g0, t0, cs0, f0, p0, q0, hg0, ht0, hv0, hd0, _, _⟩, _⟩ := h
  obtain rfl := Option.some.inj (gMark.symm.trans hg0)
  obtain rfl := Option.some.inj (tMark.symm.trans ht0)
  obtain ⟨xs, m1, rfl, hx1, hlen, hn3, hel⟩ := DataW.trod_array Tryz.underlying231 hd0
  have h0 := hel 0 (by decide)
  have h1 := hel 1 (by decide)
  simp only [Rows.laid_carpetbag_page_mark, Prod.mk.injEq, DataW.agg.injEq] at hx1
  match xs, hn3, hx1, h0, h1 with
  | [x0, x1], _, hx1, h0, h1 =>
    simp only [List.map_cons, List.map_nil, List.cons.injEq] at hx1
    obtain ⟨k0, e0, d0, _⟩ := DataW.trod_int Tryz.underlying5 (show DataW.trod _ Tryz.prog W 0 _ false m1 5 _ = some x0 from h0)
    obtain ⟨k1, e1, d1, _⟩ := DataW.trod_int Tryz.underlying5 (show DataW.trod _ Tryz.prog W 0 _ false m1 5 _ = some x1 from h1)
    have hk0 : k0 = 67 := by rw [d0] at hx1; simpa using hx1.1.1.symm
    have hk1 : k1 = 66 := by rw [d1] at hx1; simpa using hx1.1.2.1.symm
    subst hk0 hk1
    have w0 := World.var?_cell hg0 hv0 0
    have w1 := World.var?_cell hg0 hv0 1
    obtain ⟨l⟩ := cs0
    rw [cU8] at e0 e1
    rw [cMark] at hlen
    match l, hlen, e0, e1 with
    | [c0, c1], _, e0, e1 =>
      simp at e0 e1
      subst e0 e1
      exact ⟨by simpa using w0, by simpa using w1⟩

end Go.Proofs.YtidbipbangifbaaGreatDoor
