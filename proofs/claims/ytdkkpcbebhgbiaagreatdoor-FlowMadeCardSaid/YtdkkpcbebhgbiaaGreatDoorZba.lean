/- The condition on the tables that flow's rows list, and what the walks take of it. -/
import Derived.Test.YtdkkpcbebhgbiaaGreatDoorZad
import Derived.Test.YtdkkpcbebhgbiaaGreatDoorZaz
import Derived.Test.YtdkkpcbebhgbiaaGreatDoorCards
import Derived.Test.YtdkkpcbebhgbiaaGreatDoorTie
import Derived.Lay
namespace Go.Proofs.YtdkkpcbebhgbiaaGreatDoor
set_option maxRecDepth 100000
open Go.ChangeShapes Go.WideShapes Go.ChangeAt Go.RowKit Go.Joins

/-- The variables that the rows list. -/
def laidD : List (String × DataW Unit) := [("unicode/utf8.acceptRanges", Rows.laid_unicode_utf8_acceptRanges), ("carpetbag/ops.spans", Rows.laid_carpetbag_ops_spans), ("unicode/utf8.first", Rows.laid_unicode_utf8_first)]
theorem gSpans : Tryz.prog.globalNamed "carpetbag/ops.spans" = some 0 := by kernel_rfl
theorem tSpansG : (Tryz.prog.globals[0]?).map (·.type) = some 232 := by kernel_rfl
/-- What the condition gives the walks: the table's cells. -/
theorem spans_of_laid {W : World} (h : laidMetH Tryz.prog laidD W) : Spans W := by
  rw [MakeChecks.laidMetH_plain _ _ _ (by kernel_rfl)] at h
  obtain ⟨ps, ⟨g0, t0, cs0, f0, p0, q0, hg0, ht0, hv0, hd0, ⟨g1, t1, cs1, f1, p1, q1, hg1, ht1, hv1, hd1, _, _⟩, _⟩, _⟩ := h
  obtain rfl := Option.some.inj (gSpans.symm.trans hg1)
  obtain rfl := Option.some.inj (tSpansG.symm.trans ht1)
  have e1 := (flat_of_trod 5 _ _ _ _ (by kernel_rfl) hd1).1
  have k1 : cs1 = spansA := by
    apply Array.toList_inj.1
    rw [e1]
    kernel_rfl
  subst k1
  exact var_block gSpans hv1

end Go.Proofs.YtdkkpcbebhgbiaaGreatDoor
