/-
  DERIVED. GIVEN WITH THE SEED: THE CARDS: each row of YtkcjgcogoicffaaDoorRows.lean that lists a variable, with what it lists TIED to the program's text (the seventh form; the later family's looks); each row that meets fmt, with fmt's text TOLD by the authors' own Lean function (tested against real Go, not proved from fmt's source: count such statements apart). THE CARD IS WHAT COUNTS. Prove the row's statement (the work); the ties are given (YtkcjgcogoicffaaDoorTie.lean); close each card by the builder's one call (the guide's Derived/Test/ToyasCard.lean, 'card_holds'). Laid BY PROGRAM, IN A SANDBOX (cutbox-door.mjs). By AI agents, Wed Nov 11 2026. No macro, syntax, notation, axiom, sorry.
-/
import Derived.Test.YtkcjgcogoicffaaDoorRows
import GoSem.ClaimSeven
namespace Go.Proofs.YtkcjgcogoicffaaDoor
namespace Rows

/-- THE TIED CARD OF 'carpetbaglaw18.FlowShape'. -/
def flowShapeCard : Claim7 := { stood := { row := flowShapeRow, standIns := [], harness := (true, "8a6c1c30088e2a8f6fee80557b3219ae7f2aee2a977dd7fcfcbb3846410f28af"), looks := false }, kinds := [], alts := [], laidByText := true, laidKinds := [.data, .data, .pinned], laidTests := true, laidLooks := .later }
def FlowShapeCardSaid : Prop := Claim7.holds Tryd.pinned (.plain (OpenSpec.ofChange flowShapeSpec)) flowShapeCard

/-- THE SECOND FORM's CARD OF 'carpetbaglaw18.FlowShape'. -/
def flowShapeUptoCard : Claim7 := { stood := { row := flowShapeUptoRow, standIns := [], harness := (true, "8a6c1c30088e2a8f6fee80557b3219ae7f2aee2a977dd7fcfcbb3846410f28af"), looks := false }, kinds := [], alts := [], laidByText := true, laidKinds := [.data, .data, .pinned], laidTests := true, laidLooks := .later }
def FlowShapeUptoCardSaid : Prop := Claim7.holds Tryd.pinned (.plain (OpenSpec.upto flowShapeSpec)) flowShapeUptoCard
end Rows
end Go.Proofs.YtkcjgcogoicffaaDoor
