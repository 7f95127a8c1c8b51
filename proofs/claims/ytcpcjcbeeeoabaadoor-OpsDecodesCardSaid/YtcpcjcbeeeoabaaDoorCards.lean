/-
  DERIVED. GIVEN WITH THE SEED: THE CARDS: each row of YtcpcjcbeeeoabaaDoorRows.lean that lists a variable, with what it lists TIED to the program's text (the seventh form; the later family's looks); each row that meets fmt, with fmt's text TOLD by the authors' own Lean function (tested against real Go, not proved from fmt's source: count such statements apart). THE CARD IS WHAT COUNTS. Prove the row's statement (the work); the ties are given (YtcpcjcbeeeoabaaDoorTie.lean); close each card by the builder's one call (the guide's Derived/Test/ToyasCard.lean, 'card_holds'). Laid BY PROGRAM, IN A SANDBOX (cutbox-door.mjs). By AI agents, Wed Nov 11 2026. No macro, syntax, notation, axiom, sorry.
-/
import Derived.Test.YtcpcjcbeeeoabaaDoorRows
import GoSem.ClaimSeven
namespace Go.Proofs.YtcpcjcbeeeoabaaDoor
namespace Rows

/-- THE TIED CARD OF 'carpetbaglaw13.OpsForms'. -/
def opsFormsCard : Claim7 := { stood := { row := opsFormsRow, standIns := [], harness := (true, "e7b4d53b0482dff443e26c595be672d7ad09a69cb46fd460eb76fe73e57ebb6f"), looks := false }, kinds := [], alts := [], laidByText := true, laidKinds := [.data, .data], laidTests := true, laidLooks := .later }
def OpsFormsCardSaid : Prop := Claim7.holds Tryd.pinned (.plain (OpenSpec.ofChange opsFormsSpec)) opsFormsCard

/-- THE TIED CARD OF 'carpetbaglaw13.OpsDecodes'. -/
def opsDecodesCard : Claim7 := { stood := { row := opsDecodesRow, standIns := [], harness := (true, "e7b4d53b0482dff443e26c595be672d7ad09a69cb46fd460eb76fe73e57ebb6f"), looks := false }, kinds := [], alts := [], laidByText := true, laidKinds := [.data, .data], laidTests := true, laidLooks := .later }
def OpsDecodesCardSaid : Prop := Claim7.holds Tryd.pinned (.plain (OpenSpec.ofChange opsDecodesSpec)) opsDecodesCard

/-- THE TIED CARD OF 'carpetbaglaw13.OpsEncodes'. -/
def opsEncodesCard : Claim7 := { stood := { row := opsEncodesRow, standIns := [], harness := (true, "e7b4d53b0482dff443e26c595be672d7ad09a69cb46fd460eb76fe73e57ebb6f"), looks := false }, kinds := [], alts := [], laidByText := true, laidKinds := [.data, .data], laidTests := true, laidLooks := .later }
def OpsEncodesCardSaid : Prop := Claim7.holds Tryd.pinned (.plain (OpenSpec.ofChange opsEncodesSpec)) opsEncodesCard

/-- THE TIED CARD OF 'carpetbaglaw13.OpsLong'. -/
def opsLongCard : Claim7 := { stood := { row := opsLongRow, standIns := [], harness := (true, "e7b4d53b0482dff443e26c595be672d7ad09a69cb46fd460eb76fe73e57ebb6f"), looks := false }, kinds := [], alts := [], laidByText := true, laidKinds := [.data, .data], laidTests := true, laidLooks := .later }
def OpsLongCardSaid : Prop := Claim7.holds Tryd.pinned (.plain (OpenSpec.ofChange opsLongSpec)) opsLongCard

/-- THE SECOND FORM's CARD OF 'carpetbaglaw13.OpsForms'. -/
def opsFormsUptoCard : Claim7 := { stood := { row := opsFormsUptoRow, standIns := [], harness := (true, "e7b4d53b0482dff443e26c595be672d7ad09a69cb46fd460eb76fe73e57ebb6f"), looks := false }, kinds := [], alts := [], laidByText := true, laidKinds := [.data, .data], laidTests := true, laidLooks := .later }
def OpsFormsUptoCardSaid : Prop := Claim7.holds Tryd.pinned (.plain (OpenSpec.upto opsFormsSpec)) opsFormsUptoCard

/-- THE SECOND FORM's CARD OF 'carpetbaglaw13.OpsDecodes'. -/
def opsDecodesUptoCard : Claim7 := { stood := { row := opsDecodesUptoRow, standIns := [], harness := (true, "e7b4d53b0482dff443e26c595be672d7ad09a69cb46fd460eb76fe73e57ebb6f"), looks := false }, kinds := [], alts := [], laidByText := true, laidKinds := [.data, .data], laidTests := true, laidLooks := .later }
def OpsDecodesUptoCardSaid : Prop := Claim7.holds Tryd.pinned (.plain (OpenSpec.upto opsDecodesSpec)) opsDecodesUptoCard

/-- THE SECOND FORM's CARD OF 'carpetbaglaw13.OpsEncodes'. -/
def opsEncodesUptoCard : Claim7 := { stood := { row := opsEncodesUptoRow, standIns := [], harness := (true, "e7b4d53b0482dff443e26c595be672d7ad09a69cb46fd460eb76fe73e57ebb6f"), looks := false }, kinds := [], alts := [], laidByText := true, laidKinds := [.data, .data], laidTests := true, laidLooks := .later }
def OpsEncodesUptoCardSaid : Prop := Claim7.holds Tryd.pinned (.plain (OpenSpec.upto opsEncodesSpec)) opsEncodesUptoCard

/-- THE SECOND FORM's CARD OF 'carpetbaglaw13.OpsLong'. -/
def opsLongUptoCard : Claim7 := { stood := { row := opsLongUptoRow, standIns := [], harness := (true, "e7b4d53b0482dff443e26c595be672d7ad09a69cb46fd460eb76fe73e57ebb6f"), looks := false }, kinds := [], alts := [], laidByText := true, laidKinds := [.data, .data], laidTests := true, laidLooks := .later }
def OpsLongUptoCardSaid : Prop := Claim7.holds Tryd.pinned (.plain (OpenSpec.upto opsLongSpec)) opsLongUptoCard
end Rows
end Go.Proofs.YtcpcjcbeeeoabaaDoor
