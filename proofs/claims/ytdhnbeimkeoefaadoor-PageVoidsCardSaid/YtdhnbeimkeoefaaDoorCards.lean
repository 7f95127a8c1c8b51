/-
  DERIVED. GIVEN WITH THE SEED: THE CARDS: each row of YtdhnbeimkeoefaaDoorRows.lean that lists a variable, with what it lists TIED to the program's text (the seventh form; the later family's looks); each row that meets fmt, with fmt's text TOLD by the authors' own Lean function (tested against real Go, not proved from fmt's source: count such statements apart). THE CARD IS WHAT COUNTS. Prove the row's statement (the work); the ties are given (YtdhnbeimkeoefaaDoorTie.lean); close each card by the builder's one call (the guide's Derived/Test/ToyasCard.lean, 'card_holds'). Laid BY PROGRAM, IN A SANDBOX (cutbox-door.mjs). By AI agents, Wed Nov 11 2026. No macro, syntax, notation, axiom, sorry.
-/
import Derived.Test.YtdhnbeimkeoefaaDoorRows
import GoSem.ClaimSeven
namespace Go.Proofs.YtdhnbeimkeoefaaDoor
namespace Rows

/-- THE TIED CARD OF 'carpetbaglaw04.PageHeads'. -/
def pageHeadsCard : Claim7 := { stood := { row := pageHeadsRow, standIns := [], harness := (true, "802705dea5cb6dbb74494faf339d1354652f7574375d23bb3a0875587b3ee1f7"), looks := false }, kinds := [], alts := [], laidByText := true, laidKinds := [.data], laidTests := true, laidLooks := .later }
def PageHeadsCardSaid : Prop := Claim7.holds Tryd.pinned (.plain (OpenSpec.ofChange pageHeadsSpec)) pageHeadsCard

/-- THE TIED CARD OF 'carpetbaglaw04.PageVoids'. -/
def pageVoidsCard : Claim7 := { stood := { row := pageVoidsRow, standIns := [], harness := (true, "802705dea5cb6dbb74494faf339d1354652f7574375d23bb3a0875587b3ee1f7"), looks := false }, kinds := [], alts := [], laidByText := true, laidKinds := [.data], laidTests := true, laidLooks := .later }
def PageVoidsCardSaid : Prop := Claim7.holds Tryd.pinned (.plain (OpenSpec.ofChange pageVoidsSpec)) pageVoidsCard

/-- THE TIED CARD OF 'carpetbaglaw04.PageNil'. -/
def pageNilCard : Claim7 := { stood := { row := pageNilRow, standIns := [], harness := (true, "802705dea5cb6dbb74494faf339d1354652f7574375d23bb3a0875587b3ee1f7"), looks := false }, kinds := [], alts := [], laidByText := true, laidKinds := [.data], laidTests := true, laidLooks := .later }
def PageNilCardSaid : Prop := Claim7.holds Tryd.pinned (.plain (OpenSpec.ofChange pageNilSpec)) pageNilCard

/-- THE SECOND FORM's CARD OF 'carpetbaglaw04.PageHeads'. -/
def pageHeadsUptoCard : Claim7 := { stood := { row := pageHeadsUptoRow, standIns := [], harness := (true, "802705dea5cb6dbb74494faf339d1354652f7574375d23bb3a0875587b3ee1f7"), looks := false }, kinds := [], alts := [], laidByText := true, laidKinds := [.data], laidTests := true, laidLooks := .later }
def PageHeadsUptoCardSaid : Prop := Claim7.holds Tryd.pinned (.plain (OpenSpec.upto pageHeadsSpec)) pageHeadsUptoCard

/-- THE SECOND FORM's CARD OF 'carpetbaglaw04.PageVoids'. -/
def pageVoidsUptoCard : Claim7 := { stood := { row := pageVoidsUptoRow, standIns := [], harness := (true, "802705dea5cb6dbb74494faf339d1354652f7574375d23bb3a0875587b3ee1f7"), looks := false }, kinds := [], alts := [], laidByText := true, laidKinds := [.data], laidTests := true, laidLooks := .later }
def PageVoidsUptoCardSaid : Prop := Claim7.holds Tryd.pinned (.plain (OpenSpec.upto pageVoidsSpec)) pageVoidsUptoCard

/-- THE SECOND FORM's CARD OF 'carpetbaglaw04.PageNil'. -/
def pageNilUptoCard : Claim7 := { stood := { row := pageNilUptoRow, standIns := [], harness := (true, "802705dea5cb6dbb74494faf339d1354652f7574375d23bb3a0875587b3ee1f7"), looks := false }, kinds := [], alts := [], laidByText := true, laidKinds := [.data], laidTests := true, laidLooks := .later }
def PageNilUptoCardSaid : Prop := Claim7.holds Tryd.pinned (.plain (OpenSpec.upto pageNilSpec)) pageNilUptoCard
end Rows
end Go.Proofs.YtdhnbeimkeoefaaDoor
