/-
  DERIVED. GIVEN WITH THE SEED: THE CARDS: each row of YtidbipbangifbaaGreatDoorRows.lean that lists a variable, with what it lists TIED to the program's text (the seventh form; the later family's looks); each row that meets fmt, with fmt's text TOLD by the authors' own Lean function (tested against real Go, not proved from fmt's source: count such statements apart). THE CARD IS WHAT COUNTS. Prove the row's statement (the work); the ties are given (YtidbipbangifbaaGreatDoorTie.lean); close each card by the builder's one call (the guide's Derived/Test/ToyasCard.lean, 'card_holds'). Laid BY PROGRAM, IN A SANDBOX (cutbox-door.mjs). By AI agents, Wed Nov 11 2026. No macro, syntax, notation, axiom, sorry.
-/
import Derived.Test.YtidbipbangifbaaGreatDoorRows
import GoSem.ClaimSeven
namespace Go.Proofs.YtidbipbangifbaaGreatDoor
namespace Rows

/-- THE TIED CARD OF 'carpetbaglaw09.RmsPlays'. -/
def rmsPlaysCard : Claim7 := { stood := { row := rmsPlaysRow, standIns := [], harness := (true, "cce0bb0cc046affe6de902a29bda00a75cb720d92644622cf68116ba76c0fd1f"), looks := false }, kinds := [], alts := [], laidByText := true, laidKinds := [.data], laidTests := true, laidLooks := .later }
def RmsPlaysCardSaid : Prop := Claim7.holds Tryz.pinned (.plain (OpenSpec.ofChange rmsPlaysSpec)) rmsPlaysCard

/-- THE TIED CARD OF 'carpetbaglaw09.RmsCrash'. -/
def rmsCrashCard : Claim7 := { stood := { row := rmsCrashRow, standIns := [], harness := (true, "cce0bb0cc046affe6de902a29bda00a75cb720d92644622cf68116ba76c0fd1f"), looks := false }, kinds := [], alts := [], laidByText := true, laidKinds := [.data], laidTests := true, laidLooks := .later }
def RmsCrashCardSaid : Prop := Claim7.holds Tryz.pinned (.plain (OpenSpec.ofChange rmsCrashSpec)) rmsCrashCard

/-- THE TIED CARD OF 'carpetbaglaw09.RmsNames'. -/
def rmsNamesCard : Claim7 := { stood := { row := rmsNamesRow, standIns := [], harness := (true, "cce0bb0cc046affe6de902a29bda00a75cb720d92644622cf68116ba76c0fd1f"), looks := false }, kinds := [], alts := [], laidByText := true, laidKinds := [.data], laidTests := true, laidLooks := .later }
def RmsNamesCardSaid : Prop := Claim7.holds Tryz.pinned (.plain (OpenSpec.ofChange rmsNamesSpec)) rmsNamesCard

/-- THE SECOND FORM's CARD OF 'carpetbaglaw09.RmsPlays'. -/
def rmsPlaysUptoCard : Claim7 := { stood := { row := rmsPlaysUptoRow, standIns := [], harness := (true, "cce0bb0cc046affe6de902a29bda00a75cb720d92644622cf68116ba76c0fd1f"), looks := false }, kinds := [], alts := [], laidByText := true, laidKinds := [.data], laidTests := true, laidLooks := .later }
def RmsPlaysUptoCardSaid : Prop := Claim7.holds Tryz.pinned (.plain (OpenSpec.upto rmsPlaysSpec)) rmsPlaysUptoCard

/-- THE SECOND FORM's CARD OF 'carpetbaglaw09.RmsCrash'. -/
def rmsCrashUptoCard : Claim7 := { stood := { row := rmsCrashUptoRow, standIns := [], harness := (true, "cce0bb0cc046affe6de902a29bda00a75cb720d92644622cf68116ba76c0fd1f"), looks := false }, kinds := [], alts := [], laidByText := true, laidKinds := [.data], laidTests := true, laidLooks := .later }
def RmsCrashUptoCardSaid : Prop := Claim7.holds Tryz.pinned (.plain (OpenSpec.upto rmsCrashSpec)) rmsCrashUptoCard

/-- THE SECOND FORM's CARD OF 'carpetbaglaw09.RmsNames'. -/
def rmsNamesUptoCard : Claim7 := { stood := { row := rmsNamesUptoRow, standIns := [], harness := (true, "cce0bb0cc046affe6de902a29bda00a75cb720d92644622cf68116ba76c0fd1f"), looks := false }, kinds := [], alts := [], laidByText := true, laidKinds := [.data], laidTests := true, laidLooks := .later }
def RmsNamesUptoCardSaid : Prop := Claim7.holds Tryz.pinned (.plain (OpenSpec.upto rmsNamesSpec)) rmsNamesUptoCard
end Rows
end Go.Proofs.YtidbipbangifbaaGreatDoor
