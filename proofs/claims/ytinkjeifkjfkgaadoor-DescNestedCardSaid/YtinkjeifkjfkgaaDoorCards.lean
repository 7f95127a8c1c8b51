/-
  DERIVED. GIVEN WITH THE SEED: THE CARDS: each row of YtinkjeifkjfkgaaDoorRows.lean that lists a variable, with what it lists TIED to the program's text (the seventh form; the later family's looks); each row that meets fmt, with fmt's text TOLD by the authors' own Lean function (tested against real Go, not proved from fmt's source: count such statements apart). THE CARD IS WHAT COUNTS. Prove the row's statement (the work); the ties are given (YtinkjeifkjfkgaaDoorTie.lean); close each card by the builder's one call (the guide's Derived/Test/ToyasCard.lean, 'card_holds'). Laid BY PROGRAM, IN A SANDBOX (cutbox-door.mjs). By AI agents, Wed Nov 11 2026. No macro, syntax, notation, axiom, sorry.
-/
import Derived.Test.YtinkjeifkjfkgaaDoorRows
import GoSem.ClaimSeven
namespace Go.Proofs.YtinkjeifkjfkgaaDoor
namespace Rows

/-- THE TIED CARD OF 'carpetbaglaw12.DescTells'. -/
def descTellsCard : Claim7 := { stood := { row := descTellsRow, standIns := [], harness := (true, "7bec58b2efeb2c420a001defcade40a65e4d5a03d1acd0e6ad0d1ec61b01f7a5"), looks := false }, kinds := [], alts := [], laidByText := true, laidKinds := [.data, .pinned], laidTests := true, laidLooks := .later }
def DescTellsCardSaid : Prop := Claim7.holds Tryd.pinned (.plain (OpenSpec.ofChange descTellsSpec)) descTellsCard

/-- THE TIED CARD OF 'carpetbaglaw12.DescPrints'. -/
def descPrintsCard : Claim7 := { stood := { row := descPrintsRow, standIns := [], harness := (true, "7bec58b2efeb2c420a001defcade40a65e4d5a03d1acd0e6ad0d1ec61b01f7a5"), looks := false }, kinds := [], alts := [], laidByText := true, laidKinds := [.data, .pinned], laidTests := true, laidLooks := .later }
def DescPrintsCardSaid : Prop := Claim7.holds Tryd.pinned (.plain (OpenSpec.ofChange descPrintsSpec)) descPrintsCard

/-- THE TIED CARD OF 'carpetbaglaw12.DescNested'. -/
def descNestedCard : Claim7 := { stood := { row := descNestedRow, standIns := [], harness := (true, "7bec58b2efeb2c420a001defcade40a65e4d5a03d1acd0e6ad0d1ec61b01f7a5"), looks := false }, kinds := [], alts := [], laidByText := true, laidKinds := [.data, .pinned], laidTests := true, laidLooks := .later }
def DescNestedCardSaid : Prop := Claim7.holds Tryd.pinned (.plain (OpenSpec.ofChange descNestedSpec)) descNestedCard

/-- THE SECOND FORM's CARD OF 'carpetbaglaw12.DescTells'. -/
def descTellsUptoCard : Claim7 := { stood := { row := descTellsUptoRow, standIns := [], harness := (true, "7bec58b2efeb2c420a001defcade40a65e4d5a03d1acd0e6ad0d1ec61b01f7a5"), looks := false }, kinds := [], alts := [], laidByText := true, laidKinds := [.data, .pinned], laidTests := true, laidLooks := .later }
def DescTellsUptoCardSaid : Prop := Claim7.holds Tryd.pinned (.plain (OpenSpec.upto descTellsSpec)) descTellsUptoCard

/-- THE SECOND FORM's CARD OF 'carpetbaglaw12.DescPrints'. -/
def descPrintsUptoCard : Claim7 := { stood := { row := descPrintsUptoRow, standIns := [], harness := (true, "7bec58b2efeb2c420a001defcade40a65e4d5a03d1acd0e6ad0d1ec61b01f7a5"), looks := false }, kinds := [], alts := [], laidByText := true, laidKinds := [.data, .pinned], laidTests := true, laidLooks := .later }
def DescPrintsUptoCardSaid : Prop := Claim7.holds Tryd.pinned (.plain (OpenSpec.upto descPrintsSpec)) descPrintsUptoCard

/-- THE SECOND FORM's CARD OF 'carpetbaglaw12.DescNested'. -/
def descNestedUptoCard : Claim7 := { stood := { row := descNestedUptoRow, standIns := [], harness := (true, "7bec58b2efeb2c420a001defcade40a65e4d5a03d1acd0e6ad0d1ec61b01f7a5"), looks := false }, kinds := [], alts := [], laidByText := true, laidKinds := [.data, .pinned], laidTests := true, laidLooks := .later }
def DescNestedUptoCardSaid : Prop := Claim7.holds Tryd.pinned (.plain (OpenSpec.upto descNestedSpec)) descNestedUptoCard
end Rows
end Go.Proofs.YtinkjeifkjfkgaaDoor
