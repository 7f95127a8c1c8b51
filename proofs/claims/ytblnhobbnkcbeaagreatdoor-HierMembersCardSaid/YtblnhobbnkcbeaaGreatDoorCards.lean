/-
  DERIVED. GIVEN WITH THE SEED: THE CARDS: each row of YtblnhobbnkcbeaaGreatDoorRows.lean that lists a variable, with what it lists TIED to the program's text (the seventh form; the later family's looks); each row that meets fmt, with fmt's text TOLD by the authors' own Lean function (tested against real Go, not proved from fmt's source: count such statements apart). THE CARD IS WHAT COUNTS. Prove the row's statement (the work); the ties are given (YtblnhobbnkcbeaaGreatDoorTie.lean); close each card by the builder's one call (the guide's Derived/Test/ToyasCard.lean, 'card_holds'). Laid BY PROGRAM, IN A SANDBOX (cutbox-door.mjs). By AI agents, Wed Nov 11 2026. No macro, syntax, notation, axiom, sorry.
-/
import Derived.Test.YtblnhobbnkcbeaaGreatDoorRows
import GoSem.ClaimSeven
namespace Go.Proofs.YtblnhobbnkcbeaaGreatDoor
namespace Rows

/-- THE TIED CARD OF 'carpetbaglaw16.HierMembers'. -/
def hierMembersCard : Claim7 := { stood := { row := hierMembersRow, standIns := [], harness := (true, "6fede3d98d08aec8202ebdf42fc766bdc4d153e55035385b95a78803c3290deb"), looks := false }, kinds := [], alts := [], laidByText := true, laidKinds := [.data, .pinned], laidTests := true, laidLooks := .later }
def HierMembersCardSaid : Prop := Claim7.holds Tryz.pinned (.plain (OpenSpec.ofChange hierMembersSpec)) hierMembersCard

/-- THE TIED CARD OF 'carpetbaglaw16.HierOrder'. -/
def hierOrderCard : Claim7 := { stood := { row := hierOrderRow, standIns := [], harness := (true, "6fede3d98d08aec8202ebdf42fc766bdc4d153e55035385b95a78803c3290deb"), looks := false }, kinds := [], alts := [], laidByText := true, laidKinds := [.data, .pinned], laidTests := true, laidLooks := .later }
def HierOrderCardSaid : Prop := Claim7.holds Tryz.pinned (.plain (OpenSpec.ofChange hierOrderSpec)) hierOrderCard

/-- THE TIED CARD OF 'carpetbaglaw16.HierCommon'. -/
def hierCommonCard : Claim7 := { stood := { row := hierCommonRow, standIns := [], harness := (true, "6fede3d98d08aec8202ebdf42fc766bdc4d153e55035385b95a78803c3290deb"), looks := false }, kinds := [], alts := [], laidByText := true, laidKinds := [.data, .pinned], laidTests := true, laidLooks := .later }
def HierCommonCardSaid : Prop := Claim7.holds Tryz.pinned (.plain (OpenSpec.ofChange hierCommonSpec)) hierCommonCard

/-- THE TIED CARD OF 'carpetbaglaw17.TypesBegin'. -/
def typesBeginCard : Claim7 := { stood := { row := typesBeginRow, standIns := [], harness := (true, "6fede3d98d08aec8202ebdf42fc766bdc4d153e55035385b95a78803c3290deb"), looks := false }, kinds := [], alts := [], laidByText := true, laidKinds := [.data, .pinned], laidTests := true, laidLooks := .later }
def TypesBeginCardSaid : Prop := Claim7.holds Tryz.pinned (.plain (OpenSpec.ofChange typesBeginSpec)) typesBeginCard

/-- THE TIED CARD OF 'carpetbaglaw17.TypesGo'. -/
def typesGoCard : Claim7 := { stood := { row := typesGoRow, standIns := [], harness := (true, "6fede3d98d08aec8202ebdf42fc766bdc4d153e55035385b95a78803c3290deb"), looks := false }, kinds := [], alts := [], laidByText := true, laidKinds := [.data, .pinned], laidTests := true, laidLooks := .later }
def TypesGoCardSaid : Prop := Claim7.holds Tryz.pinned (.plain (OpenSpec.ofChange typesGoSpec)) typesGoCard

/-- THE TIED CARD OF 'carpetbaglaw17.TypesBack'. -/
def typesBackCard : Claim7 := { stood := { row := typesBackRow, standIns := [], harness := (true, "6fede3d98d08aec8202ebdf42fc766bdc4d153e55035385b95a78803c3290deb"), looks := false }, kinds := [], alts := [], laidByText := true, laidKinds := [.data, .pinned], laidTests := true, laidLooks := .later }
def TypesBackCardSaid : Prop := Claim7.holds Tryz.pinned (.plain (OpenSpec.ofChange typesBackSpec)) typesBackCard

/-- THE TIED CARD OF 'carpetbaglaw17.TypesOrder'. -/
def typesOrderCard : Claim7 := { stood := { row := typesOrderRow, standIns := [], harness := (true, "6fede3d98d08aec8202ebdf42fc766bdc4d153e55035385b95a78803c3290deb"), looks := false }, kinds := [], alts := [], laidByText := true, laidKinds := [.data, .pinned], laidTests := true, laidLooks := .later }
def TypesOrderCardSaid : Prop := Claim7.holds Tryz.pinned (.plain (OpenSpec.ofChange typesOrderSpec)) typesOrderCard

/-- THE SECOND FORM's CARD OF 'carpetbaglaw16.HierMembers'. -/
def hierMembersUptoCard : Claim7 := { stood := { row := hierMembersUptoRow, standIns := [], harness := (true, "6fede3d98d08aec8202ebdf42fc766bdc4d153e55035385b95a78803c3290deb"), looks := false }, kinds := [], alts := [], laidByText := true, laidKinds := [.data, .pinned], laidTests := true, laidLooks := .later }
def HierMembersUptoCardSaid : Prop := Claim7.holds Tryz.pinned (.plain (OpenSpec.upto hierMembersSpec)) hierMembersUptoCard

/-- THE SECOND FORM's CARD OF 'carpetbaglaw16.HierOrder'. -/
def hierOrderUptoCard : Claim7 := { stood := { row := hierOrderUptoRow, standIns := [], harness := (true, "6fede3d98d08aec8202ebdf42fc766bdc4d153e55035385b95a78803c3290deb"), looks := false }, kinds := [], alts := [], laidByText := true, laidKinds := [.data, .pinned], laidTests := true, laidLooks := .later }
def HierOrderUptoCardSaid : Prop := Claim7.holds Tryz.pinned (.plain (OpenSpec.upto hierOrderSpec)) hierOrderUptoCard

/-- THE SECOND FORM's CARD OF 'carpetbaglaw16.HierCommon'. -/
def hierCommonUptoCard : Claim7 := { stood := { row := hierCommonUptoRow, standIns := [], harness := (true, "6fede3d98d08aec8202ebdf42fc766bdc4d153e55035385b95a78803c3290deb"), looks := false }, kinds := [], alts := [], laidByText := true, laidKinds := [.data, .pinned], laidTests := true, laidLooks := .later }
def HierCommonUptoCardSaid : Prop := Claim7.holds Tryz.pinned (.plain (OpenSpec.upto hierCommonSpec)) hierCommonUptoCard

/-- THE SECOND FORM's CARD OF 'carpetbaglaw17.TypesBegin'. -/
def typesBeginUptoCard : Claim7 := { stood := { row := typesBeginUptoRow, standIns := [], harness := (true, "6fede3d98d08aec8202ebdf42fc766bdc4d153e55035385b95a78803c3290deb"), looks := false }, kinds := [], alts := [], laidByText := true, laidKinds := [.data, .pinned], laidTests := true, laidLooks := .later }
def TypesBeginUptoCardSaid : Prop := Claim7.holds Tryz.pinned (.plain (OpenSpec.upto typesBeginSpec)) typesBeginUptoCard

/-- THE SECOND FORM's CARD OF 'carpetbaglaw17.TypesGo'. -/
def typesGoUptoCard : Claim7 := { stood := { row := typesGoUptoRow, standIns := [], harness := (true, "6fede3d98d08aec8202ebdf42fc766bdc4d153e55035385b95a78803c3290deb"), looks := false }, kinds := [], alts := [], laidByText := true, laidKinds := [.data, .pinned], laidTests := true, laidLooks := .later }
def TypesGoUptoCardSaid : Prop := Claim7.holds Tryz.pinned (.plain (OpenSpec.upto typesGoSpec)) typesGoUptoCard

/-- THE SECOND FORM's CARD OF 'carpetbaglaw17.TypesBack'. -/
def typesBackUptoCard : Claim7 := { stood := { row := typesBackUptoRow, standIns := [], harness := (true, "6fede3d98d08aec8202ebdf42fc766bdc4d153e55035385b95a78803c3290deb"), looks := false }, kinds := [], alts := [], laidByText := true, laidKinds := [.data, .pinned], laidTests := true, laidLooks := .later }
def TypesBackUptoCardSaid : Prop := Claim7.holds Tryz.pinned (.plain (OpenSpec.upto typesBackSpec)) typesBackUptoCard

/-- THE SECOND FORM's CARD OF 'carpetbaglaw17.TypesOrder'. -/
def typesOrderUptoCard : Claim7 := { stood := { row := typesOrderUptoRow, standIns := [], harness := (true, "6fede3d98d08aec8202ebdf42fc766bdc4d153e55035385b95a78803c3290deb"), looks := false }, kinds := [], alts := [], laidByText := true, laidKinds := [.data, .pinned], laidTests := true, laidLooks := .later }
def TypesOrderUptoCardSaid : Prop := Claim7.holds Tryz.pinned (.plain (OpenSpec.upto typesOrderSpec)) typesOrderUptoCard
end Rows
end Go.Proofs.YtblnhobbnkcbeaaGreatDoor
