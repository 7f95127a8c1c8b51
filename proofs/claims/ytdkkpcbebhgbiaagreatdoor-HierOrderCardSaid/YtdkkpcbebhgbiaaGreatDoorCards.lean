/-
  DERIVED. GIVEN WITH THE SEED: THE CARDS: each row of YtdkkpcbebhgbiaaGreatDoorRows.lean that lists a variable, with what it lists TIED to the program's text (the seventh form; the later family's looks); each row that meets fmt, with fmt's text TOLD by the authors' own Lean function (tested against real Go, not proved from fmt's source: count such statements apart). THE CARD IS WHAT COUNTS. Prove the row's statement (the work); the ties are given (YtdkkpcbebhgbiaaGreatDoorTie.lean); close each card by the builder's one call (the guide's Derived/Test/ToyasCard.lean, 'card_holds'). Laid BY PROGRAM, IN A SANDBOX (cutbox-door.mjs). By AI agents, Wed Nov 11 2026. No macro, syntax, notation, axiom, sorry.
-/
import Derived.Test.YtdkkpcbebhgbiaaGreatDoorRows
import GoSem.ClaimSeven
namespace Go.Proofs.YtdkkpcbebhgbiaaGreatDoor
namespace Rows

/-- THE TIED CARD OF 'carpetbaglaw16.HierOrder'. -/
def hierOrderCard : Claim7 := { stood := { row := hierOrderRow, standIns := [], harness := (true, "381f95074c6b774685b0d42b44d2bd83e1edced2358c3af0018ce09f85b41887"), looks := false }, kinds := [], alts := [], laidByText := true, laidKinds := [.data, .pinned], laidTests := true, laidLooks := .later }
def HierOrderCardSaid : Prop := Claim7.holds Tryz.pinned (.plain (OpenSpec.ofChange hierOrderSpec)) hierOrderCard

/-- THE TIED CARD OF 'carpetbaglaw16.HierCommon'. -/
def hierCommonCard : Claim7 := { stood := { row := hierCommonRow, standIns := [], harness := (true, "381f95074c6b774685b0d42b44d2bd83e1edced2358c3af0018ce09f85b41887"), looks := false }, kinds := [], alts := [], laidByText := true, laidKinds := [.data, .pinned], laidTests := true, laidLooks := .later }
def HierCommonCardSaid : Prop := Claim7.holds Tryz.pinned (.plain (OpenSpec.ofChange hierCommonSpec)) hierCommonCard

/-- THE TIED CARD OF 'carpetbaglaw17.TypesBegin'. -/
def typesBeginCard : Claim7 := { stood := { row := typesBeginRow, standIns := [], harness := (true, "381f95074c6b774685b0d42b44d2bd83e1edced2358c3af0018ce09f85b41887"), looks := false }, kinds := [], alts := [], laidByText := true, laidKinds := [.data, .pinned], laidTests := true, laidLooks := .later }
def TypesBeginCardSaid : Prop := Claim7.holds Tryz.pinned (.plain (OpenSpec.ofChange typesBeginSpec)) typesBeginCard

/-- THE TIED CARD OF 'carpetbaglaw17.TypesGo'. -/
def typesGoCard : Claim7 := { stood := { row := typesGoRow, standIns := [], harness := (true, "381f95074c6b774685b0d42b44d2bd83e1edced2358c3af0018ce09f85b41887"), looks := false }, kinds := [], alts := [], laidByText := true, laidKinds := [.data, .pinned], laidTests := true, laidLooks := .later }
def TypesGoCardSaid : Prop := Claim7.holds Tryz.pinned (.plain (OpenSpec.ofChange typesGoSpec)) typesGoCard

/-- THE TIED CARD OF 'carpetbaglaw17.TypesBack'. -/
def typesBackCard : Claim7 := { stood := { row := typesBackRow, standIns := [], harness := (true, "381f95074c6b774685b0d42b44d2bd83e1edced2358c3af0018ce09f85b41887"), looks := false }, kinds := [], alts := [], laidByText := true, laidKinds := [.data, .pinned], laidTests := true, laidLooks := .later }
def TypesBackCardSaid : Prop := Claim7.holds Tryz.pinned (.plain (OpenSpec.ofChange typesBackSpec)) typesBackCard

/-- THE TIED CARD OF 'carpetbaglaw17.TypesOrder'. -/
def typesOrderCard : Claim7 := { stood := { row := typesOrderRow, standIns := [], harness := (true, "381f95074c6b774685b0d42b44d2bd83e1edced2358c3af0018ce09f85b41887"), looks := false }, kinds := [], alts := [], laidByText := true, laidKinds := [.data, .pinned], laidTests := true, laidLooks := .later }
def TypesOrderCardSaid : Prop := Claim7.holds Tryz.pinned (.plain (OpenSpec.ofChange typesOrderSpec)) typesOrderCard

/-- THE TIED CARD OF 'carpetbaglaw18.FlowGoes'. -/
def flowGoesCard : Claim7 := { stood := { row := flowGoesRow, standIns := [], harness := (true, "381f95074c6b774685b0d42b44d2bd83e1edced2358c3af0018ce09f85b41887"), looks := false }, kinds := [], alts := [], laidByText := true, laidKinds := [.data, .data, .pinned], laidTests := true, laidLooks := .later }
def FlowGoesCardSaid : Prop := Claim7.holds Tryz.pinned (.plain (OpenSpec.ofChange flowGoesSpec)) flowGoesCard

/-- THE TIED CARD OF 'carpetbaglaw18.FlowMade'. -/
def flowMadeCard : Claim7 := { stood := { row := flowMadeRow, standIns := [], harness := (true, "381f95074c6b774685b0d42b44d2bd83e1edced2358c3af0018ce09f85b41887"), looks := false }, kinds := [], alts := [], laidByText := true, laidKinds := [.data, .data, .pinned], laidTests := true, laidLooks := .later }
def FlowMadeCardSaid : Prop := Claim7.holds Tryz.pinned (.plain (OpenSpec.ofChange flowMadeSpec)) flowMadeCard

/-- THE SECOND FORM's CARD OF 'carpetbaglaw16.HierOrder'. -/
def hierOrderUptoCard : Claim7 := { stood := { row := hierOrderUptoRow, standIns := [], harness := (true, "381f95074c6b774685b0d42b44d2bd83e1edced2358c3af0018ce09f85b41887"), looks := false }, kinds := [], alts := [], laidByText := true, laidKinds := [.data, .pinned], laidTests := true, laidLooks := .later }
def HierOrderUptoCardSaid : Prop := Claim7.holds Tryz.pinned (.plain (OpenSpec.upto hierOrderSpec)) hierOrderUptoCard

/-- THE SECOND FORM's CARD OF 'carpetbaglaw16.HierCommon'. -/
def hierCommonUptoCard : Claim7 := { stood := { row := hierCommonUptoRow, standIns := [], harness := (true, "381f95074c6b774685b0d42b44d2bd83e1edced2358c3af0018ce09f85b41887"), looks := false }, kinds := [], alts := [], laidByText := true, laidKinds := [.data, .pinned], laidTests := true, laidLooks := .later }
def HierCommonUptoCardSaid : Prop := Claim7.holds Tryz.pinned (.plain (OpenSpec.upto hierCommonSpec)) hierCommonUptoCard

/-- THE SECOND FORM's CARD OF 'carpetbaglaw17.TypesBegin'. -/
def typesBeginUptoCard : Claim7 := { stood := { row := typesBeginUptoRow, standIns := [], harness := (true, "381f95074c6b774685b0d42b44d2bd83e1edced2358c3af0018ce09f85b41887"), looks := false }, kinds := [], alts := [], laidByText := true, laidKinds := [.data, .pinned], laidTests := true, laidLooks := .later }
def TypesBeginUptoCardSaid : Prop := Claim7.holds Tryz.pinned (.plain (OpenSpec.upto typesBeginSpec)) typesBeginUptoCard

/-- THE SECOND FORM's CARD OF 'carpetbaglaw17.TypesGo'. -/
def typesGoUptoCard : Claim7 := { stood := { row := typesGoUptoRow, standIns := [], harness := (true, "381f95074c6b774685b0d42b44d2bd83e1edced2358c3af0018ce09f85b41887"), looks := false }, kinds := [], alts := [], laidByText := true, laidKinds := [.data, .pinned], laidTests := true, laidLooks := .later }
def TypesGoUptoCardSaid : Prop := Claim7.holds Tryz.pinned (.plain (OpenSpec.upto typesGoSpec)) typesGoUptoCard

/-- THE SECOND FORM's CARD OF 'carpetbaglaw17.TypesBack'. -/
def typesBackUptoCard : Claim7 := { stood := { row := typesBackUptoRow, standIns := [], harness := (true, "381f95074c6b774685b0d42b44d2bd83e1edced2358c3af0018ce09f85b41887"), looks := false }, kinds := [], alts := [], laidByText := true, laidKinds := [.data, .pinned], laidTests := true, laidLooks := .later }
def TypesBackUptoCardSaid : Prop := Claim7.holds Tryz.pinned (.plain (OpenSpec.upto typesBackSpec)) typesBackUptoCard

/-- THE SECOND FORM's CARD OF 'carpetbaglaw17.TypesOrder'. -/
def typesOrderUptoCard : Claim7 := { stood := { row := typesOrderUptoRow, standIns := [], harness := (true, "381f95074c6b774685b0d42b44d2bd83e1edced2358c3af0018ce09f85b41887"), looks := false }, kinds := [], alts := [], laidByText := true, laidKinds := [.data, .pinned], laidTests := true, laidLooks := .later }
def TypesOrderUptoCardSaid : Prop := Claim7.holds Tryz.pinned (.plain (OpenSpec.upto typesOrderSpec)) typesOrderUptoCard

/-- THE SECOND FORM's CARD OF 'carpetbaglaw18.FlowGoes'. -/
def flowGoesUptoCard : Claim7 := { stood := { row := flowGoesUptoRow, standIns := [], harness := (true, "381f95074c6b774685b0d42b44d2bd83e1edced2358c3af0018ce09f85b41887"), looks := false }, kinds := [], alts := [], laidByText := true, laidKinds := [.data, .data, .pinned], laidTests := true, laidLooks := .later }
def FlowGoesUptoCardSaid : Prop := Claim7.holds Tryz.pinned (.plain (OpenSpec.upto flowGoesSpec)) flowGoesUptoCard

/-- THE SECOND FORM's CARD OF 'carpetbaglaw18.FlowMade'. -/
def flowMadeUptoCard : Claim7 := { stood := { row := flowMadeUptoRow, standIns := [], harness := (true, "381f95074c6b774685b0d42b44d2bd83e1edced2358c3af0018ce09f85b41887"), looks := false }, kinds := [], alts := [], laidByText := true, laidKinds := [.data, .data, .pinned], laidTests := true, laidLooks := .later }
def FlowMadeUptoCardSaid : Prop := Claim7.holds Tryz.pinned (.plain (OpenSpec.upto flowMadeSpec)) flowMadeUptoCard
end Rows
end Go.Proofs.YtdkkpcbebhgbiaaGreatDoor
