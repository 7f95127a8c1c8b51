/-
  NARROWER THAN 'FOR EVERY INPUT', by the rows' own cells (each row's printed sentence says how): HierOrder: laid · HierCommon: laid · TypesBegin: laid · TypesGo: laid · TypesBack: laid · TypesOrder: laid · FlowGoes: laid · FlowMade: laid.
  DERIVED. THE GIVEN ROWS OF THIS SEAT. 8 by the template 'for every input the law returns true; each argument reads behind the call as it read before'; 0 by the template 'total and deterministic' (their statements: YtdkkpcbebhgbiaaGreatDoorTotals.lean).
  GIVEN WITH THE SEED: the statements are not yours to turn. If you find one false, say at which input.
  Laid BY PROGRAM, IN A SANDBOX (cutbox-rows.mjs): the forced cells as the released guide's own fill.sh prints them over the translation 780ba01313254b52… (all of the seat's roots in one cut). By AI agents, Wed Nov 11 2026. No macro, syntax, notation, axiom, sorry.
-/
import Derived.Test.YtdkkpcbebhgbiaaGreatDoorChecked
import GoSem.PinnedTables
import GoSem.Claim
import GoSem.ClaimJoined
import GoSem.ClaimMapViews
import Derived.JoinedTies
import Derived.KernelRfl
namespace Go.Proofs.YtdkkpcbebhgbiaaGreatDoor
/- THE CELL 'sum', in the pinned program and in every row, IS THE sha256 OF THE DUMP (.gsa) THAT YtdkkpcbebhgbiaaGreatDoorProg.lean LOADS. Nothing in Lean hashes anything: it is a label: what it is worth is what the hold of that sum in a sandbox is worth. -/
noncomputable def Tryz.pinned : Pinned := { name := "ytdkkpcbebhgbiaagreatdoor", sum := "780ba01313254b525b8bf27422d73ae3b7d35878e28764d7894fcfbe1be1fb5e", checked := Tryz.checked }
namespace Rows
def none {H : Type} : Left H := { results := [], args := [] }

/- WHAT THE LISTED PACKAGE-LEVEL VARIABLES READ AS WHEN THE CALL BEGINS. Each datum BY PROGRAM (the guide's laid-datum.mjs) off the statement by which the dump's own 'gosem.cut.vars' lays the variable. In a bare row this is a premise. The card (YtdkkpcbebhgbiaaGreatDoorCards.lean) ties it to the program's text. -/
def laid_unicode_utf8_acceptRanges {H : Type} : DataW H := .agg [.agg [.lit (.int .u8 128), .lit (.int .u8 191)], .agg [.lit (.int .u8 160), .lit (.int .u8 191)], .agg [.lit (.int .u8 128), .lit (.int .u8 159)], .agg [.lit (.int .u8 144), .lit (.int .u8 191)], .agg [.lit (.int .u8 128), .lit (.int .u8 143)], .agg [.lit (.int .u8 0), .lit (.int .u8 0)], .agg [.lit (.int .u8 0), .lit (.int .u8 0)], .agg [.lit (.int .u8 0), .lit (.int .u8 0)], .agg [.lit (.int .u8 0), .lit (.int .u8 0)], .agg [.lit (.int .u8 0), .lit (.int .u8 0)], .agg [.lit (.int .u8 0), .lit (.int .u8 0)], .agg [.lit (.int .u8 0), .lit (.int .u8 0)], .agg [.lit (.int .u8 0), .lit (.int .u8 0)], .agg [.lit (.int .u8 0), .lit (.int .u8 0)], .agg [.lit (.int .u8 0), .lit (.int .u8 0)], .agg [.lit (.int .u8 0), .lit (.int .u8 0)]]
/-- One of Go's own tables, pinned by name: the form's constant. -/
def laid_unicode_utf8_first : DataW Unit := Go.Pinned.utf8First
def laid_carpetbag_ops_spans {H : Type} : DataW H := .agg [.agg [.lit (.int .u8 0), .lit (.int .u8 10), .lit (.int .u8 1)], .agg [.lit (.int .u8 16), .lit (.int .u8 16), .lit (.int .u8 3)], .agg [.lit (.int .u8 17), .lit (.int .u8 17), .lit (.int .u8 4)], .agg [.lit (.int .u8 18), .lit (.int .u8 18), .lit (.int .u8 5)], .agg [.lit (.int .u8 20), .lit (.int .u8 20), .lit (.int .u8 6)], .agg [.lit (.int .u8 21), .lit (.int .u8 22), .lit (.int .u8 2)], .agg [.lit (.int .u8 25), .lit (.int .u8 25), .lit (.int .u8 2)], .agg [.lit (.int .u8 46), .lit (.int .u8 46), .lit (.int .u8 1)], .agg [.lit (.int .u8 50), .lit (.int .u8 51), .lit (.int .u8 1)], .agg [.lit (.int .u8 54), .lit (.int .u8 55), .lit (.int .u8 2)], .agg [.lit (.int .u8 58), .lit (.int .u8 58), .lit (.int .u8 2)], .agg [.lit (.int .u8 79), .lit (.int .u8 79), .lit (.int .u8 1)], .agg [.lit (.int .u8 83), .lit (.int .u8 84), .lit (.int .u8 1)], .agg [.lit (.int .u8 87), .lit (.int .u8 87), .lit (.int .u8 1)], .agg [.lit (.int .u8 89), .lit (.int .u8 89), .lit (.int .u8 1)], .agg [.lit (.int .u8 95), .lit (.int .u8 97), .lit (.int .u8 1)], .agg [.lit (.int .u8 100), .lit (.int .u8 101), .lit (.int .u8 1)], .agg [.lit (.int .u8 104), .lit (.int .u8 105), .lit (.int .u8 1)], .agg [.lit (.int .u8 108), .lit (.int .u8 109), .lit (.int .u8 1)], .agg [.lit (.int .u8 112), .lit (.int .u8 113), .lit (.int .u8 1)], .agg [.lit (.int .u8 116), .lit (.int .u8 117), .lit (.int .u8 1)], .agg [.lit (.int .u8 120), .lit (.int .u8 131), .lit (.int .u8 1)], .agg [.lit (.int .u8 132), .lit (.int .u8 132), .lit (.int .u8 8)], .agg [.lit (.int .u8 133), .lit (.int .u8 133), .lit (.int .u8 1)], .agg [.lit (.int .u8 136), .lit (.int .u8 136), .lit (.int .u8 1)], .agg [.lit (.int .u8 145), .lit (.int .u8 145), .lit (.int .u8 1)], .agg [.lit (.int .u8 148), .lit (.int .u8 148), .lit (.int .u8 1)], .agg [.lit (.int .u8 153), .lit (.int .u8 167), .lit (.int .u8 7)], .agg [.lit (.int .u8 172), .lit (.int .u8 173), .lit (.int .u8 1)], .agg [.lit (.int .u8 176), .lit (.int .u8 177), .lit (.int .u8 1)], .agg [.lit (.int .u8 178), .lit (.int .u8 182), .lit (.int .u8 6)], .agg [.lit (.int .u8 184), .lit (.int .u8 184), .lit (.int .u8 6)], .agg [.lit (.int .u8 187), .lit (.int .u8 187), .lit (.int .u8 6)], .agg [.lit (.int .u8 188), .lit (.int .u8 188), .lit (.int .u8 9)], .agg [.lit (.int .u8 189), .lit (.int .u8 189), .lit (.int .u8 6)], .agg [.lit (.int .u8 190), .lit (.int .u8 191), .lit (.int .u8 1)], .agg [.lit (.int .u8 192), .lit (.int .u8 193), .lit (.int .u8 6)], .agg [.lit (.int .u8 198), .lit (.int .u8 199), .lit (.int .u8 7)]]

/-- 'carpetbaglaw16.HierOrder': WHATEVER THE INPUT: true; the input reads as it did. -/
def hierOrderSpec : ChangeSpec := { name := "hierOrder", fn := fun _ => fun
  | [d1, d2, d3, d4] => { results := [.lit (.bool true)], args := [d1, d2, d3, d4] }
  | _ => none }
def hierOrderRow : OpenClaim := { program := "ytdkkpcbebhgbiaagreatdoor", sum := "780ba01313254b525b8bf27422d73ae3b7d35878e28764d7894fcfbe1be1fb5e", func := "carpetbag/carpetbaglaw16.HierOrder", spec := "hierOrder", inPlace := ["internal/bytealg.CountString", "internal/bytealg.IndexByteString", "internal/bytealg.IndexString"], unfollowed := true, recurses := true, named := ["unicode/utf8.first", "unicode/utf8.acceptRanges", "internal/bytealg.MaxLen"], plainKeys := false, apart := false, laid := [("unicode/utf8.acceptRanges", laid_unicode_utf8_acceptRanges), ("unicode/utf8.first", laid_unicode_utf8_first)] }
def HierOrderSaid : Prop := hierOrderRow.holds Tryz.pinned (OpenSpec.ofChange hierOrderSpec)

/-- ITS FALSE NEIGHBOUR: 'it returns false'. Refute it at one input. -/
def hierOrderWrong : ChangeSpec := { name := "hierOrder", fn := fun _ => fun
  | [d1, d2, d3, d4] => { results := [.lit (.bool false)], args := [d1, d2, d3, d4] }
  | _ => none }
def HierOrderWrongFalsely : Prop := hierOrderRow.holds Tryz.pinned (OpenSpec.ofChange hierOrderWrong)

/-- 'carpetbaglaw16.HierCommon': WHATEVER THE INPUT: true; the input reads as it did. -/
def hierCommonSpec : ChangeSpec := { name := "hierCommon", fn := fun _ => fun
  | [d1, d2, d3, d4] => { results := [.lit (.bool true)], args := [d1, d2, d3, d4] }
  | _ => none }
def hierCommonRow : OpenClaim := { program := "ytdkkpcbebhgbiaagreatdoor", sum := "780ba01313254b525b8bf27422d73ae3b7d35878e28764d7894fcfbe1be1fb5e", func := "carpetbag/carpetbaglaw16.HierCommon", spec := "hierCommon", inPlace := ["internal/bytealg.CountString", "internal/bytealg.IndexByteString", "internal/bytealg.IndexString"], unfollowed := true, recurses := true, named := ["unicode/utf8.first", "unicode/utf8.acceptRanges", "internal/bytealg.MaxLen"], plainKeys := false, apart := false, laid := [("unicode/utf8.acceptRanges", laid_unicode_utf8_acceptRanges), ("unicode/utf8.first", laid_unicode_utf8_first)] }
def HierCommonSaid : Prop := hierCommonRow.holds Tryz.pinned (OpenSpec.ofChange hierCommonSpec)

/-- ITS FALSE NEIGHBOUR: 'it returns false'. Refute it at one input. -/
def hierCommonWrong : ChangeSpec := { name := "hierCommon", fn := fun _ => fun
  | [d1, d2, d3, d4] => { results := [.lit (.bool false)], args := [d1, d2, d3, d4] }
  | _ => none }
def HierCommonWrongFalsely : Prop := hierCommonRow.holds Tryz.pinned (OpenSpec.ofChange hierCommonWrong)

/-- 'carpetbaglaw17.TypesBegin': WHATEVER THE INPUT: true; the input reads as it did. -/
def typesBeginSpec : ChangeSpec := { name := "typesBegin", fn := fun _ => fun
  | [d1, d2, d3, d4] => { results := [.lit (.bool true)], args := [d1, d2, d3, d4] }
  | _ => none }
def typesBeginRow : OpenClaim := { program := "ytdkkpcbebhgbiaagreatdoor", sum := "780ba01313254b525b8bf27422d73ae3b7d35878e28764d7894fcfbe1be1fb5e", func := "carpetbag/carpetbaglaw17.TypesBegin", spec := "typesBegin", inPlace := ["internal/bytealg.IndexByteString", "internal/bytealg.IndexString", "internal/bytealg.CountString", "slices.overlaps[string]"], unfollowed := true, recurses := true, named := ["unicode/utf8.first", "unicode/utf8.acceptRanges", "internal/bytealg.MaxLen"], plainKeys := false, apart := false, laid := [("unicode/utf8.acceptRanges", laid_unicode_utf8_acceptRanges), ("unicode/utf8.first", laid_unicode_utf8_first)] }
def TypesBeginSaid : Prop := typesBeginRow.holds Tryz.pinned (OpenSpec.ofChange typesBeginSpec)

/-- ITS FALSE NEIGHBOUR: 'it returns false'. Refute it at one input. -/
def typesBeginWrong : ChangeSpec := { name := "typesBegin", fn := fun _ => fun
  | [d1, d2, d3, d4] => { results := [.lit (.bool false)], args := [d1, d2, d3, d4] }
  | _ => none }
def TypesBeginWrongFalsely : Prop := typesBeginRow.holds Tryz.pinned (OpenSpec.ofChange typesBeginWrong)

/-- 'carpetbaglaw17.TypesGo': WHATEVER THE INPUT: true; the input reads as it did. -/
def typesGoSpec : ChangeSpec := { name := "typesGo", fn := fun _ => fun
  | [d1, d2, d3] => { results := [.lit (.bool true)], args := [d1, d2, d3] }
  | _ => none }
def typesGoRow : OpenClaim := { program := "ytdkkpcbebhgbiaagreatdoor", sum := "780ba01313254b525b8bf27422d73ae3b7d35878e28764d7894fcfbe1be1fb5e", func := "carpetbag/carpetbaglaw17.TypesGo", spec := "typesGo", inPlace := ["internal/bytealg.IndexByteString", "internal/bytealg.IndexString", "internal/bytealg.CountString", "slices.overlaps[string]"], unfollowed := true, recurses := true, named := ["unicode/utf8.first", "unicode/utf8.acceptRanges", "internal/bytealg.MaxLen"], plainKeys := false, apart := false, laid := [("unicode/utf8.acceptRanges", laid_unicode_utf8_acceptRanges), ("unicode/utf8.first", laid_unicode_utf8_first)] }
def TypesGoSaid : Prop := typesGoRow.holds Tryz.pinned (OpenSpec.ofChange typesGoSpec)

/-- ITS FALSE NEIGHBOUR: 'it returns false'. Refute it at one input. -/
def typesGoWrong : ChangeSpec := { name := "typesGo", fn := fun _ => fun
  | [d1, d2, d3] => { results := [.lit (.bool false)], args := [d1, d2, d3] }
  | _ => none }
def TypesGoWrongFalsely : Prop := typesGoRow.holds Tryz.pinned (OpenSpec.ofChange typesGoWrong)

/-- 'carpetbaglaw17.TypesBack': WHATEVER THE INPUT: true; the input reads as it did. -/
def typesBackSpec : ChangeSpec := { name := "typesBack", fn := fun _ => fun
  | [d1, d2, d3, d4] => { results := [.lit (.bool true)], args := [d1, d2, d3, d4] }
  | _ => none }
def typesBackRow : OpenClaim := { program := "ytdkkpcbebhgbiaagreatdoor", sum := "780ba01313254b525b8bf27422d73ae3b7d35878e28764d7894fcfbe1be1fb5e", func := "carpetbag/carpetbaglaw17.TypesBack", spec := "typesBack", inPlace := ["internal/bytealg.IndexByteString", "internal/bytealg.IndexString", "internal/bytealg.CountString", "slices.overlaps[string]"], unfollowed := true, recurses := true, named := ["unicode/utf8.first", "unicode/utf8.acceptRanges", "internal/bytealg.MaxLen"], plainKeys := false, apart := false, laid := [("unicode/utf8.acceptRanges", laid_unicode_utf8_acceptRanges), ("unicode/utf8.first", laid_unicode_utf8_first)] }
def TypesBackSaid : Prop := typesBackRow.holds Tryz.pinned (OpenSpec.ofChange typesBackSpec)

/-- ITS FALSE NEIGHBOUR: 'it returns false'. Refute it at one input. -/
def typesBackWrong : ChangeSpec := { name := "typesBack", fn := fun _ => fun
  | [d1, d2, d3, d4] => { results := [.lit (.bool false)], args := [d1, d2, d3, d4] }
  | _ => none }
def TypesBackWrongFalsely : Prop := typesBackRow.holds Tryz.pinned (OpenSpec.ofChange typesBackWrong)

/-- 'carpetbaglaw17.TypesOrder': WHATEVER THE INPUT: true; the input reads as it did. -/
def typesOrderSpec : ChangeSpec := { name := "typesOrder", fn := fun _ => fun
  | [d1, d2, d3, d4] => { results := [.lit (.bool true)], args := [d1, d2, d3, d4] }
  | _ => none }
def typesOrderRow : OpenClaim := { program := "ytdkkpcbebhgbiaagreatdoor", sum := "780ba01313254b525b8bf27422d73ae3b7d35878e28764d7894fcfbe1be1fb5e", func := "carpetbag/carpetbaglaw17.TypesOrder", spec := "typesOrder", inPlace := ["internal/bytealg.IndexByteString", "internal/bytealg.IndexString", "internal/bytealg.CountString", "slices.overlaps[string]"], unfollowed := true, recurses := true, named := ["unicode/utf8.first", "unicode/utf8.acceptRanges", "internal/bytealg.MaxLen"], plainKeys := false, apart := false, laid := [("unicode/utf8.acceptRanges", laid_unicode_utf8_acceptRanges), ("unicode/utf8.first", laid_unicode_utf8_first)] }
def TypesOrderSaid : Prop := typesOrderRow.holds Tryz.pinned (OpenSpec.ofChange typesOrderSpec)

/-- ITS FALSE NEIGHBOUR: 'it returns false'. Refute it at one input. -/
def typesOrderWrong : ChangeSpec := { name := "typesOrder", fn := fun _ => fun
  | [d1, d2, d3, d4] => { results := [.lit (.bool false)], args := [d1, d2, d3, d4] }
  | _ => none }
def TypesOrderWrongFalsely : Prop := typesOrderRow.holds Tryz.pinned (OpenSpec.ofChange typesOrderWrong)

/-- 'carpetbaglaw18.FlowGoes': WHATEVER THE INPUT: true; the input reads as it did. -/
def flowGoesSpec : ChangeSpec := { name := "flowGoes", fn := fun _ => fun
  | [d1, d2, d3] => { results := [.lit (.bool true)], args := [d1, d2, d3] }
  | _ => none }
def flowGoesRow : OpenClaim := { program := "ytdkkpcbebhgbiaagreatdoor", sum := "780ba01313254b525b8bf27422d73ae3b7d35878e28764d7894fcfbe1be1fb5e", func := "carpetbag/carpetbaglaw18.FlowGoes", spec := "flowGoes", inPlace := ["internal/bytealg.IndexByteString", "internal/bytealg.IndexString", "internal/bytealg.CountString"], unfollowed := true, recurses := true, named := ["unicode/utf8.first", "unicode/utf8.acceptRanges", "internal/bytealg.MaxLen", "carpetbag/ops.spans"], plainKeys := false, apart := false, laid := [("unicode/utf8.acceptRanges", laid_unicode_utf8_acceptRanges), ("carpetbag/ops.spans", laid_carpetbag_ops_spans), ("unicode/utf8.first", laid_unicode_utf8_first)] }
def FlowGoesSaid : Prop := flowGoesRow.holds Tryz.pinned (OpenSpec.ofChange flowGoesSpec)

/-- ITS FALSE NEIGHBOUR: 'it returns false'. Refute it at one input. -/
def flowGoesWrong : ChangeSpec := { name := "flowGoes", fn := fun _ => fun
  | [d1, d2, d3] => { results := [.lit (.bool false)], args := [d1, d2, d3] }
  | _ => none }
def FlowGoesWrongFalsely : Prop := flowGoesRow.holds Tryz.pinned (OpenSpec.ofChange flowGoesWrong)

/-- 'carpetbaglaw18.FlowMade': WHATEVER THE INPUT: true; the input reads as it did. -/
def flowMadeSpec : ChangeSpec := { name := "flowMade", fn := fun _ => fun
  | [d] => { results := [.lit (.bool true)], args := [d] }
  | _ => none }
def flowMadeRow : OpenClaim := { program := "ytdkkpcbebhgbiaagreatdoor", sum := "780ba01313254b525b8bf27422d73ae3b7d35878e28764d7894fcfbe1be1fb5e", func := "carpetbag/carpetbaglaw18.FlowMade", spec := "flowMade", inPlace := ["internal/bytealg.IndexByteString", "internal/bytealg.IndexString", "internal/bytealg.CountString"], unfollowed := true, recurses := true, named := ["unicode/utf8.first", "unicode/utf8.acceptRanges", "internal/bytealg.MaxLen", "carpetbag/ops.spans"], plainKeys := false, apart := false, laid := [("unicode/utf8.acceptRanges", laid_unicode_utf8_acceptRanges), ("carpetbag/ops.spans", laid_carpetbag_ops_spans), ("unicode/utf8.first", laid_unicode_utf8_first)] }
def FlowMadeSaid : Prop := flowMadeRow.holds Tryz.pinned (OpenSpec.ofChange flowMadeSpec)

/-- ITS FALSE NEIGHBOUR: 'it returns false'. Refute it at one input. -/
def flowMadeWrong : ChangeSpec := { name := "flowMade", fn := fun _ => fun
  | [d] => { results := [.lit (.bool false)], args := [d] }
  | _ => none }
def FlowMadeWrongFalsely : Prop := flowMadeRow.holds Tryz.pinned (OpenSpec.ofChange flowMadeWrong)

/- THE SECOND FORM. 'bulk': how many values and letters a reading holds, each counted each time it is reached (what is shared counts as often as it is met; a slice's spare places count too). A statement '..UptoSaid' is the law's where the arguments, and the package variables that the reading takes, are together of bulk at most 1048576: NARROWER than '..Said'. Prove '..Said' where nothing that the law and all that it calls make is longer than what came in: it says more and counts as full. Else prove '..UptoSaid'. A law counts once. -/
mutual
def uptoBulk {H : Type} : DataW H → Nat
  | .lit (.string bytes) => bytes.length + 1
  | .lit _ => 1
  | .nil => 1
  | .ptr d => uptoBulk d + 1
  | .slice elems spare => uptoBulkAll elems + uptoBulkAll spare + 1
  | .agg parts => uptoBulkAll parts + 1
  | .iface _ d => uptoBulk d + 1
  | .map entries => uptoBulkEntries entries + 1
  | .held _ => 1
def uptoBulkAll {H : Type} : List (DataW H) → Nat
  | [] => 0
  | d :: r => uptoBulk d + uptoBulkAll r
def uptoBulkEntries {H : Type} : List (Lit × DataW H) → Nat
  | [] => 0
  | x :: r => uptoBulkEntry x + uptoBulkEntries r
def uptoBulkEntry {H : Type} : Lit × DataW H → Nat
  | (.string bytes, d) => bytes.length + uptoBulk d + 1
  | (_, d) => uptoBulk d + 1
 end
def uptoSmall : (H : Type) → List (DataW H) → Bool := fun _ ds => decide (uptoBulkAll ds ≤ 1048576)
def OpenSpec.upto (s : _root_.Go.ChangeSpec) : _root_.Go.OpenSpec := { _root_.Go.OpenSpec.ofChange s with cond := some uptoSmall }

/-- 'carpetbaglaw16.HierOrder', WHERE WHAT IT READS IS OF BULK AT MOST 1048576: true; the input reads as it did. -/
def hierOrderUptoRow : OpenClaim := { program := "ytdkkpcbebhgbiaagreatdoor", sum := "780ba01313254b525b8bf27422d73ae3b7d35878e28764d7894fcfbe1be1fb5e", func := "carpetbag/carpetbaglaw16.HierOrder", spec := "hierOrder", inPlace := ["internal/bytealg.CountString", "internal/bytealg.IndexByteString", "internal/bytealg.IndexString"], unfollowed := true, recurses := true, named := ["unicode/utf8.first", "unicode/utf8.acceptRanges", "internal/bytealg.MaxLen"], plainKeys := false, apart := false, laid := [("unicode/utf8.acceptRanges", laid_unicode_utf8_acceptRanges), ("unicode/utf8.first", laid_unicode_utf8_first)], narrowed := true }
def HierOrderUptoSaid : Prop := hierOrderUptoRow.holds Tryz.pinned (OpenSpec.upto hierOrderSpec)

/-- 'carpetbaglaw16.HierCommon', WHERE WHAT IT READS IS OF BULK AT MOST 1048576: true; the input reads as it did. -/
def hierCommonUptoRow : OpenClaim := { program := "ytdkkpcbebhgbiaagreatdoor", sum := "780ba01313254b525b8bf27422d73ae3b7d35878e28764d7894fcfbe1be1fb5e", func := "carpetbag/carpetbaglaw16.HierCommon", spec := "hierCommon", inPlace := ["internal/bytealg.CountString", "internal/bytealg.IndexByteString", "internal/bytealg.IndexString"], unfollowed := true, recurses := true, named := ["unicode/utf8.first", "unicode/utf8.acceptRanges", "internal/bytealg.MaxLen"], plainKeys := false, apart := false, laid := [("unicode/utf8.acceptRanges", laid_unicode_utf8_acceptRanges), ("unicode/utf8.first", laid_unicode_utf8_first)], narrowed := true }
def HierCommonUptoSaid : Prop := hierCommonUptoRow.holds Tryz.pinned (OpenSpec.upto hierCommonSpec)

/-- 'carpetbaglaw17.TypesBegin', WHERE WHAT IT READS IS OF BULK AT MOST 1048576: true; the input reads as it did. -/
def typesBeginUptoRow : OpenClaim := { program := "ytdkkpcbebhgbiaagreatdoor", sum := "780ba01313254b525b8bf27422d73ae3b7d35878e28764d7894fcfbe1be1fb5e", func := "carpetbag/carpetbaglaw17.TypesBegin", spec := "typesBegin", inPlace := ["internal/bytealg.IndexByteString", "internal/bytealg.IndexString", "internal/bytealg.CountString", "slices.overlaps[string]"], unfollowed := true, recurses := true, named := ["unicode/utf8.first", "unicode/utf8.acceptRanges", "internal/bytealg.MaxLen"], plainKeys := false, apart := false, laid := [("unicode/utf8.acceptRanges", laid_unicode_utf8_acceptRanges), ("unicode/utf8.first", laid_unicode_utf8_first)], narrowed := true }
def TypesBeginUptoSaid : Prop := typesBeginUptoRow.holds Tryz.pinned (OpenSpec.upto typesBeginSpec)

/-- 'carpetbaglaw17.TypesGo', WHERE WHAT IT READS IS OF BULK AT MOST 1048576: true; the input reads as it did. -/
def typesGoUptoRow : OpenClaim := { program := "ytdkkpcbebhgbiaagreatdoor", sum := "780ba01313254b525b8bf27422d73ae3b7d35878e28764d7894fcfbe1be1fb5e", func := "carpetbag/carpetbaglaw17.TypesGo", spec := "typesGo", inPlace := ["internal/bytealg.IndexByteString", "internal/bytealg.IndexString", "internal/bytealg.CountString", "slices.overlaps[string]"], unfollowed := true, recurses := true, named := ["unicode/utf8.first", "unicode/utf8.acceptRanges", "internal/bytealg.MaxLen"], plainKeys := false, apart := false, laid := [("unicode/utf8.acceptRanges", laid_unicode_utf8_acceptRanges), ("unicode/utf8.first", laid_unicode_utf8_first)], narrowed := true }
def TypesGoUptoSaid : Prop := typesGoUptoRow.holds Tryz.pinned (OpenSpec.upto typesGoSpec)

/-- 'carpetbaglaw17.TypesBack', WHERE WHAT IT READS IS OF BULK AT MOST 1048576: true; the input reads as it did. -/
def typesBackUptoRow : OpenClaim := { program := "ytdkkpcbebhgbiaagreatdoor", sum := "780ba01313254b525b8bf27422d73ae3b7d35878e28764d7894fcfbe1be1fb5e", func := "carpetbag/carpetbaglaw17.TypesBack", spec := "typesBack", inPlace := ["internal/bytealg.IndexByteString", "internal/bytealg.IndexString", "internal/bytealg.CountString", "slices.overlaps[string]"], unfollowed := true, recurses := true, named := ["unicode/utf8.first", "unicode/utf8.acceptRanges", "internal/bytealg.MaxLen"], plainKeys := false, apart := false, laid := [("unicode/utf8.acceptRanges", laid_unicode_utf8_acceptRanges), ("unicode/utf8.first", laid_unicode_utf8_first)], narrowed := true }
def TypesBackUptoSaid : Prop := typesBackUptoRow.holds Tryz.pinned (OpenSpec.upto typesBackSpec)

/-- 'carpetbaglaw17.TypesOrder', WHERE WHAT IT READS IS OF BULK AT MOST 1048576: true; the input reads as it did. -/
def typesOrderUptoRow : OpenClaim := { program := "ytdkkpcbebhgbiaagreatdoor", sum := "780ba01313254b525b8bf27422d73ae3b7d35878e28764d7894fcfbe1be1fb5e", func := "carpetbag/carpetbaglaw17.TypesOrder", spec := "typesOrder", inPlace := ["internal/bytealg.IndexByteString", "internal/bytealg.IndexString", "internal/bytealg.CountString", "slices.overlaps[string]"], unfollowed := true, recurses := true, named := ["unicode/utf8.first", "unicode/utf8.acceptRanges", "internal/bytealg.MaxLen"], plainKeys := false, apart := false, laid := [("unicode/utf8.acceptRanges", laid_unicode_utf8_acceptRanges), ("unicode/utf8.first", laid_unicode_utf8_first)], narrowed := true }
def TypesOrderUptoSaid : Prop := typesOrderUptoRow.holds Tryz.pinned (OpenSpec.upto typesOrderSpec)

/-- 'carpetbaglaw18.FlowGoes', WHERE WHAT IT READS IS OF BULK AT MOST 1048576: true; the input reads as it did. -/
def flowGoesUptoRow : OpenClaim := { program := "ytdkkpcbebhgbiaagreatdoor", sum := "780ba01313254b525b8bf27422d73ae3b7d35878e28764d7894fcfbe1be1fb5e", func := "carpetbag/carpetbaglaw18.FlowGoes", spec := "flowGoes", inPlace := ["internal/bytealg.IndexByteString", "internal/bytealg.IndexString", "internal/bytealg.CountString"], unfollowed := true, recurses := true, named := ["unicode/utf8.first", "unicode/utf8.acceptRanges", "internal/bytealg.MaxLen", "carpetbag/ops.spans"], plainKeys := false, apart := false, laid := [("unicode/utf8.acceptRanges", laid_unicode_utf8_acceptRanges), ("carpetbag/ops.spans", laid_carpetbag_ops_spans), ("unicode/utf8.first", laid_unicode_utf8_first)], narrowed := true }
def FlowGoesUptoSaid : Prop := flowGoesUptoRow.holds Tryz.pinned (OpenSpec.upto flowGoesSpec)

/-- 'carpetbaglaw18.FlowMade', WHERE WHAT IT READS IS OF BULK AT MOST 1048576: true; the input reads as it did. -/
def flowMadeUptoRow : OpenClaim := { program := "ytdkkpcbebhgbiaagreatdoor", sum := "780ba01313254b525b8bf27422d73ae3b7d35878e28764d7894fcfbe1be1fb5e", func := "carpetbag/carpetbaglaw18.FlowMade", spec := "flowMade", inPlace := ["internal/bytealg.IndexByteString", "internal/bytealg.IndexString", "internal/bytealg.CountString"], unfollowed := true, recurses := true, named := ["unicode/utf8.first", "unicode/utf8.acceptRanges", "internal/bytealg.MaxLen", "carpetbag/ops.spans"], plainKeys := false, apart := false, laid := [("unicode/utf8.acceptRanges", laid_unicode_utf8_acceptRanges), ("carpetbag/ops.spans", laid_carpetbag_ops_spans), ("unicode/utf8.first", laid_unicode_utf8_first)], narrowed := true }
def FlowMadeUptoSaid : Prop := flowMadeUptoRow.holds Tryz.pinned (OpenSpec.upto flowMadeSpec)

end Rows
end Go.Proofs.YtdkkpcbebhgbiaaGreatDoor
