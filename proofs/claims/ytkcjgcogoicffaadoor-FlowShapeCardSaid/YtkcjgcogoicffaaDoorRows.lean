/-
  NARROWER THAN 'FOR EVERY INPUT', by the rows' own cells (each row's printed sentence says how): FlowShape: laid.
  DERIVED. THE GIVEN ROWS OF THIS SEAT. 1 by the template 'for every input the law returns true; each argument reads behind the call as it read before'; 0 by the template 'total and deterministic' (their statements: YtkcjgcogoicffaaDoorTotals.lean).
  GIVEN WITH THE SEED: the statements are not yours to turn. If you find one false, say at which input.
  Laid BY PROGRAM, IN A SANDBOX (cutbox-rows.mjs): the forced cells as the released guide's own fill.sh prints them over the translation 9d6f3316158c32e4… (all of the seat's roots in one cut). By AI agents, Wed Nov 11 2026. No macro, syntax, notation, axiom, sorry.
-/
import Derived.Test.YtkcjgcogoicffaaDoorChecked
import GoSem.PinnedTables
import GoSem.Claim
import GoSem.ClaimJoined
import GoSem.ClaimMapViews
import Derived.JoinedTies
import Derived.KernelRfl
namespace Go.Proofs.YtkcjgcogoicffaaDoor
/- THE CELL 'sum', in the pinned program and in every row, IS THE sha256 OF THE DUMP (.gsa) THAT YtkcjgcogoicffaaDoorProg.lean LOADS. Nothing in Lean hashes anything: it is a label: what it is worth is what the hold of that sum in a sandbox is worth. -/
noncomputable def Tryd.pinned : Pinned := { name := "ytkcjgcogoicffaadoor", sum := "9d6f3316158c32e49bd8a9857ac76da90a87e45386cef87930171adfc64ada65", checked := Tryd.checked }
namespace Rows
def none {H : Type} : Left H := { results := [], args := [] }

/- WHAT THE LISTED PACKAGE-LEVEL VARIABLES READ AS WHEN THE CALL BEGINS. Each datum BY PROGRAM (the guide's laid-datum.mjs) off the statement by which the dump's own 'gosem.cut.vars' lays the variable. In a bare row this is a premise. The card (YtkcjgcogoicffaaDoorCards.lean) ties it to the program's text. -/
def laid_unicode_utf8_acceptRanges {H : Type} : DataW H := .agg [.agg [.lit (.int .u8 128), .lit (.int .u8 191)], .agg [.lit (.int .u8 160), .lit (.int .u8 191)], .agg [.lit (.int .u8 128), .lit (.int .u8 159)], .agg [.lit (.int .u8 144), .lit (.int .u8 191)], .agg [.lit (.int .u8 128), .lit (.int .u8 143)], .agg [.lit (.int .u8 0), .lit (.int .u8 0)], .agg [.lit (.int .u8 0), .lit (.int .u8 0)], .agg [.lit (.int .u8 0), .lit (.int .u8 0)], .agg [.lit (.int .u8 0), .lit (.int .u8 0)], .agg [.lit (.int .u8 0), .lit (.int .u8 0)], .agg [.lit (.int .u8 0), .lit (.int .u8 0)], .agg [.lit (.int .u8 0), .lit (.int .u8 0)], .agg [.lit (.int .u8 0), .lit (.int .u8 0)], .agg [.lit (.int .u8 0), .lit (.int .u8 0)], .agg [.lit (.int .u8 0), .lit (.int .u8 0)], .agg [.lit (.int .u8 0), .lit (.int .u8 0)]]
def laid_carpetbag_ops_spans {H : Type} : DataW H := .agg [.agg [.lit (.int .u8 0), .lit (.int .u8 10), .lit (.int .u8 1)], .agg [.lit (.int .u8 16), .lit (.int .u8 16), .lit (.int .u8 3)], .agg [.lit (.int .u8 17), .lit (.int .u8 17), .lit (.int .u8 4)], .agg [.lit (.int .u8 18), .lit (.int .u8 18), .lit (.int .u8 5)], .agg [.lit (.int .u8 20), .lit (.int .u8 20), .lit (.int .u8 6)], .agg [.lit (.int .u8 21), .lit (.int .u8 22), .lit (.int .u8 2)], .agg [.lit (.int .u8 25), .lit (.int .u8 25), .lit (.int .u8 2)], .agg [.lit (.int .u8 46), .lit (.int .u8 46), .lit (.int .u8 1)], .agg [.lit (.int .u8 50), .lit (.int .u8 51), .lit (.int .u8 1)], .agg [.lit (.int .u8 54), .lit (.int .u8 55), .lit (.int .u8 2)], .agg [.lit (.int .u8 58), .lit (.int .u8 58), .lit (.int .u8 2)], .agg [.lit (.int .u8 79), .lit (.int .u8 79), .lit (.int .u8 1)], .agg [.lit (.int .u8 83), .lit (.int .u8 84), .lit (.int .u8 1)], .agg [.lit (.int .u8 87), .lit (.int .u8 87), .lit (.int .u8 1)], .agg [.lit (.int .u8 89), .lit (.int .u8 89), .lit (.int .u8 1)], .agg [.lit (.int .u8 95), .lit (.int .u8 97), .lit (.int .u8 1)], .agg [.lit (.int .u8 100), .lit (.int .u8 101), .lit (.int .u8 1)], .agg [.lit (.int .u8 104), .lit (.int .u8 105), .lit (.int .u8 1)], .agg [.lit (.int .u8 108), .lit (.int .u8 109), .lit (.int .u8 1)], .agg [.lit (.int .u8 112), .lit (.int .u8 113), .lit (.int .u8 1)], .agg [.lit (.int .u8 116), .lit (.int .u8 117), .lit (.int .u8 1)], .agg [.lit (.int .u8 120), .lit (.int .u8 131), .lit (.int .u8 1)], .agg [.lit (.int .u8 132), .lit (.int .u8 132), .lit (.int .u8 8)], .agg [.lit (.int .u8 133), .lit (.int .u8 133), .lit (.int .u8 1)], .agg [.lit (.int .u8 136), .lit (.int .u8 136), .lit (.int .u8 1)], .agg [.lit (.int .u8 145), .lit (.int .u8 145), .lit (.int .u8 1)], .agg [.lit (.int .u8 148), .lit (.int .u8 148), .lit (.int .u8 1)], .agg [.lit (.int .u8 153), .lit (.int .u8 167), .lit (.int .u8 7)], .agg [.lit (.int .u8 172), .lit (.int .u8 173), .lit (.int .u8 1)], .agg [.lit (.int .u8 176), .lit (.int .u8 177), .lit (.int .u8 1)], .agg [.lit (.int .u8 178), .lit (.int .u8 182), .lit (.int .u8 6)], .agg [.lit (.int .u8 184), .lit (.int .u8 184), .lit (.int .u8 6)], .agg [.lit (.int .u8 187), .lit (.int .u8 187), .lit (.int .u8 6)], .agg [.lit (.int .u8 188), .lit (.int .u8 188), .lit (.int .u8 9)], .agg [.lit (.int .u8 189), .lit (.int .u8 189), .lit (.int .u8 6)], .agg [.lit (.int .u8 190), .lit (.int .u8 191), .lit (.int .u8 1)], .agg [.lit (.int .u8 192), .lit (.int .u8 193), .lit (.int .u8 6)], .agg [.lit (.int .u8 198), .lit (.int .u8 199), .lit (.int .u8 7)]]
/-- One of Go's own tables, pinned by name: the form's constant. -/
def laid_unicode_utf8_first : DataW Unit := Go.Pinned.utf8First

/-- 'carpetbaglaw18.FlowShape': WHATEVER THE INPUT: true; the input reads as it did. -/
def flowShapeSpec : ChangeSpec := { name := "flowShape", fn := fun _ => fun
  | [d] => { results := [.lit (.bool true)], args := [d] }
  | _ => none }
def flowShapeRow : OpenClaim := { program := "ytkcjgcogoicffaadoor", sum := "9d6f3316158c32e49bd8a9857ac76da90a87e45386cef87930171adfc64ada65", func := "carpetbag/carpetbaglaw18.FlowShape", spec := "flowShape", inPlace := ["internal/bytealg.IndexByteString", "internal/bytealg.IndexString", "internal/bytealg.CountString"], unfollowed := true, recurses := true, named := ["unicode/utf8.first", "unicode/utf8.acceptRanges", "internal/bytealg.MaxLen", "carpetbag/ops.spans"], apart := false, laid := [("unicode/utf8.acceptRanges", laid_unicode_utf8_acceptRanges), ("carpetbag/ops.spans", laid_carpetbag_ops_spans), ("unicode/utf8.first", laid_unicode_utf8_first)] }
def FlowShapeSaid : Prop := flowShapeRow.holds Tryd.pinned (OpenSpec.ofChange flowShapeSpec)

/-- ITS FALSE NEIGHBOUR: 'it returns false'. Refute it at one input. -/
def flowShapeWrong : ChangeSpec := { name := "flowShape", fn := fun _ => fun
  | [d] => { results := [.lit (.bool false)], args := [d] }
  | _ => none }
def FlowShapeWrongFalsely : Prop := flowShapeRow.holds Tryd.pinned (OpenSpec.ofChange flowShapeWrong)

/- THE SECOND FORM. 'bulk': how many values and letters a reading holds, each counted each time it is reached (what is shared counts as often as it is met; a slice's spare places count too). A statement '..UptoSaid' is the law's where the arguments, and the package variables that the reading takes, are together of bulk at most 1048576: NARROWER than '..Said'. Prove '..Said' where nothing that the law and all that it calls make is longer than what came in: it says more and counts as full. Else prove '..UptoSaid'. A law counts once. -/
mutual
def uptoBulk {H : Type} : DataW H → Nat
  | .lit (.string bytes) => bytes.length + 1
  | .lit _ => 1
  | .nil => 1
  | .ptr d => uptoBulk d + 1
  | .slice elems spare => uptoBulkAll elems + uptoBulkAll spare + 1
  | .agg parts => uptoBulkAll parts + 1
  | .iface _ d => uptoBulk d + 1
  | .map entries => uptoBulkEntries entries + 1
  | .held _ => 1
def uptoBulkAll {H : Type} : List (DataW H) → Nat
  | [] => 0
  | d :: r => uptoBulk d + uptoBulkAll r
def uptoBulkEntries {H : Type} : List (Lit × DataW H) → Nat
  | [] => 0
  | x :: r => uptoBulkEntry x + uptoBulkEntries r
def uptoBulkEntry {H : Type} : Lit × DataW H → Nat
  | (.string bytes, d) => bytes.length + uptoBulk d + 1
  | (_, d) => uptoBulk d + 1
 end
def uptoSmall : (H : Type) → List (DataW H) → Bool := fun _ ds => decide (uptoBulkAll ds ≤ 1048576)
def OpenSpec.upto (s : _root_.Go.ChangeSpec) : _root_.Go.OpenSpec := { _root_.Go.OpenSpec.ofChange s with cond := some uptoSmall }

/-- 'carpetbaglaw18.FlowShape', WHERE WHAT IT READS IS OF BULK AT MOST 1048576: true; the input reads as it did. -/
def flowShapeUptoRow : OpenClaim := { program := "ytkcjgcogoicffaadoor", sum := "9d6f3316158c32e49bd8a9857ac76da90a87e45386cef87930171adfc64ada65", func := "carpetbag/carpetbaglaw18.FlowShape", spec := "flowShape", inPlace := ["internal/bytealg.IndexByteString", "internal/bytealg.IndexString", "internal/bytealg.CountString"], unfollowed := true, recurses := true, named := ["unicode/utf8.first", "unicode/utf8.acceptRanges", "internal/bytealg.MaxLen", "carpetbag/ops.spans"], apart := false, laid := [("unicode/utf8.acceptRanges", laid_unicode_utf8_acceptRanges), ("carpetbag/ops.spans", laid_carpetbag_ops_spans), ("unicode/utf8.first", laid_unicode_utf8_first)], narrowed := true }
def FlowShapeUptoSaid : Prop := flowShapeUptoRow.holds Tryd.pinned (OpenSpec.upto flowShapeSpec)

end Rows
end Go.Proofs.YtkcjgcogoicffaaDoor
