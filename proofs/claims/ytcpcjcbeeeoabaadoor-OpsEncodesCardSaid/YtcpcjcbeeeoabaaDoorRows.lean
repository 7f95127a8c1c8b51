/-
  NARROWER THAN 'FOR EVERY INPUT', by the rows' own cells (each row's printed sentence says how): OpsForms: laid · OpsDecodes: laid · OpsEncodes: laid · OpsLong: laid.
  DERIVED. THE GIVEN ROWS OF THIS SEAT. 4 by the template 'for every input the law returns true; each argument reads behind the call as it read before'; 0 by the template 'total and deterministic' (their statements: YtcpcjcbeeeoabaaDoorTotals.lean).
  GIVEN WITH THE SEED: the statements are not yours to turn. If you find one false, say at which input.
  Laid BY PROGRAM, IN A SANDBOX (cutbox-rows.mjs): the forced cells as the released guide's own fill.sh prints them over the translation fd05a83cbf7f1350… (all of the seat's roots in one cut). By AI agents, Wed Nov 11 2026. No macro, syntax, notation, axiom, sorry.
-/
import Derived.Test.YtcpcjcbeeeoabaaDoorChecked
import GoSem.Claim
import GoSem.ClaimJoined
import GoSem.ClaimMapViews
import Derived.JoinedTies
import Derived.KernelRfl
namespace Go.Proofs.YtcpcjcbeeeoabaaDoor
/- THE CELL 'sum', in the pinned program and in every row, IS THE sha256 OF THE DUMP (.gsa) THAT YtcpcjcbeeeoabaaDoorProg.lean LOADS. Nothing in Lean hashes anything: it is a label: what it is worth is what the hold of that sum in a sandbox is worth. -/
noncomputable def Tryd.pinned : Pinned := { name := "ytcpcjcbeeeoabaadoor", sum := "fd05a83cbf7f135005974f6510def9910b31d0531d9d36b261cba8a4ddb67978", checked := Tryd.checked }
namespace Rows
def none {H : Type} : Left H := { results := [], args := [] }

/- WHAT THE LISTED PACKAGE-LEVEL VARIABLES READ AS WHEN THE CALL BEGINS. Each datum BY PROGRAM (the guide's laid-datum.mjs) off the statement by which the dump's own 'gosem.cut.vars' lays the variable. In a bare row this is a premise. The card (YtcpcjcbeeeoabaaDoorCards.lean) ties it to the program's text. -/
def laid_carpetbag_ops_spans {H : Type} : DataW H := .agg [.agg [.lit (.int .u8 0), .lit (.int .u8 10), .lit (.int .u8 1)], .agg [.lit (.int .u8 16), .lit (.int .u8 16), .lit (.int .u8 3)], .agg [.lit (.int .u8 17), .lit (.int .u8 17), .lit (.int .u8 4)], .agg [.lit (.int .u8 18), .lit (.int .u8 18), .lit (.int .u8 5)], .agg [.lit (.int .u8 20), .lit (.int .u8 20), .lit (.int .u8 6)], .agg [.lit (.int .u8 21), .lit (.int .u8 22), .lit (.int .u8 2)], .agg [.lit (.int .u8 25), .lit (.int .u8 25), .lit (.int .u8 2)], .agg [.lit (.int .u8 46), .lit (.int .u8 46), .lit (.int .u8 1)], .agg [.lit (.int .u8 50), .lit (.int .u8 51), .lit (.int .u8 1)], .agg [.lit (.int .u8 54), .lit (.int .u8 55), .lit (.int .u8 2)], .agg [.lit (.int .u8 58), .lit (.int .u8 58), .lit (.int .u8 2)], .agg [.lit (.int .u8 79), .lit (.int .u8 79), .lit (.int .u8 1)], .agg [.lit (.int .u8 83), .lit (.int .u8 84), .lit (.int .u8 1)], .agg [.lit (.int .u8 87), .lit (.int .u8 87), .lit (.int .u8 1)], .agg [.lit (.int .u8 89), .lit (.int .u8 89), .lit (.int .u8 1)], .agg [.lit (.int .u8 95), .lit (.int .u8 97), .lit (.int .u8 1)], .agg [.lit (.int .u8 100), .lit (.int .u8 101), .lit (.int .u8 1)], .agg [.lit (.int .u8 104), .lit (.int .u8 105), .lit (.int .u8 1)], .agg [.lit (.int .u8 108), .lit (.int .u8 109), .lit (.int .u8 1)], .agg [.lit (.int .u8 112), .lit (.int .u8 113), .lit (.int .u8 1)], .agg [.lit (.int .u8 116), .lit (.int .u8 117), .lit (.int .u8 1)], .agg [.lit (.int .u8 120), .lit (.int .u8 131), .lit (.int .u8 1)], .agg [.lit (.int .u8 132), .lit (.int .u8 132), .lit (.int .u8 8)], .agg [.lit (.int .u8 133), .lit (.int .u8 133), .lit (.int .u8 1)], .agg [.lit (.int .u8 136), .lit (.int .u8 136), .lit (.int .u8 1)], .agg [.lit (.int .u8 145), .lit (.int .u8 145), .lit (.int .u8 1)], .agg [.lit (.int .u8 148), .lit (.int .u8 148), .lit (.int .u8 1)], .agg [.lit (.int .u8 153), .lit (.int .u8 167), .lit (.int .u8 7)], .agg [.lit (.int .u8 172), .lit (.int .u8 173), .lit (.int .u8 1)], .agg [.lit (.int .u8 176), .lit (.int .u8 177), .lit (.int .u8 1)], .agg [.lit (.int .u8 178), .lit (.int .u8 182), .lit (.int .u8 6)], .agg [.lit (.int .u8 184), .lit (.int .u8 184), .lit (.int .u8 6)], .agg [.lit (.int .u8 187), .lit (.int .u8 187), .lit (.int .u8 6)], .agg [.lit (.int .u8 188), .lit (.int .u8 188), .lit (.int .u8 9)], .agg [.lit (.int .u8 189), .lit (.int .u8 189), .lit (.int .u8 6)], .agg [.lit (.int .u8 190), .lit (.int .u8 191), .lit (.int .u8 1)], .agg [.lit (.int .u8 192), .lit (.int .u8 193), .lit (.int .u8 6)], .agg [.lit (.int .u8 198), .lit (.int .u8 199), .lit (.int .u8 7)]]
def laid_carpetbag_ops_shapes {H : Type} : DataW H := .agg [.agg [.agg [.lit (.int .i64 0), .lit (.bool false)], .agg [.lit (.int .i64 0), .lit (.bool false)]], .agg [.agg [.lit (.int .i64 0), .lit (.bool false)], .agg [.lit (.int .i64 0), .lit (.bool false)]], .agg [.agg [.lit (.int .i64 1), .lit (.bool false)], .agg [.lit (.int .i64 0), .lit (.bool false)]], .agg [.agg [.lit (.int .i64 1), .lit (.bool true)], .agg [.lit (.int .i64 0), .lit (.bool false)]], .agg [.agg [.lit (.int .i64 2), .lit (.bool true)], .agg [.lit (.int .i64 0), .lit (.bool false)]], .agg [.agg [.lit (.int .i64 1), .lit (.bool false)], .agg [.lit (.int .i64 0), .lit (.bool false)]], .agg [.agg [.lit (.int .i64 2), .lit (.bool false)], .agg [.lit (.int .i64 0), .lit (.bool false)]], .agg [.agg [.lit (.int .i64 2), .lit (.bool true)], .agg [.lit (.int .i64 0), .lit (.bool false)]], .agg [.agg [.lit (.int .i64 1), .lit (.bool false)], .agg [.lit (.int .i64 1), .lit (.bool true)]], .agg [.agg [.lit (.int .i64 1), .lit (.bool false)], .agg [.lit (.int .i64 0), .lit (.bool false)]]]

/-- 'carpetbaglaw13.OpsForms': WHATEVER THE INPUT: true; the input reads as it did. -/
def opsFormsSpec : ChangeSpec := { name := "opsForms", fn := fun _ => fun
  | [d] => { results := [.lit (.bool true)], args := [d] }
  | _ => none }
def opsFormsRow : OpenClaim := { program := "ytcpcjcbeeeoabaadoor", sum := "fd05a83cbf7f135005974f6510def9910b31d0531d9d36b261cba8a4ddb67978", func := "carpetbag/carpetbaglaw13.OpsForms", spec := "opsForms", unfollowed := true, recurses := true, named := ["carpetbag/ops.spans", "carpetbag/ops.shapes"], apart := false, laid := [("carpetbag/ops.spans", laid_carpetbag_ops_spans), ("carpetbag/ops.shapes", laid_carpetbag_ops_shapes)] }
def OpsFormsSaid : Prop := opsFormsRow.holds Tryd.pinned (OpenSpec.ofChange opsFormsSpec)

/-- ITS FALSE NEIGHBOUR: 'it returns false'. Refute it at one input. -/
def opsFormsWrong : ChangeSpec := { name := "opsForms", fn := fun _ => fun
  | [d] => { results := [.lit (.bool false)], args := [d] }
  | _ => none }
def OpsFormsWrongFalsely : Prop := opsFormsRow.holds Tryd.pinned (OpenSpec.ofChange opsFormsWrong)

/-- 'carpetbaglaw13.OpsDecodes': WHATEVER THE INPUT: true; the input reads as it did. -/
def opsDecodesSpec : ChangeSpec := { name := "opsDecodes", fn := fun _ => fun
  | [d] => { results := [.lit (.bool true)], args := [d] }
  | _ => none }
def opsDecodesRow : OpenClaim := { program := "ytcpcjcbeeeoabaadoor", sum := "fd05a83cbf7f135005974f6510def9910b31d0531d9d36b261cba8a4ddb67978", func := "carpetbag/carpetbaglaw13.OpsDecodes", spec := "opsDecodes", unfollowed := true, recurses := true, named := ["carpetbag/ops.spans", "carpetbag/ops.shapes"], apart := false, laid := [("carpetbag/ops.spans", laid_carpetbag_ops_spans), ("carpetbag/ops.shapes", laid_carpetbag_ops_shapes)] }
def OpsDecodesSaid : Prop := opsDecodesRow.holds Tryd.pinned (OpenSpec.ofChange opsDecodesSpec)

/-- ITS FALSE NEIGHBOUR: 'it returns false'. Refute it at one input. -/
def opsDecodesWrong : ChangeSpec := { name := "opsDecodes", fn := fun _ => fun
  | [d] => { results := [.lit (.bool false)], args := [d] }
  | _ => none }
def OpsDecodesWrongFalsely : Prop := opsDecodesRow.holds Tryd.pinned (OpenSpec.ofChange opsDecodesWrong)

/-- 'carpetbaglaw13.OpsEncodes': WHATEVER THE INPUT: true; the input reads as it did. -/
def opsEncodesSpec : ChangeSpec := { name := "opsEncodes", fn := fun _ => fun
  | [d] => { results := [.lit (.bool true)], args := [d] }
  | _ => none }
def opsEncodesRow : OpenClaim := { program := "ytcpcjcbeeeoabaadoor", sum := "fd05a83cbf7f135005974f6510def9910b31d0531d9d36b261cba8a4ddb67978", func := "carpetbag/carpetbaglaw13.OpsEncodes", spec := "opsEncodes", unfollowed := true, recurses := true, named := ["carpetbag/ops.spans", "carpetbag/ops.shapes"], apart := false, laid := [("carpetbag/ops.spans", laid_carpetbag_ops_spans), ("carpetbag/ops.shapes", laid_carpetbag_ops_shapes)] }
def OpsEncodesSaid : Prop := opsEncodesRow.holds Tryd.pinned (OpenSpec.ofChange opsEncodesSpec)

/-- ITS FALSE NEIGHBOUR: 'it returns false'. Refute it at one input. -/
def opsEncodesWrong : ChangeSpec := { name := "opsEncodes", fn := fun _ => fun
  | [d] => { results := [.lit (.bool false)], args := [d] }
  | _ => none }
def OpsEncodesWrongFalsely : Prop := opsEncodesRow.holds Tryd.pinned (OpenSpec.ofChange opsEncodesWrong)

/-- 'carpetbaglaw13.OpsLong': WHATEVER THE INPUT: true; the input reads as it did. -/
def opsLongSpec : ChangeSpec := { name := "opsLong", fn := fun _ => fun
  | [d] => { results := [.lit (.bool true)], args := [d] }
  | _ => none }
def opsLongRow : OpenClaim := { program := "ytcpcjcbeeeoabaadoor", sum := "fd05a83cbf7f135005974f6510def9910b31d0531d9d36b261cba8a4ddb67978", func := "carpetbag/carpetbaglaw13.OpsLong", spec := "opsLong", unfollowed := true, recurses := true, named := ["carpetbag/ops.spans", "carpetbag/ops.shapes"], apart := false, laid := [("carpetbag/ops.spans", laid_carpetbag_ops_spans), ("carpetbag/ops.shapes", laid_carpetbag_ops_shapes)] }
def OpsLongSaid : Prop := opsLongRow.holds Tryd.pinned (OpenSpec.ofChange opsLongSpec)

/-- ITS FALSE NEIGHBOUR: 'it returns false'. Refute it at one input. -/
def opsLongWrong : ChangeSpec := { name := "opsLong", fn := fun _ => fun
  | [d] => { results := [.lit (.bool false)], args := [d] }
  | _ => none }
def OpsLongWrongFalsely : Prop := opsLongRow.holds Tryd.pinned (OpenSpec.ofChange opsLongWrong)

/- THE SECOND FORM. 'bulk': how many values and letters a reading holds, each counted each time it is reached (what is shared counts as often as it is met; a slice's spare places count too). A statement '..UptoSaid' is the law's where the arguments, and the package variables that the reading takes, are together of bulk at most 1048576: NARROWER than '..Said'. Prove '..Said' where nothing that the law and all that it calls make is longer than what came in: it says more and counts as full. Else prove '..UptoSaid'. A law counts once. -/
mutual
def uptoBulk {H : Type} : DataW H → Nat
  | .lit (.string bytes) => bytes.length + 1
  | .lit _ => 1
  | .nil => 1
  | .ptr d => uptoBulk d + 1
  | .slice elems spare => uptoBulkAll elems + uptoBulkAll spare + 1
  | .agg parts => uptoBulkAll parts + 1
  | .iface _ d => uptoBulk d + 1
  | .map entries => uptoBulkEntries entries + 1
  | .held _ => 1
def uptoBulkAll {H : Type} : List (DataW H) → Nat
  | [] => 0
  | d :: r => uptoBulk d + uptoBulkAll r
def uptoBulkEntries {H : Type} : List (Lit × DataW H) → Nat
  | [] => 0
  | x :: r => uptoBulkEntry x + uptoBulkEntries r
def uptoBulkEntry {H : Type} : Lit × DataW H → Nat
  | (.string bytes, d) => bytes.length + uptoBulk d + 1
  | (_, d) => uptoBulk d + 1
 end
def uptoSmall : (H : Type) → List (DataW H) → Bool := fun _ ds => decide (uptoBulkAll ds ≤ 1048576)
def OpenSpec.upto (s : _root_.Go.ChangeSpec) : _root_.Go.OpenSpec := { _root_.Go.OpenSpec.ofChange s with cond := some uptoSmall }

/-- 'carpetbaglaw13.OpsForms', WHERE WHAT IT READS IS OF BULK AT MOST 1048576: true; the input reads as it did. -/
def opsFormsUptoRow : OpenClaim := { program := "ytcpcjcbeeeoabaadoor", sum := "fd05a83cbf7f135005974f6510def9910b31d0531d9d36b261cba8a4ddb67978", func := "carpetbag/carpetbaglaw13.OpsForms", spec := "opsForms", unfollowed := true, recurses := true, named := ["carpetbag/ops.spans", "carpetbag/ops.shapes"], apart := false, laid := [("carpetbag/ops.spans", laid_carpetbag_ops_spans), ("carpetbag/ops.shapes", laid_carpetbag_ops_shapes)], narrowed := true }
def OpsFormsUptoSaid : Prop := opsFormsUptoRow.holds Tryd.pinned (OpenSpec.upto opsFormsSpec)

/-- 'carpetbaglaw13.OpsDecodes', WHERE WHAT IT READS IS OF BULK AT MOST 1048576: true; the input reads as it did. -/
def opsDecodesUptoRow : OpenClaim := { program := "ytcpcjcbeeeoabaadoor", sum := "fd05a83cbf7f135005974f6510def9910b31d0531d9d36b261cba8a4ddb67978", func := "carpetbag/carpetbaglaw13.OpsDecodes", spec := "opsDecodes", unfollowed := true, recurses := true, named := ["carpetbag/ops.spans", "carpetbag/ops.shapes"], apart := false, laid := [("carpetbag/ops.spans", laid_carpetbag_ops_spans), ("carpetbag/ops.shapes", laid_carpetbag_ops_shapes)], narrowed := true }
def OpsDecodesUptoSaid : Prop := opsDecodesUptoRow.holds Tryd.pinned (OpenSpec.upto opsDecodesSpec)

/-- 'carpetbaglaw13.OpsEncodes', WHERE WHAT IT READS IS OF BULK AT MOST 1048576: true; the input reads as it did. -/
def opsEncodesUptoRow : OpenClaim := { program := "ytcpcjcbeeeoabaadoor", sum := "fd05a83cbf7f135005974f6510def9910b31d0531d9d36b261cba8a4ddb67978", func := "carpetbag/carpetbaglaw13.OpsEncodes", spec := "opsEncodes", unfollowed := true, recurses := true, named := ["carpetbag/ops.spans", "carpetbag/ops.shapes"], apart := false, laid := [("carpetbag/ops.spans", laid_carpetbag_ops_spans), ("carpetbag/ops.shapes", laid_carpetbag_ops_shapes)], narrowed := true }
def OpsEncodesUptoSaid : Prop := opsEncodesUptoRow.holds Tryd.pinned (OpenSpec.upto opsEncodesSpec)

/-- 'carpetbaglaw13.OpsLong', WHERE WHAT IT READS IS OF BULK AT MOST 1048576: true; the input reads as it did. -/
def opsLongUptoRow : OpenClaim := { program := "ytcpcjcbeeeoabaadoor", sum := "fd05a83cbf7f135005974f6510def9910b31d0531d9d36b261cba8a4ddb67978", func := "carpetbag/carpetbaglaw13.OpsLong", spec := "opsLong", unfollowed := true, recurses := true, named := ["carpetbag/ops.spans", "carpetbag/ops.shapes"], apart := false, laid := [("carpetbag/ops.spans", laid_carpetbag_ops_spans), ("carpetbag/ops.shapes", laid_carpetbag_ops_shapes)], narrowed := true }
def OpsLongUptoSaid : Prop := opsLongUptoRow.holds Tryd.pinned (OpenSpec.upto opsLongSpec)

end Rows
end Go.Proofs.YtcpcjcbeeeoabaaDoor
