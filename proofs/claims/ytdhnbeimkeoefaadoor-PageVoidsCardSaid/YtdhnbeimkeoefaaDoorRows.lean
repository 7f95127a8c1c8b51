/-
  NARROWER THAN 'FOR EVERY INPUT', by the rows' own cells (each row's printed sentence says how): PageHeads: laid · PageVoids: laid · PageNil: laid.
  DERIVED. THE GIVEN ROWS OF THIS SEAT. 3 by the template 'for every input the law returns true; each argument reads behind the call as it read before'; 0 by the template 'total and deterministic' (their statements: YtdhnbeimkeoefaaDoorTotals.lean).
  GIVEN WITH THE SEED: the statements are not yours to turn. If you find one false, say at which input.
  Laid BY PROGRAM, IN A SANDBOX (cutbox-rows.mjs): the forced cells as the released guide's own fill.sh prints them over the translation 8a37bb6f75d6547e… (all of the seat's roots in one cut). By AI agents, Wed Nov 11 2026. No macro, syntax, notation, axiom, sorry.
-/
import Derived.Test.YtdhnbeimkeoefaaDoorChecked
import GoSem.Claim
import GoSem.ClaimJoined
import GoSem.ClaimMapViews
import Derived.JoinedTies
import Derived.KernelRfl
namespace Go.Proofs.YtdhnbeimkeoefaaDoor
/- THE CELL 'sum', in the pinned program and in every row, IS THE sha256 OF THE DUMP (.gsa) THAT YtdhnbeimkeoefaaDoorProg.lean LOADS. Nothing in Lean hashes anything: it is a label: what it is worth is what the hold of that sum in a sandbox is worth. -/
noncomputable def Tryd.pinned : Pinned := { name := "ytdhnbeimkeoefaadoor", sum := "8a37bb6f75d6547ec5e2cab3622a4e63ac7521b1fae45c84906c0b383d1b903d", checked := Tryd.checked }
namespace Rows
def none {H : Type} : Left H := { results := [], args := [] }

/- WHAT THE LISTED PACKAGE-LEVEL VARIABLES READ AS WHEN THE CALL BEGINS. Each datum BY PROGRAM (the guide's laid-datum.mjs) off the statement by which the dump's own 'gosem.cut.vars' lays the variable. In a bare row this is a premise. The card (YtdhnbeimkeoefaaDoorCards.lean) ties it to the program's text. -/
def laid_carpetbag_page_mark {H : Type} : DataW H := .agg [.lit (.int .u8 67), .lit (.int .u8 66)]

/-- 'carpetbaglaw04.PageHeads': WHATEVER THE INPUT: true; the input reads as it did. -/
def pageHeadsSpec : ChangeSpec := { name := "pageHeads", fn := fun _ => fun
  | [d1, d2] => { results := [.lit (.bool true)], args := [d1, d2] }
  | _ => none }
def pageHeadsRow : OpenClaim := { program := "ytdhnbeimkeoefaadoor", sum := "8a37bb6f75d6547ec5e2cab3622a4e63ac7521b1fae45c84906c0b383d1b903d", func := "carpetbag/carpetbaglaw04.PageHeads", spec := "pageHeads", named := ["carpetbag/page.mark"], apart := false, laid := [("carpetbag/page.mark", laid_carpetbag_page_mark)] }
def PageHeadsSaid : Prop := pageHeadsRow.holds Tryd.pinned (OpenSpec.ofChange pageHeadsSpec)

/-- ITS FALSE NEIGHBOUR: 'it returns false'. Refute it at one input. -/
def pageHeadsWrong : ChangeSpec := { name := "pageHeads", fn := fun _ => fun
  | [d1, d2] => { results := [.lit (.bool false)], args := [d1, d2] }
  | _ => none }
def PageHeadsWrongFalsely : Prop := pageHeadsRow.holds Tryd.pinned (OpenSpec.ofChange pageHeadsWrong)

/-- 'carpetbaglaw04.PageVoids': WHATEVER THE INPUT: true; the input reads as it did. -/
def pageVoidsSpec : ChangeSpec := { name := "pageVoids", fn := fun _ => fun
  | [d1, d2, d3] => { results := [.lit (.bool true)], args := [d1, d2, d3] }
  | _ => none }
def pageVoidsRow : OpenClaim := { program := "ytdhnbeimkeoefaadoor", sum := "8a37bb6f75d6547ec5e2cab3622a4e63ac7521b1fae45c84906c0b383d1b903d", func := "carpetbag/carpetbaglaw04.PageVoids", spec := "pageVoids", inPlace := ["internal/bytealg.Count", "internal/bytealg.IndexByte", "internal/bytealg.Index"], named := ["carpetbag/page.mark", "internal/bytealg.MaxLen"], apart := false, laid := [("carpetbag/page.mark", laid_carpetbag_page_mark)] }
def PageVoidsSaid : Prop := pageVoidsRow.holds Tryd.pinned (OpenSpec.ofChange pageVoidsSpec)

/-- ITS FALSE NEIGHBOUR: 'it returns false'. Refute it at one input. -/
def pageVoidsWrong : ChangeSpec := { name := "pageVoids", fn := fun _ => fun
  | [d1, d2, d3] => { results := [.lit (.bool false)], args := [d1, d2, d3] }
  | _ => none }
def PageVoidsWrongFalsely : Prop := pageVoidsRow.holds Tryd.pinned (OpenSpec.ofChange pageVoidsWrong)

/-- 'carpetbaglaw04.PageNil': WHATEVER THE INPUT: true; the input reads as it did. -/
def pageNilSpec : ChangeSpec := { name := "pageNil", fn := fun _ => fun
  | [d1, d2] => { results := [.lit (.bool true)], args := [d1, d2] }
  | _ => none }
def pageNilRow : OpenClaim := { program := "ytdhnbeimkeoefaadoor", sum := "8a37bb6f75d6547ec5e2cab3622a4e63ac7521b1fae45c84906c0b383d1b903d", func := "carpetbag/carpetbaglaw04.PageNil", spec := "pageNil", inPlace := ["internal/bytealg.Count", "internal/bytealg.IndexByte", "internal/bytealg.Index"], named := ["carpetbag/page.mark", "internal/bytealg.MaxLen"], apart := false, laid := [("carpetbag/page.mark", laid_carpetbag_page_mark)] }
def PageNilSaid : Prop := pageNilRow.holds Tryd.pinned (OpenSpec.ofChange pageNilSpec)

/-- ITS FALSE NEIGHBOUR: 'it returns false'. Refute it at one input. -/
def pageNilWrong : ChangeSpec := { name := "pageNil", fn := fun _ => fun
  | [d1, d2] => { results := [.lit (.bool false)], args := [d1, d2] }
  | _ => none }
def PageNilWrongFalsely : Prop := pageNilRow.holds Tryd.pinned (OpenSpec.ofChange pageNilWrong)

/- THE SECOND FORM. 'bulk': how many values and letters a reading holds, each counted each time it is reached (what is shared counts as often as it is met; a slice's spare places count too). A statement '..UptoSaid' is the law's where the arguments, and the package variables that the reading takes, are together of bulk at most 1048576: NARROWER than '..Said'. Prove '..Said' where nothing that the law and all that it calls make is longer than what came in: it says more and counts as full. Else prove '..UptoSaid'. A law counts once. -/
mutual
def uptoBulk {H : Type} : DataW H → Nat
  | .lit (.string bytes) => bytes.length + 1
  | .lit _ => 1
  | .nil => 1
  | .ptr d => uptoBulk d + 1
  | .slice elems spare => uptoBulkAll elems + uptoBulkAll spare + 1
  | .agg parts => uptoBulkAll parts + 1
  | .iface _ d => uptoBulk d + 1
  | .map entries => uptoBulkEntries entries + 1
  | .held _ => 1
def uptoBulkAll {H : Type} : List (DataW H) → Nat
  | [] => 0
  | d :: r => uptoBulk d + uptoBulkAll r
def uptoBulkEntries {H : Type} : List (Lit × DataW H) → Nat
  | [] => 0
  | x :: r => uptoBulkEntry x + uptoBulkEntries r
def uptoBulkEntry {H : Type} : Lit × DataW H → Nat
  | (.string bytes, d) => bytes.length + uptoBulk d + 1
  | (_, d) => uptoBulk d + 1
 end
def uptoSmall : (H : Type) → List (DataW H) → Bool := fun _ ds => decide (uptoBulkAll ds ≤ 1048576)
def OpenSpec.upto (s : _root_.Go.ChangeSpec) : _root_.Go.OpenSpec := { _root_.Go.OpenSpec.ofChange s with cond := some uptoSmall }

/-- 'carpetbaglaw04.PageHeads', WHERE WHAT IT READS IS OF BULK AT MOST 1048576: true; the input reads as it did. -/
def pageHeadsUptoRow : OpenClaim := { program := "ytdhnbeimkeoefaadoor", sum := "8a37bb6f75d6547ec5e2cab3622a4e63ac7521b1fae45c84906c0b383d1b903d", func := "carpetbag/carpetbaglaw04.PageHeads", spec := "pageHeads", named := ["carpetbag/page.mark"], apart := false, laid := [("carpetbag/page.mark", laid_carpetbag_page_mark)], narrowed := true }
def PageHeadsUptoSaid : Prop := pageHeadsUptoRow.holds Tryd.pinned (OpenSpec.upto pageHeadsSpec)

/-- 'carpetbaglaw04.PageVoids', WHERE WHAT IT READS IS OF BULK AT MOST 1048576: true; the input reads as it did. -/
def pageVoidsUptoRow : OpenClaim := { program := "ytdhnbeimkeoefaadoor", sum := "8a37bb6f75d6547ec5e2cab3622a4e63ac7521b1fae45c84906c0b383d1b903d", func := "carpetbag/carpetbaglaw04.PageVoids", spec := "pageVoids", inPlace := ["internal/bytealg.Count", "internal/bytealg.IndexByte", "internal/bytealg.Index"], named := ["carpetbag/page.mark", "internal/bytealg.MaxLen"], apart := false, laid := [("carpetbag/page.mark", laid_carpetbag_page_mark)], narrowed := true }
def PageVoidsUptoSaid : Prop := pageVoidsUptoRow.holds Tryd.pinned (OpenSpec.upto pageVoidsSpec)

/-- 'carpetbaglaw04.PageNil', WHERE WHAT IT READS IS OF BULK AT MOST 1048576: true; the input reads as it did. -/
def pageNilUptoRow : OpenClaim := { program := "ytdhnbeimkeoefaadoor", sum := "8a37bb6f75d6547ec5e2cab3622a4e63ac7521b1fae45c84906c0b383d1b903d", func := "carpetbag/carpetbaglaw04.PageNil", spec := "pageNil", inPlace := ["internal/bytealg.Count", "internal/bytealg.IndexByte", "internal/bytealg.Index"], named := ["carpetbag/page.mark", "internal/bytealg.MaxLen"], apart := false, laid := [("carpetbag/page.mark", laid_carpetbag_page_mark)], narrowed := true }
def PageNilUptoSaid : Prop := pageNilUptoRow.holds Tryd.pinned (OpenSpec.upto pageNilSpec)

end Rows
end Go.Proofs.YtdhnbeimkeoefaaDoor
