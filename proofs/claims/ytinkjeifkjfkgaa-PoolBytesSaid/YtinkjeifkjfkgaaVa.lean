/- Constants and pools as plain data; what stands where. Nothing of the program but how a constant lies in memory. -/
import Derived.Test.YtinkjeifkjfkgaaRw
import Derived.Test.YtinkjeifkjfkgaaUa
namespace Go.Proofs.Ytinkjeifkjfkgaa
set_option maxRecDepth 100000
open Go.RowKit

/-- A constant. -/
structure Cst where
  tag : Int
  a : Int
  b : Int
  n : Int
  s : List UInt8
  deriving DecidableEq
def zeroC : Cst := ⟨0, 0, 0, 0, []⟩
/-- Its numbers are the machine's; its text isn't very long. -/
structure Cst.ok (c : Cst) : Prop where
  tag : -9223372036854775808 ≤ c.tag ∧ c.tag ≤ 9223372036854775807
  a : -9223372036854775808 ≤ c.a ∧ c.a ≤ 9223372036854775807
  b : -9223372036854775808 ≤ c.b ∧ c.b ≤ 9223372036854775807
  n : -9223372036854775808 ≤ c.n ∧ c.n ≤ 9223372036854775807
  s : c.s.length ≤ 9223372036854775807
theorem zeroC_ok : zeroC.ok := ⟨by decide, by decide, by decide, by decide, by decide⟩

theorem strB_size (xs : List UInt8) : (strB xs).size = xs.length := by simp [strB, ByteArray.size]
/-- How it lies. -/
def Cst.cells (c : Cst) : List Value := [.int .i64 c.tag, .int .i64 c.a, .int .i64 c.b, .int .i64 c.n, .string (strB c.s)]
def Cst.v (c : Cst) : Value := .agg #[.int .i64 c.tag, .int .i64 c.a, .int .i64 c.b, .int .i64 c.n, .string (strB c.s)]
theorem Cst.cells_len (c : Cst) : c.cells.length = 5 := rfl
theorem Cst.cells_one (c : Cst) : ∀ v ∈ c.cells, v.oneCell' = true := fun v hv => by
  simp only [Cst.cells, List.mem_cons, List.not_mem_nil, or_false] at hv
  rcases hv with rfl | rfl | rfl | rfl | rfl <;> rfl
/-- A slice that reads as constants. -/
abbrev PoolSl (w : World) (A : Option Addr) (n cap : Nat) (l : List Cst) : Prop := RowSl Cst.cells 5 w Empty A n cap l
theorem pool_at {w : World} {A : Option Addr} {n cap : Nat} {l : List Cst} (h : PoolSl w A n cap l) {k : Nat} (hk : k < n) :
    ∃ b o c, A = some ⟨b, o, none⟩ ∧ l[k]? = some c ∧ b < w.heap.size ∧ w.cell? ⟨b, o + k * 5, none⟩ = some (.int .i64 c.tag) ∧ w.cell? ⟨b, o + k * 5 + 1, none⟩ = some (.int .i64 c.a) ∧ w.cell? ⟨b, o + k * 5 + 2, none⟩ = some (.int .i64 c.b) ∧ w.cell? ⟨b, o + k * 5 + 3, none⟩ = some (.int .i64 c.n) ∧ w.cell? ⟨b, o + k * 5 + 4, none⟩ = some (.string (strB c.s)) := by
  obtain ⟨b, o, c, hA, hb, _, hc, hcell⟩ := RowSl.at_ h hk
  exact ⟨b, o, c, hA, hc, hb, by simpa [Cst.cells] using hcell 0 (by omega), by simpa [Cst.cells] using hcell 1 (by omega), by simpa [Cst.cells] using hcell 2 (by omega), by simpa [Cst.cells] using hcell 3 (by omega), by simpa [Cst.cells] using hcell 4 (by omega)⟩

/-! ### What stands at a place -/
def atF (l : List Cst) (p : Int) : Option Cst := if 1 ≤ p then l[p.toNat]? else none
def tagAtF (l : List Cst) (p : Int) : Int := match atF l p with
  | some c => c.tag
  | none => 0
def isF (l : List Cst) (p t : Int) : Bool := match atF l p with
  | some c => c.tag == t
  | none => false
def findF (l : List Cst) (p t : Int) : Option Cst := match atF l p with
  | some c => if c.tag = t then some c else none
  | none => none
def textF (l : List Cst) (p : Int) : Option (List UInt8) := (findF l p 1).map (·.s)
def classF (l : List Cst) (p : Int) : Option (List UInt8) := match findF l p 7 with
  | some c => textF l c.a
  | none => none
def namesF (l : List Cst) (p : Int) : Option (List UInt8 × List UInt8) := match findF l p 12 with
  | some c => (match textF l c.a, textF l c.b with
    | some x, some y => some (x, y)
    | _, _ => none)
  | none => none
def memberF (l : List Cst) (p t : Int) : Option (List UInt8 × List UInt8 × List UInt8) := if t ≠ 9 ∧ t ≠ 10 then none else match findF l p t with
  | some c => (match classF l c.a, namesF l c.b with
    | some k, some x => some (k, x.1, x.2)
    | _, _ => none)
  | none => none
theorem atF_no (l : List Cst) (p : Int) (h : ¬ 1 ≤ p ∨ (l.length : Int) ≤ p) : atF l p = none := by
  unfold atF
  by_cases h1 : 1 ≤ p
  · rw [if_pos h1]
    exact List.getElem?_eq_none (by omega)
  · rw [if_neg h1]
theorem atF_yes (l : List Cst) (p : Nat) (h : 1 ≤ p) : atF l (p : Int) = l[p]? := by
  unfold atF
  rw [if_pos (by omega), Int.toNat_natCast]
theorem isF_find (l : List Cst) (p t : Int) : isF l p t = (findF l p t).isSome := by
  unfold isF findF
  cases atF l p with
  | none => rfl
  | some c =>
    simp only
    by_cases h : c.tag = t
    · rw [if_pos h]; simp [h]
    · rw [if_neg h]; simp [h]

end Go.Proofs.Ytinkjeifkjfkgaa
