/- Units as they lie in memory. -/
import Derived.Test.YtkcjgcogoicffaaDoorRv
import Derived.Test.YtkcjgcogoicffaaDoorZa
import Derived.Test.YtkcjgcogoicffaaDoorDb
namespace Go.Proofs.YtkcjgcogoicffaaDoor
set_option maxRecDepth 100000
open Go.RowKit

def strT : RepT Bs where
  k := 1
  rep _ _ cs v := cs = [.string (strB v)]
  len h := by rw [h]; rfl
  next h _ _ := h
def fdT : RepT FdD where
  k := 3
  rep _ _ cs v := cs = [.bool v.static, .string (strB v.name), .string (strB v.desc)]
  len h := by rw [h]; rfl
  next h _ _ := h
def trT : RepT TrD where
  k := 4
  rep _ _ cs v := cs = [.int .i64 v.a, .int .i64 v.b, .int .i64 v.c, .string (strB v.cls)]
  len h := by rw [h]; rfl
  next h _ _ := h
def inT : RepT InD where
  k := 7
  rep _ _ cs v := cs = [.int .u8 (v.op.toNat : Int), .int .i64 v.n, .int .i64 v.m, .string (strB v.cls), .string (strB v.name), .string (strB v.desc), .string (strB v.text)]
  len h := by rw [h]; rfl
  next h _ _ := h
def mpT : RepT MpD where
  k := 3
  rep w Z cs v := ∃ a b, cs = [.int .i64 v.at_, a, b] ∧ (rowT strT).rep w Z [a] v.locals ∧ (rowT strT).rep w Z [b] v.stack
  len h := by obtain ⟨_, _, rfl, _⟩ := h; rfl
  next h k hZ := by
    obtain ⟨a, b, rfl, h1, h2⟩ := h
    exact ⟨a, b, rfl, (rowT strT).next h1 k hZ, (rowT strT).next h2 k hZ⟩
/-- A method; its codes and maps are looked at where 'full' says so. -/
def meT (full : Bool) : RepT MeD where
  k := 8
  rep w Z cs v := ∃ Ac nc cc At nt ct Ap np cp, cs = [.bool v.static, .string (strB v.name), .string (strB v.desc), .int .i64 v.stack, .int .i64 v.locals, .slice Ac nc cc, .slice At nt ct, .slice Ap np cp] ∧
    RowS trT w Z At nt ct v.traps ∧ (full = true → RowS inT w Z Ac nc cc v.code ∧ RowS mpT w Z Ap np cp v.maps)
  len h := by obtain ⟨_, _, _, _, _, _, _, _, _, rfl, _⟩ := h; rfl
  next h k hZ := by
    obtain ⟨Ac, nc, cc, At, nt, ct, Ap, np, cp, rfl, h1, h2⟩ := h
    exact ⟨Ac, nc, cc, At, nt, ct, Ap, np, cp, rfl, h1.next k hZ, fun hf => ⟨(h2 hf).1.next k hZ, (h2 hf).2.next k hZ⟩⟩
def unT (full : Bool) : RepT UnD where
  k := 4
  rep w Z cs v := ∃ Af nf cf Am nm cm, cs = [.string (strB v.name), .string (strB v.super), .slice Af nf cf, .slice Am nm cm] ∧ RowS fdT w Z Af nf cf v.fields ∧ RowS (meT full) w Z Am nm cm v.meths
  len h := by obtain ⟨_, _, _, _, _, _, rfl, _⟩ := h; rfl
  next h k hZ := by
    obtain ⟨Af, nf, cf, Am, nm, cm, rfl, h1, h2⟩ := h
    exact ⟨Af, nf, cf, Am, nm, cm, rfl, h1.next k hZ, h2.next k hZ⟩
/-- A method, a unit, whose codes and maps aren't looked at; and read whole. -/
abbrev meW : RepT MeD := meT false
abbrev unW : RepT UnD := unT false
abbrev meF : RepT MeD := meT true
abbrev unF : RepT UnD := unT true
theorem meW_of {w : World} {Z : Nat → Prop} {cs : List Value} {x : MeD} (h : meF.rep w Z cs x) : meW.rep w Z cs x := by
  obtain ⟨Ac, nc, cc, At, nt, ct, Ap, np, cp, rfl, h1, _⟩ := h
  exact ⟨Ac, nc, cc, At, nt, ct, Ap, np, cp, rfl, h1, fun h => by cases h⟩
theorem unW_of {w : World} {Z : Nat → Prop} {cs : List Value} {x : UnD} (h : unF.rep w Z cs x) : unW.rep w Z cs x := by
  obtain ⟨Af, nf, cf, Am, nm, cm, rfl, h1, h2⟩ := h
  exact ⟨Af, nf, cf, Am, nm, cm, rfl, h1, h2.weak rfl (fun _ _ h => meW_of h)⟩

/-- How great units may be. -/
structure SmallUn (u : UnD) : Prop where
  name : u.name.length ≤ 1000000
  super : u.super.length ≤ 1000000
  fields : u.fields.length ≤ 1000
  meths : u.meths.length ≤ 1000
  fld : ∀ f ∈ u.fields, f.name.length ≤ 1000000 ∧ f.desc.length ≤ 1000000
  mth : ∀ m ∈ u.meths, m.name.length ≤ 1000000 ∧ m.desc.length ≤ 1000000
  trap : ∀ m ∈ u.meths, m.traps.length ≤ 1000000 ∧ ∀ t ∈ m.traps, t.cls.length ≤ 1000000

/-- A unit's value. -/
def unV4 (x : UnD) (Af : Option Addr) (nf cf : Nat) (Am : Option Addr) (nm cm : Nat) : Value := .agg #[.string (strB x.name), .string (strB x.super), .slice Af nf cf, .slice Am nm cm]
end Go.Proofs.YtkcjgcogoicffaaDoor
