/- Codes in shape (layer 18), as plain data: what Check, Nexts, MapAt, Ends answer; what follows of a code in shape. Nothing of the program. -/
import Derived.Test.YtkcjgcogoicffaaDoorZa
import Derived.Test.YtkcjgcogoicffaaDoorOb
namespace Go.Proofs.YtkcjgcogoicffaaDoor
set_option maxRecDepth 100000
open Go.RowKit

/-- Nothing goes on behind it. -/
def endsB (o : UInt8) : Bool := o == 167 || o == 172 || o == 173 || o == 176 || o == 177 || o == 191
/-- Is a place one of n? -/
def inPl (at_ : Int) (n : Nat) : Bool := decide (0 ≤ at_) && decide (at_ < (n : Int))
def branchB (o : UInt8) : Bool := formN o.toNat == 7
def longB (o : UInt8) : Bool := o == 22 || o == 55
def inI (a n : Int) : Bool := decide (0 ≤ a) && decide (a < n)
/-- May an instruction be in a code with so many locals? -/
def rightB (x : InD) (locals : Int) : Bool :=
  if formN x.op.toNat = 0 then false
  else if formN x.op.toNat = 2 ∨ formN x.op.toNat = 8 then inI x.n locals && (!longB x.op || inI (x.n + 1) locals)
  else true
def endB (code : List InD) : Bool := match code.getLast? with | none => false | some x => endsB x.op
def formedB (m : MeD) : Bool :=
  (methodF m.desc).isSome && inPl m.stack 65 && inPl m.locals 65 && endB m.code && m.code.all (fun x => rightB x m.locals)
def astrayB (n : Nat) (x : InD) : Bool := branchB x.op && !inPl x.n n
def wrongB (n : Nat) (t : TrD) : Bool := decide (t.b ≤ t.a) || decide ((n : Int) < t.b) || !inPl t.c n
def risingB (n : Nat) : Int → List MpD → Bool
  | _, [] => true
  | last, x :: r => !(decide (x.at_ ≤ last) || decide ((n : Int) ≤ x.at_)) && risingB n x.at_ r
def placedB (m : MeD) : Bool := !m.code.any (astrayB m.code.length) && !m.traps.any (wrongB m.code.length) && risingB m.code.length (-1) m.maps
/-- Has a place a map, or is it the end? -/
def hasB (m : MeD) (at_ : Int) : Bool := at_ == (m.code.length : Int) || m.maps.any (fun x => x.at_ == at_)
def bareB (m : MeD) (t : TrD) : Bool := !hasB m t.c
def lackB (m : MeD) (i : Nat) (x : InD) : Bool := (branchB x.op && !hasB m x.n) || (endsB x.op && !hasB m ((i : Int) + 1))
def lacksB (m : MeD) : Nat → List InD → Bool
  | _, [] => false
  | i, x :: r => lackB m i x || lacksB m (i + 1) r
def mappedB (m : MeD) : Bool := !lacksB m 0 m.code && !m.traps.any (bareB m)
/-- What Check answers. -/
def checkF (m : MeD) : Int := if !formedB m then 8 else if !placedB m then 2 else if !mappedB m then 11 else 0
/-- Where it goes on. -/
def nextsF (m : MeD) (at_ : Int) : List Int :=
  if inPl at_ m.code.length then
    match m.code[at_.toNat]? with
    | none => []
    | some x =>
      let a := if !endsB x.op && inPl (at_ + 1) m.code.length then [at_ + 1] else []
      if branchB x.op && inPl x.n m.code.length then
        match a with
        | [] => [x.n]
        | _ => if at_ + 1 < x.n then [at_ + 1, x.n] else if x.n < at_ + 1 then [x.n, at_ + 1] else [x.n]
      else a
  else []
def mapAtF (m : MeD) (at_ : Int) : Option MpD := m.maps.find? (fun x => x.at_ == at_)

theorem checkF_ok {m : MeD} (h : checkF m = 0) : formedB m = true ∧ placedB m = true ∧ mappedB m = true := by
  unfold checkF at h
  cases h1 : formedB m <;> cases h2 : placedB m <;> cases h3 : mappedB m <;> simp [h1, h2, h3] at h ⊢
theorem lacks_at {m : MeD} : ∀ {l : List InD} {i j : Nat} {x : InD}, lacksB m i l = false → l[j]? = some x → lackB m (i + j) x = false
  | [], _, _, _, _, h => by simp at h
  | y :: r, i, 0, x, h, hx => by
    simp at hx; subst hx
    simp only [lacksB, Bool.or_eq_false_iff] at h
    exact h.1
  | y :: r, i, j + 1, x, h, hx => by
    simp only [lacksB, Bool.or_eq_false_iff] at h
    have := lacks_at h.2 (show r[j]? = some x by simpa using hx)
    rwa [show i + 1 + j = i + (j + 1) by omega] at this
theorem inPl_iff {a : Int} {n : Nat} : inPl a n = true ↔ 0 ≤ a ∧ a < (n : Int) := by simp [inPl]
theorem hasB_map {m : MeD} {a : Int} (h : hasB m a = true) (hn : a < (m.code.length : Int)) : (mapAtF m a).isSome = true := by
  simp only [hasB, Bool.or_eq_true, beq_iff_eq] at h
  rcases h with h | h
  · omega
  · unfold mapAtF
    rw [List.find?_isSome]
    obtain ⟨x, hx, hy⟩ := List.any_eq_true.1 h
    exact ⟨x, hx, hy⟩
/-- Of a code in shape: what the statement asks of one instruction. -/
theorem shape_at {m : MeD} (h : checkF m = 0) {i : Nat} {x : InD} (hx : m.code[i]? = some x) :
    (nextsF m (i : Int) = [] → endsB x.op = true) ∧ ∀ k ∈ nextsF m (i : Int), 0 ≤ k ∧ k < (m.code.length : Int) ∧ (k = (i : Int) + 1 ∨ (mapAtF m k).isSome = true) := by
  obtain ⟨h1, h2, h3⟩ := checkF_ok h
  have hi : i < m.code.length := (List.getElem?_eq_some_iff.1 hx).1
  have hin : inPl (i : Int) m.code.length = true := inPl_iff.2 ⟨by omega, by omega⟩
  have hlack : lackB m i x = false := by
    have := (Bool.and_eq_true _ _ ▸ h3 : (!lacksB m 0 m.code) = true ∧ _).1
    have := lacks_at (i := 0) (m := m) (by simpa using this) hx
    simpa using this
  have hbr : branchB x.op = true → hasB m x.n = true := fun hb => by
    simp only [lackB, hb, Bool.true_and, Bool.or_eq_false_iff, Bool.not_eq_eq_eq_not, Bool.not_false] at hlack
    exact hlack.1
  have hend : endsB x.op = false → (i : Int) + 1 < (m.code.length : Int) := fun he => by
    have h4 : endB m.code = true := by
      unfold formedB at h1
      simp only [Bool.and_eq_true] at h1
      exact h1.1.2
    rcases Nat.lt_or_ge (i + 1) m.code.length with h5 | h5
    · omega
    · exfalso
      unfold endB at h4
      have hl : m.code.getLast? = some x := by
        rw [List.getLast?_eq_getElem?, show m.code.length - 1 = i by omega, hx]
      rw [hl] at h4
      simp [he] at h4
  have hnx : nextsF m (i : Int) = (let a := if !endsB x.op && inPl ((i : Int) + 1) m.code.length then [(i : Int) + 1] else []
      if branchB x.op && inPl x.n m.code.length then
        match a with
        | [] => [x.n]
        | _ => if (i : Int) + 1 < x.n then [(i : Int) + 1, x.n] else if x.n < (i : Int) + 1 then [x.n, (i : Int) + 1] else [x.n]
      else a) := by
    unfold nextsF
    rw [if_pos hin, Int.toNat_natCast, hx]
  rw [hnx]
  have hmap : (branchB x.op && inPl x.n m.code.length) = true → 0 ≤ x.n ∧ x.n < (m.code.length : Int) ∧ (x.n = (i : Int) + 1 ∨ (mapAtF m x.n).isSome = true) := fun hb => by
    simp only [Bool.and_eq_true] at hb
    have h6 := inPl_iff.1 hb.2
    exact ⟨h6.1, h6.2, Or.inr (hasB_map (hbr hb.1) h6.2)⟩
  cases he : endsB x.op with
  | true =>
    refine ⟨fun _ => rfl, ?_⟩
    simp only [Bool.not_true, Bool.false_and, Bool.false_eq_true, if_false]
    intro k hk
    split at hk
    · rename_i hb
      simp at hk; subst hk
      exact hmap hb
    · simp at hk
  | false =>
    have hi1 : inPl ((i : Int) + 1) m.code.length = true := inPl_iff.2 ⟨by omega, hend he⟩
    have hk1 : 0 ≤ (i : Int) + 1 ∧ (i : Int) + 1 < (m.code.length : Int) ∧ ((i : Int) + 1 = (i : Int) + 1 ∨ (mapAtF m ((i : Int) + 1)).isSome = true) := ⟨by omega, hend he, Or.inl rfl⟩
    simp only [Bool.not_false, Bool.true_and, hi1, if_true]
    refine ⟨fun hh => ?_, fun k hk => ?_⟩
    · exfalso
      split at hh
      · split at hh
        · simp at hh
        · split at hh <;> simp at hh
      · simp at hh
    · split at hk
      · rename_i hb
        have hm := hmap hb
        split at hk
        · simp at hk
          rcases hk with rfl | rfl
          · exact hk1
          · exact hm
        · split at hk
          · simp at hk
            rcases hk with rfl | rfl
            · exact hm
            · exact hk1
          · simp at hk; subst hk
            exact hm
      · simp at hk; subst hk
        exact hk1

end Go.Proofs.YtkcjgcogoicffaaDoor
