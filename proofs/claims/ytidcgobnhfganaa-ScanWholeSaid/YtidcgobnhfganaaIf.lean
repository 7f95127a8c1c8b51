/- Rows of a call's own that stand side by side: what grows one leaves the others. -/
import Derived.Test.YtidcgobnhfganaaHe
namespace Go.Proofs.Ytidcgobnhfganaa
open Go.RowKit

section
variable {w w' : World} {base base' n n' size size' : Nat} {e e' : TypeId} {v v' : Value} {xs xs' : List Value}

theorem own_ne (h : w.ownsRow base e size v n xs) (h' : w.ownsRow base' e' size' v' n' xs') (hne : e ≠ e') : v.ownBlock = none ∨ v.ownBlock ≠ v'.ownBlock := by
  rcases h.2 with ⟨rfl, _⟩ | ⟨g, cap, cur, rfl, _, hh, _⟩
  · exact Or.inl rfl
  · rcases h'.2 with ⟨rfl, _⟩ | ⟨g', cap', cur', rfl, _, hh', _⟩
    · exact Or.inr (by simp [Value.ownBlock])
    · refine Or.inr fun he => ?_
      simp [Value.ownBlock] at he
      subst he
      rw [hh] at hh'
      simp only [Option.some.injEq, Obj.cells.injEq] at hh'
      exact hne hh'.2.1

theorem blk_ne {g : Nat} {t : TypeId} {cs : Array Value} (h : w.ownsRow base e size v n xs) (hb : Blk w g t cs) (hne : e ≠ t) : ¬ v.ownBlock = some g := by
  intro he
  rcases h.2 with ⟨rfl, _⟩ | ⟨g', cap, cur, rfl, _, hh, _⟩
  · cases he
  · simp [Value.ownBlock] at he
    subst he
    exact hne ((Blk.ne_ (w := w) (g := g') (t := e) (t' := t) hh hb · rfl) |> fun k => Classical.byContradiction fun hk => k hk)

/-- A block of another type stays while a row grows. -/
theorem Blk.row {g : Nat} {t : TypeId} {cs : Array Value} (hb : Blk w g t cs) (h : w.ownsRow base e size v n xs) (hne : e ≠ t) (hg : w.grownBy w' v.ownBlock) : Blk w' g t cs :=
  hb.of (hg.block g hb.lt (fun he => blk_ne h hb hne he.symm))

/-- A block of five cells, cell by cell. -/
theorem Blk.five {g : Nat} {t : TypeId} {a b c d u : Value} (h : Blk w g t #[a, b, c, d, u]) :
    w.cell? ⟨g, 0, none⟩ = some a ∧ w.cell? ⟨g, 1, none⟩ = some b ∧ w.cell? ⟨g, 2, none⟩ = some c ∧ w.cell? ⟨g, 3, none⟩ = some d ∧ w.cell? ⟨g, 4, none⟩ = some u :=
  ⟨h.cell 0, h.cell 1, h.cell 2, h.cell 3, h.cell 4⟩

/-- Bytes of the call's own stay while a row of another type grows. -/
theorem Got.row {A : Option Addr} {m cap : Nat} {zs : List UInt8} (h : Got base w A m cap zs) (ho : w.ownsRow base' e size v n xs) (hne : 5 ≠ e) (hg : w.grownBy w' v.ownBlock) : Got base w' A m cap zs := by
  have h1 := h.own.kept hg (own_ne h.own ho hne)
  obtain ⟨A', cap', he, h2⟩ := Got.of_own h1
  cases he
  exact h2
end

end Go.Proofs.Ytidcgobnhfganaa
