/- Rows of a call's own that stand side by side: what grows one leaves the others. -/
import Derived.Test.YtidcgobnhfganaaHe
namespace Go.Proofs.Ytidcgobnhfganaa
open Go.RowKit

section
variable {w w' : World} {base base' n n' size size' : Nat} {e e' : TypeId} {v v' : Value} {xs xs' : List Value}

theorem own_ne (h : w.ownsRow base e size v n xs) (h' : w.ownsRow base' e' size' v' n' xs') (hne : e ≠ e') : v.ownBlock = none ∨ v.ownBlock ≠ v'.ownBlock := by
  rcases h.2 with ⟨rfl, _⟩ | ⟨g, cap, cur, rfl, _, hh, _⟩
  · exact Or.inl rfl
  · rcases h'.2 with ⟨rfl, _⟩ | ⟨g', cap', cur', rfl, _, hh', _⟩
    · exact Or.inr (by simp [Value.ownBlock])
    · refine Or.inr fun he => ?_
      simp [Value.ownBlock] at he
      subst he
      rw [hh] at hh'
      simp only [Option.some.injEq, Obj.cells.injEq] at hh'
      exact hne hh'.2.1

theorem blk_ne {g : Nat} {t : TypeId} {cs : Array Value} (h : w.ownsRow base e size v n xs) (hb : Blk w g t cs) (hne : e ≠ t) : ¬ v.ownBlock = some g := by
  intro he
  rcases h.2 with ⟨rfl, _⟩ | ⟨g', cap, cur, rfl, _, hh, _⟩
  · cases he
  · simp [Value.ownBlock] at he
    subst he
    exact hne ((Blk.ne_ (w := w) (g := g') (t := e) (t' := t) hh hb · rfl) |> fun k => Classical.byContradiction fun hk => k hk)

/-- A block of another type stays while a row grows. -/
theorem Blk.row {g : Nat} {t : TypeId} {cs : Array Value} (hb : Blk w g t cs) (h : w.ownsRow base e size v n xs) (hne : e ≠ t) (hg : w.grownBy w' v.ownBlock) : Blk w' g t cs :=
  hb.of (hg.block g hb.lt (fun he => blk_ne h hb hne he.symm))

/-- A block of five cells, cell by cell. -/
theorem Blk.five {g : Nat} {t : TypeId} {a b c d u : Value} (h : Blk w g t #[a, b, c, d, u]) :
    w.cell? ⟨g, 0, none⟩ = some a ∧ w.cell? ⟨g, 1, none⟩ = some b ∧ w.cell? ⟨g, 2, none⟩ = some c ∧ w.cell? ⟨g, 3, none⟩ = some d ∧ w.cell? ⟨g, 4, none⟩ = some u :=
  ⟨h.cell 0, h.cell 1, h.cell 2, h.cell 3, h.cell 4⟩

/-- Bytes of the call's own stay while a row of another type grows. -/
theorem Got.row {A : Option Addr} {m cap : Nat} {zs : List UInt8} (h : Got base w A m cap zs) (ho : w.ownsRow base' e size v n xs) (hne : 5 ≠ e) (hg : w.grownBy w' v.ownBlock) : Got base w' A m cap zs := by
  have h1 := h.own.kept hg (own_ne h.own ho hne)
  obtain ⟨A', cap', he, h2⟩ := Got.of_own h1
  cases he
  exact h2
end

/-- append of bytes onto bytes of the call's own: the new value is a slice, too. -/
theorem wpList_append_got {ops : Array Oper} {rest : List Oper} {o : Oper} {a : Act} {w : World} {Q : Exit → Act → World → Prop} (hgd : o.guard = none) (s x : Operand)
    (hq : o.op = .call { callee := .builtin .append, args := #[s, x], argTypes := #[24, 24] })
    (base : Nat) (A : Option Addr) (n cap : Nat) (zs : List UInt8) (hs : a.eval s = .slice A n cap) (hG : Got base w A n cap zs) (B : Option Addr) (m c : Nat) (ys : List UInt8) (hx : a.eval x = .slice B m c)
    (hB : ByteSl w Empty B m c ys) (hBn : B = none → m = 0 ∧ c = 0) (hm : n + m ≤ 16777216) (hbase : base ≤ w.heap.size)
    (h : ∀ A' c' w', Got base w' A' (n + m) c' (zs ++ ys) → w.grownBy w' (Value.slice A n cap).ownBlock → (∀ q, (Value.slice A n cap).ownBlock = some q → base ≤ q) → wpList Try.prog ops Q rest (a.put o.dst (.slice A' (n + m) c')) w') : wpList Try.prog ops Q (o :: rest) a w := by
  refine wpList_append_bytes hgd s x hq base _ hs n zs hG.own B m c ys Empty hx hB hBn hm hbase ?_
  intro v' w' h1 h2 _
  obtain ⟨A', c', rfl, hG'⟩ := Got.of_own h1
  exact h A' c' w' hG' h2 (fun q hq => (hG.own.lt q hq).1)

/-- A row that was just made, with no bytes. -/
theorem got_made (w : World) (base : Nat) (h : base ≤ w.heap.size) : Got base (w.alloc (.cells #[] 5)) (some ⟨w.heap.size, 0, none⟩) 0 0 [] :=
  ⟨own_made w base h, ByteSl.nil_ _ _ _ _ (by simp [maxLen]), fun h => by cases h⟩

theorem below_got {B : Nat} {a w w' : World} {A : Option Addr} {n cap base : Nat} (h : Below B a w) (hB : B ≤ w.heap.size) (g : w.grownBy w' (Value.slice A n cap).ownBlock) (hr : ∀ q, (Value.slice A n cap).ownBlock = some q → base ≤ q) (hb : B ≤ base) : Below B a w' :=
  below_grown h hB g (fun q hq => Nat.le_trans hb (hr q hq))

end Go.Proofs.Ytidcgobnhfganaa
