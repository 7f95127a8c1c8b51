/- A slice of structs that comes in, opened element by element, whatever the struct. -/
import Derived.Test.YtkcjgcogoicffaaDoorLw
import Derived.Deep.Slices
import Derived.Deep.Fields
import Derived.ChangeArms
namespace Go.Proofs.YtkcjgcogoicffaaDoor
set_option maxRecDepth 100000
open Go.ChangeShapes Go.WideShapes Go.ChangeAt Go.RowKit Go.Joins

section
variable {H : Type} {enc : TypeId × Value → H} {W : World} {base : Nat}

theorem add_off (b o n : Nat) : (⟨b, o, none⟩ : Addr).add n = ⟨b, o + n, none⟩ := by unfold Addr.add; split <;> simp_all

/-- Each element is what 'one' makes of K cells side by side. -/
theorem open_rows {α : Type} (a0 : α) (t e : TypeId) (K : Nat) (ht : Tryd.prog.underlying t = some (.slice e)) (hK : Tryd.prog.cellsOf e = K) (h0K : 0 < K) (P : Nat → Nat → α → Prop)
    (one : ∀ (b off fuel : Nat) (cs : List Value) (x : DataW H × List MemPlace), W.cells? 0 ⟨b, off, none⟩ K = some cs → DataW.trod enc Tryd.prog W 0 (fun _ => true) true fuel e cs = some x → ∃ y, P b off y)
    {v : Value} {d : DataW H} {p : List MemPlace} (hv : Value.okWide Tryd.prog W .any base t v) (h : DataW.Trod enc Tryd.prog W 0 (fun _ => true) true t v d p) :
    ∃ (A : Option Addr) (n cap : Nat) (l : List α), v = .slice A n cap ∧ l.length = n ∧ n ≤ cap ∧ cap ≤ maxLen ∧ (A = none → n = 0 ∧ cap = 0) ∧
      (0 < n → ∃ b o, A = some ⟨b, o, none⟩ ∧ b < W.heap.size ∧ ∀ i y, l[i]? = some y → P b (o + i * K) y) := by
  obtain ⟨A, n, cap, rfl⟩ := okWide_slice ht hv
  obtain ⟨fuel, hf⟩ := h
  rcases Go.Deep.open_slice ht hf with ⟨hcs, _⟩ | ⟨ad, l, c, m, n', D, Pl, hcs, _, hl, hm, hmm, _, hi⟩
  · simp [Value.cells] at hcs
    obtain ⟨rfl, rfl, rfl⟩ := hcs
    exact ⟨none, 0, 0, [], rfl, rfl, Nat.le_refl _, by simp [maxLen], fun _ => ⟨rfl, rfl⟩, fun h => absurd h (by omega)⟩
  · simp [Value.cells] at hcs
    obtain ⟨rfl, rfl, rfl⟩ := hcs
    simp at hmm
    subst hmm
    rw [hK] at hi
    rcases Nat.eq_zero_or_pos n with h0 | h0
    · subst h0
      exact ⟨_, 0, _, [], rfl, rfl, hl, hm, (fun h => by cases h), fun h => absurd h (by omega)⟩
    obtain ⟨b, o, sp⟩ := ad
    have hs : sp = none ∧ b < W.heap.size := by
      obtain ⟨cs', hc, _⟩ := hi 0 (by omega)
      obtain ⟨_, hl6, hat⟩ := World.cells?_some hc
      have h1 := hat 0 (by omega)
      rw [List.getElem?_eq_getElem (by omega)] at h1
      simp only [Nat.zero_mul, Addr.add, if_true] at h1
      refine ⟨?_, cell_lt h1⟩
      rcases sp with _ | x
      · rfl
      · exfalso
        unfold World.cell? at h1
        split at h1 <;> simp at h1
    obtain ⟨rfl, hb⟩ := hs
    have hall : ∀ i, ∃ y, i < n → P b (o + i * K) y := fun i => by
      by_cases hin : i < n
      · obtain ⟨cs', hc, ht2⟩ := hi i (by omega)
        rw [add_off] at hc
        obtain ⟨y, hy⟩ := one _ _ _ _ _ hc ht2
        exact ⟨y, fun _ => hy⟩
      · exact ⟨a0, fun h => absurd h hin⟩
    refine ⟨_, n, _, (List.range n).map fun i => (hall i).choose, rfl, by simp, hl, hm, (fun h => by cases h), fun _ => ⟨b, o, rfl, hb, fun i y hy => ?_⟩⟩
    rw [List.getElem?_map] at hy
    have hin : i < n := by
      rcases Nat.lt_or_ge i n with h1 | h1
      · exact h1
      · rw [List.getElem?_eq_none (by simpa using h1)] at hy
        cases hy
    rw [List.getElem?_range hin] at hy
    simp only [Option.map_some, Option.some.injEq] at hy
    rw [← hy]
    exact (hall i).choose_spec hin

end

end Go.Proofs.YtkcjgcogoicffaaDoor
