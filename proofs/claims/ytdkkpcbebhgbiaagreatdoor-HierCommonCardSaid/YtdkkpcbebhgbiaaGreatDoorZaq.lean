/- Rows of rows that come in as arguments, opened. -/
import Derived.Test.YtdkkpcbebhgbiaaGreatDoorZae
import Derived.Test.YtdkkpcbebhgbiaaGreatDoorZaf
namespace Go.Proofs.YtdkkpcbebhgbiaaGreatDoor
set_option maxRecDepth 100000
open Go.ChangeShapes Go.WideShapes Go.ChangeAt Go.RowKit Go.Joins

section
variable {H : Type} {enc : TypeId × Value → H} {W : World} {base : Nat}

/-- A slice in a cell: rows of what 'one' makes of so many cells. -/
theorem rowsS_cell {α : Type} (R : RepT α) (a0 : α) (t e : TypeId) (ht : Tryz.prog.underlying t = some (.slice e)) (hK : Tryz.prog.cellsOf e = R.k) (h0K : 0 < R.k)
    (one : ∀ (fuel : Nat) (cs : List Value) (x : DataW H × List MemPlace), cs.length = R.k → DataW.trod enc Tryz.prog W 0 (fun _ => true) true fuel e cs = some x → ∃ y, R.rep W (fun q => W.heap.size ≤ q) cs y)
    {fuel : Nat} {v : Value} {x : DataW H × List MemPlace} (h : DataW.trod enc Tryz.prog W 0 (fun _ => true) true fuel t [v] = some x) :
    ∃ (A : Option Addr) (n cap : Nat) (l : List α), v = .slice A n cap ∧ RowS R W (fun q => W.heap.size ≤ q) A n cap l := by
  rcases Go.Deep.open_slice ht h with ⟨hcs, _⟩ | ⟨ad, n, cap, m, n', D, Pl, hcs, _, hl, hm, hmm, _, hi⟩
  · simp at hcs
    subst hcs
    exact ⟨none, 0, 0, [], rfl, rowS_nil _ _ _⟩
  · simp at hcs
    subst hcs
    simp at hmm
    subst hmm
    rw [hK] at hi
    rcases Nat.eq_zero_or_pos n with h0 | h0
    · subst h0
      exact ⟨_, 0, _, [], rfl, rfl, hl, hm, (fun h => by cases h), fun h => absurd h (by omega)⟩
    obtain ⟨b, o, sp⟩ := ad
    have hs : sp = none ∧ b < W.heap.size := by
      obtain ⟨cs', hc, _⟩ := hi 0 (by omega)
      obtain ⟨_, hl6, hat⟩ := World.cells?_some hc
      have h1 := hat 0 (by omega)
      rw [List.getElem?_eq_getElem (by omega)] at h1
      simp only [Nat.zero_mul, Addr.add, if_true] at h1
      refine ⟨?_, cell_lt h1⟩
      rcases sp with _ | x
      · rfl
      · exfalso
        unfold World.cell? at h1
        split at h1 <;> simp at h1
    obtain ⟨rfl, hb⟩ := hs
    have hall : ∀ i, ∃ y, i < n → ∃ cs, (∀ j v, cs[j]? = some v → W.cell? ⟨b, o + i * R.k + j, none⟩ = some v) ∧ R.rep W (fun q => W.heap.size ≤ q) cs y := fun i => by
      by_cases hin : i < n
      · obtain ⟨cs', hc, ht2⟩ := hi i (by omega)
        rw [add_off] at hc
        obtain ⟨_, hcl, hat⟩ := World.cells?_some hc
        obtain ⟨y, hy⟩ := one _ _ _ hcl ht2
        refine ⟨y, fun _ => ⟨cs', fun j v hv => ?_, hy⟩⟩
        have hj := (List.getElem?_eq_some_iff.1 hv).1
        have h1 := hat j (by omega)
        rw [add_off] at h1
        rw [h1]
        exact hv
      · exact ⟨a0, fun h => absurd h hin⟩
    refine ⟨_, n, _, (List.range n).map fun i => (hall i).choose, rfl, by simp, hl, hm, (fun h => by cases h), fun _ => ⟨b, o, rfl, hb, by omega, fun i y hy => ?_⟩⟩
    rw [List.getElem?_map] at hy
    have hin : i < n := by
      rcases Nat.lt_or_ge i n with h1 | h1
      · exact h1
      · rw [List.getElem?_eq_none (by simpa using h1)] at hy
        cases hy
    rw [List.getElem?_range hin] at hy
    simp only [Option.map_some, Option.some.injEq] at hy
    rw [← hy]
    exact (hall i).choose_spec hin

abbrev TC (enc : TypeId × Value → H) (W : World) (t : TypeId) (fuel : Nat) (cs : List Value) (x : DataW H × List MemPlace) : Prop := DataW.trod enc Tryz.prog W 0 (fun _ => true) true fuel t cs = some x

theorem one_int {fuel : Nat} {c : Value} {x : DataW H × List MemPlace} (h : TC enc W 3 fuel [c] x) : ∃ k : Int, c = .int .i64 k := by
  obtain ⟨k, e, _, _⟩ := DataW.trod_int Tryz.underlying3 h
  simp at e
  exact ⟨k, e⟩

end

end Go.Proofs.YtdkkpcbebhgbiaaGreatDoor
