/- The first of the least of a row by a key, among those that may be taken: as plain data. -/
import Derived.Test.YtkblfmmhocogeaaJa
namespace Go.Proofs.Ytkblfmmhocogeaa
open Go.RowKit

/-- What the i-th one makes of the place that is the least one's so far. -/
def stepB (may : Sc → Bool) (key : Sc → Int) (l : List Sc) (o : Option Nat) (i : Nat) : Option Nat :=
  match l[i]? with
  | none => o
  | some s => if may s = true then (match o with | none => some i | some p => match l[p]? with | none => some p | some t => if key s < key t then some i else some p) else o
def best (may : Sc → Bool) (key : Sc → Int) (l : List Sc) : Nat → Option Nat
  | 0 => none
  | i + 1 => stepB may key l (best may key l i) i

section
variable {may : Sc → Bool} {key : Sc → Int} {l : List Sc} {o : Option Nat} {i p : Nat} {s t : Sc}
theorem stepB_no (hs : l[i]? = some s) (hm : may s = false) : stepB may key l o i = o := by unfold stepB; rw [hs]; simp [hm]
theorem stepB_first (hs : l[i]? = some s) (hm : may s = true) : stepB may key l none i = some i := by unfold stepB; rw [hs]; simp [hm]
theorem stepB_less (hs : l[i]? = some s) (hm : may s = true) (ht : l[p]? = some t) (hk : key s < key t) : stepB may key l (some p) i = some i := by unfold stepB; rw [hs]; simp [hm, ht, hk]
theorem stepB_more (hs : l[i]? = some s) (hm : may s = true) (ht : l[p]? = some t) (hk : ¬ key s < key t) : stepB may key l (some p) i = some p := by unfold stepB; rw [hs]; simp [hm, ht, hk]

/-- What is asked of the least one's place among the first i. -/
def IsBest (may : Sc → Bool) (key : Sc → Int) (l : List Sc) (i : Nat) : Option Nat → Prop
  | none => ∀ j s, j < i → l[j]? = some s → may s = false
  | some p => p < i ∧ ∃ t, l[p]? = some t ∧ may t = true ∧ ∀ j s, j < i → l[j]? = some s → may s = true → key t ≤ key s

theorem best_is (may : Sc → Bool) (key : Sc → Int) (l : List Sc) : ∀ i, i ≤ l.length → IsBest may key l i (best may key l i)
  | 0, _ => fun j s h _ => absurd h (by omega)
  | i + 1, hi => by
    have ih := best_is may key l i (by omega)
    obtain ⟨s, hs⟩ : ∃ s, l[i]? = some s := ⟨_, List.getElem?_eq_getElem (by omega)⟩
    show IsBest may key l (i + 1) (stepB may key l (best may key l i) i)
    revert ih
    cases best may key l i with
    | none =>
      intro ih
      cases hm : may s with
      | false =>
        rw [stepB_no hs hm]
        intro j t hj ht
        by_cases h : j = i
        · subst h
          rw [hs] at ht
          cases ht
          exact hm
        · exact ih j t (by omega) ht
      | true =>
        rw [stepB_first hs hm]
        refine ⟨by omega, s, hs, hm, fun j t hj ht hmt => ?_⟩
        by_cases h : j = i
        · subst h
          rw [hs] at ht
          cases ht
          exact Int.le_refl _
        · rw [ih j t (by omega) ht] at hmt
          cases hmt
    | some p =>
      rintro ⟨hp, t, ht, hmt, hall⟩
      cases hm : may s with
      | false =>
        rw [stepB_no hs hm]
        refine ⟨by omega, t, ht, hmt, fun j u hj hu hmu => ?_⟩
        by_cases h : j = i
        · subst h
          rw [hs] at hu
          cases hu
          rw [hm] at hmu
          cases hmu
        · exact hall j u (by omega) hu hmu
      | true =>
        by_cases hk : key s < key t
        · rw [stepB_less hs hm ht hk]
          refine ⟨by omega, s, hs, hm, fun j u hj hu hmu => ?_⟩
          by_cases h : j = i
          · subst h
            rw [hs] at hu
            cases hu
            exact Int.le_refl _
          · have := hall j u (by omega) hu hmu
            omega
        · rw [stepB_more hs hm ht hk]
          refine ⟨by omega, t, ht, hmt, fun j u hj hu hmu => ?_⟩
          by_cases h : j = i
          · subst h
            rw [hs] at hu
            cases hu
            omega
          · exact hall j u (by omega) hu hmu

theorem best_lt {o : Option Nat} (h : best may key l i = o) (hi : i ≤ l.length) : o = none ∨ ∃ p t, o = some p ∧ p < i ∧ l[p]? = some t := by
  have hb := best_is may key l i hi
  rw [h] at hb
  cases o with
  | none => exact Or.inl rfl
  | some p => obtain ⟨h1, t, h2, _⟩ := hb; exact Or.inr ⟨p, t, rfl, h1, h2⟩

/-- What stands behind the i-th place is not asked. -/
theorem best_same (may : Sc → Bool) (key : Sc → Int) (l l' : List Sc) : ∀ i, (∀ j, j < i → l[j]? = l'[j]?) → i ≤ l.length → best may key l i = best may key l' i
  | 0, _, _ => rfl
  | i + 1, h, hi => by
    have ih := best_same may key l l' i (fun j hj => h j (by omega)) (by omega)
    show stepB may key l (best may key l i) i = stepB may key l' (best may key l' i) i
    rw [← ih]
    rcases best_lt (may := may) (key := key) (l := l) (i := i) rfl (by omega) with e | ⟨p, t, e, hp, ht⟩
    · rw [e]
      unfold stepB
      rw [h i (by omega)]
    · rw [e]
      unfold stepB
      rw [h i (by omega)]
      have hp2 := h p (by omega)
      cases l'[i]? with
      | none => rfl
      | some u => simp only [hp2]

/-- One more that may not be taken changes nothing. -/
theorem best_snoc (may : Sc → Bool) (key : Sc → Int) (l : List Sc) (s : Sc) (hs : may s = false) : best may key (l ++ [s]) (l.length + 1) = best may key l l.length := by
  have h1 : best may key (l ++ [s]) l.length = best may key l l.length := (best_same may key l (l ++ [s]) l.length (fun j hj => by rw [List.getElem?_append_left hj]) (Nat.le_refl _)).symm
  show stepB may key (l ++ [s]) (best may key (l ++ [s]) l.length) l.length = _
  rw [stepB_no (s := s) (by rw [List.getElem?_append_right (Nat.le_refl _)]; simp) hs, h1]

theorem countP_pos_best (l : List Sc) (may : Sc → Bool) (key : Sc → Int) : (best may key l l.length).isSome = decide (0 < l.countP may) := by
  have hb := best_is may key l l.length (Nat.le_refl _)
  cases h : best may key l l.length with
  | none =>
    rw [h] at hb
    have : l.countP may = 0 := by
      rw [List.countP_eq_zero]
      intro s hs
      obtain ⟨j, hj, he⟩ := List.mem_iff_getElem.1 hs
      rw [hb j s hj (by rw [List.getElem?_eq_getElem hj, he])]
      simp
    simp [this]
  | some p =>
    rw [h] at hb
    obtain ⟨hp, t, ht, hm, _⟩ := hb
    have : 0 < l.countP may := List.countP_pos_iff.2 ⟨t, List.mem_of_getElem? ht, hm⟩
    simp [this]
end

end Go.Proofs.Ytkblfmmhocogeaa
