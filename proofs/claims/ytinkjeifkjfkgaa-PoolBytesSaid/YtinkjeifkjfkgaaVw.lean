/- What was written of a pool that may be is parsed as it was. Nothing of the program. -/
import Derived.Test.YtinkjeifkjfkgaaVv
namespace Go.Proofs.Ytinkjeifkjfkgaa
set_option maxRecDepth 100000
open Go.RowKit

theorem tagAt_place (l : List Cst) (p t : Int) (ht : t ≠ 0) (h : tagAtF l p = t) : 1 ≤ p ∧ p < (l.length : Int) := by
  refine ⟨?_, tagAt_lt l p t ht h⟩
  by_cases h1 : 1 ≤ p
  · exact h1
  · unfold tagAtF at h
    rw [atF_no l p (.inl h1)] at h
    exact absurd h.symm ht
theorem may_cases {l : List Cst} (hc : checkF l = true) (k : Nat) (c : Cst) (hk : l[k]? = some c) :
    ((k = 0 ∨ (l[k - 1]?.map (·.tag)) = some 5) ∧ c = zeroC) ∨ (¬ (k = 0 ∨ (l[k - 1]?.map (·.tag)) = some 5) ∧ Fit c) := by
  have hlen : l.length ≤ 1024 := by
    unfold checkF at hc
    rw [Bool.and_eq_true, Bool.and_eq_true] at hc
    exact (of_decide_eq_true hc.1.1).2
  have hm := may_all hc k (List.getElem?_eq_some_iff.mp hk).1
  unfold mayF at hm
  rw [hk] at hm
  simp only at hm
  by_cases hz : k = 0 ∨ (l[k - 1]?.map (·.tag)) = some 5
  · rw [if_pos hz] at hm
    exact .inl ⟨hz, of_decide_eq_true hm⟩
  · rw [if_neg hz] at hm
    by_cases hf : formF c.tag = noFrm ∨ c ≠ partF (formF c.tag) c
    · rw [if_pos hf] at hm
      cases hm
    · rw [if_neg hf, Bool.and_eq_true, Bool.and_eq_true, beq_iff_eq, beq_iff_eq] at hm
      obtain ⟨⟨h1, h2⟩, h3⟩ := hm
      have hp : c = partF (formF c.tag) c := Decidable.not_not.mp (fun h => hf (.inr h))
      obtain ⟨hza, hzb⟩ := part_zero hp
      refine .inr ⟨hz, fun h => hf (.inl h), hp, ?_, ?_, ?_⟩
      · unfold isTextF at h1
        rw [Bool.and_eq_true] at h1
        exact of_decide_eq_true h1.1
      · by_cases h0 : (formF c.tag).a = 0
        · rw [hza h0]; exact ⟨by decide, by decide⟩
        · have := tagAt_place l c.a _ h0 h2
          omega
      · by_cases h0 : (formF c.tag).b = 0
        · rw [hzb h0]; exact ⟨by decide, by decide⟩
        · have := tagAt_place l c.b _ h0 h3
          omega
theorem Fit.tag {c : Cst} (h : Fit c) : c.tag ≠ 0 := by
  intro h0
  apply h.form
  rw [h0]
  rfl

theorem places_put (l : List Cst) (more : List UInt8) (hc : checkF l = true) : ∀ (k j : Nat), 1 ≤ j → j ≤ l.length → l.length ≤ j + k → (l[j - 1]?.map (·.tag)) ≠ some 5 →
    placesR (poolB l ++ more) l.length k ⟨2 + ((l.take j).flatMap cB).length, 0⟩ (l.take j) = (l, ⟨(poolB l).length, 0⟩) := by
  have hpl : (poolB l).length = 2 + (l.flatMap cB).length := by unfold poolB; rw [List.length_append, putL_len]
  intro k
  induction k with
  | zero =>
    intro j h1 h2 h3 h4
    have hj : j = l.length := by omega
    subst hj
    unfold placesR
    rw [List.take_length, hpl]
  | succ k ih =>
    intro j h1 h2 h3 h4
    by_cases hj : j = l.length
    · subst hj
      rw [placesR_stop _ _ _ _ _ (by rw [List.take_length]; simp), List.take_length, hpl]
    · have hlt : j < l.length := by omega
      have hget : l[j]? = some l[j] := List.getElem?_eq_getElem hlt
      generalize l[j] = c at hget
      rcases may_cases hc j c hget with ⟨hz, _⟩ | ⟨_, hfit⟩
      · exact absurd hz (by rintro (h | h); omega; exact h4 h)
      · have hcb : cB c = constB c := by unfold cB; rw [if_neg hfit.tag]
        have htk := take_one l j c hget
        have hdrop : (poolB l ++ more).drop (2 + ((l.take j).flatMap cB).length) = constB c ++ ((l.drop (j + 1)).flatMap cB ++ more) := by
          unfold poolB
          rw [List.append_assoc, ← List.drop_drop, List.drop_left' (putL_len _ _)]
          have hs : l.flatMap cB = (l.take j).flatMap cB ++ (constB c ++ (l.drop (j + 1)).flatMap cB) := by
            have h := List.take_append_drop j l
            have hd : l.drop j = c :: l.drop (j + 1) := by
              rw [List.drop_eq_getElem_cons hlt]
              congr 1
              have := List.getElem?_eq_getElem hlt
              rw [this] at hget
              exact Option.some.inj hget
            calc l.flatMap cB = (l.take j ++ l.drop j).flatMap cB := by rw [h]
              _ = (l.take j).flatMap cB ++ (l.drop j).flatMap cB := List.flatMap_append
              _ = _ := by rw [hd, List.flatMap_cons, hcb]
          rw [hs, List.append_assoc, List.drop_left' rfl, List.append_assoc]
        have hcr := constR_put (poolB l ++ more) _ c _ hfit hdrop
        unfold placesR
        rw [if_pos ⟨rfl, by rw [List.length_take]; omega⟩, hcr]
        simp only
        by_cases ht : c.tag = 5
        · have hlast := check_last hc
          have hj1 : j + 1 < l.length := by
            rcases Nat.lt_or_ge (j + 1) l.length with h | h
            · exact h
            · exfalso
              apply hlast
              have := lastTag_at l (by omega)
              rw [show l.length - 1 = j by omega, hget] at this
              simp only [Option.map_some, Option.some.injEq] at this
              omega
          have hget2 : l[j + 1]? = some l[j + 1] := List.getElem?_eq_getElem hj1
          generalize l[j + 1] = d at hget2
          have hd : d = zeroC := by
            rcases may_cases hc (j + 1) d hget2 with ⟨_, h⟩ | ⟨h, _⟩
            · exact h
            · exact absurd (Or.inr (by rw [Nat.add_sub_cancel, hget]; simp [ht])) h
          have hws : withSecond c = [c, zeroC] := by unfold withSecond; rw [if_pos ht]
          have htk2 : l.take (j + 1 + 1) = l.take j ++ [c, zeroC] := by
            rw [take_one l (j + 1) d hget2, htk, hd, List.append_assoc]
            rfl
          rw [hws, ← htk2]
          have hz : cB zeroC = [] := rfl
          have hlen2 : ((l.take (j + 1 + 1)).flatMap cB).length = ((l.take j).flatMap cB).length + (constB c).length := by
            rw [htk2, List.flatMap_append, List.length_append]
            simp [hcb, hz]
          have h := ih (j + 1 + 1) (by omega) (by omega) (by omega) (by rw [Nat.add_sub_cancel, hget2, hd]; simp [zeroC])
          rw [hlen2, ← Nat.add_assoc] at h
          exact h
        · have hws : withSecond c = [c] := by unfold withSecond; rw [if_neg ht]
          rw [hws, ← htk]
          have hlen2 : ((l.take (j + 1)).flatMap cB).length = ((l.take j).flatMap cB).length + (constB c).length := by
            rw [htk, List.flatMap_append, List.length_append]
            simp [hcb]
          have h := ih (j + 1) (by omega) (by omega) (by omega) (by rw [Nat.add_sub_cancel, hget]; simp [ht])
          rw [hlen2, ← Nat.add_assoc] at h
          exact h

theorem parse_put (l : List Cst) (more : List UInt8) (hc : checkF l = true) : parseR (poolB l ++ more) = (l, ⟨(poolB l).length, 0⟩) := by
  have hlen : 1 ≤ l.length ∧ l.length ≤ 1024 := by
    have h := hc
    unfold checkF at h
    rw [Bool.and_eq_true, Bool.and_eq_true] at h
    exact of_decide_eq_true h.1.1
  have h0 : l.take 1 = [zeroC] := by
    have hget : l[0]? = some l[0] := List.getElem?_eq_getElem (by omega)
    rcases may_cases hc 0 _ hget with ⟨_, h⟩ | ⟨h, _⟩
    · have := take_one l 0 _ hget
      rw [this, h]
      rfl
    · exact absurd (Or.inl rfl) h
  have hcnt : countR (poolB l ++ more) = (l.length, ⟨2, 0⟩) := by
    unfold countR
    have h := numR_put (poolB l ++ more) 0 l.length 2 (l.flatMap cB ++ more) (by unfold poolB; rw [List.drop_zero, List.append_assoc]) (by omega) (by omega)
    rw [h]
    simp only
    rw [if_pos hlen]
  have hp := places_put l more hc l.length 1 (by omega) hlen.1 (by omega) (by rw [Nat.sub_self, List.getElem?_eq_getElem (by omega : 0 < l.length)]; have := List.getElem?_eq_getElem (by omega : 0 < l.length); rcases may_cases hc 0 _ this with ⟨_, h⟩ | ⟨h, _⟩; rw [h]; simp [zeroC]; exact absurd (Or.inl rfl) h)
  rw [h0] at hp
  have hz : ([zeroC].flatMap cB).length = 0 := rfl
  rw [hz] at hp
  have hpre : preP (poolB l ++ more) = (l, ⟨(poolB l).length, 0⟩) := by
    unfold preP
    rw [hcnt]
    exact hp
  rw [parseR_eq, hpre, hcnt]
  have he : endP l.length (l, ⟨(poolB l).length, 0⟩) = ⟨(poolB l).length, 0⟩ := by
    unfold endP
    rw [if_neg (Nat.lt_irrefl _)]
  simp only
  rw [he, if_pos rfl]
  simp only
  rw [show checkC l = 0 by unfold checkC; rw [hc]; rfl]

end Go.Proofs.Ytinkjeifkjfkgaa
