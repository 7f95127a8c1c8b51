/- The library's insertion sort by a comparison, laid at rows of ints; the stable sort of a short row: what it makes, plain. -/
import Derived.Test.YtnhfmcijadficaaGreatDoorZad
import Derived.Shelf.SlSortCmp.Insertion
import Derived.Sort.LotA
namespace Go.Proofs.YtnhfmcijadficaaGreatDoor
set_option maxRecDepth 100000
open Go.RowKit Go.Sort

/-- The numbers here of that sort's function and types. -/
def insRen : Go.Shelf.Ren := ⟨fun | 20 => 139 | n => n, fun | 0 => 0 | 3 => 3 | 4 => 4 | 22 => 76 | 24 => 3 | 25 => 142 | n => n, fun n => n⟩
theorem insLays : Go.Proofs.SlLaysF.n20 Tryz.prog insRen := {
  mixed := by kernel_rfl,
  f20 := ⟨Tryz.f139.name, by kernel_rfl, Tryz.func139.trans (congrArg some (by kernel_rfl))⟩,
  t0 := Tryz.underlying0,
  a0 := Tryz.isAgg0,
  z0 := Tryz.sizeOf0,
  v0 := Tryz.zeroValue0,
  t3 := Tryz.underlying3,
  a3 := Tryz.isAgg3,
  z3 := Tryz.sizeOf3,
  v3 := Tryz.zeroValue3,
  t4 := Tryz.underlying4,
  a4 := Tryz.isAgg4,
  z4 := Tryz.sizeOf4,
  v4 := Tryz.zeroValue4,
  t22 := Tryz.underlying76,
  a22 := Tryz.isAgg76,
  z22 := Tryz.sizeOf76,
  v22 := Tryz.zeroValue76,
  a24 := Tryz.isAgg3,
  z24 := Tryz.sizeOf3,
  t25 := Tryz.underlying142,
  a25 := Tryz.isAgg142,
  z25 := Tryz.sizeOf142,
  v25 := Tryz.zeroValue142 }

section
variable {m : Nat} (q : Fin (m + 1) → Int)
/-- By the key; by the key, then the place. -/
def ltQ (x y : Fin (m + 1)) : Bool := decide (q x < q y)
def ltL (x y : Fin (m + 1)) : Bool := decide (q x < q y) || (decide (q x = q y) && decide (x.val < y.val))
theorem ltL_swo : SWO (ltL q) := by
  refine ⟨fun x => by unfold ltL; simp, fun x y z h1 h2 => ?_, fun x y z h1 h2 => ?_⟩
  · unfold ltL at *
    simp at *
    omega
  · unfold ltL at *
    simp at *
    omega
theorem ltL_total (x y : Fin (m + 1)) (h1 : ltL q x y = false) (h2 : ltL q y x = false) : x = y := by
  unfold ltL at *
  simp at *
  apply Fin.ext
  omega
theorem swp_get (d : Array (Fin (m + 1))) (i j k : Nat) (hi : i < d.size) (hj : j < d.size) : (swp d i j)[k]! = if k = j then d[i]! else if k = i then d[j]! else d[k]! := by
  unfold swp
  by_cases hkj : k = j
  · subst hkj
    rw [if_pos rfl, getElem!_set_same _ _ _ (by simpa using hj)]
  · rw [if_neg hkj]
    by_cases hki : k = i
    · subst hki
      rw [if_pos rfl]
      rw [Array.getElem!_eq_getD, Array.getD_eq_getD_getElem?, Array.getElem?_setIfInBounds_ne (fun h => hkj h.symm), ← Array.getD_eq_getD_getElem?, ← Array.getElem!_eq_getD, getElem!_set_same _ _ _ hi]
    · rw [if_neg hki]
      rw [Array.getElem!_eq_getD, Array.getD_eq_getD_getElem?, Array.getElem?_setIfInBounds_ne (fun h => hkj h.symm), Array.getElem?_setIfInBounds_ne (fun h => hki h.symm), ← Array.getD_eq_getD_getElem?, ← Array.getElem!_eq_getD]
theorem swp_size (d : Array (Fin (m + 1))) (i j : Nat) : (swp d i j).size = d.size := by unfold swp; simp

/-- A greater one that goes down meets only smaller ones: it doesn't matter whether places count. -/
theorem ins_same : ∀ (j : Nat) (d : Array (Fin (m + 1))), j < d.size → (∀ k, k < j → d[k]!.val < d[j]!.val) → insInner (ltQ q) 0 j d = insInner (ltL q) 0 j d
  | 0, _, _, _ => rfl
  | j + 1, d, hs, h => by
    have h1 := h j (by omega)
    have he : ltQ q d[j + 1]! d[j]! = ltL q d[j + 1]! d[j]! := by
      unfold ltQ ltL
      have : decide (d[j + 1]!.val < d[j]!.val) = false := decide_eq_false (by omega)
      rw [this]
      simp
    unfold insInner
    rw [he]
    split
    · refine ins_same j (swp d (j + 1) j) (by rw [swp_size]; omega) (fun k hk => ?_)
      rw [swp_get d _ _ _ hs (by omega), swp_get d _ _ _ hs (by omega), if_neg (by omega), if_neg (by omega), if_pos rfl]
      exact h k (by omega)
    · rfl
theorem ins_keeps (lt : Fin (m + 1) → Fin (m + 1) → Bool) : ∀ (j : Nat) (d : Array (Fin (m + 1))), j < d.size → (insInner lt 0 j d).size = d.size ∧ (∀ k, j < k → (insInner lt 0 j d)[k]! = d[k]!) ∧ ∀ k, k ≤ j → ∃ k', k' ≤ j ∧ (insInner lt 0 j d)[k]! = d[k']!
  | 0, d, _ => ⟨rfl, fun _ _ => rfl, fun k hk => ⟨k, hk, rfl⟩⟩
  | j + 1, d, hs => by
    unfold insInner
    split
    · obtain ⟨h1, h2, h3⟩ := ins_keeps lt j (swp d (j + 1) j) (by rw [swp_size]; omega)
      refine ⟨by rw [h1, swp_size], fun k hk => ?_, fun k hk => ?_⟩
      · rw [h2 k (by omega), swp_get d _ _ _ hs (by omega), if_neg (by omega), if_neg (by omega)]
      · by_cases hkj : k ≤ j
        · obtain ⟨k', hk', he⟩ := h3 k hkj
          rw [swp_get d _ _ _ hs (by omega)] at he
          split at he
          · exact ⟨j + 1, Nat.le_refl _, he⟩
          · rw [if_neg (by omega)] at he
            exact ⟨k', by omega, he⟩
        · have : k = j + 1 := by omega
          subst this
          refine ⟨j, by omega, ?_⟩
          rw [h2 (j + 1) (by omega), swp_get d _ _ _ hs (by omega), if_neg (by omega), if_pos rfl]
    · exact ⟨rfl, fun _ _ => rfl, fun k hk => ⟨k, hk, rfl⟩⟩
theorem out_same : ∀ (t i b : Nat) (d : Array (Fin (m + 1))), b - i = t → b ≤ d.size → (∀ j k, j < k → i ≤ k → k < b → d[j]!.val < d[k]!.val) → insOuter (ltQ q) 0 b i d = insOuter (ltL q) 0 b i d
  | 0, i, b, d, ht, hb, _ => by
    unfold insOuter
    rw [if_neg (by omega), if_neg (by omega)]
  | t + 1, i, b, d, ht, hb, h => by
    unfold insOuter
    rw [if_pos (by omega), if_pos (by omega), ins_same q i d (by omega) (fun k hk => h k i hk (Nat.le_refl _) (by omega))]
    obtain ⟨h1, h2, h3⟩ := ins_keeps (ltL q) i d (by omega)
    refine out_same t (i + 1) b _ (by omega) (by rw [h1]; exact hb) (fun j k hjk hik hkb => ?_)
    rw [h2 k (by omega)]
    by_cases hji : j ≤ i
    · obtain ⟨k', hk', he⟩ := h3 j hji
      rw [he]
      exact h k' k (by omega) (by omega) hkb
    · rw [h2 j (by omega)]
      exact h j k hjk (by omega) hkb
/-- A row that rises by places is sorted by key and place. -/
theorem ins_list (d : Array (Fin (m + 1))) (h : d.toList.Pairwise (fun x y => x.val < y.val)) : (insertionSort (ltQ q) d 0 d.size).toList = d.toList.mergeSort (fun x y => !ltL q y x) := by
  have h1 : insertionSort (ltQ q) d 0 d.size = insertionSort (ltL q) d 0 d.size := by
    unfold insertionSort
    refine out_same q _ 1 d.size d rfl (Nat.le_refl _) (fun j k hjk _ hk => ?_)
    have h2 := (List.pairwise_iff_getElem.1 h) j k (by simpa using (by omega : j < d.size)) (by simpa using hk) hjk
    rw [getElem!_pos d j (by omega), getElem!_pos d k hk]
    simpa using h2
  rw [h1]
  obtain ⟨h2, h3⟩ := insertionSort_holds (lt := ltL q) (ltL_swo q) d 0 d.size (Nat.zero_le _) (Nat.le_refl _)
  exact sorted_unique_holds (lt := ltL q) (ltL_swo q) (fun x y a b => ltL_total q x y a b) d _ h2 h3
end

end Go.Proofs.YtnhfmcijadficaaGreatDoor
