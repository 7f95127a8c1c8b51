/- Sectors in a row of the call's own, turned one cell at a time; the spread where always the least one is erased. -/
import Derived.Test.YtkblfmmhocogeaaJh
import Derived.Test.YtkblfmmhocogeaaJk
namespace Go.Proofs.Ytkblfmmhocogeaa
open Go.RowKit

/-- Block g begins with these sectors. -/
def OwnS (w : World) (g n : Nat) (L : List Sc) : Prop := L.length = n ∧ ∃ cur, Blk w g 33 cur ∧ ∀ i f j, L[i]? = some f → j < 3 → cur[i * 3 + j]? = f.cells[j]?

section
variable {w w' : World} {g n : Nat} {L : List Sc}
theorem OwnS.lt (h : OwnS w g n L) : g < w.heap.size := by obtain ⟨_, cur, hb, _⟩ := h; exact hb.lt
theorem OwnS.cell (h : OwnS w g n L) {i j : Nat} {f : Sc} (hf : L[i]? = some f) (hj : j < 3) : w.cell? ⟨g, i * 3 + j, none⟩ = f.cells[j]? := by
  obtain ⟨_, cur, hb, hc⟩ := h
  rw [hb.cell, hc i f j hf hj]
theorem OwnS.frozen (h : OwnS w g n L) (i : Nat) : w.frozen? ⟨g, i, none⟩ = false := by obtain ⟨_, cur, hb, _⟩ := h; exact hb.frozen i
theorem OwnS.only {S : Nat → Prop} (h : OwnS w g n L) (k : Only S w w') (hS : ¬ S g) : OwnS w' g n L := by
  obtain ⟨hl, cur, hb, hc⟩ := h
  exact ⟨hl, cur, k.blk hb hS, hc⟩
theorem OwnS.secs (h : OwnS w g n L) {cap : Nat} (h1 : n ≤ cap) (h2 : cap ≤ maxLen) : Secs w Empty (some ⟨g, 0, none⟩) n cap L :=
  ⟨h.1, h1, h2, fun _ => ⟨g, 0, rfl, h.lt, fun h => h, fun i f hf j hj => by rw [Nat.zero_add]; exact h.cell hf hj⟩⟩
theorem OwnS.set_ (h : OwnS w g n L) {i j : Nat} {f f' : Sc} {u : Value} (hf : L[i]? = some f) (hj : j < 3) (hu : f'.cells[j]? = some u) (ho : ∀ k, k < 3 → k ≠ j → f'.cells[k]? = f.cells[k]?) :
    OwnS (w.setCell ⟨g, i * 3 + j, none⟩ u) g n (L.set i f') := by
  obtain ⟨hl, cur, hb, hc⟩ := h
  refine ⟨by rw [List.length_set, hl], _, hb.set_ (i * 3 + j) u, fun i' f2 j' hf2 hj' => ?_⟩
  have hin : i * 3 + j < cur.size := by
    have h1 := hc i f j hf hj
    rw [List.getElem?_eq_getElem (by rw [Sc.cells_len]; exact hj)] at h1
    exact (Array.getElem?_eq_some_iff.1 h1).1
  rw [Array.getElem?_setIfInBounds]
  by_cases hi : i = i'
  · subst hi
    have hlt : i < L.length := (List.getElem?_eq_some_iff.1 hf).1
    rw [List.getElem?_set_self hlt] at hf2
    cases hf2
    by_cases hjj : j' = j
    · subst hjj
      rw [if_pos rfl, if_pos hin, hu]
    · rw [if_neg (by omega), hc i f j' hf hj', ho j' hj' hjj]
  · rw [List.getElem?_set_ne hi] at hf2
    rw [if_neg (by omega), hc i' f2 j' hf2 hj']
theorem OwnS.of_flat {cur : Array Value} (hb : Blk w g 33 cur) (hl : L.length = n) (hc : ∀ j, j < n * 3 → cur[j]? = (L.flatMap Sc.cells)[j]?) : OwnS w g n L :=
  ⟨hl, cur, hb, fun i f j hf hj => by
    have hi : i < L.length := (List.getElem?_eq_some_iff.1 hf).1
    rw [hc _ (by omega), secs_at L i j f hf hj]⟩
end

/-! ### The spread -/
theorem hiF_ge : ∀ (l : List Sc) (a : Int), a ≤ hiF a l ∧ ∀ s ∈ l, s.er ≤ hiF a l
  | [], a => ⟨Int.le_refl _, fun s h => by cases h⟩
  | t :: l, a => by
    have h := hiF_ge l (max a t.er)
    have e : hiF a (t :: l) = hiF (max a t.er) l := rfl
    rw [e]
    refine ⟨by omega, fun s hs => ?_⟩
    rcases List.mem_cons.1 hs with rfl | hs
    · omega
    · exact h.2 s hs
theorem loF_le : ∀ (l : List Sc) (a : Int), loF a l ≤ a ∧ ∀ s ∈ l, loF a l ≤ s.er
  | [], a => ⟨Int.le_refl _, fun s h => by cases h⟩
  | t :: l, a => by
    have h := loF_le l (min a t.er)
    have e : loF a (t :: l) = loF (min a t.er) l := rfl
    rw [e]
    refine ⟨by omega, fun s hs => ?_⟩
    rcases List.mem_cons.1 hs with rfl | hs
    · omega
    · exact h.2 s hs
theorem hiF_is : ∀ (l : List Sc) (a : Int), hiF a l = a ∨ ∃ s ∈ l, hiF a l = s.er
  | [], a => Or.inl rfl
  | t :: l, a => by
    have e : hiF a (t :: l) = hiF (max a t.er) l := rfl
    rw [e]
    rcases hiF_is l (max a t.er) with h | ⟨s, hs, h⟩
    · by_cases ht : a ≤ t.er
      · exact Or.inr ⟨t, by simp, by rw [h]; omega⟩
      · exact Or.inl (by rw [h]; omega)
    · exact Or.inr ⟨s, by simp [hs], h⟩
theorem loF_is : ∀ (l : List Sc) (a : Int), loF a l = a ∨ ∃ s ∈ l, loF a l = s.er
  | [], a => Or.inl rfl
  | t :: l, a => by
    have e : loF a (t :: l) = loF (min a t.er) l := rfl
    rw [e]
    rcases loF_is l (min a t.er) with h | ⟨s, hs, h⟩
    · by_cases ht : t.er ≤ a
      · exact Or.inr ⟨t, by simp, by rw [h]; omega⟩
      · exact Or.inl (by rw [h]; omega)
    · exact Or.inr ⟨s, by simp [hs], h⟩
theorem spreadF_ge {l : List Sc} {s u : Sc} (hs : s ∈ l) (hu : u ∈ l) : s.er - u.er ≤ spreadF l := by
  cases l with
  | nil => cases hs
  | cons f r =>
    have h1 := (hiF_ge (f :: r) f.er).2 s hs
    have h2 := (loF_le (f :: r) f.er).2 u hu
    show _ ≤ hiF f.er (f :: r) - loF f.er (f :: r)
    omega
theorem spreadF_is {l : List Sc} (h : 0 < l.length) : ∃ s ∈ l, ∃ u ∈ l, spreadF l = s.er - u.er := by
  cases l with
  | nil => simp at h
  | cons f r =>
    obtain ⟨s, hs, h1⟩ : ∃ s ∈ f :: r, hiF f.er (f :: r) = s.er := by
      rcases hiF_is (f :: r) f.er with h | h
      · exact ⟨f, by simp, h⟩
      · exact h
    obtain ⟨u, hu, h2⟩ : ∃ s ∈ f :: r, loF f.er (f :: r) = s.er := by
      rcases loF_is (f :: r) f.er with h | h
      · exact ⟨f, by simp, h⟩
      · exact h
    exact ⟨s, hs, u, hu, by rw [← h1, ← h2]; rfl⟩

/-- The least one erased once more: the spread doesn't grow beyond 1 and what it was. -/
theorem spread_step {L : List Sc} {k : Nat} {t t' : Sc} {M : Int} (ht : L[k]? = some t) (hmin : ∀ s ∈ L, t.er ≤ s.er) (he : t'.er = t.er + 1) (hM : spreadF L ≤ M) (h1 : 1 ≤ M) : spreadF (L.set k t') ≤ M := by
  have hk : k < L.length := (List.getElem?_eq_some_iff.1 ht).1
  obtain ⟨s, hs, u, hu, e⟩ := spreadF_is (l := L.set k t') (by rw [List.length_set]; omega)
  rw [e]
  have htm := List.mem_of_getElem? ht
  rcases List.mem_or_eq_of_mem_set hs with hs2 | hs2
  · rcases List.mem_or_eq_of_mem_set hu with hu2 | hu2
    · have := spreadF_ge hs2 hu2
      omega
    · have := spreadF_ge hs2 htm
      rw [hu2]
      omega
  · rw [hs2]
    rcases List.mem_or_eq_of_mem_set hu with hu2 | hu2
    · have := hmin u hu2
      omega
    · rw [hu2]
      omega

/-- The sector, dirty. -/
def dirtyS (s : Sc) : Sc := ⟨1, s.q, s.er⟩
/-- The first i of them dirty. -/
def dirtied (l : List Sc) (i : Nat) : List Sc := (l.take i).map dirtyS ++ l.drop i
theorem dirtied_at {l : List Sc} {i : Nat} {f : Sc} (h : l[i]? = some f) : (dirtied l i)[i]? = some f ∧ (dirtied l i).set i (dirtyS f) = dirtied l (i + 1) := by
  have hi : i < l.length := (List.getElem?_eq_some_iff.1 h).1
  have hl : ((l.take i).map dirtyS).length = i := by rw [List.length_map, List.length_take]; omega
  have hd : l.drop i = f :: l.drop (i + 1) := by
    rw [List.drop_eq_getElem_cons hi]
    congr 1
    exact (List.getElem?_eq_some_iff.1 h).2
  constructor
  · unfold dirtied
    rw [List.getElem?_append_right (by omega), hl, Nat.sub_self, hd]
    rfl
  · unfold dirtied
    rw [List.set_append_right _ _ (by omega), hl, Nat.sub_self, hd, take_one l i f h, List.map_append, List.append_assoc]
    rfl

/-- Dirty sectors that were erased at most so often. -/
def Dirty (L : List Sc) (B : Int) : Prop := ∀ s ∈ L, s.st = 1 ∧ 0 ≤ s.er ∧ s.er ≤ B
theorem Dirty.next {L : List Sc} {B lim : Int} {n : Nat} (h : Dirty L B) (hl : L.length = n) (h0 : 0 < n) (hlim : B < lim) :
    ∃ k t, best (opensB lim) Sc.er L n = some k ∧ k < n ∧ L[k]? = some t ∧ t.st = 1 ∧ 0 ≤ t.er ∧ t.er ≤ B ∧ ∀ s ∈ L, t.er ≤ s.er := by
  have hmay : ∀ s ∈ L, opensB lim s = true := fun s hs => by
    obtain ⟨h1, h2, h3⟩ := h s hs
    unfold opensB
    rw [h1, decide_eq_true (show s.er < lim by omega)]
    rfl
  have hb := best_is (opensB lim) Sc.er L n (by omega)
  cases hr : best (opensB lim) Sc.er L n with
  | none =>
    rw [hr] at hb
    have hx := hb 0 (L[0]'(by omega)) h0 (List.getElem?_eq_getElem (by omega))
    rw [hmay _ (List.getElem_mem _)] at hx
    cases hx
  | some k =>
    rw [hr] at hb
    obtain ⟨hk, t, ht, hm, hall⟩ := hb
    obtain ⟨h1, h2, h3⟩ := h t (List.mem_of_getElem? ht)
    refine ⟨k, t, rfl, hk, ht, h1, h2, h3, fun s hs => ?_⟩
    obtain ⟨j, hj, e⟩ := List.mem_iff_getElem.1 hs
    exact hall j s (by omega) (by rw [List.getElem?_eq_getElem hj, e]) (hmay s hs)
theorem Dirty.set_ {L : List Sc} {B : Int} {k : Nat} {t' : Sc} (h : Dirty L B) (h1 : t'.st = 1) (h2 : 0 ≤ t'.er) (h3 : t'.er ≤ B + 1) : Dirty (L.set k t') (B + 1) := fun s hs => by
  rcases List.mem_or_eq_of_mem_set hs with hs | rfl
  · obtain ⟨a, b, c⟩ := h s hs
    exact ⟨a, b, by omega⟩
  · exact ⟨h1, h2, h3⟩

end Go.Proofs.Ytkblfmmhocogeaa
