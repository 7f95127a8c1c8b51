/- How data lies in cells and in blocks: rows of rows of whatever lies so, with one frame law. -/
import Derived.Test.YtkcjgcogoicffaaDoorRw
namespace Go.Proofs.YtkcjgcogoicffaaDoor
set_option maxRecDepth 100000
open Go.RowKit

/-- How data lies in cells, and in blocks that aren't in Z. -/
structure RepT (α : Type) where
  k : Nat
  rep : World → (Nat → Prop) → List Value → α → Prop
  len : ∀ {w Z cs v}, rep w Z cs v → cs.length = k
  next : ∀ {w w' Z Z' cs v}, rep w Z cs v → Only Z w w' → (∀ q, q < w.heap.size → Z' q → Z q) → rep w' Z' cs v

def intT : RepT Int where
  k := 1
  rep _ _ cs v := cs = [.int .i64 v]
  len h := by rw [h]; rfl
  next h _ _ := h
def bytesT : RepT (List UInt8) where
  k := 1
  rep w Z cs v := ∃ A n cap, cs = [.slice A n cap] ∧ ByteSl w Z A n cap v ∧ (A = none → n = 0 ∧ cap = 0)
  len h := by obtain ⟨_, _, _, rfl, _⟩ := h; rfl
  next h k hZ := by
    obtain ⟨A, n, cap, rfl, hB, hn⟩ := h
    have hB' := hB.mono hZ
    obtain ⟨h1, h2, h3, h4⟩ := hB
    refine ⟨A, n, cap, rfl, ⟨h1, h2, h3, fun h0 => ?_⟩, hn⟩
    obtain ⟨ad, e, hb, hs, hc⟩ := h4 h0
    exact ⟨ad, e, Nat.lt_of_lt_of_le hb k.size, fun ht => hs (hZ _ hb ht), fun j x hx => (k.cell (p := ad.add j) (by rw [addr_add_block]; exact hb) (by rw [addr_add_block]; exact hs)).trans (hc j x hx)⟩
def prodT {α β : Type} (R : RepT α) (T : RepT β) : RepT (α × β) where
  k := R.k + T.k
  rep w Z cs v := ∃ c1 c2, cs = c1 ++ c2 ∧ R.rep w Z c1 v.1 ∧ T.rep w Z c2 v.2
  len h := by
    obtain ⟨c1, c2, rfl, h1, h2⟩ := h
    rw [List.length_append, R.len h1, T.len h2]
  next h k hZ := by
    obtain ⟨c1, c2, rfl, h1, h2⟩ := h
    exact ⟨c1, c2, rfl, R.next h1 k hZ, T.next h2 k hZ⟩
def mapT {α β : Type} (g : β → α) (R : RepT α) : RepT β where
  k := R.k
  rep w Z cs v := R.rep w Z cs (g v)
  len h := R.len h
  next h k hZ := R.next h k hZ
/-- A slice that reads as a list of what lies so. -/
def RowS {α : Type} (R : RepT α) (w : World) (Z : Nat → Prop) (A : Option Addr) (n cap : Nat) (l : List α) : Prop :=
  l.length = n ∧ n ≤ cap ∧ cap ≤ maxLen ∧ (A = none → n = 0 ∧ cap = 0) ∧ (0 < n → ∃ b o, A = some ⟨b, o, none⟩ ∧ b < w.heap.size ∧ ¬ Z b ∧ ∀ i x, l[i]? = some x → ∃ cs, (∀ j v, cs[j]? = some v → w.cell? ⟨b, o + i * R.k + j, none⟩ = some v) ∧ R.rep w Z cs x)
theorem RowS.next {α : Type} {R : RepT α} {w w' : World} {Z Z' : Nat → Prop} {A : Option Addr} {n cap : Nat} {l : List α} (h : RowS R w Z A n cap l) (k : Only Z w w') (hZ : ∀ q, q < w.heap.size → Z' q → Z q) : RowS R w' Z' A n cap l := by
  obtain ⟨h1, h2, h3, h4, h5⟩ := h
  refine ⟨h1, h2, h3, h4, fun h0 => ?_⟩
  obtain ⟨b, o, e, hb, hs, hc⟩ := h5 h0
  refine ⟨b, o, e, Nat.lt_of_lt_of_le hb k.size, fun ht => hs (hZ _ hb ht), fun i x hx => ?_⟩
  obtain ⟨cs, hcs, hr⟩ := hc i x hx
  exact ⟨cs, fun j v hv => (k.cell (p := ⟨b, o + i * R.k + j, none⟩) hb hs).trans (hcs j v hv), R.next hr k hZ⟩
def rowT {α : Type} (R : RepT α) : RepT (List α) where
  k := 1
  rep w Z cs l := ∃ A n cap, cs = [.slice A n cap] ∧ RowS R w Z A n cap l
  len h := by obtain ⟨_, _, _, rfl, _⟩ := h; rfl
  next h k hZ := by
    obtain ⟨A, n, cap, rfl, h⟩ := h
    exact ⟨A, n, cap, rfl, h.next k hZ⟩

theorem rowS_nil {α : Type} (R : RepT α) (w : World) (Z : Nat → Prop) : RowS R w Z none 0 0 [] := ⟨rfl, Nat.le_refl _, by simp [maxLen], fun _ => ⟨rfl, rfl⟩, fun h => absurd h (by omega)⟩
theorem RowS.mono {α : Type} {R : RepT α} {w : World} {Z Z' : Nat → Prop} {A : Option Addr} {n cap : Nat} {l : List α} (h : RowS R w Z A n cap l) (hZ : ∀ q, q < w.heap.size → Z' q → Z q) : RowS R w Z' A n cap l := h.next (Only.refl _ _) hZ
/-- The same row read with less. -/
theorem RowS.weak {α : Type} {R R' : RepT α} {w : World} {Z : Nat → Prop} {A : Option Addr} {n cap : Nat} {l : List α} (h : RowS R w Z A n cap l) (hk : R'.k = R.k) (hR : ∀ cs x, R.rep w Z cs x → R'.rep w Z cs x) : RowS R' w Z A n cap l := by
  obtain ⟨h1, h2, h3, h4, h5⟩ := h
  refine ⟨h1, h2, h3, h4, fun h0 => ?_⟩
  obtain ⟨b, o, e, hb, hs, hc⟩ := h5 h0
  refine ⟨b, o, e, hb, hs, fun i x hx => ?_⟩
  obtain ⟨cs, hcs, hr⟩ := hc i x hx
  exact ⟨cs, by rw [hk]; exact hcs, hR cs x hr⟩
/-- All that was there is as it was. -/
theorem RowS.below {α : Type} {R : RepT α} {w w' : World} {A : Option Addr} {n cap : Nat} {l : List α} (h : RowS R w Empty A n cap l) (q : Below w.heap.size w w') : RowS R w' Empty A n cap l := h.next (Only.of_below q) (fun _ _ h => h)
theorem RowS.at_ {α : Type} {R : RepT α} {w : World} {Z : Nat → Prop} {A : Option Addr} {n cap : Nat} {l : List α} (h : RowS R w Z A n cap l) {i : Nat} (hi : i < n) :
    ∃ b o x cs, A = some ⟨b, o, none⟩ ∧ b < w.heap.size ∧ ¬ Z b ∧ l[i]? = some x ∧ cs.length = R.k ∧ (∀ j v, cs[j]? = some v → w.cell? ⟨b, o + i * R.k + j, none⟩ = some v) ∧ R.rep w Z cs x := by
  obtain ⟨h1, h2, h3, h4, h5⟩ := h
  obtain ⟨b, o, e, hb, hs, hc⟩ := h5 (by omega)
  have hx : l[i]? = some (l[i]'(by omega)) := List.getElem?_eq_getElem (by omega)
  obtain ⟨cs, hcs, hr⟩ := hc i _ hx
  exact ⟨b, o, _, cs, e, hb, hs, hx, R.len hr, hcs, hr⟩

end Go.Proofs.YtkcjgcogoicffaaDoor
