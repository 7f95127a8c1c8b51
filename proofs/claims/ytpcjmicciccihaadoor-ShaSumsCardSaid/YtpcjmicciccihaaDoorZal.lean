/- Plain data lies as its cells, one behind the other, whatever the type. -/
import Derived.Test.YtpcjmicciccihaaDoorZac
import Derived.ProofKit
import Derived.LaidMore
import Derived.OpenShut
import Derived.Stop.Joined
import Derived.SevenTiedAt
import Derived.ChangeArms
namespace Go.Proofs.YtpcjmicciccihaaDoor
set_option maxRecDepth 100000
open Go.ChangeShapes Go.WideShapes Go.ChangeAt Go.RowKit Go.Joins

/-! ### Plain data: bools, integers, structs and arrays of them -/
mutual
/-- The cells of plain data. -/
def flat {H : Type} : DataW H → List Value
  | .lit (.int k n) => [.int k n]
  | .lit (.bool b) => [.bool b]
  | .agg ds => flats ds
  | _ => []
def flats {H : Type} : List (DataW H) → List Value
  | [] => []
  | d :: t => flat d ++ flats t
end
/-- Fields side by side, from a place on, to a place. -/
def tight (P : Program) (ok : TypeId → Bool) : Nat → List Field → Nat → Bool
  | o, [], n => o == n
  | o, f :: t, n => f.offset == o && ok f.type && tight P ok (o + P.cellsOf f.type) t n
/-- A type of plain data, its parts side by side. -/
def plainT (P : Program) : Nat → TypeId → Bool
  | 0, _ => false
  | k + 1, t => match P.underlying t with
    | some .bool => P.cellsOf t == 1
    | some (.int _) => P.cellsOf t == 1
    | some (.struct fs) => tight P (plainT P k) 0 fs.toList (P.cellsOf t)
    | some (.array n e) => plainT P k e && P.cellsOf t == n * P.cellsOf e
    | _ => false

section
variable {H : Type} {enc : TypeId × Value → H} {P : Program} {w : World} {base : Nat} {spare : Nat → Bool} {held : Bool}
theorem flat_fields (ok : TypeId → Bool) (m : Nat) (cs : List Value) (one : ∀ t (c : List Value) (x : DataW H × List MemPlace), ok t = true → DataW.trod enc P w base spare held m t c = some x → c = flat x.1 ∧ c.length = P.cellsOf t) :
    ∀ (fs : List Field) (o n : Nat) (xs : List (DataW H × List MemPlace)), tight P ok o fs n = true → xs.length = fs.length →
      (∀ (i : Nat) (f : Field), fs[i]? = some f → DataW.trod enc P w base spare held m f.type ((cs.drop f.offset).take (P.cellsOf f.type)) = xs[i]?) → o ≤ n ∧ (cs.drop o).take (n - o) = flats (xs.map (·.1))
  | [], o, n, xs, ht, hl, _ => by
    have : xs = [] := List.eq_nil_of_length_eq_zero hl
    subst this
    have := beq_iff_eq.1 ht
    subst this
    exact ⟨Nat.le_refl _, by simp [flats]⟩
  | f :: t, o, n, xs, ht, hl, hx => by
    match xs, hl with
    | y :: ys, hl =>
      unfold tight at ht
      simp only [Bool.and_eq_true, beq_iff_eq] at ht
      obtain ⟨⟨h1, h2⟩, h3⟩ := ht
      have h0 := hx 0 f rfl
      have h0' : DataW.trod enc P w base spare held m f.type ((cs.drop f.offset).take (P.cellsOf f.type)) = some y := h0
      obtain ⟨e1, e2⟩ := one _ _ _ h2 h0'
      obtain ⟨i1, i2⟩ := flat_fields ok m cs one t (o + P.cellsOf f.type) n ys h3 (by simpa using hl) (fun i g hg => hx (i + 1) g hg)
      refine ⟨by omega, ?_⟩
      rw [show n - o = P.cellsOf f.type + (n - (o + P.cellsOf f.type)) by omega, List.take_add, List.drop_drop, i2, ← h1, e1]
      rfl
theorem flat_elems (m c : Nat) (cs : List Value) (t : TypeId) (one : ∀ (c : List Value) (x : DataW H × List MemPlace), DataW.trod enc P w base spare held m t c = some x → c = flat x.1 ∧ c.length = P.cellsOf t) (hc : P.cellsOf t = c) :
    ∀ (n o : Nat) (xs : List (DataW H × List MemPlace)), xs.length = n → (∀ i, i < n → DataW.trod enc P w base spare held m t ((cs.drop ((o + i) * c)).take c) = xs[i]?) → (cs.drop (o * c)).take (n * c) = flats (xs.map (·.1))
  | 0, o, xs, hl, _ => by
    have : xs = [] := List.eq_nil_of_length_eq_zero hl
    subst this
    simp [flats]
  | n + 1, o, xs, hl, hx => by
    match xs, hl with
    | y :: ys, hl =>
      have h0 := hx 0 (by omega)
      rw [Nat.add_zero] at h0
      have h0' : DataW.trod enc P w base spare held m t ((cs.drop (o * c)).take c) = some y := h0
      obtain ⟨e1, e2⟩ := one _ _ h0'
      have ih := flat_elems m c cs t one hc n (o + 1) ys (by simpa using hl) (fun i hi => by
        have := hx (i + 1) (by omega)
        rw [show o + (i + 1) = o + 1 + i by omega] at this
        exact this)
      rw [show (n + 1) * c = c + n * c by rw [Nat.add_mul]; omega, List.take_add, List.drop_drop, show o * c + c = (o + 1) * c by rw [Nat.add_mul]; omega, ih, e1]
      rfl
/-- Plain data lies as its cells. -/
theorem flat_of_trod : ∀ (k : Nat) (t : TypeId) (fuel : Nat) (cs : List Value) (x : DataW H × List MemPlace), plainT P k t = true → DataW.trod enc P w base spare held fuel t cs = some x → cs = flat x.1 ∧ cs.length = P.cellsOf t
  | 0, _, _, _, _, h, _ => by cases h
  | k + 1, t, fuel, cs, x, h, ht => by
    unfold plainT at h
    split at h
    · next hu =>
      obtain ⟨b, rfl, rfl⟩ := DataW.trod_bool hu ht
      exact ⟨rfl, (beq_iff_eq.1 h).symm⟩
    · next q hu =>
      obtain ⟨n, rfl, rfl, _⟩ := DataW.trod_int hu ht
      exact ⟨rfl, (beq_iff_eq.1 h).symm⟩
    · next fs hu =>
      obtain ⟨xs, m, _, rfl, hl, hn, hf⟩ := DataW.trod_struct hu ht
      refine ⟨?_, hl⟩
      have := (flat_fields (enc := enc) (P := P) (w := w) (base := base) (spare := spare) (held := held) (plainT P k) m cs (fun t c x h1 h2 => flat_of_trod k t m c x h1 h2) fs.toList 0 (P.cellsOf t) xs h (by simpa using hn) (fun i f hi => hf i f (by simpa using hi))).2
      rw [List.drop_zero, Nat.sub_zero, List.take_of_length_le (by omega)] at this
      exact this
    · next n e hu =>
      simp only [Bool.and_eq_true, beq_iff_eq] at h
      obtain ⟨xs, m, _, rfl, hl, hn, hf⟩ := DataW.trod_array hu ht
      refine ⟨?_, hl⟩
      have := flat_elems (enc := enc) (P := P) (w := w) (base := base) (spare := spare) (held := held) m (P.cellsOf e) cs e (fun c x h2 => flat_of_trod k e m c x h.1 h2) rfl n 0 xs hn (fun i hi => by rw [Nat.zero_add]; exact hf i hi)
      rw [Nat.zero_mul, List.drop_zero, ← h.2, List.take_of_length_le (by omega)] at this
      exact this
    · cases h
end

/-- A variable's block. -/
theorem var_block {w : World} {P : Program} {n : String} {g : Nat} {cs : Array Value} (hg : P.globalNamed n = some g) (h : w.var? P n = some cs) : ∃ t fr, w.heap[g]? = some (.cells cs t fr) := by
  simp only [World.var?, hg, Option.bind_some] at h
  split at h
  · rename_i c t fr hb
    cases h
    exact ⟨t, fr, hb⟩
  · cases h

end Go.Proofs.YtpcjmicciccihaaDoor
