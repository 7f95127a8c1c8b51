/- Units that come in as an argument, opened, with the reach of what is read. -/
import Derived.Test.YtkcjgcogoicffaaDoorOz
import Derived.SizedLaws
namespace Go.Proofs.YtkcjgcogoicffaaDoor
set_option maxRecDepth 100000
open Go.ChangeShapes Go.WideShapes Go.ChangeAt Go.RowKit Go.Joins

/-- How much is read at most. -/
def M47 : Nat := 140737488351232
/-- What lies so, and is so. -/
def andT {α : Type} (R : RepT α) (P : α → Prop) : RepT α where
  k := R.k
  rep w Z cs v := R.rep w Z cs v ∧ P v
  len h := R.len h.1
  next h k hZ := ⟨R.next h.1 k hZ, h.2⟩
theorem RowS.all {α : Type} {R : RepT α} {P : α → Prop} {w : World} {Z : Nat → Prop} {A : Option Addr} {n cap : Nat} {l : List α} (h : RowS (andT R P) w Z A n cap l) : RowS R w Z A n cap l ∧ ∀ x ∈ l, P x := by
  refine ⟨h.weak (R' := R) rfl (fun cs x hx => hx.1), fun x hx => ?_⟩
  obtain ⟨i, hi, he⟩ := List.mem_iff_getElem.1 hx
  obtain ⟨b, o, y, cs, _, _, _, hy, _, _, hr⟩ := h.at_ (i := i) (by rw [← h.1]; exact hi)
  rw [List.getElem?_eq_getElem hi, he] at hy
  cases hy
  exact hr.2

section
variable {H : Type} {enc : TypeId × Value → H} {W : World} {base : Nat} {P : Program}
theorem mem_weightsAll {e : TypeId} : ∀ {l : List (DataW H)} {d : DataW H}, d ∈ l → ∀ n ∈ d.weights P e, n ∈ DataW.weightsAll P e l
  | [], _, h, _, _ => by cases h
  | a :: l, d, h, n, hn => by
    unfold DataW.weightsAll
    rcases List.mem_cons.1 h with rfl | h
    · exact List.mem_append_left _ hn
    · exact List.mem_append_right _ (mem_weightsAll h n hn)
/-- What is read of it takes no more. -/
def Wt (t : TypeId) (d : DataW H) : Prop := ∀ n ∈ d.weights Tryd.prog t, n ≤ M47
theorem Wt.str {t : TypeId} {s : ByteArray} (h : Wt t (.lit (.string s.data.toList) : DataW H)) : s.data.toList.length ≤ M47 := h _ (by simp [DataW.weights])
theorem Wt.field {t : TypeId} {fs : Array Field} {parts : List (DataW H)} (ht : Tryd.prog.underlying t = some (.struct fs)) (h : Wt t (.agg parts)) {j : Nat} {f : Field} {d : DataW H} (hf : fs[j]? = some f) (hd : parts[j]? = some d) : Wt f.type d := by
  intro n hn
  refine h n ?_
  unfold DataW.weights
  rw [ht]
  exact DataW.weights_mem_each (by simp [hf]) hd n hn

/-- A slice in a cell, with its reach. -/
theorem rowsS_cellW {α : Type} (R : RepT α) (a0 : α) (t e : TypeId) (ht : Tryd.prog.underlying t = some (.slice e)) (hK : Tryd.prog.cellsOf e = R.k) (h0K : 0 < R.k) (hby : 0 < Tryd.prog.bytesOf e)
    (one : ∀ (fuel : Nat) (cs : List Value) (x : DataW H × List MemPlace), cs.length = R.k → DataW.trod enc Tryd.prog W 0 (fun _ => true) true fuel e cs = some x → Wt e x.1 → ∃ y, R.rep W (fun q => W.heap.size ≤ q) cs y)
    {fuel : Nat} {v : Value} {x : DataW H × List MemPlace} (h : DataW.trod enc Tryd.prog W 0 (fun _ => true) true fuel t [v] = some x) (hw : Wt t x.1) :
    ∃ (A : Option Addr) (n cap : Nat) (l : List α), v = .slice A n cap ∧ RowS R W (fun q => W.heap.size ≤ q) A n cap l ∧ n ≤ M47 := by
  rcases Go.Deep.open_slice ht h with ⟨hcs, _⟩ | ⟨ad, n, cap, m, n', D, Pl, hcs, _, hl, hm, hmm, hx, hi⟩
  · simp at hcs
    subst hcs
    exact ⟨none, 0, 0, [], rfl, rowS_nil _ _ _, Nat.zero_le _⟩
  · simp at hcs
    subst hcs
    simp at hmm
    subst hmm
    rw [hK] at hi
    subst hx
    have hwS : Wt t (.slice ((List.range n).map D) ((List.range (m - n)).map fun j => D (n + j)) : DataW H) := hw
    have hwn : n ≤ M47 := by
      have := hwS ((((List.range n).map D).length + ((List.range (m - n)).map fun j => D (n + j)).length) * Tryd.prog.bytesOf e) (by unfold DataW.weights; rw [ht]; exact List.mem_cons_self)
      simp only [List.length_map, List.length_range] at this
      have h2 : n * 1 ≤ (n + (m - n)) * Tryd.prog.bytesOf e := Nat.mul_le_mul (by omega) hby
      omega
    have hwi : ∀ i, i < n → Wt e (D i) := fun i hin k hk => hwS k (by
      unfold DataW.weights
      rw [ht]
      exact List.mem_cons_of_mem _ (List.mem_append_left _ (mem_weightsAll (d := D i) (List.mem_map.2 ⟨i, List.mem_range.2 hin, rfl⟩) k hk)))
    rcases Nat.eq_zero_or_pos n with h0 | h0
    · subst h0
      exact ⟨_, 0, _, [], rfl, ⟨rfl, hl, hm, (fun h => by cases h), fun h => absurd h (by omega)⟩, Nat.zero_le _⟩
    obtain ⟨b, o, sp⟩ := ad
    have hs : sp = none ∧ b < W.heap.size := by
      obtain ⟨cs', hc, _⟩ := hi 0 (by omega)
      obtain ⟨_, hl6, hat⟩ := World.cells?_some hc
      have h1 := hat 0 (by omega)
      rw [List.getElem?_eq_getElem (by omega)] at h1
      simp only [Nat.zero_mul, Addr.add, if_true] at h1
      refine ⟨?_, cell_lt h1⟩
      rcases sp with _ | x
      · rfl
      · exfalso
        unfold World.cell? at h1
        split at h1 <;> simp at h1
    obtain ⟨rfl, hb⟩ := hs
    have hall : ∀ i, ∃ y, i < n → ∃ cs, (∀ j v, cs[j]? = some v → W.cell? ⟨b, o + i * R.k + j, none⟩ = some v) ∧ R.rep W (fun q => W.heap.size ≤ q) cs y := fun i => by
      by_cases hin : i < n
      · obtain ⟨cs', hc, ht2⟩ := hi i (by omega)
        rw [add_off] at hc
        obtain ⟨_, hcl, hat⟩ := World.cells?_some hc
        obtain ⟨y, hy⟩ := one _ _ _ hcl ht2 (hwi i hin)
        refine ⟨y, fun _ => ⟨cs', fun j v hv => ?_, hy⟩⟩
        have hj := (List.getElem?_eq_some_iff.1 hv).1
        have h1 := hat j (by omega)
        rw [add_off] at h1
        rw [h1]
        exact hv
      · exact ⟨a0, fun h => absurd h hin⟩
    refine ⟨_, n, _, (List.range n).map fun i => (hall i).choose, rfl, ⟨by simp, hl, hm, (fun h => by cases h), fun _ => ⟨b, o, rfl, hb, by omega, fun i y hy => ?_⟩⟩, hwn⟩
    rw [List.getElem?_map] at hy
    have hin : i < n := by
      rcases Nat.lt_or_ge i n with h1 | h1
      · exact h1
      · rw [List.getElem?_eq_none (by simpa using h1)] at hy
        cases hy
    rw [List.getElem?_range hin] at hy
    simp only [Option.map_some, Option.some.injEq] at hy
    rw [← hy]
    exact (hall i).choose_spec hin

abbrev SB (s : Bs) : Prop := s.length ≤ M47
def fdB (f : FdD) : Prop := SB f.name ∧ SB f.desc
def trB (t : TrD) : Prop := SB t.cls
def inB (i : InD) : Prop := SB i.cls ∧ SB i.name ∧ SB i.desc ∧ SB i.text
def mpB (m : MpD) : Prop := m.locals.length ≤ M47 ∧ m.stack.length ≤ M47 ∧ (∀ s ∈ m.locals, SB s) ∧ (∀ s ∈ m.stack, SB s)
def meB (m : MeD) : Prop := SB m.name ∧ SB m.desc ∧ m.code.length ≤ M47 ∧ m.traps.length ≤ M47 ∧ m.maps.length ≤ M47 ∧ (∀ i ∈ m.code, inB i) ∧ (∀ t ∈ m.traps, trB t) ∧ (∀ p ∈ m.maps, mpB p)
def unB (u : UnD) : Prop := SB u.name ∧ SB u.super ∧ u.fields.length ≤ M47 ∧ u.meths.length ≤ M47 ∧ (∀ f ∈ u.fields, fdB f) ∧ (∀ m ∈ u.meths, meB m)

theorem strB_of' (s : ByteArray) : s = strB s.data.toList := by obtain ⟨⟨l⟩⟩ := s; rfl
theorem oneW_str {fuel : Nat} {c : Value} {x : DataW H × List MemPlace} (h : TC enc W 9 fuel [c] x) (hw : Wt 9 x.1) : ∃ s : Bs, c = .string (strB s) ∧ SB s := by
  obtain ⟨s, e, he, _⟩ := DataW.trod_string Tryd.underlying9 h
  simp at e
  subst he
  exact ⟨s.data.toList, by rw [e, ← strB_of'], hw.str⟩
theorem oneW_int {fuel : Nat} {c : Value} {x : DataW H × List MemPlace} (h : TC enc W 3 fuel [c] x) : ∃ k : Int, c = .int .i64 k := one_int h
theorem oneW_bool {fuel : Nat} {c : Value} {x : DataW H × List MemPlace} (h : TC enc W 4 fuel [c] x) : ∃ k : Bool, c = .bool k := by
  obtain ⟨b, e, _⟩ := DataW.trod_bool Tryd.underlying4 h
  simp at e
  exact ⟨b, e⟩
theorem oneW_fd {fuel : Nat} {cs : List Value} {x : DataW H × List MemPlace} (hl : cs.length = 3) (ht : TC enc W 54 fuel cs x) (hw : Wt 54 x.1) : ∃ y, (andT fdT fdB).rep W (fun q => W.heap.size ≤ q) cs y := by
  obtain ⟨ys, m, _, hx, _, hyl, hg⟩ := DataW.trod_struct Tryd.underlying54 ht
  subst hx
  match cs, hl with
  | [c0, c1, c2], _ =>
    match ys, hyl with
    | [y0, y1, y2], _ =>
      obtain ⟨t, rfl⟩ := oneW_bool (hg 0 _ rfl : TC enc W 4 m [c0] y0)
      obtain ⟨a, rfl, ha⟩ := oneW_str (hg 1 _ rfl : TC enc W 9 m [c1] y1) (Wt.field Tryd.underlying54 hw (j := 1) rfl rfl)
      obtain ⟨b, rfl, hb⟩ := oneW_str (hg 2 _ rfl : TC enc W 9 m [c2] y2) (Wt.field Tryd.underlying54 hw (j := 2) rfl rfl)
      exact ⟨⟨t, a, b⟩, rfl, ha, hb⟩
end

end Go.Proofs.YtkcjgcogoicffaaDoor
