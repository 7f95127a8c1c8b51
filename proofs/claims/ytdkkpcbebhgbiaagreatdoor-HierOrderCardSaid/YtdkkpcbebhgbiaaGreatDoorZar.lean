/- Units as they lie in memory. -/
import Derived.Test.YtdkkpcbebhgbiaaGreatDoorZaq
import Derived.Test.YtdkkpcbebhgbiaaGreatDoorZaa
import Derived.Test.YtdkkpcbebhgbiaaGreatDoorZah
import Derived.SizedLaws
namespace Go.Proofs.YtdkkpcbebhgbiaaGreatDoor
set_option maxRecDepth 100000
open Go.RowKit

def strT : RepT Bs where
  k := 1
  rep _ _ cs v := cs = [.string (strB v)]
  len h := by rw [h]; rfl
  next h _ _ := h
def fdT : RepT FdD where
  k := 3
  rep _ _ cs v := cs = [.bool v.static, .string (strB v.name), .string (strB v.desc)]
  len h := by rw [h]; rfl
  next h _ _ := h
def trT : RepT TrD where
  k := 4
  rep _ _ cs v := cs = [.int .i64 v.a, .int .i64 v.b, .int .i64 v.c, .string (strB v.cls)]
  len h := by rw [h]; rfl
  next h _ _ := h
def inT : RepT InD where
  k := 7
  rep _ _ cs v := cs = [.int .u8 (v.op.toNat : Int), .int .i64 v.n, .int .i64 v.m, .string (strB v.cls), .string (strB v.name), .string (strB v.desc), .string (strB v.text)]
  len h := by rw [h]; rfl
  next h _ _ := h
def mpT : RepT MpD where
  k := 3
  rep w Z cs v := ∃ a b, cs = [.int .i64 v.at_, a, b] ∧ (rowT strT).rep w Z [a] v.locals ∧ (rowT strT).rep w Z [b] v.stack
  len h := by obtain ⟨_, _, rfl, _⟩ := h; rfl
  next h k hZ := by
    obtain ⟨a, b, rfl, h1, h2⟩ := h
    exact ⟨a, b, rfl, (rowT strT).next h1 k hZ, (rowT strT).next h2 k hZ⟩
/-- A method; its codes and maps are looked at where 'full' says so. -/
def meT (full : Bool) : RepT MeD where
  k := 8
  rep w Z cs v := ∃ Ac nc cc At nt ct Ap np cp, cs = [.bool v.static, .string (strB v.name), .string (strB v.desc), .int .i64 v.stack, .int .i64 v.locals, .slice Ac nc cc, .slice At nt ct, .slice Ap np cp] ∧
    RowS trT w Z At nt ct v.traps ∧ (full = true → RowS inT w Z Ac nc cc v.code ∧ RowS mpT w Z Ap np cp v.maps)
  len h := by obtain ⟨_, _, _, _, _, _, _, _, _, rfl, _⟩ := h; rfl
  next h k hZ := by
    obtain ⟨Ac, nc, cc, At, nt, ct, Ap, np, cp, rfl, h1, h2⟩ := h
    exact ⟨Ac, nc, cc, At, nt, ct, Ap, np, cp, rfl, h1.next k hZ, fun hf => ⟨(h2 hf).1.next k hZ, (h2 hf).2.next k hZ⟩⟩
def unT (full : Bool) : RepT UnD where
  k := 4
  rep w Z cs v := ∃ Af nf cf Am nm cm, cs = [.string (strB v.name), .string (strB v.super), .slice Af nf cf, .slice Am nm cm] ∧ RowS fdT w Z Af nf cf v.fields ∧ RowS (meT full) w Z Am nm cm v.meths
  len h := by obtain ⟨_, _, _, _, _, _, rfl, _⟩ := h; rfl
  next h k hZ := by
    obtain ⟨Af, nf, cf, Am, nm, cm, rfl, h1, h2⟩ := h
    exact ⟨Af, nf, cf, Am, nm, cm, rfl, h1.next k hZ, h2.next k hZ⟩
/-- A method, a unit, whose codes and maps aren't looked at; and read whole. -/
abbrev meW : RepT MeD := meT false
abbrev unW : RepT UnD := unT false
abbrev meF : RepT MeD := meT true
abbrev unF : RepT UnD := unT true
theorem meW_of {w : World} {Z : Nat → Prop} {cs : List Value} {x : MeD} (h : meF.rep w Z cs x) : meW.rep w Z cs x := by
  obtain ⟨Ac, nc, cc, At, nt, ct, Ap, np, cp, rfl, h1, _⟩ := h
  exact ⟨Ac, nc, cc, At, nt, ct, Ap, np, cp, rfl, h1, fun h => by cases h⟩
theorem unW_of {w : World} {Z : Nat → Prop} {cs : List Value} {x : UnD} (h : unF.rep w Z cs x) : unW.rep w Z cs x := by
  obtain ⟨Af, nf, cf, Am, nm, cm, rfl, h1, h2⟩ := h
  exact ⟨Af, nf, cf, Am, nm, cm, rfl, h1, h2.weak rfl (fun _ _ h => meW_of h)⟩

/-- How great units may be. -/
structure SmallUn (u : UnD) : Prop where
  name : u.name.length ≤ 1000000
  super : u.super.length ≤ 1000000
  fields : u.fields.length ≤ 1000
  meths : u.meths.length ≤ 1000
  fld : ∀ f ∈ u.fields, f.name.length ≤ 1000000 ∧ f.desc.length ≤ 1000000
  mth : ∀ m ∈ u.meths, m.name.length ≤ 1000000 ∧ m.desc.length ≤ 1000000
  trap : ∀ m ∈ u.meths, m.traps.length ≤ 1000000 ∧ ∀ t ∈ m.traps, t.cls.length ≤ 1000000

/-- A unit's value. -/
def unV4 (x : UnD) (Af : Option Addr) (nf cf : Nat) (Am : Option Addr) (nm cm : Nat) : Value := .agg #[.string (strB x.name), .string (strB x.super), .slice Af nf cf, .slice Am nm cm]
end Go.Proofs.YtdkkpcbebhgbiaaGreatDoor

/- Units that come in as an argument, opened, with the reach of what is read. -/
namespace Go.Proofs.YtdkkpcbebhgbiaaGreatDoor
set_option maxRecDepth 100000
open Go.ChangeShapes Go.WideShapes Go.ChangeAt Go.RowKit Go.Joins

/-- How much is read at most. -/
def M47 : Nat := 140737488351232
/-- What lies so, and is so. -/
def andT {α : Type} (R : RepT α) (P : α → Prop) : RepT α where
  k := R.k
  rep w Z cs v := R.rep w Z cs v ∧ P v
  len h := R.len h.1
  next h k hZ := ⟨R.next h.1 k hZ, h.2⟩
theorem RowS.all {α : Type} {R : RepT α} {P : α → Prop} {w : World} {Z : Nat → Prop} {A : Option Addr} {n cap : Nat} {l : List α} (h : RowS (andT R P) w Z A n cap l) : RowS R w Z A n cap l ∧ ∀ x ∈ l, P x := by
  refine ⟨h.weak (R' := R) rfl (fun cs x hx => hx.1), fun x hx => ?_⟩
  obtain ⟨i, hi, he⟩ := List.mem_iff_getElem.1 hx
  obtain ⟨b, o, y, cs, _, _, _, hy, _, _, hr⟩ := h.at_ (i := i) (by rw [← h.1]; exact hi)
  rw [List.getElem?_eq_getElem hi, he] at hy
  cases hy
  exact hr.2

section
variable {H : Type} {enc : TypeId × Value → H} {W : World} {base : Nat} {P : Program}
theorem mem_weightsAll {e : TypeId} : ∀ {l : List (DataW H)} {d : DataW H}, d ∈ l → ∀ n ∈ d.weights P e, n ∈ DataW.weightsAll P e l
  | [], _, h, _, _ => by cases h
  | a :: l, d, h, n, hn => by
    unfold DataW.weightsAll
    rcases List.mem_cons.1 h with rfl | h
    · exact List.mem_append_left _ hn
    · exact List.mem_append_right _ (mem_weightsAll h n hn)
/-- What is read of it takes no more. -/
def Wt (t : TypeId) (d : DataW H) : Prop := ∀ n ∈ d.weights Tryz.prog t, n ≤ M47
theorem Wt.str {t : TypeId} {s : ByteArray} (h : Wt t (.lit (.string s.data.toList) : DataW H)) : s.data.toList.length ≤ M47 := h _ (by simp [DataW.weights])
theorem Wt.field {t : TypeId} {fs : Array Field} {parts : List (DataW H)} (ht : Tryz.prog.underlying t = some (.struct fs)) (h : Wt t (.agg parts)) {j : Nat} {f : Field} {d : DataW H} (hf : fs[j]? = some f) (hd : parts[j]? = some d) : Wt f.type d := by
  intro n hn
  refine h n ?_
  unfold DataW.weights
  rw [ht]
  exact DataW.weights_mem_each (by simp [hf]) hd n hn

/-- A slice in a cell, with its reach. -/
theorem rowsS_cellW {α : Type} (R : RepT α) (a0 : α) (t e : TypeId) (ht : Tryz.prog.underlying t = some (.slice e)) (hK : Tryz.prog.cellsOf e = R.k) (h0K : 0 < R.k) (hby : 0 < Tryz.prog.bytesOf e)
    (one : ∀ (fuel : Nat) (cs : List Value) (x : DataW H × List MemPlace), cs.length = R.k → DataW.trod enc Tryz.prog W 0 (fun _ => true) true fuel e cs = some x → Wt e x.1 → ∃ y, R.rep W (fun q => W.heap.size ≤ q) cs y)
    {fuel : Nat} {v : Value} {x : DataW H × List MemPlace} (h : DataW.trod enc Tryz.prog W 0 (fun _ => true) true fuel t [v] = some x) (hw : Wt t x.1) :
    ∃ (A : Option Addr) (n cap : Nat) (l : List α), v = .slice A n cap ∧ RowS R W (fun q => W.heap.size ≤ q) A n cap l ∧ n ≤ M47 := by
  rcases Go.Deep.open_slice ht h with ⟨hcs, _⟩ | ⟨ad, n, cap, m, n', D, Pl, hcs, _, hl, hm, hmm, hx, hi⟩
  · simp at hcs
    subst hcs
    exact ⟨none, 0, 0, [], rfl, rowS_nil _ _ _, Nat.zero_le _⟩
  · simp at hcs
    subst hcs
    simp at hmm
    subst hmm
    rw [hK] at hi
    subst hx
    have hwS : Wt t (.slice ((List.range n).map D) ((List.range (m - n)).map fun j => D (n + j)) : DataW H) := hw
    have hwn : n ≤ M47 := by
      have := hwS ((((List.range n).map D).length + ((List.range (m - n)).map fun j => D (n + j)).length) * Tryz.prog.bytesOf e) (by unfold DataW.weights; rw [ht]; exact List.mem_cons_self)
      simp only [List.length_map, List.length_range] at this
      have h2 : n * 1 ≤ (n + (m - n)) * Tryz.prog.bytesOf e := Nat.mul_le_mul (by omega) hby
      omega
    have hwi : ∀ i, i < n → Wt e (D i) := fun i hin k hk => hwS k (by
      unfold DataW.weights
      rw [ht]
      exact List.mem_cons_of_mem _ (List.mem_append_left _ (mem_weightsAll (d := D i) (List.mem_map.2 ⟨i, List.mem_range.2 hin, rfl⟩) k hk)))
    rcases Nat.eq_zero_or_pos n with h0 | h0
    · subst h0
      exact ⟨_, 0, _, [], rfl, ⟨rfl, hl, hm, (fun h => by cases h), fun h => absurd h (by omega)⟩, Nat.zero_le _⟩
    obtain ⟨b, o, sp⟩ := ad
    have hs : sp = none ∧ b < W.heap.size := by
      obtain ⟨cs', hc, _⟩ := hi 0 (by omega)
      obtain ⟨_, hl6, hat⟩ := World.cells?_some hc
      have h1 := hat 0 (by omega)
      rw [List.getElem?_eq_getElem (by omega)] at h1
      simp only [Nat.zero_mul, Addr.add, if_true] at h1
      refine ⟨?_, cell_lt h1⟩
      rcases sp with _ | x
      · rfl
      · exfalso
        unfold World.cell? at h1
        split at h1 <;> simp at h1
    obtain ⟨rfl, hb⟩ := hs
    have hall : ∀ i, ∃ y, i < n → ∃ cs, (∀ j v, cs[j]? = some v → W.cell? ⟨b, o + i * R.k + j, none⟩ = some v) ∧ R.rep W (fun q => W.heap.size ≤ q) cs y := fun i => by
      by_cases hin : i < n
      · obtain ⟨cs', hc, ht2⟩ := hi i (by omega)
        rw [add_off] at hc
        obtain ⟨_, hcl, hat⟩ := World.cells?_some hc
        obtain ⟨y, hy⟩ := one _ _ _ hcl ht2 (hwi i hin)
        refine ⟨y, fun _ => ⟨cs', fun j v hv => ?_, hy⟩⟩
        have hj := (List.getElem?_eq_some_iff.1 hv).1
        have h1 := hat j (by omega)
        rw [add_off] at h1
        rw [h1]
        exact hv
      · exact ⟨a0, fun h => absurd h hin⟩
    refine ⟨_, n, _, (List.range n).map fun i => (hall i).choose, rfl, ⟨by simp, hl, hm, (fun h => by cases h), fun _ => ⟨b, o, rfl, hb, by omega, fun i y hy => ?_⟩⟩, hwn⟩
    rw [List.getElem?_map] at hy
    have hin : i < n := by
      rcases Nat.lt_or_ge i n with h1 | h1
      · exact h1
      · rw [List.getElem?_eq_none (by simpa using h1)] at hy
        cases hy
    rw [List.getElem?_range hin] at hy
    simp only [Option.map_some, Option.some.injEq] at hy
    rw [← hy]
    exact (hall i).choose_spec hin

abbrev SB (s : Bs) : Prop := s.length ≤ M47
def fdB (f : FdD) : Prop := SB f.name ∧ SB f.desc
def trB (t : TrD) : Prop := SB t.cls
def inB (i : InD) : Prop := SB i.cls ∧ SB i.name ∧ SB i.desc ∧ SB i.text
def mpB (m : MpD) : Prop := m.locals.length ≤ M47 ∧ m.stack.length ≤ M47 ∧ (∀ s ∈ m.locals, SB s) ∧ (∀ s ∈ m.stack, SB s)
def meB (m : MeD) : Prop := SB m.name ∧ SB m.desc ∧ m.code.length ≤ M47 ∧ m.traps.length ≤ M47 ∧ m.maps.length ≤ M47 ∧ (∀ i ∈ m.code, inB i) ∧ (∀ t ∈ m.traps, trB t) ∧ (∀ p ∈ m.maps, mpB p)
def unB (u : UnD) : Prop := SB u.name ∧ SB u.super ∧ u.fields.length ≤ M47 ∧ u.meths.length ≤ M47 ∧ (∀ f ∈ u.fields, fdB f) ∧ (∀ m ∈ u.meths, meB m)

theorem strB_of' (s : ByteArray) : s = strB s.data.toList := by obtain ⟨⟨l⟩⟩ := s; rfl
theorem oneW_str {fuel : Nat} {c : Value} {x : DataW H × List MemPlace} (h : TC enc W 9 fuel [c] x) (hw : Wt 9 x.1) : ∃ s : Bs, c = .string (strB s) ∧ SB s := by
  obtain ⟨s, e, he, _⟩ := DataW.trod_string Tryz.underlying9 h
  simp at e
  subst he
  exact ⟨s.data.toList, by rw [e, ← strB_of'], hw.str⟩
theorem oneW_int {fuel : Nat} {c : Value} {x : DataW H × List MemPlace} (h : TC enc W 3 fuel [c] x) : ∃ k : Int, c = .int .i64 k := one_int h
theorem oneW_bool {fuel : Nat} {c : Value} {x : DataW H × List MemPlace} (h : TC enc W 4 fuel [c] x) : ∃ k : Bool, c = .bool k := by
  obtain ⟨b, e, _⟩ := DataW.trod_bool Tryz.underlying4 h
  simp at e
  exact ⟨b, e⟩
theorem oneW_fd {fuel : Nat} {cs : List Value} {x : DataW H × List MemPlace} (hl : cs.length = 3) (ht : TC enc W 95 fuel cs x) (hw : Wt 95 x.1) : ∃ y, (andT fdT fdB).rep W (fun q => W.heap.size ≤ q) cs y := by
  obtain ⟨ys, m, _, hx, _, hyl, hg⟩ := DataW.trod_struct Tryz.underlying95 ht
  subst hx
  match cs, hl with
  | [c0, c1, c2], _ =>
    match ys, hyl with
    | [y0, y1, y2], _ =>
      obtain ⟨t, rfl⟩ := oneW_bool (hg 0 _ rfl : TC enc W 4 m [c0] y0)
      obtain ⟨a, rfl, ha⟩ := oneW_str (hg 1 _ rfl : TC enc W 9 m [c1] y1) (Wt.field Tryz.underlying95 hw (j := 1) rfl rfl)
      obtain ⟨b, rfl, hb⟩ := oneW_str (hg 2 _ rfl : TC enc W 9 m [c2] y2) (Wt.field Tryz.underlying95 hw (j := 2) rfl rfl)
      exact ⟨⟨t, a, b⟩, rfl, ha, hb⟩
end

end Go.Proofs.YtdkkpcbebhgbiaaGreatDoor
