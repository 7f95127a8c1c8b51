/- The acts that came in, opened cell by cell. -/
import Derived.Test.YtaepdmifenkhcaaP6
import Derived.Test.YtaepdmifenkhcaaLaw
import Derived.Deep.Slices
namespace Go.Proofs.Ytaepdmifenkhcaa
open Go.ChangeShapes Go.WideShapes Go.RowKit Go.Deep Go.Joins

/-- One act as plain data: its bytes lie at A. -/
structure OneAct where
  K : Int
  a : Int
  m : Int
  k : Int
  tm : UInt8
  A : Option Addr
  ln : Nat
  cp : Nat
  xs : List UInt8

/-- The act lies at that place, and is what an act can be. -/
structure ActOk (W : World) (b off : Nat) (x : OneAct) : Prop where
  K1 : 0 ≤ x.K
  K2 : x.K ≤ 255
  a1 : -9223372036854775808 ≤ x.a
  a2 : x.a ≤ 9223372036854775807
  m1 : -9223372036854775808 ≤ x.m
  m2 : x.m ≤ 9223372036854775807
  k1 : -9223372036854775808 ≤ x.k
  k2 : x.k ≤ 9223372036854775807
  cells : ∀ j, j < 6 → W.cell? ⟨b, off + j, none⟩ = (actBox x.K x.a x.m x.A x.ln x.cp x.k x.tm)[j]?
  src : ByteSl W (fun k => W.heap.size ≤ k) x.A x.ln x.cp x.xs
  nl : x.A = none → x.ln = 0 ∧ x.cp = 0

section
variable {H : Type} {enc : TypeId × Value → H} {W : World}

theorem trod_bytes {fuel : Nat} {cs : List Value} {x : DataW H × List MemPlace} (hf : DataW.trod enc Try.prog W 0 (fun _ => true) true fuel 34 cs = some x) :
    ∃ (A : Option Addr) (n cap : Nat) (xs : List UInt8), cs = [.slice A n cap] ∧ ByteSl W (fun k => W.heap.size ≤ k) A n cap xs ∧ (A = none → n = 0 ∧ cap = 0) := by
  have hf0 := hf
  rcases open_ints Try.underlying34 Try.underlying5 (by kernel_rfl) hf with ⟨hcs, _⟩ | ⟨x, l, c, zs, hcs, _, hl, hm, hz, _, hcell, hwz⟩
  · exact ⟨none, 0, 0, [], hcs, ByteSl.nil_ _ _ _ _ (by simp [maxLen]), fun _ => ⟨rfl, rfl⟩⟩
  · subst hcs
    have hv : Value.okWide Try.prog W .any 0 34 (.slice (some x) l c) ∨ True := Or.inr trivial
    have hzl : zs.length = c := by simpa using hz
    refine ⟨some x, l, c, (zs.take l).map (fun z => UInt8.ofNat z.toNat), rfl, ⟨by simp; omega, hl, hm, fun hn => ⟨x, rfl, ?_, ?_, ?_⟩⟩, fun h => by cases h⟩
    · have h0 := hcell 0 (by omega)
      simp only [Addr.add, if_pos] at h0
      exact cell_lt h0
    · have h0 := hcell 0 (by omega)
      simp only [Addr.add, if_pos] at h0
      have := cell_lt h0
      omega
    · intro j y hj
      rw [List.getElem?_map, List.getElem?_take] at hj
      by_cases hjn : j < l
      · rw [if_pos hjn] at hj
        have hjl : j < zs.length := by omega
        rw [hcell j hjl]
        rw [List.getElem?_eq_getElem hjl] at hj
        simp at hj
        have hw := hwz zs[j] (List.getElem_mem hjl)
        simp [Lit.wf, IntKind.min, IntKind.max, IntKind.bits, IntKind.signed] at hw
        have hg : zs.getD j 0 = zs[j] := by simp [List.getD, hjl]
        rw [hg, ← hj]
        unfold B8
        rw [UInt8.toNat_ofNat']
        congr 2
        omega
      · rw [if_neg hjn] at hj
        cases hj

theorem open_act {b off fuel : Nat} {cs : List Value} {x : DataW H × List MemPlace} (hc : W.cells? 0 ⟨b, off, none⟩ 6 = some cs) (h : DataW.trod enc Try.prog W 0 (fun _ => true) true fuel 38 cs = some x) :
    ∃ y, ActOk W b off y := by
  obtain ⟨ys, n, _, _, hcl, hyl, hg⟩ := DataW.trod_struct Try.underlying38 h
  obtain ⟨_, hl, hat⟩ := World.cells?_some hc
  match cs, hl with
  | [c0, c1, c2, c3, c4, c5], _ =>
    match ys, hyl with
    | [y0, y1, y2, y3, y4], _ =>
      have g0 := hg 0 _ rfl
      have g1 := hg 1 _ rfl
      have g2 := hg 2 _ rfl
      have g3 := hg 3 _ rfl
      have g4 := hg 4 _ rfl
      have q1 : Try.prog.cellsOf 5 = 1 := by kernel_rfl
      have q2 : Try.prog.cellsOf 3 = 1 := by kernel_rfl
      have q3 : Try.prog.cellsOf 34 = 1 := by kernel_rfl
      have q4 : Try.prog.cellsOf 36 = 2 := by kernel_rfl
      simp [q1, q2, q3, q4] at g0 g1 g2 g3 g4
      obtain ⟨K, e0, _, wK⟩ := DataW.trod_int Try.underlying5 g0
      obtain ⟨a, e1, _, wa⟩ := DataW.trod_int Try.underlying3 g1
      obtain ⟨m, e2, _, wm⟩ := DataW.trod_int Try.underlying3 g2
      obtain ⟨A, ln, cp, xs, e3, hB, hnl⟩ := trod_bytes g3
      obtain ⟨zs, n2, _, _, _, hzl, hh⟩ := DataW.trod_struct Try.underlying36 g4
      match zs, hzl with
      | [z0, z1], _ =>
        have t0 := hh 0 _ rfl
        have t1 := hh 1 _ rfl
        simp [q1, q2] at t0 t1
        obtain ⟨k, e4, _, wk⟩ := DataW.trod_int Try.underlying3 t0
        obtain ⟨mk, e5, _, wmk⟩ := DataW.trod_int Try.underlying5 t1
        simp at e0 e1 e2 e3 e4 e5
        subst e0 e1 e2 e3 e4 e5
        obtain ⟨u, hu⟩ := bd_u8 wmk
        refine ⟨⟨K, a, m, k, u, A, ln, cp, xs⟩, (bd_u8i wK).1, (bd_u8i wK).2, (bd_i64 wa).1, (bd_i64 wa).2, (bd_i64 wm).1, (bd_i64 wm).2, (bd_i64 wk).1, (bd_i64 wk).2, fun j hj => ?_, hB, hnl⟩
        have h1 := hat j hj
        rw [show (⟨b, off, none⟩ : Addr).add j = ⟨b, off + j, none⟩ from by unfold Addr.add; split <;> simp_all] at h1
        rw [h1, hu]
        simp [actBox]

/-- All of them. -/
theorem open_acts {base : Nat} {v : Value} {d : DataW H} {p : List MemPlace} (hv : Value.okWide Try.prog W .any base 24 v) (h : DataW.Trod enc Try.prog W 0 (fun _ => true) true 24 v d p) :
    (∃ A cap, v = .slice A 0 cap) ∨ ∃ (b o n cap : Nat) (F : Nat → OneAct), v = .slice (some ⟨b, o, none⟩) n cap ∧ n ≤ cap ∧ cap ≤ maxLen ∧ b < W.heap.size ∧ ∀ i, i < n → ActOk W b (o + i * 6) (F i) := by
  obtain ⟨A, n, cap, rfl⟩ := okWide_slice Try.underlying24 hv
  obtain ⟨fuel, hf⟩ := h
  rcases Nat.eq_zero_or_pos n with h0 | h0
  · subst h0
    exact Or.inl ⟨A, cap, rfl⟩
  rcases open_slice Try.underlying24 hf with ⟨hcs, _⟩ | ⟨ad, l, c, m, n', D, Pl, hcs, _, hl, hm, hmm, _, hi⟩
  · simp [Value.cells] at hcs
    omega
  · right
    simp [Value.cells] at hcs
    obtain ⟨rfl, rfl, rfl⟩ := hcs
    simp at hmm
    subst hmm
    have q6 : Try.prog.cellsOf 38 = 6 := by kernel_rfl
    rw [q6] at hi
    obtain ⟨b, o, sp⟩ := ad
    have hs : sp = none ∧ b < W.heap.size := by
      obtain ⟨cs', hc, _⟩ := hi 0 (by omega)
      obtain ⟨_, hl6, hat⟩ := World.cells?_some hc
      have h1 := hat 0 (by omega)
      rw [List.getElem?_eq_getElem (by omega)] at h1
      simp only [Nat.zero_mul, Addr.add, if_true] at h1
      refine ⟨?_, cell_lt h1⟩
      rcases sp with _ | x
      · rfl
      · exfalso
        unfold World.cell? at h1
        split at h1 <;> simp at h1
    obtain ⟨rfl, hb⟩ := hs
    have hall : ∀ i, ∃ y, i < n → ActOk W b (o + i * 6) y := fun i => by
      by_cases hin : i < n
      · obtain ⟨cs', hc, ht⟩ := hi i (by omega)
        rw [show (⟨b, o, none⟩ : Addr).add (i * 6) = ⟨b, o + i * 6, none⟩ from by unfold Addr.add; split <;> simp_all] at hc
        obtain ⟨y, hy⟩ := open_act hc ht
        exact ⟨y, fun _ => hy⟩
      · exact ⟨⟨0, 0, 0, 0, 0, none, 0, 0, []⟩, fun h => absurd h hin⟩
    exact ⟨b, o, n, _, fun i => (hall i).choose, rfl, hl, hm, hb, fun i hin => (hall i).choose_spec hin⟩
end
end Go.Proofs.Ytaepdmifenkhcaa
