/- A slice of structs that comes in, opened element by element, whatever the struct. -/
import Derived.Test.YtnhfmcijadficaaGreatDoorZaa
import Derived.Deep.Slices
import Derived.Deep.Fields
import Derived.ChangeArms
namespace Go.Proofs.YtnhfmcijadficaaGreatDoor
set_option maxRecDepth 100000
open Go.ChangeShapes Go.WideShapes Go.ChangeAt Go.RowKit Go.Joins

section
variable {H : Type} {enc : TypeId × Value → H} {W : World} {base : Nat}

theorem add_off (b o n : Nat) : (⟨b, o, none⟩ : Addr).add n = ⟨b, o + n, none⟩ := by unfold Addr.add; split <;> simp_all

/-- Each element is what 'one' makes of K cells side by side. -/
theorem open_rows {α : Type} (a0 : α) (t e : TypeId) (K : Nat) (ht : Tryz.prog.underlying t = some (.slice e)) (hK : Tryz.prog.cellsOf e = K) (h0K : 0 < K) (P : Nat → Nat → α → Prop)
    (one : ∀ (b off fuel : Nat) (cs : List Value) (x : DataW H × List MemPlace), W.cells? 0 ⟨b, off, none⟩ K = some cs → DataW.trod enc Tryz.prog W 0 (fun _ => true) true fuel e cs = some x → ∃ y, P b off y)
    {v : Value} {d : DataW H} {p : List MemPlace} (hv : Value.okWide Tryz.prog W .any base t v) (h : DataW.Trod enc Tryz.prog W 0 (fun _ => true) true t v d p) :
    ∃ (A : Option Addr) (n cap : Nat) (l : List α), v = .slice A n cap ∧ l.length = n ∧ n ≤ cap ∧ cap ≤ maxLen ∧ (A = none → n = 0 ∧ cap = 0) ∧
      (0 < n → ∃ b o, A = some ⟨b, o, none⟩ ∧ b < W.heap.size ∧ ∀ i y, l[i]? = some y → P b (o + i * K) y) := by
  obtain ⟨A, n, cap, rfl⟩ := okWide_slice ht hv
  obtain ⟨fuel, hf⟩ := h
  rcases Go.Deep.open_slice ht hf with ⟨hcs, _⟩ | ⟨ad, l, c, m, n', D, Pl, hcs, _, hl, hm, hmm, _, hi⟩
  · simp [Value.cells] at hcs
    obtain ⟨rfl, rfl, rfl⟩ := hcs
    exact ⟨none, 0, 0, [], rfl, rfl, Nat.le_refl _, by simp [maxLen], fun _ => ⟨rfl, rfl⟩, fun h => absurd h (by omega)⟩
  · simp [Value.cells] at hcs
    obtain ⟨rfl, rfl, rfl⟩ := hcs
    simp at hmm
    subst hmm
    rw [hK] at hi
    rcases Nat.eq_zero_or_pos n with h0 | h0
    · subst h0
      exact ⟨_, 0, _, [], rfl, rfl, hl, hm, (fun h => by cases h), fun h => absurd h (by omega)⟩
    obtain ⟨b, o, sp⟩ := ad
    have hs : sp = none ∧ b < W.heap.size := by
      obtain ⟨cs', hc, _⟩ := hi 0 (by omega)
      obtain ⟨_, hl6, hat⟩ := World.cells?_some hc
      have h1 := hat 0 (by omega)
      rw [List.getElem?_eq_getElem (by omega)] at h1
      simp only [Nat.zero_mul, Addr.add, if_true] at h1
      refine ⟨?_, cell_lt h1⟩
      rcases sp with _ | x
      · rfl
      · exfalso
        unfold World.cell? at h1
        split at h1 <;> simp at h1
    obtain ⟨rfl, hb⟩ := hs
    have hall : ∀ i, ∃ y, i < n → P b (o + i * K) y := fun i => by
      by_cases hin : i < n
      · obtain ⟨cs', hc, ht2⟩ := hi i (by omega)
        rw [add_off] at hc
        obtain ⟨y, hy⟩ := one _ _ _ _ _ hc ht2
        exact ⟨y, fun _ => hy⟩
      · exact ⟨a0, fun h => absurd h hin⟩
    refine ⟨_, n, _, (List.range n).map fun i => (hall i).choose, rfl, by simp, hl, hm, (fun h => by cases h), fun _ => ⟨b, o, rfl, hb, fun i y hy => ?_⟩⟩
    rw [List.getElem?_map] at hy
    have hin : i < n := by
      rcases Nat.lt_or_ge i n with h1 | h1
      · exact h1
      · rw [List.getElem?_eq_none (by simpa using h1)] at hy
        cases hy
    rw [List.getElem?_range hin] at hy
    simp only [Option.map_some, Option.some.injEq] at hy
    rw [← hy]
    exact (hall i).choose_spec hin

/-- Bytes in a cell, as the walks take them. -/
theorem bytes_cell {v : Value} {fuel : Nat} {x : DataW H × List MemPlace} (h : DataW.trod enc Tryz.prog W 0 (fun _ => true) true fuel 22 [v] = some x) :
    ∃ (A : Option Addr) (n cap : Nat) (xs : List UInt8), v = .slice A n cap ∧ ByteSl W (fun k => W.heap.size ≤ k) A n cap xs ∧ (A = none → n = 0 ∧ cap = 0) := by
  rcases open_ints Tryz.underlying22 Tryz.underlying5 (by kernel_rfl) h with ⟨hcs, _⟩ | ⟨x, l, c, zs, hcs, _, hl, hm, hz, _, hcell, hwz⟩
  · simp at hcs
    subst hcs
    exact ⟨none, 0, 0, [], rfl, ByteSl.nil_ _ _ _ _ (by simp [maxLen]), fun _ => ⟨rfl, rfl⟩⟩
  · simp at hcs
    subst hcs
    have hzl : zs.length = c := by simpa using hz
    refine ⟨some x, l, c, (zs.take l).map (fun z => UInt8.ofNat z.toNat), rfl, ⟨by simp; omega, hl, hm, fun hn => ⟨x, rfl, ?_, ?_, ?_⟩⟩, fun h => by cases h⟩
    · have h0 := hcell 0 (by omega)
      simp only [Addr.add, if_pos] at h0
      exact cell_lt h0
    · have h0 := hcell 0 (by omega)
      simp only [Addr.add, if_pos] at h0
      have := cell_lt h0
      omega
    · intro j y hj
      rw [List.getElem?_map, List.getElem?_take] at hj
      by_cases hjn : j < l
      · rw [if_pos hjn] at hj
        have hjl : j < zs.length := by omega
        rw [hcell j hjl]
        rw [List.getElem?_eq_getElem hjl] at hj
        simp at hj
        have hw := hwz zs[j] (List.getElem_mem hjl)
        simp [Lit.wf, IntKind.min, IntKind.max, IntKind.bits, IntKind.signed] at hw
        have hg : zs.getD j 0 = zs[j] := by simp [List.getD, hjl]
        rw [hg, ← hj]
        unfold B8
        rw [UInt8.toNat_ofNat']
        congr 2
        omega
      · rw [if_neg hjn] at hj
        cases hj
end

end Go.Proofs.YtnhfmcijadficaaGreatDoor

/- The flash as plain data, what a program and an erase do to it, and how it lies in memory. -/
namespace Go.Proofs.YtnhfmcijadficaaGreatDoor
set_option maxRecDepth 100000
open Go.RowKit

structure Fl where
  S : Nat
  Z : Nat
  L : Nat
  bs : List UInt8
  er : List Nat
  up : Bool
  fuse : Int
  keep : Int
  mask : UInt8

namespace Fl

/-- What holds of every flash that New has made. -/
structure Ok (fl : Fl) : Prop where
  s1 : 1 ≤ fl.S
  s2 : fl.S ≤ 64
  z1 : 64 ≤ fl.Z
  z2 : fl.Z ≤ 65536
  l1 : 1 ≤ fl.L
  l2 : fl.L ≤ 1048576
  bl : fl.bs.length = fl.S * fl.Z
  el : fl.er.length = fl.S
  eb : ∀ (i n : Nat), fl.er[i]? = some n → n ≤ fl.L
  f1 : -9223372036854775808 ≤ fl.fuse
  f2 : fl.fuse ≤ 9223372036854775807
  k1 : -9223372036854775808 ≤ fl.keep
  k2 : fl.keep ≤ 9223372036854775807

/-- How many of n bytes an act does whole: all, or as the tear says. -/
def many (fl : Fl) (n : Nat) : Nat := if fl.fuse = 0 then (max fl.keep 0).toNat % (n + 1) else n
/-- An act's answer. -/
def code (fl : Fl) : Int := if fl.fuse = 0 then 5 else 0
/-- The fuse and the state behind an act. -/
def burn (fl : Fl) : Fl := if fl.fuse = 0 then { fl with up := false } else if 0 < fl.fuse then { fl with fuse := fl.fuse - 1 } else fl

/-- The cells of a flash's own block: its cells lie in block c, its counts in block e. -/
def hdr (fl : Fl) (c e : Nat) : Array Value :=
  #[.int .i64 (fl.S : Int), .int .i64 (fl.Z : Int), .int .i64 (fl.L : Int), .slice (some ⟨c, 0, none⟩) (fl.S * fl.Z) (fl.S * fl.Z), .slice (some ⟨e, 0, none⟩) fl.S fl.S,
    .bool fl.up, .int .i64 fl.fuse, .int .i64 fl.keep, B8 fl.mask]

theorem burn_geo (fl : Fl) : fl.burn.S = fl.S ∧ fl.burn.Z = fl.Z ∧ fl.burn.L = fl.L ∧ fl.burn.bs = fl.bs ∧ fl.burn.er = fl.er := by
  unfold burn
  by_cases h : fl.fuse = 0
  · simp [h]
  · by_cases h1 : 0 < fl.fuse <;> simp [h, h1]

theorem burn_rest (fl : Fl) : fl.burn.mask = fl.mask ∧ fl.burn.keep = fl.keep := by
  unfold burn
  by_cases h : fl.fuse = 0
  · simp [h]
  · by_cases h1 : 0 < fl.fuse <;> simp [h, h1]

end Fl

/-- A flash lies in memory: its own block p, its cells in c, its counts in e. -/
structure FlashAt (w : World) (p c e : Nat) (fl : Fl) : Prop where
  ok : fl.Ok
  hd : Blk w p 78 (fl.hdr c e)
  ce : Blk w c 5 (fl.bs.map B8).toArray
  er : Blk w e 3 (fl.er.map fun (n : Nat) => Value.int .i64 (n : Int)).toArray

section
variable {w w' : World} {p c e : Nat} {fl : Fl} {S : Nat → Prop}
theorem FlashAt.of (h : FlashAt w p c e fl) (k : Only S w w') (hp : ¬ S p) (hc : ¬ S c) (he : ¬ S e) : FlashAt w' p c e fl :=
  ⟨h.ok, k.blk h.hd hp, k.blk h.ce hc, k.blk h.er he⟩
theorem FlashAt.pc (h : FlashAt w p c e fl) : p ≠ c := h.hd.ne_ h.ce (by decide)
theorem FlashAt.pe (h : FlashAt w p c e fl) : p ≠ e := h.hd.ne_ h.er (by decide)
theorem FlashAt.cep (h : FlashAt w p c e fl) : c ≠ e := h.ce.ne_ h.er (by decide)
end

theorem FlashAt.drew {w : World} {p c e : Nat} {fl : Fl} (h : FlashAt w p c e fl) : FlashAt w.drew p c e fl := ⟨h.ok, h.hd.drew, h.ce.drew, h.er.drew⟩
theorem FlashAt.drewN {w : World} {p c e : Nat} {fl : Fl} (h : FlashAt w p c e fl) (n : Nat) : FlashAt (w.drewN n) p c e fl := ⟨h.ok, h.hd.drewN n, h.ce.drewN n, h.er.drewN n⟩

/-- Other bytes, as many, in a flash. -/
theorem FlashAt.bytes {w w' : World} {p c e : Nat} {fl : Fl} {S : Nat → Prop} {bs : List UInt8} (h : FlashAt w p c e fl) (k : Only S w w') (hp : ¬ S p) (he : ¬ S e) (hb : bs.length = fl.bs.length)
    (hc : Blk w' c 5 (bs.map B8).toArray) : FlashAt w' p c e { fl with bs := bs } :=
  ⟨⟨h.ok.s1, h.ok.s2, h.ok.z1, h.ok.z2, h.ok.l1, h.ok.l2, hb.trans h.ok.bl, h.ok.el, h.ok.eb, h.ok.f1, h.ok.f2, h.ok.k1, h.ok.k2⟩, k.blk h.hd hp, hc, k.blk h.er he⟩

/-- The three blocks of a flash. -/
def Three (p c e : Nat) : Nat → Prop := fun k => k = p ∨ k = c ∨ k = e

end Go.Proofs.YtnhfmcijadficaaGreatDoor

/- A flash with no fuse; bytes that are cleared by bytes. Plain lemmas. -/
namespace Go.Proofs.YtnhfmcijadficaaGreatDoor
set_option maxRecDepth 100000
open Go.RowKit

theorem burn_none {fl : Fl} (h : fl.fuse = -1) : fl.burn = fl := by
  unfold Fl.burn
  rw [if_neg (by omega), if_neg (by omega)]
theorem many_none {fl : Fl} (h : fl.fuse = -1) (n : Nat) : fl.many n = n := by
  unfold Fl.many
  rw [if_neg (by omega)]
theorem code_none {fl : Fl} (h : fl.fuse = -1) : fl.code = 0 := by
  unfold Fl.code
  rw [if_neg (by omega)]
theorem and_full (x : UInt8) : 255 &&& x = x := by
  apply UInt8.toBitVec_inj.1
  show BitVec.allOnes 8 &&& x.toBitVec = x.toBitVec
  exact BitVec.allOnes_and
theorem and_back (b z : UInt8) : (b &&& z) &&& b = b &&& z := by
  rw [UInt8.and_comm (b &&& z) b, ← UInt8.and_assoc, UInt8.and_self]

/-- A byte that has no bit beyond the flash's: what is cleared by it is it. -/
theorem and_fit {b x : UInt8} (h : x &&& ~~~b = 0) : b &&& x = x := by
  have e : x = (x &&& b) ||| (x &&& ~~~b) := by
    apply UInt8.toBitVec_inj.1
    show x.toBitVec = (x.toBitVec &&& b.toBitVec) ||| (x.toBitVec &&& ~~~b.toBitVec)
    ext i hi
    simp only [BitVec.getElem_or, BitVec.getElem_and, BitVec.getElem_not]
    cases x.toBitVec[i] <;> cases b.toBitVec[i] <;> rfl
  rw [h, UInt8.or_zero] at e
  rw [UInt8.and_comm]
  exact e.symm

end Go.Proofs.YtnhfmcijadficaaGreatDoor
