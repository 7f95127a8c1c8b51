/- What a program does to bytes, and the two programs of NorClears as one contract each. -/
import Derived.Test.YtaepdmifenkhcaaW7
namespace Go.Proofs.Ytaepdmifenkhcaa
open Go.RowKit

theorem burn_none {fl : Fl} (h : fl.fuse = -1) : fl.burn = fl := by
  unfold Fl.burn
  rw [if_neg (by omega), if_neg (by omega)]
theorem many_none {fl : Fl} (h : fl.fuse = -1) (n : Nat) : fl.many n = n := by
  unfold Fl.many
  rw [if_neg (by omega)]
theorem code_none {fl : Fl} (h : fl.fuse = -1) : fl.code = 0 := by
  unfold Fl.code
  rw [if_neg (by omega)]
theorem and_full (x : UInt8) : 255 &&& x = x := by
  apply UInt8.toBitVec_inj.1
  show BitVec.allOnes 8 &&& x.toBitVec = x.toBitVec
  exact BitVec.allOnes_and
theorem and_back (b z : UInt8) : (b &&& z) &&& b = b &&& z := by
  rw [UInt8.and_comm (b &&& z) b, ← UInt8.and_assoc, UInt8.and_self]

/-- A byte that has no bit beyond the flash's: what is cleared by it is it. -/
theorem and_fit {b x : UInt8} (h : x &&& ~~~b = 0) : b &&& x = x := by
  have e : x = (x &&& b) ||| (x &&& ~~~b) := by
    apply UInt8.toBitVec_inj.1
    show x.toBitVec = (x.toBitVec &&& b.toBitVec) ||| (x.toBitVec &&& ~~~b.toBitVec)
    ext i hi
    simp only [BitVec.getElem_or, BitVec.getElem_and, BitVec.getElem_not]
    cases x.toBitVec[i] <;> cases b.toBitVec[i] <;> rfl
  rw [h, UInt8.or_zero] at e
  rw [UInt8.and_comm]
  exact e.symm

/-- From b0 to b1 bits have only gone, and only in n bytes from k on. -/
def Clr (b0 b1 : List UInt8) (k n : Nat) : Prop := b1.length = b0.length ∧ ∀ i x y, b0[i]? = some x → b1[i]? = some y → y &&& x = y ∧ (y ≠ x → k ≤ i ∧ i < k + n)

theorem Clr.refl (b : List UInt8) (k n : Nat) : Clr b b k n := by
  refine ⟨rfl, fun i x y hx hy => ?_⟩
  rw [hx] at hy
  injection hy with hy
  subst hy
  exact ⟨UInt8.and_self, fun h => absurd rfl h⟩

theorem Clr.torn (b : List UInt8) (k : Nat) (xs : List UInt8) (m : Nat) (mask : UInt8) (hm : m ≤ xs.length) : Clr b (b.mapIdx (tornF k xs m mask)) k xs.length := by
  refine ⟨by simp, fun i x y hx hy => ?_⟩
  rw [List.getElem?_mapIdx, hx] at hy
  simp only [Option.map_some, Option.some.injEq] at hy
  unfold tornF at hy
  by_cases h1 : k ≤ i ∧ i < k + m
  · rw [if_pos h1] at hy
    subst hy
    exact ⟨and_back _ _, fun _ => by omega⟩
  · rw [if_neg h1] at hy
    by_cases h2 : i = k + m ∧ m < xs.length
    · rw [if_pos h2] at hy
      subst hy
      exact ⟨and_back _ _, fun _ => by omega⟩
    · rw [if_neg h2] at hy
      subst hy
      exact ⟨UInt8.and_self, fun h => absurd rfl h⟩

theorem progged {bs xs : List UInt8} {k n : Nat} (mask : UInt8) (hf : Fits bs k xs) (hx : xs.length = n) (hk : k + n ≤ bs.length) : ((bs.mapIdx (tornF k xs n mask)).drop k).take n = xs := by
  apply List.ext_getElem?
  intro j
  rw [List.getElem?_take]
  by_cases hj : j < n
  · rw [if_pos hj, List.getElem?_drop, List.getElem?_mapIdx]
    have hb : k + j < bs.length := by omega
    have hxj : j < xs.length := by omega
    rw [List.getElem?_eq_getElem hb, List.getElem?_eq_getElem hxj]
    simp only [Option.map_some]
    have h := hf j hxj
    rw [List.getElem?_eq_getElem hb, List.getElem?_eq_getElem hxj] at h
    simp only [Option.getD_some] at h
    unfold tornF
    rw [if_pos (by omega), show k + j - k = j by omega, List.getElem?_eq_getElem hxj]
    rw [Option.getD_some, and_fit h]
  · rw [if_neg hj, List.getElem?_eq_none (by omega)]

theorem ByteSl.cell_ {w : World} {S : Nat → Prop} {g n cap j : Nat} {xs : List UInt8} {x : UInt8} (h : ByteSl w S (some ⟨g, 0, none⟩) n cap xs) (hj : xs[j]? = some x) : w.cell? ⟨g, j, none⟩ = some (B8 x) := by
  have hl : j < n := by have := (List.getElem?_eq_some_iff.1 hj).1; have := h.1; omega
  obtain ⟨ad, e, _, _, hc⟩ := h.2.2.2 (by omega)
  injection e with e
  subst e
  have ha : (⟨g, 0, none⟩ : Addr).add j = ⟨g, j, none⟩ := by unfold Addr.add; split <;> simp_all
  rw [← ha]
  exact hc j x hj

/-- A piece of bytes. -/
theorem ByteSl.piece {w : World} {S : Nat → Prop} {g n cap k m c : Nat} {xs : List UInt8} (h : ByteSl w S (some ⟨g, 0, none⟩) n cap xs) (hk : k + m ≤ n) (hc : m ≤ c) (hc2 : c ≤ maxLen) : ByteSl w S (some ⟨g, k, none⟩) m c ((xs.drop k).take m) := by
  refine ⟨by rw [List.length_take, List.length_drop, h.1]; omega, hc, hc2, fun hm => ?_⟩
  obtain ⟨ad, e, hb, hs, _⟩ := h.2.2.2 (by omega)
  injection e with e
  subst e
  refine ⟨_, rfl, hb, hs, fun j x hx => ?_⟩
  rw [List.getElem?_take] at hx
  split at hx
  · rw [List.getElem?_drop] at hx
    have ha : (⟨g, k, none⟩ : Addr).add j = ⟨g, k + j, none⟩ := by unfold Addr.add; split <;> simp_all
    rw [ha]
    exact h.cell_ hx
  · cases hx

/-- A flash of this shape that is up. -/
structure Shape (S Z : Nat) (fl : Fl) : Prop where
  s : fl.S = S
  z : fl.Z = Z
  up : fl.up = true

/-- The first program, whatever it answers. -/
theorem first_any (p c er n cap S Z L : Nat) (xs : List UInt8) (A : Option Addr) (w : World) (hf : FlashAt w p c er (Fl.fresh S Z L)) (hs : ByteSl w (Three p c er) A n cap xs) (hx : xs.length = n) :
    Calls Try.prog 20 #[.pointer (some ⟨p, 0, none⟩), .int .i64 0, .slice A n cap] w fun e1 w' => (∃ r, e1 = .returned (.int .i64 r)) ∧ ∃ fl, FlashAt w' p c er fl ∧ Shape S Z fl ∧ fl.fuse = -1 ∧ Only (Three p c er) w w' := by
  by_cases h : n ≤ S * Z
  · have hfit : Fits (Fl.fresh S Z L).bs 0 xs := by
      intro j hj
      show _ &&& ~~~((List.replicate (S * Z) (255 : UInt8))[0 + j]?.getD 0) = 0
      rw [List.getElem?_replicate, if_pos (by omega)]
      have : ~~~(255 : UInt8) = 0 := by decide
      rw [Option.getD_some, this, UInt8.and_zero]
    have hbn : (Fl.fresh S Z L).burn = Fl.fresh S Z L := burn_none rfl
    refine (program_fits p c er 0 n cap (Fl.fresh S Z L) xs A w hf rfl hs (by show 0 + n ≤ S * Z; omega) hfit).mono ?_
    rintro e1 w' ⟨he, hf', ho⟩
    refine ⟨⟨_, he⟩, _, hf', ⟨?_, ?_, ?_⟩, ?_, ho⟩
    · show (Fl.fresh S Z L).burn.S = S; rw [hbn]; rfl
    · show (Fl.fresh S Z L).burn.Z = Z; rw [hbn]; rfl
    · show (Fl.fresh S Z L).burn.up = true; rw [hbn]; rfl
    · show (Fl.fresh S Z L).burn.fuse = -1; rw [hbn]; rfl
  · refine (program_out p c er (Fl.fresh S Z L) 0 A n cap w hf rfl (by omega) (Nat.le_trans hs.2.1 hs.2.2.1) (by right; show ((S * Z : Nat) : Int) < 0 + n; omega)).mono ?_
    rintro e1 w' ⟨he, rfl⟩
    exact ⟨⟨_, he⟩, _, hf, ⟨rfl, rfl, rfl⟩, rfl, Only.refl _ _⟩

/-- What the second program does: with a fuse of 0, or without one. -/
def SecondOk (torn : Bool) (w w' : World) (p c er S Z k n : Nat) (b0 xs : List UInt8) (e1 : Ending) : Prop :=
  ∃ r fl', e1 = .returned (.int .i64 r) ∧ FlashAt w' p c er fl' ∧ fl'.S = S ∧ fl'.Z = Z ∧ Only (Three p c er) w w' ∧ Clr b0 fl'.bs k n ∧
    ((r = 0 ∧ torn = false ∧ k + n ≤ S * Z ∧ (fl'.bs.drop k).take n = xs) ∨ (r = 2 ∧ fl'.bs = b0) ∨ (r = 3 ∧ fl'.bs = b0) ∨ (r = 5 ∧ torn = true))

theorem second_any (torn : Bool) (p c er k n cap S Z : Nat) (fl : Fl) (xs : List UInt8) (A : Option Addr) (w : World) (hf : FlashAt w p c er fl) (hsh : Shape S Z fl) (hfu : fl.fuse = if torn then 0 else -1)
    (hs : ByteSl w (Three p c er) A n cap xs) (hk : k ≤ S * Z) :
    Calls Try.prog 20 #[.pointer (some ⟨p, 0, none⟩), .int .i64 (k : Int), .slice A n cap] w fun e1 w' => SecondOk torn w w' p c er S Z k n fl.bs xs e1 := by
  have hx := hs.1
  by_cases hin : k + n ≤ S * Z
  · by_cases hfit : Fits fl.bs k xs
    · refine (program_fits p c er k n cap fl xs A w hf hsh.up hs (by rw [hsh.s, hsh.z]; exact hin) hfit).mono ?_
      rintro e1 w' ⟨he, hf', ho⟩
      have hgeo := fl.burn_geo
      refine ⟨_, _, he, hf', ?_, ?_, ho, ?_, ?_⟩
      · show fl.burn.S = S; rw [hgeo.1, hsh.s]
      · show fl.burn.Z = Z; rw [hgeo.2.1, hsh.z]
      · rw [← hx]
        exact Clr.torn _ _ _ _ _ (Fl.many_le _ _)
      · cases torn
        · left
          have h1 : fl.fuse = -1 := by simpa using hfu
          refine ⟨code_none h1, rfl, hin, ?_⟩
          show ((fl.bs.mapIdx (tornF k xs (fl.many xs.length) fl.mask)).drop k).take n = xs
          rw [many_none h1, hx]
          exact progged _ hfit hx (by rw [hf.ok.bl, hsh.s, hsh.z]; exact hin)
        · right; right; right
          have h1 : fl.fuse = 0 := by simpa using hfu
          exact ⟨by unfold Fl.code; rw [if_pos h1], rfl⟩
    · refine (program_bits p c er k n cap fl xs A w hf hsh.up hs (by rw [hsh.s, hsh.z]; exact hin) hfit).mono ?_
      rintro e1 w' ⟨he, rfl⟩
      exact ⟨_, fl, he, hf, hsh.s, hsh.z, Only.refl _ _, Clr.refl _ _ _, Or.inr (Or.inr (Or.inl ⟨rfl, rfl⟩))⟩
  · have hsz := hf.ok.sz
    rw [hsh.s, hsh.z] at hsz
    refine (program_out p c er fl k A n cap w hf hsh.up (by omega) (Nat.le_trans hs.2.1 hs.2.2.1) (by right; rw [hsh.s, hsh.z]; omega)).mono ?_
    rintro e1 w' ⟨he, rfl⟩
    exact ⟨_, fl, he, hf, hsh.s, hsh.z, Only.refl _ _, Clr.refl _ _ _, Or.inr (Or.inl ⟨rfl, rfl⟩)⟩

end Go.Proofs.Ytaepdmifenkhcaa
