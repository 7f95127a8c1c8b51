/- One sector of a flash that is up and has no fuse: its bytes, and what nor's calls do to them. -/
import Derived.Test.YtdhnbeimkeoefaaDoorW5
import Derived.Test.YtdhnbeimkeoefaaDoorFb
namespace Go.Proofs.YtdhnbeimkeoefaaDoor
open Go.RowKit

theorem splice_get (L : List UInt8) (o : Nat) (cs : List UInt8) (j : Nat) (h : o + cs.length ≤ L.length) : (splice L o cs)[j]? = if o ≤ j ∧ j < o + cs.length then cs[j - o]? else L[j]? := by
  unfold splice
  have ho : (L.take o).length = o := by rw [List.length_take]; omega
  by_cases h1 : j < o
  · rw [if_neg (by omega), List.getElem?_append_left (by omega), List.getElem?_take, if_pos h1]
  · rw [List.getElem?_append_right (by omega), ho]
    by_cases h2 : j < o + cs.length
    · rw [if_pos (by omega), List.getElem?_append_left (by omega)]
    · rw [if_neg (by omega), List.getElem?_append_right (by omega), List.getElem?_drop]
      congr 1
      omega

/-- The bytes of sector k. -/
def secB (bs : List UInt8) (k Z : Nat) : List UInt8 := (bs.drop (k * Z)).take Z
theorem secB_get (bs : List UInt8) (k Z j : Nat) (h : j < Z) : (secB bs k Z)[j]? = bs[k * Z + j]? := by
  unfold secB
  rw [List.getElem?_take, if_pos h, List.getElem?_drop]
theorem secB_len (bs : List UInt8) (k Z : Nat) (h : k * Z + Z ≤ bs.length) : (secB bs k Z).length = Z := by
  unfold secB
  rw [List.length_take, List.length_drop]
  omega

theorem secB_prog (bs : List UInt8) (k Z o : Nat) (ys : List UInt8) (mask : UInt8) (hl : k * Z + Z ≤ bs.length) (ho : o + ys.length ≤ Z) (hf : Fits (secB bs k Z) o ys) :
    secB (bs.mapIdx (tornF (k * Z + o) ys ys.length mask)) k Z = splice (secB bs k Z) o ys := by
  apply List.ext_getElem?
  intro j
  rw [splice_get _ _ _ _ (by rw [secB_len _ _ _ hl]; exact ho)]
  by_cases hj : j < Z
  · rw [secB_get _ _ _ _ hj, List.getElem?_mapIdx]
    have hb : k * Z + j < bs.length := by omega
    rw [List.getElem?_eq_getElem hb]
    simp only [Option.map_some]
    unfold tornF
    by_cases h1 : o ≤ j ∧ j < o + ys.length
    · rw [if_pos h1, if_pos (by omega)]
      have hyj : j - o < ys.length := by omega
      have h := hf (j - o) hyj
      rw [show o + (j - o) = j by omega, secB_get _ _ _ _ hj, List.getElem?_eq_getElem hb, List.getElem?_eq_getElem hyj] at h
      simp only [Option.getD_some] at h
      rw [show k * Z + j - (k * Z + o) = j - o by omega, List.getElem?_eq_getElem hyj, Option.getD_some, and_fit h]
    · rw [if_neg h1, if_neg (by omega), if_neg (by omega), secB_get _ _ _ _ hj, List.getElem?_eq_getElem hb]
  · rw [if_neg (by omega), List.getElem?_eq_none (by rw [secB_len _ _ _ (by rw [List.length_mapIdx]; exact hl)]; omega), List.getElem?_eq_none (by rw [secB_len _ _ _ hl]; omega)]

theorem secB_erase (bs : List UInt8) (k Z q : Nat) (mask : UInt8) (hl : k * Z + Z ≤ bs.length) : secB (bs.mapIdx (eraseF (k * Z) q Z mask)) k Z = (secB bs k Z).mapIdx (eraseF 0 q Z mask) := by
  apply List.ext_getElem?
  intro j
  by_cases hj : j < Z
  · rw [secB_get _ _ _ _ hj, List.getElem?_mapIdx, List.getElem?_mapIdx, secB_get _ _ _ _ hj]
    have hb : k * Z + j < bs.length := by omega
    rw [List.getElem?_eq_getElem hb]
    simp only [Option.map_some]
    congr 1
    have a1 : (k * Z ≤ k * Z + j ∧ k * Z + j < k * Z + q) = (0 ≤ j ∧ j < 0 + q) := by apply propext; constructor <;> intro h <;> omega
    have a2 : (k * Z + j = k * Z + q ∧ q < Z) = (j = 0 + q ∧ q < Z) := by apply propext; constructor <;> intro h <;> omega
    unfold eraseF
    simp only [a1, a2]
  · rw [List.getElem?_eq_none (by rw [secB_len _ _ _ (by rw [List.length_mapIdx]; exact hl)]; omega), List.getElem?_eq_none (by rw [List.length_mapIdx, secB_len _ _ _ hl]; omega)]
theorem erase_whole (xs : List UInt8) (mask : UInt8) : xs.mapIdx (eraseF 0 xs.length xs.length mask) = List.replicate xs.length 255 := by
  apply List.ext_getElem?
  intro j
  rw [List.getElem?_mapIdx, List.getElem?_replicate]
  by_cases hj : j < xs.length
  · rw [List.getElem?_eq_getElem hj, if_pos hj]
    simp only [Option.map_some]
    unfold eraseF
    rw [if_pos (by omega)]
  · rw [List.getElem?_eq_none (by omega), if_neg hj]
    rfl

/-- A flash that is up and has no fuse, of this geometry; sector k was erased m times and has the bytes xs. -/
def Sec (w : World) (p c e S Z L k m : Nat) (xs : List UInt8) : Prop :=
  ∃ fl : Fl, FlashAt w p c e fl ∧ fl.up = true ∧ fl.fuse = -1 ∧ fl.S = S ∧ fl.Z = Z ∧ fl.L = L ∧ fl.er[k]? = some m ∧ secB fl.bs k Z = xs

section
variable {w w' : World} {p c e S Z L k m : Nat} {xs : List UInt8} {T : Nat → Prop}
theorem Sec.of (h : Sec w p c e S Z L k m xs) (o : Only T w w') (hp : ¬ T p) (hc : ¬ T c) (he : ¬ T e) : Sec w' p c e S Z L k m xs := by
  obtain ⟨fl, hf, r⟩ := h
  exact ⟨fl, hf.of o hp hc he, r⟩
theorem Sec.below (h : Sec w p c e S Z L k m xs) (o : Below w.heap.size w w') : Sec w' p c e S Z L k m xs := h.of (Only.of_below (S := Empty) o) (fun h => h) (fun h => h) (fun h => h)
theorem Sec.kS (h : Sec w p c e S Z L k m xs) : k < S := by
  obtain ⟨fl, hf, _, _, hS, _, _, hm, _⟩ := h
  have := (List.getElem?_eq_some_iff.1 hm).1
  rw [hf.ok.el] at this
  omega
theorem kz_le {S Z k : Nat} (h : k < S) : k * Z + Z ≤ S * Z := by
  have := Nat.mul_le_mul_right Z (show k + 1 ≤ S by omega)
  rw [Nat.add_mul] at this
  omega
theorem Sec.len (h : Sec w p c e S Z L k m xs) : xs.length = Z := by
  have hk := h.kS
  obtain ⟨fl, hf, _, _, hS, hZ, _, hm, hx⟩ := h
  rw [← hx, secB_len]
  have := kz_le (Z := Z) hk
  rw [hf.ok.bl, hS, hZ]
  exact this
theorem Sec.bz (h : Sec w p c e S Z L k m xs) : S ≤ 64 ∧ 64 ≤ Z ∧ Z ≤ 65536 ∧ k * Z + Z ≤ S * Z ∧ S * Z ≤ 4194304 := by
  have hk := h.kS
  obtain ⟨fl, hf, _, _, hS, hZ, _, hm, hx⟩ := h
  have h1 := hf.ok.s2
  have h2 := hf.ok.z1
  have h3 := hf.ok.z2
  have h4 := hf.ok.sz
  rw [hS] at h1
  rw [hZ] at h2 h3
  rw [hS, hZ] at h4
  exact ⟨h1, h2, h3, kz_le hk, h4.1⟩
end

theorem prog_sec (p c e S Z L k m at_ n cap : Nat) (xs ys : List UInt8) (A : Option Addr) (w : World) (hs : Sec w p c e S Z L k m xs) (hb : ByteSl w (Three p c e) A n cap ys) (hin : at_ + n ≤ Z) (hfit : Fits xs at_ ys) :
    Calls Tryd.prog 13 #[.pointer (some ⟨p, 0, none⟩), .int .i64 ((k * Z + at_ : Nat) : Int), .slice A n cap] w fun e1 w' => e1 = .returned (.int .i64 0) ∧ Sec w' p c e S Z L k m (splice xs at_ ys) ∧ Only (Three p c e) w w' := by
  have hz := hs.bz
  obtain ⟨fl, hf, hu, hfu, rfl, rfl, rfl, hm, rfl⟩ := hs
  have hbl := hf.ok.bl
  have hyl := hb.1
  have hkz := hz.2.2.2.1
  refine (program_fits p c e (k * fl.Z + at_) n cap fl ys A w hf hu hb (by omega) ?_).mono fun e1 w' ⟨he, hf2, ho⟩ => ⟨?_, ⟨_, hf2, ?_⟩, ho⟩
  · intro j hj
    have h := hfit j hj
    rw [secB_get _ _ _ _ (by omega)] at h
    rw [Nat.add_assoc]
    exact h
  · rw [he, code_none hfu]
  · unfold Fl.prog
    rw [burn_none hfu, many_none hfu]
    refine ⟨hu, hfu, rfl, rfl, rfl, hm, ?_⟩
    exact secB_prog fl.bs k fl.Z at_ ys fl.mask (by omega) (by omega) hfit

theorem erase_sec (p c e S Z L k m : Nat) (xs : List UInt8) (w : World) (hs : Sec w p c e S Z L k m xs) (hm2 : m < L) :
    Calls Tryd.prog 17 #[.pointer (some ⟨p, 0, none⟩), .int .i64 (k : Int)] w fun e1 w' => e1 = .returned (.int .i64 0) ∧ Sec w' p c e S Z L k (m + 1) (List.replicate Z 255) ∧ Only (Three p c e) w w' := by
  have hz := hs.bz
  have hk := hs.kS
  have hl := hs.len
  obtain ⟨fl, hf, hu, hfu, rfl, rfl, rfl, hm, rfl⟩ := hs
  have hbl := hf.ok.bl
  have hel := hf.ok.el
  have hkz := hz.2.2.2.1
  refine (erase_in p c e k m fl w hf hu hm hm2).mono fun e1 w' ⟨he, hf2, ho⟩ => ⟨?_, ⟨_, hf2, ?_⟩, ho⟩
  · rw [he, code_none hfu]
  · unfold Fl.erased
    rw [burn_none hfu, many_none hfu]
    refine ⟨hu, hfu, rfl, rfl, rfl, ?_, ?_⟩
    · show (fl.er.set k ((fl.er[k]?.getD 0) + 1))[k]? = some (m + 1)
      rw [List.getElem?_set, if_pos rfl, hm, if_pos (by omega)]
      rfl
    · show secB (fl.bs.mapIdx (eraseF (k * fl.Z) fl.Z fl.Z fl.mask)) k fl.Z = _
      rw [secB_erase _ _ _ _ _ (by omega)]
      have h := erase_whole (secB fl.bs k fl.Z) fl.mask
      rw [hl] at h
      exact h

/-- Behind a fuse of no acts, an erase and a reset. -/
theorem torn_sec {p c e S Z L k m : Nat} {xs : List UInt8} {w w' : World} (hs : Sec w p c e S Z L k m xs) (kk : Int) (mk : UInt8) (fl : Fl) (hfl : fl.S = S ∧ fl.Z = Z ∧ fl.L = L ∧ fl.er[k]? = some m ∧ secB fl.bs k Z = xs)
    (hf : FlashAt w' p c e (((fl.fused 0 kk mk).erased k).reset)) : ∃ q, q ≤ Z ∧ Sec w' p c e S Z L k (m + 1) (xs.mapIdx (eraseF 0 q Z mk)) := by
  have hz := hs.bz
  have hk := hs.kS
  have hok := hf.ok
  obtain ⟨rfl, rfl, rfl, hm, rfl⟩ := hfl
  have hg := (fl.fused 0 kk mk).burn_geo
  have hr := (fl.fused 0 kk mk).burn_rest
  refine ⟨(fl.fused 0 kk mk).many fl.Z, Fl.many_le _ _, _, hf, rfl, rfl, ?_, ?_, ?_, ?_, ?_⟩
  · exact hg.1
  · exact hg.2.1
  · exact hg.2.2.1
  · show (fl.er.set k ((fl.er[k]?.getD 0) + 1))[k]? = some (m + 1)
    have := (List.getElem?_eq_some_iff.1 hm).1
    rw [List.getElem?_set, if_pos rfl, hm, if_pos (by omega)]
    rfl
  · have hbl : (fl.bs.mapIdx (eraseF (k * fl.Z) ((fl.fused 0 kk mk).many fl.Z) fl.Z mk)).length = (((fl.fused 0 kk mk).erased k).reset).S * (((fl.fused 0 kk mk).erased k).reset).Z := hok.bl
    rw [List.length_mapIdx] at hbl
    have h1 : (((fl.fused 0 kk mk).erased k).reset).S = fl.S := hg.1
    have h2 : (((fl.fused 0 kk mk).erased k).reset).Z = fl.Z := hg.2.1
    rw [h1, h2] at hbl
    exact secB_erase fl.bs k fl.Z _ mk (by have := hz.2.2.2.1; omega)

end Go.Proofs.YtdhnbeimkeoefaaDoor
