/- A flash with no fuse; bytes that are cleared by bytes. Plain lemmas. -/
import Derived.Test.YtnhfmcijadficaaGreatDoorZad
import Derived.Test.YtnhfmcijadficaaGreatDoorZaj
import Derived.Test.YtnhfmcijadficaaGreatDoorZai
namespace Go.Proofs.YtnhfmcijadficaaGreatDoor
set_option maxRecDepth 100000
open Go.RowKit

theorem burn_none {fl : Fl} (h : fl.fuse = -1) : fl.burn = fl := by
  unfold Fl.burn
  rw [if_neg (by omega), if_neg (by omega)]
theorem many_none {fl : Fl} (h : fl.fuse = -1) (n : Nat) : fl.many n = n := by
  unfold Fl.many
  rw [if_neg (by omega)]
theorem code_none {fl : Fl} (h : fl.fuse = -1) : fl.code = 0 := by
  unfold Fl.code
  rw [if_neg (by omega)]
theorem and_full (x : UInt8) : 255 &&& x = x := by
  apply UInt8.toBitVec_inj.1
  show BitVec.allOnes 8 &&& x.toBitVec = x.toBitVec
  exact BitVec.allOnes_and
theorem and_back (b z : UInt8) : (b &&& z) &&& b = b &&& z := by
  rw [UInt8.and_comm (b &&& z) b, ← UInt8.and_assoc, UInt8.and_self]

/-- A byte that has no bit beyond the flash's: what is cleared by it is it. -/
theorem and_fit {b x : UInt8} (h : x &&& ~~~b = 0) : b &&& x = x := by
  have e : x = (x &&& b) ||| (x &&& ~~~b) := by
    apply UInt8.toBitVec_inj.1
    show x.toBitVec = (x.toBitVec &&& b.toBitVec) ||| (x.toBitVec &&& ~~~b.toBitVec)
    ext i hi
    simp only [BitVec.getElem_or, BitVec.getElem_and, BitVec.getElem_not]
    cases x.toBitVec[i] <;> cases b.toBitVec[i] <;> rfl
  rw [h, UInt8.or_zero] at e
  rw [UInt8.and_comm]
  exact e.symm

end Go.Proofs.YtnhfmcijadficaaGreatDoor

/- One sector of a flash that is up and has no fuse: its bytes, and what nor's calls do to them. -/
namespace Go.Proofs.YtnhfmcijadficaaGreatDoor
set_option maxRecDepth 100000
open Go.RowKit

theorem splice_get (L : List UInt8) (o : Nat) (cs : List UInt8) (j : Nat) (h : o + cs.length ≤ L.length) : (splice L o cs)[j]? = if o ≤ j ∧ j < o + cs.length then cs[j - o]? else L[j]? := by
  unfold splice
  have ho : (L.take o).length = o := by rw [List.length_take]; omega
  by_cases h1 : j < o
  · rw [if_neg (by omega), List.getElem?_append_left (by omega), List.getElem?_take, if_pos h1]
  · rw [List.getElem?_append_right (by omega), ho]
    by_cases h2 : j < o + cs.length
    · rw [if_pos (by omega), List.getElem?_append_left (by omega)]
    · rw [if_neg (by omega), List.getElem?_append_right (by omega), List.getElem?_drop]
      congr 1
      omega

/-- The bytes of sector k. -/
def secB (bs : List UInt8) (k Z : Nat) : List UInt8 := (bs.drop (k * Z)).take Z
theorem secB_get (bs : List UInt8) (k Z j : Nat) (h : j < Z) : (secB bs k Z)[j]? = bs[k * Z + j]? := by
  unfold secB
  rw [List.getElem?_take, if_pos h, List.getElem?_drop]
theorem secB_len (bs : List UInt8) (k Z : Nat) (h : k * Z + Z ≤ bs.length) : (secB bs k Z).length = Z := by
  unfold secB
  rw [List.length_take, List.length_drop]
  omega

theorem secB_prog (bs : List UInt8) (k Z o : Nat) (ys : List UInt8) (mask : UInt8) (hl : k * Z + Z ≤ bs.length) (ho : o + ys.length ≤ Z) (hf : Fits (secB bs k Z) o ys) :
    secB (bs.mapIdx (tornF (k * Z + o) ys ys.length mask)) k Z = splice (secB bs k Z) o ys := by
  apply List.ext_getElem?
  intro j
  rw [splice_get _ _ _ _ (by rw [secB_len _ _ _ hl]; exact ho)]
  by_cases hj : j < Z
  · rw [secB_get _ _ _ _ hj, List.getElem?_mapIdx]
    have hb : k * Z + j < bs.length := by omega
    rw [List.getElem?_eq_getElem hb]
    simp only [Option.map_some]
    unfold tornF
    by_cases h1 : o ≤ j ∧ j < o + ys.length
    · rw [if_pos h1, if_pos (by omega)]
      have hyj : j - o < ys.length := by omega
      have h := hf (j - o) hyj
      rw [show o + (j - o) = j by omega, secB_get _ _ _ _ hj, List.getElem?_eq_getElem hb, List.getElem?_eq_getElem hyj] at h
      simp only [Option.getD_some] at h
      rw [show k * Z + j - (k * Z + o) = j - o by omega, List.getElem?_eq_getElem hyj, Option.getD_some, and_fit h]
    · rw [if_neg h1, if_neg (by omega), if_neg (by omega), secB_get _ _ _ _ hj, List.getElem?_eq_getElem hb]
  · rw [if_neg (by omega), List.getElem?_eq_none (by rw [secB_len _ _ _ (by rw [List.length_mapIdx]; exact hl)]; omega), List.getElem?_eq_none (by rw [secB_len _ _ _ hl]; omega)]

theorem secB_erase (bs : List UInt8) (k Z q : Nat) (mask : UInt8) (hl : k * Z + Z ≤ bs.length) : secB (bs.mapIdx (eraseF (k * Z) q Z mask)) k Z = (secB bs k Z).mapIdx (eraseF 0 q Z mask) := by
  apply List.ext_getElem?
  intro j
  by_cases hj : j < Z
  · rw [secB_get _ _ _ _ hj, List.getElem?_mapIdx, List.getElem?_mapIdx, secB_get _ _ _ _ hj]
    have hb : k * Z + j < bs.length := by omega
    rw [List.getElem?_eq_getElem hb]
    simp only [Option.map_some]
    congr 1
    have a1 : (k * Z ≤ k * Z + j ∧ k * Z + j < k * Z + q) = (0 ≤ j ∧ j < 0 + q) := by apply propext; constructor <;> intro h <;> omega
    have a2 : (k * Z + j = k * Z + q ∧ q < Z) = (j = 0 + q ∧ q < Z) := by apply propext; constructor <;> intro h <;> omega
    unfold eraseF
    simp only [a1, a2]
  · rw [List.getElem?_eq_none (by rw [secB_len _ _ _ (by rw [List.length_mapIdx]; exact hl)]; omega), List.getElem?_eq_none (by rw [List.length_mapIdx, secB_len _ _ _ hl]; omega)]
theorem erase_whole (xs : List UInt8) (mask : UInt8) : xs.mapIdx (eraseF 0 xs.length xs.length mask) = List.replicate xs.length 255 := by
  apply List.ext_getElem?
  intro j
  rw [List.getElem?_mapIdx, List.getElem?_replicate]
  by_cases hj : j < xs.length
  · rw [List.getElem?_eq_getElem hj, if_pos hj]
    simp only [Option.map_some]
    unfold eraseF
    rw [if_pos (by omega)]
  · rw [List.getElem?_eq_none (by omega), if_neg hj]
    rfl

/-- A flash that is up and has no fuse, of this geometry; sector k was erased m times and has the bytes xs. -/
def Sec (w : World) (p c e S Z L k m : Nat) (xs : List UInt8) : Prop :=
  ∃ fl : Fl, FlashAt w p c e fl ∧ fl.up = true ∧ fl.fuse = -1 ∧ fl.S = S ∧ fl.Z = Z ∧ fl.L = L ∧ fl.er[k]? = some m ∧ secB fl.bs k Z = xs

section
variable {w w' : World} {p c e S Z L k m : Nat} {xs : List UInt8} {T : Nat → Prop}
theorem Sec.of (h : Sec w p c e S Z L k m xs) (o : Only T w w') (hp : ¬ T p) (hc : ¬ T c) (he : ¬ T e) : Sec w' p c e S Z L k m xs := by
  obtain ⟨fl, hf, r⟩ := h
  exact ⟨fl, hf.of o hp hc he, r⟩
theorem Sec.below (h : Sec w p c e S Z L k m xs) (o : Below w.heap.size w w') : Sec w' p c e S Z L k m xs := h.of (Only.of_below (S := Empty) o) (fun h => h) (fun h => h) (fun h => h)
theorem Sec.kS (h : Sec w p c e S Z L k m xs) : k < S := by
  obtain ⟨fl, hf, _, _, hS, _, _, hm, _⟩ := h
  have := (List.getElem?_eq_some_iff.1 hm).1
  rw [hf.ok.el] at this
  omega
theorem kz_le {S Z k : Nat} (h : k < S) : k * Z + Z ≤ S * Z := by
  have := Nat.mul_le_mul_right Z (show k + 1 ≤ S by omega)
  rw [Nat.add_mul] at this
  omega
theorem Sec.len (h : Sec w p c e S Z L k m xs) : xs.length = Z := by
  have hk := h.kS
  obtain ⟨fl, hf, _, _, hS, hZ, _, hm, hx⟩ := h
  rw [← hx, secB_len]
  have := kz_le (Z := Z) hk
  rw [hf.ok.bl, hS, hZ]
  exact this
theorem Sec.bz (h : Sec w p c e S Z L k m xs) : S ≤ 64 ∧ 64 ≤ Z ∧ Z ≤ 65536 ∧ k * Z + Z ≤ S * Z ∧ S * Z ≤ 4194304 := by
  have hk := h.kS
  obtain ⟨fl, hf, _, _, hS, hZ, _, hm, hx⟩ := h
  have h1 := hf.ok.s2
  have h2 := hf.ok.z1
  have h3 := hf.ok.z2
  have h4 := hf.ok.sz
  rw [hS] at h1
  rw [hZ] at h2 h3
  rw [hS, hZ] at h4
  exact ⟨h1, h2, h3, kz_le hk, h4.1⟩
end

theorem prog_sec (p c e S Z L k m at_ n cap : Nat) (xs ys : List UInt8) (A : Option Addr) (w : World) (hs : Sec w p c e S Z L k m xs) (hb : ByteSl w (Three p c e) A n cap ys) (hin : at_ + n ≤ Z) (hfit : Fits xs at_ ys) :
    Calls Tryz.prog 9 #[.pointer (some ⟨p, 0, none⟩), .int .i64 ((k * Z + at_ : Nat) : Int), .slice A n cap] w fun e1 w' => e1 = .returned (.int .i64 0) ∧ Sec w' p c e S Z L k m (splice xs at_ ys) ∧ Only (Three p c e) w w' := by
  have hz := hs.bz
  obtain ⟨fl, hf, hu, hfu, rfl, rfl, rfl, hm, rfl⟩ := hs
  have hbl := hf.ok.bl
  have hyl := hb.1
  have hkz := hz.2.2.2.1
  refine (program_fits p c e (k * fl.Z + at_) n cap fl ys A w hf hu hb (by omega) ?_).mono fun e1 w' ⟨he, hf2, ho⟩ => ⟨?_, ⟨_, hf2, ?_⟩, ho⟩
  · intro j hj
    have h := hfit j hj
    rw [secB_get _ _ _ _ (by omega)] at h
    rw [Nat.add_assoc]
    exact h
  · rw [he, code_none hfu]
  · unfold Fl.prog
    rw [burn_none hfu, many_none hfu]
    refine ⟨hu, hfu, rfl, rfl, rfl, hm, ?_⟩
    exact secB_prog fl.bs k fl.Z at_ ys fl.mask (by omega) (by omega) hfit

theorem erase_sec (p c e S Z L k m : Nat) (xs : List UInt8) (w : World) (hs : Sec w p c e S Z L k m xs) (hm2 : m < L) :
    Calls Tryz.prog 119 #[.pointer (some ⟨p, 0, none⟩), .int .i64 (k : Int)] w fun e1 w' => e1 = .returned (.int .i64 0) ∧ Sec w' p c e S Z L k (m + 1) (List.replicate Z 255) ∧ Only (Three p c e) w w' := by
  have hz := hs.bz
  have hk := hs.kS
  have hl := hs.len
  obtain ⟨fl, hf, hu, hfu, rfl, rfl, rfl, hm, rfl⟩ := hs
  have hbl := hf.ok.bl
  have hel := hf.ok.el
  have hkz := hz.2.2.2.1
  refine (erase_in p c e k m fl w hf hu hm hm2).mono fun e1 w' ⟨he, hf2, ho⟩ => ⟨?_, ⟨_, hf2, ?_⟩, ho⟩
  · rw [he, code_none hfu]
  · unfold Fl.erased
    rw [burn_none hfu, many_none hfu]
    refine ⟨hu, hfu, rfl, rfl, rfl, ?_, ?_⟩
    · show (fl.er.set k ((fl.er[k]?.getD 0) + 1))[k]? = some (m + 1)
      rw [List.getElem?_set, if_pos rfl, hm, if_pos (by omega)]
      rfl
    · show secB (fl.bs.mapIdx (eraseF (k * fl.Z) fl.Z fl.Z fl.mask)) k fl.Z = _
      rw [secB_erase _ _ _ _ _ (by omega)]
      have h := erase_whole (secB fl.bs k fl.Z) fl.mask
      rw [hl] at h
      exact h

/-- Behind a fuse of no acts, an erase and a reset. -/
theorem torn_sec {p c e S Z L k m : Nat} {xs : List UInt8} {w w' : World} (hs : Sec w p c e S Z L k m xs) (kk : Int) (mk : UInt8) (fl : Fl) (hfl : fl.S = S ∧ fl.Z = Z ∧ fl.L = L ∧ fl.er[k]? = some m ∧ secB fl.bs k Z = xs)
    (hf : FlashAt w' p c e (((fl.fused 0 kk mk).erased k).reset)) : ∃ q, q ≤ Z ∧ Sec w' p c e S Z L k (m + 1) (xs.mapIdx (eraseF 0 q Z mk)) := by
  have hz := hs.bz
  have hk := hs.kS
  have hok := hf.ok
  obtain ⟨rfl, rfl, rfl, hm, rfl⟩ := hfl
  have hg := (fl.fused 0 kk mk).burn_geo
  have hr := (fl.fused 0 kk mk).burn_rest
  refine ⟨(fl.fused 0 kk mk).many fl.Z, Fl.many_le _ _, _, hf, rfl, rfl, ?_, ?_, ?_, ?_, ?_⟩
  · exact hg.1
  · exact hg.2.1
  · exact hg.2.2.1
  · show (fl.er.set k ((fl.er[k]?.getD 0) + 1))[k]? = some (m + 1)
    have := (List.getElem?_eq_some_iff.1 hm).1
    rw [List.getElem?_set, if_pos rfl, hm, if_pos (by omega)]
    rfl
  · have hbl : (fl.bs.mapIdx (eraseF (k * fl.Z) ((fl.fused 0 kk mk).many fl.Z) fl.Z mk)).length = (((fl.fused 0 kk mk).erased k).reset).S * (((fl.fused 0 kk mk).erased k).reset).Z := hok.bl
    rw [List.length_mapIdx] at hbl
    have h1 : (((fl.fused 0 kk mk).erased k).reset).S = fl.S := hg.1
    have h2 : (((fl.fused 0 kk mk).erased k).reset).Z = fl.Z := hg.2.1
    rw [h1, h2] at hbl
    exact secB_erase fl.bs k fl.Z _ mk (by have := hz.2.2.2.1; omega)

end Go.Proofs.YtnhfmcijadficaaGreatDoor

/- The walks over page's calls, told of one sector: start, setFlag, Void, Look. -/
namespace Go.Proofs.YtnhfmcijadficaaGreatDoor
set_option maxRecDepth 100000
open Go.RowKit

set_option maxHeartbeats 1000000 in
theorem start_sec (p c e S Z L k m : Nat) (xs : List UInt8) (w : World) (hs : Sec w p c e S Z L k m xs) :
    Calls Tryz.prog 109 #[.pointer (some ⟨p, 0, none⟩), .int .i64 (k : Int)] w fun e1 w' => e1 = .returned (.int .i64 ((k * Z : Nat) : Int)) ∧ Below w.heap.size w w' := by
  have hz := hs.bz
  obtain ⟨fl, hf, -, -, rfl, rfl, rfl, -, -⟩ := hs
  have hg := geo_field1 (fl.S : Int) (fl.Z : Int) (fl.L : Int)
  have hmul : IntKind.i64.wrap ((k : Int) * (fl.Z : Int)) = ((k * fl.Z : Nat) : Int) := by
    have : (k : Int) * (fl.Z : Int) = ((k * fl.Z : Nat) : Int) := by simp
    rw [this, IntKind.wrap_i64]
    omega
  obtain ⟨T, hT⟩ : ∃ T, T = k * fl.Z := ⟨_, rfl⟩
  rw [← hT] at hmul ⊢
  have HF := Lib.hid hf
  clear hf hz hT
  go_enter Tryz.func109, Tryz.ntmps109
  go_wp2_with fail
  refine (geometry_any p c e fl _ HF.out).mono ?_
  rintro e1 w1 ⟨rfl, hb1⟩
  go_wp2
  go_ret
  exact ⟨rfl, hb1⟩

set_option maxHeartbeats 1000000 in
theorem setFlag_sec (p c e S Z L k m at_ : Nat) (xs : List UInt8) (w : World) (hs : Sec w p c e S Z L k m xs) (ha : at_ < 64) :
    Calls Tryz.prog 144 #[.pointer (some ⟨p, 0, none⟩), .int .i64 (k : Int), .int .i64 (at_ : Int)] w fun e1 w' => e1 = .returned (.int .i64 0) ∧ Sec w' p c e S Z L k m (splice xs at_ [0]) ∧ Only (Three p c e) w w' := by
  have hz := hs.bz
  have HS := Lib.hid hs
  have hp : ∀ W, Sec W p c e S Z L k m xs → Calls Tryz.prog 9 #[.pointer (some ⟨p, 0, none⟩), .int .i64 (((k * Z : Nat) : Int) + (at_ : Int)), .slice (some ⟨W.heap.size, 0, none⟩) 1 1] (W.alloc (.cells #[.int .u8 0] 5)) fun e1 w' =>
      e1 = .returned (.int .i64 0) ∧ Sec w' p c e S Z L k m (splice xs at_ [0]) ∧ Only (Three p c e) (W.alloc (.cells #[.int .u8 0] 5)) w' := fun W hW => by
    have hlt : ¬ Three p c e W.heap.size := by
      obtain ⟨fl, hf, _⟩ := hW
      have h1 := hf.hd.lt
      have h2 := hf.ce.lt
      have h3 := hf.er.lt
      intro h
      rcases h with h | h | h <;> omega
    have h := prog_sec p c e S Z L k m at_ 1 1 xs [0] (some ⟨W.heap.size, 0, none⟩) _ (hW.of ((Only.refl Empty W).alloc (.cells #[.int .u8 0] 5)) (fun h => h) (fun h => h) (fun h => h))
      (ByteSl.lit W (Three p c e) [0] 1 rfl hlt (by decide)) (by omega) (by
        intro j hj
        have hj0 : j = 0 := by simp at hj; exact hj
        subst hj0
        simp)
    rw [show ((k * Z + at_ : Nat) : Int) = ((k * Z : Nat) : Int) + (at_ : Int) by simp] at h
    exact h
  have Hp := Lib.hid hp
  clear hs hp
  go_enter Tryz.func144, Tryz.ntmps144
  go_wp2_with fail
  refine (start_sec p c e S Z L k m xs _ HS.out).mono ?_
  rintro e1 w1 ⟨rfl, hb1⟩
  have HS1 := Lib.hid (HS.out.below hb1)
  have Hb1 := Lib.hid hb1
  have hT : k * Z ≤ 4194304 := by omega
  have Hp1 := Lib.hid (Hp.out w1 HS1.out)
  clear hb1 hz Hp
  obtain ⟨T, hTe⟩ : ∃ T, T = k * Z := ⟨_, rfl⟩
  rw [← hTe] at hT Hp1 ⊢
  clear hTe
  go_wp2_with fail
  refine Hp1.out.mono ?_
  rintro e1 w2 ⟨rfl, hs2, ho2⟩
  have HE := Lib.hid (And.intro hs2 (((Only.of_below (S := Three p c e) Hb1.out).alloc (.cells #[.int .u8 0] 5)).trans ho2))
  clear hs2 ho2
  go_wp2
  go_ret
  exact ⟨rfl, HE.out⟩

theorem Sec.has (p c e S Z L k m : Nat) (xs : List UInt8) (w : World) (hs : Sec w p c e S Z L k m xs) :
    Calls Tryz.prog 107 #[.pointer (some ⟨p, 0, none⟩), .int .i64 (k : Int)] w fun e w' => e = .returned (.bool true) ∧ Below w.heap.size w w' := by
  have hk := hs.kS
  obtain ⟨fl, hf, _, _, rfl, _⟩ := hs
  refine (pgHas_any p c e fl k w hf).mono fun e1 w' ⟨he, hb⟩ => ⟨?_, hb⟩
  rw [he]
  simp [hk]
theorem Sec.has_not (p c e S Z L k m : Nat) (xs : List UInt8) (j : Int) (w : World) (hs : Sec w p c e S Z L k m xs) (hj : j < 0 ∨ (S : Int) ≤ j) :
    Calls Tryz.prog 107 #[.pointer (some ⟨p, 0, none⟩), .int .i64 j] w fun e w' => e = .returned (.bool false) ∧ Below w.heap.size w w' := by
  obtain ⟨fl, hf, _, _, rfl, _⟩ := hs
  refine (pgHas_any p c e fl j w hf).mono fun e1 w' ⟨he, hb⟩ => ⟨?_, hb⟩
  rw [he]
  congr 2
  simp
  omega

set_option maxHeartbeats 1000000 in
theorem void_sec (p c e S Z L k m : Nat) (xs : List UInt8) (w : World) (hs : Sec w p c e S Z L k m xs) :
    Calls Tryz.prog 118 #[.pointer (some ⟨p, 0, none⟩), .int .i64 (k : Int)] w fun e1 w' => e1 = .returned (.int .i64 0) ∧ Sec w' p c e S Z L k m (splice xs 9 [0]) ∧ Only (Three p c e) w w' := by
  have HS := Lib.hid hs
  clear hs
  go_enter Tryz.func118, Tryz.ntmps118
  go_wp2_with fail
  refine (Sec.has p c e S Z L k m xs _ HS.out).mono ?_
  rintro e1 w1 ⟨rfl, hb1⟩
  have HS1 := Lib.hid (HS.out.below hb1)
  have Hb1 := Lib.hid hb1
  clear hb1
  go_wp2_with fail
  refine (setFlag_sec p c e S Z L k m 9 xs _ HS1.out (by omega)).mono ?_
  rintro e1 w2 ⟨rfl, hs2, ho2⟩
  have HE := Lib.hid (And.intro hs2 ((Only.of_below (S := Three p c e) Hb1.out).trans ho2))
  clear hs2 ho2
  go_wp2
  go_ret
  exact ⟨rfl, HE.out⟩

set_option maxHeartbeats 1000000 in
theorem void_out (p c e S Z L k m : Nat) (xs : List UInt8) (j : Int) (w : World) (hs : Sec w p c e S Z L k m xs) (hj : j < 0 ∨ (S : Int) ≤ j) :
    Calls Tryz.prog 118 #[.pointer (some ⟨p, 0, none⟩), .int .i64 j] w fun e1 w' => e1 = .returned (.int .i64 2) ∧ Below w.heap.size w w' := by
  have HS := Lib.hid hs
  have Hj := Lib.hid hj
  clear hs hj
  go_enter Tryz.func118, Tryz.ntmps118
  go_wp2_with fail
  refine (Sec.has_not p c e S Z L k m xs j _ HS.out Hj.out).mono ?_
  rintro e1 w1 ⟨rfl, hb1⟩
  go_wp2
  go_ret
  exact ⟨rfl, hb1⟩

theorem Sec.read (p c e S Z L k m : Nat) (xs : List UInt8) (w : World) (hs : Sec w p c e S Z L k m xs) :
    Calls Tryz.prog 108 #[.pointer (some ⟨p, 0, none⟩), .int .i64 ((k * Z : Nat) : Int), .int .i64 (Z : Int)] w fun e1 w' => ReadOk w w' Z xs e1 := by
  have hz := hs.bz
  obtain ⟨fl, hf, hu, -, rfl, rfl, rfl, -, rfl⟩ := hs
  exact read_in p c e (k * fl.Z) fl.Z fl w hf hu hz.2.2.2.1
theorem Sec.erases (p c e S Z L k m : Nat) (xs : List UInt8) (w : World) (hs : Sec w p c e S Z L k m xs) :
    Calls Tryz.prog 111 #[.pointer (some ⟨p, 0, none⟩), .int .i64 (k : Int)] w fun e1 w' => e1 = .returned (.int .i64 (m : Int)) ∧ w = w' := by
  obtain ⟨fl, hf, hu, -, rfl, rfl, rfl, hm, rfl⟩ := hs
  exact erases_in p c e k m fl w hf hm
theorem Sec.geo (p c e S Z L k m : Nat) (xs : List UInt8) (w : World) (hs : Sec w p c e S Z L k m xs) :
    Calls Tryz.prog 39 #[.pointer (some ⟨p, 0, none⟩)] w fun e1 w' => e1 = .returned (.agg #[.int .i64 (S : Int), .int .i64 (Z : Int), .int .i64 (L : Int)]) ∧ Below w.heap.size w w' := by
  obtain ⟨fl, hf, hu, -, rfl, rfl, rfl, hm, rfl⟩ := hs
  exact geometry_any p c e fl w hf

set_option maxHeartbeats 2000000 in
theorem look_sec (p c e S Z L k m : Nat) (xs : List UInt8) (w : World) (hs : Sec w p c e S Z L k m xs) (hM : Mark w) :
    Calls Tryz.prog 70 #[.pointer (some ⟨p, 0, none⟩), .int .i64 (k : Int)] w fun e1 w' => e1 = .returned (.tuple #[.agg #[.int .i64 (stS xs), .int .u32 (stQ xs), .int .i64 (m : Int)], .int .i64 0]) ∧ Below w.heap.size w w' := by
  have HS := Lib.hid hs
  have HM := Lib.hid hM
  have hz := hs.bz
  have hg := geo_field1 (S : Int) (Z : Int) (L : Int)
  have Hk0 := Lib.hid (Blk.new w 96 #[.int .i64 0, .int .u32 0, .int .i64 0])
  have Hbw := Lib.hid ((Below.refl w.heap.size w).alloc (Nat.le_refl _) (.cells #[.int .i64 0, .int .u32 0, .int .i64 0] 96))
  clear hs hM
  go_enter Tryz.func70, Tryz.ntmps70
  go_wp2_with fail
  refine (Sec.has p c e S Z L k m xs _ (HS.out.below Hbw.out)).mono ?_
  rintro e1 w1 ⟨rfl, hb1⟩
  have Hb1 := Lib.hid (Hbw.out.trans (hb1.mono (by simp)))
  have Hk1 := Lib.hid (Hk0.out.of (hb1.block w.heap.size (by simp)))
  clear hb1
  go_wp2_with fail
  refine (start_sec p c e S Z L k m xs _ (HS.out.below Hb1.out)).mono ?_
  rintro e1 w2 ⟨rfl, hb2⟩
  have Hb2 := Lib.hid (Hb1.out.trans (hb2.mono Hb1.out.size))
  have Hk2 := Lib.hid (Hk1.out.of (hb2.block w.heap.size Hk1.out.lt))
  clear hb2
  go_wp2_with fail
  refine (Sec.geo p c e S Z L k m xs _ (HS.out.below Hb2.out)).mono ?_
  rintro e1 w3 ⟨rfl, hb3⟩
  have Hb3 := Lib.hid (Hb2.out.trans (hb3.mono Hb2.out.size))
  have Hk3 := Lib.hid (Hk2.out.of (hb3.block w.heap.size Hk2.out.lt))
  clear hb3
  go_wp2_with fail
  refine (Sec.read p c e S Z L k m xs _ (HS.out.below Hb3.out)).mono ?_
  rintro e1 w4 ⟨u4, rfl, hown4, hb4⟩
  obtain ⟨A4, cap4, rfl, hB4, -⟩ := ByteSl.of_own (S := Empty) hown4 (fun _ _ _ h => h)
  have Hb4 := Lib.hid (Hb3.out.trans (hb4.mono Hb3.out.size))
  have Hk4 := Lib.hid (Hk3.out.of (hb4.block w.heap.size Hk3.out.lt))
  have HB4 := Lib.hid hB4
  clear hb4 hB4 hown4
  go_wp2_with fail
  refine (state_any A4 Z cap4 xs _ HB4.out (HM.out.below Hb4.out) (by omega)).mono ?_
  rintro e1 w5 ⟨rfl, hb5⟩
  unfold stV
  have Hb5 := Lib.hid (Hb4.out.trans (hb5.mono Hb4.out.size))
  have Hk5 := Lib.hid (Hk4.out.of (hb5.block w.heap.size Hk4.out.lt))
  have hz5 : w.heap.size < w5.heap.size := Hk5.out.lt
  clear hb5
  obtain ⟨a, ha⟩ : ∃ a, a = stS xs := ⟨_, rfl⟩
  obtain ⟨b, hb⟩ : ∃ b, b = stQ xs := ⟨_, rfl⟩
  rw [← ha, ← hb]
  have Ha := Lib.hid ha
  have Hb := Lib.hid hb
  clear ha hb
  have hHS5 := HS.out.below (Hb5.out.alloc Hb5.out.size (.cells #[.int .i64 a, .int .u32 b, .int .i64 0] 96))
  have HS5 := Lib.hid hHS5
  clear hHS5
  go_wp2_with fail
  refine (Sec.erases p c e S Z L k m xs _ HS5.out).mono ?_
  rintro e1 w6 ⟨rfl, rfl⟩
  have d0 := Hk5.out.cell 0
  have d1 := Hk5.out.cell 1
  have d2 := Hk5.out.cell 2
  have g0 := Hk5.out.frozen 0
  have g1 := Hk5.out.frozen 1
  have g2 := Hk5.out.frozen 2
  simp at d0 d1 d2
  clear hg
  go_wp2
  refine bodyPost_ret (v := .tuple #[.agg #[.int .i64 a, .int .u32 b, .int .i64 (m : Int)], .int .i64 0]) (by simp [results, Tryz.results70, go_sem, d0, d1, d2, hz5]) rfl ⟨by rw [Ha.out, Hb.out], ?_⟩
  exact ((((Hb5.out.setCell (by simp) _).setCell (by simp) _).setCell (by simp) _).alloc (by have := Hb5.out.size; simp [World.setCell]; omega) _)

end Go.Proofs.YtnhfmcijadficaaGreatDoor
