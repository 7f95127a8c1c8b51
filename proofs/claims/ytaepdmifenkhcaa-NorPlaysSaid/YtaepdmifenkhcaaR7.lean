/- The walk over the document's Erase. -/
import Derived.Test.YtaepdmifenkhcaaR6
namespace Go.Proofs.Ytaepdmifenkhcaa
open Go.RowKit

set_option maxRecDepth 100000 in
theorem rerase_down (p : Nat) (k : Int) (w : World) (h5 : w.cell? ⟨p, 5, none⟩ = some (.bool true)) :
    Calls Try.prog 26 #[.pointer (some ⟨p, 0, none⟩), .int .i64 k] w fun e w' => e = .returned (.int .i64 5) ∧ w = w' := by
  go_enter Try.func26, Try.ntmps26
  go_wp2
  go_ret
  exact ⟨rfl, rfl⟩

set_option maxRecDepth 100000 in
theorem rerase_out (p c e : Nat) (fl : Fl) (k : Int) (w : World) (hf : RefAt w p c e fl) (hu : fl.up = true) (h : k < 0 ∨ (fl.S : Int) ≤ k) :
    Calls Try.prog 26 #[.pointer (some ⟨p, 0, none⟩), .int .i64 k] w fun e w' => e = .returned (.int .i64 2) ∧ w = w' := by
  have h5 : w.cell? ⟨p, 5, none⟩ = some (.bool false) := by rw [hf.hd.cell]; simp [Fl.rhdr, hu]
  have h0 : w.cell? ⟨p, 0, none⟩ = some (.int .i64 (fl.S : Int)) := by rw [hf.hd.cell]; simp [Fl.rhdr]
  clear hf hu
  by_cases hk : k < 0
  · go_enter Try.func26, Try.ntmps26
    go_wp2
    go_ret
    exact ⟨rfl, rfl⟩
  · have hs : (fl.S : Int) ≤ k := by omega
    clear h
    go_enter Try.func26, Try.ntmps26
    go_wp2
    go_ret
    exact ⟨rfl, rfl⟩

set_option maxRecDepth 100000 in
set_option maxHeartbeats 2000000 in
theorem rerase_worn (p c e k m : Nat) (fl : Fl) (w : World) (hf : RefAt w p c e fl) (hu : fl.up = true) (hm : fl.er[k]? = some m) (h : fl.L ≤ m) :
    Calls Try.prog 26 #[.pointer (some ⟨p, 0, none⟩), .int .i64 (k : Int)] w fun e1 w' => e1 = .returned (.int .i64 4) ∧ ∃ n, w' = w.drewN n := by
  have hk : k < fl.S := by have := (List.getElem?_eq_some_iff.1 hm).1; rw [hf.ok.el] at this; exact this
  have h5 : w.cell? ⟨p, 5, none⟩ = some (.bool false) := by rw [hf.hd.cell]; simp [Fl.rhdr, hu]
  have h0 : w.cell? ⟨p, 0, none⟩ = some (.int .i64 (fl.S : Int)) := by rw [hf.hd.cell]; simp [Fl.rhdr]
  have h4 : w.cell? ⟨p, 4, none⟩ = some (.slice (some ⟨e, 0, none⟩) fl.S fl.S) := by rw [hf.hd.cell]; simp [Fl.rhdr]
  have h2 : w.cell? ⟨p, 2, none⟩ = some (.int .i64 (fl.L : Int)) := by rw [hf.hd.cell]; simp [Fl.rhdr]
  have hc : w.cell? ⟨e, k, none⟩ = some (.int .i64 (m : Int)) := by rw [hf.er.cell]; simp [hm]
  have hs := hf.ok.s2
  have hki : (k : Int) < (fl.S : Int) := by omega
  have hk0 : (0 : Int) ≤ (k : Int) := by omega
  clear hf hm hu
  go_enter Try.func26, Try.ntmps26
  go_wp2_with fail
  go_quiet (fail)
  go_wp2
  go_ret
  exact ⟨rfl, _, rfl⟩

/-- The count is one more. -/
def Fl.counted (fl : Fl) (k : Nat) : Fl := { fl with er := fl.er.set k ((fl.er[k]?.getD 0) + 1) }

theorem RefAt.count {w : World} {p c e k m : Nat} {fl : Fl} (h : RefAt w p c e fl) (hm : fl.er[k]? = some m) (hl : m < fl.L) : RefAt (w.setCell ⟨e, k, none⟩ (.int .i64 ((m : Int) + 1))) p c e (fl.counted k) := by
  refine ⟨⟨h.ok.s1, h.ok.s2, h.ok.z1, h.ok.z2, h.ok.l1, h.ok.l2, h.ok.bl, ?_, ?_, h.ok.f1, h.ok.f2, h.ok.k1, h.ok.k2⟩, h.fu, h.hd.far (p := ⟨e, k, none⟩) h.pe _, h.ce.far (p := ⟨e, k, none⟩) h.cep _, ?_⟩
  · show (fl.er.set k _).length = _
    rw [List.length_set]; exact h.ok.el
  · intro i n hi
    have hi2 : (fl.er.set k ((fl.er[k]?.getD 0) + 1))[i]? = some n := hi
    show n ≤ fl.L
    rw [List.getElem?_set] at hi2
    by_cases hik : k = i
    · rw [if_pos hik] at hi2
      split at hi2
      · rw [hm] at hi2
        simp at hi2
        omega
      · cases hi2
    · rw [if_neg hik] at hi2
      exact h.ok.eb i n hi2
  · have h2 := h.er.set_ k (.int .i64 ((m : Int) + 1))
    have e1 : ((fl.er.set k ((fl.er[k]?.getD 0) + 1)).map fun (n : Nat) => Value.int .i64 (n : Int)).toArray = (fl.er.map fun (n : Nat) => Value.int .i64 (n : Int)).toArray.setIfInBounds k (.int .i64 ((m : Int) + 1)) := by
      rw [hm]
      simp [List.map_set]
    show Blk _ e 3 (((fl.er.set k ((fl.er[k]?.getD 0) + 1)).map fun (n : Nat) => Value.int .i64 (n : Int)).toArray)
    rw [e1]
    exact h2

theorem counted_burn (fl : Fl) (k : Nat) : (fl.counted k).burn = fl.burn.counted k := by
  by_cases h : fl.fuse = 0
  · unfold Fl.burn Fl.counted
    simp [h]
  · by_cases h1 : 0 < fl.fuse
    · unfold Fl.burn Fl.counted
      simp [h, h1]
    · have e1 : (fl.counted k).burn = fl.counted k := by
        unfold Fl.burn
        rw [if_neg (show ¬ (fl.counted k).fuse = 0 from h), if_neg (show ¬ 0 < (fl.counted k).fuse from h1)]
      have e2 : fl.burn = fl := by
        unfold Fl.burn
        rw [if_neg h, if_neg h1]
      rw [e1, e2]

/-- A byte stored into the document's flash. -/
theorem RefAt.store {w : World} {p c e : Nat} {fl : Fl} {bs : List UInt8} (h : RefAt w p c e { fl with bs := bs }) (j : Nat) (v : UInt8) : RefAt (w.setCell ⟨c, j, none⟩ (B8 v)) p c e { fl with bs := bs.set j v } := by
  have hb := h.ce.set_ j (B8 v)
  have hb2 : Blk (w.setCell ⟨c, j, none⟩ (B8 v)) c 5 (cellsB (bs.set j v)) := by rw [← cellsB_set]; exact hb
  exact ⟨⟨h.ok.s1, h.ok.s2, h.ok.z1, h.ok.z2, h.ok.l1, h.ok.l2, by have := h.ok.bl; show (bs.set j v).length = _; rw [List.length_set]; exact this, h.ok.el, h.ok.eb, h.ok.f1, h.ok.f2, h.ok.k1, h.ok.k2⟩, h.fu,
    h.hd.far (p := ⟨c, j, none⟩) h.pc _, hb2, h.er.far (p := ⟨c, j, none⟩) h.cep.symm _⟩

theorem erased_eq {fl : Fl} {k t q : Nat} (hq : q = k * fl.Z) (ht : t = fl.many fl.Z) : fl.erased k = { (fl.counted k).burn with bs := fl.bs.mapIdx (eraseF q t fl.Z fl.mask) } := by
  subst hq ht
  rw [counted_burn]
  unfold Fl.erased Fl.counted
  rw [fl.burn_geo.2.2.2.2]

set_option maxRecDepth 100000 in
set_option maxHeartbeats 8000000 in
theorem rerase_whole (p c e k m : Nat) (fl : Fl) (w : World) (hf : RefAt w p c e fl) (hu : fl.up = true) (hm : fl.er[k]? = some m) (h : m < fl.L) (hfu : ¬ fl.fuse = 0) :
    Calls Try.prog 26 #[.pointer (some ⟨p, 0, none⟩), .int .i64 (k : Int)] w fun e1 w' => e1 = .returned (.int .i64 0) ∧ RefAt w' p c e (fl.erased k) ∧ Only (Three p c e) w w' := by
  have hk : k < fl.S := by have := (List.getElem?_eq_some_iff.1 hm).1; rw [hf.ok.el] at this; exact this
  have h5 : w.cell? ⟨p, 5, none⟩ = some (.bool false) := by rw [hf.hd.cell]; simp [Fl.rhdr, hu]
  have h0 : w.cell? ⟨p, 0, none⟩ = some (.int .i64 (fl.S : Int)) := by rw [hf.hd.cell]; simp [Fl.rhdr]
  have hz : w.cell? ⟨p, 1, none⟩ = some (.int .i64 (fl.Z : Int)) := by rw [hf.hd.cell]; simp [Fl.rhdr]
  have h4 : w.cell? ⟨p, 4, none⟩ = some (.slice (some ⟨e, 0, none⟩) fl.S fl.S) := by rw [hf.hd.cell]; simp [Fl.rhdr]
  have h2 : w.cell? ⟨p, 2, none⟩ = some (.int .i64 (fl.L : Int)) := by rw [hf.hd.cell]; simp [Fl.rhdr]
  have hc : w.cell? ⟨e, k, none⟩ = some (.int .i64 (m : Int)) := by rw [hf.er.cell]; simp [hm]
  have fek := hf.er.frozen k
  have hs := hf.ok.s2
  have hz1 := hf.ok.z1
  have hz2 := hf.ok.z2
  have hl2 := hf.ok.l2
  have hsz := hf.ok.sz
  have hkz : k * fl.Z + fl.Z ≤ fl.S * fl.Z := by
    have := Nat.mul_le_mul_right fl.Z (show k + 1 ≤ fl.S by omega)
    rw [Nat.add_mul] at this
    omega
  obtain ⟨q, hq⟩ : ∃ q, q = k * fl.Z := ⟨_, rfl⟩
  rw [← hq] at hkz
  have hqi : IntKind.i64.wrap ((k : Int) * (fl.Z : Int)) = (q : Int) := by
    have : (k : Int) * (fl.Z : Int) = ((k * fl.Z : Nat) : Int) := by simp
    rw [this, ← hq, IntKind.wrap_i64]
    omega
  obtain ⟨T, hT⟩ : ∃ T, T = fl.S * fl.Z := ⟨_, rfl⟩
  rw [← hT] at hkz hsz
  have hki : (k : Int) < (fl.S : Int) := by omega
  have hk0 : (0 : Int) ≤ (k : Int) := by omega
  have npe : ¬ p = e := hf.pe
  have nep : ¬ e = p := fun h => hf.pe h.symm
  have HT := Lib.hid hT
  have Hq := Lib.hid hq
  have Hqi := Lib.hid hqi
  have Hu := Lib.hid hu
  have Hm := Lib.hid hm
  have Hf := Lib.hid hf
  clear hT hq hqi hm hu hf
  have Hfu := Lib.hid hfu
  clear hfu
  go_enter Try.func26, Try.ntmps26
  go_wp2_with fail
  go_quiet (fail)
  go_wp2_with fail
  go_region
  go_wp2_with fail
  have hcf := (Hf.out.drewN (nq + 1)).count Hm.out h
  refine (whole_any p c e (fl.counted k) _ hcf Hu.out).mono ?_
  rintro e1 w2 ⟨rfl, hf2, ho2⟩
  rw [decide_eq_false (show ¬ (fl.counted k).fuse = 0 from Hfu.out)]
  have hO : Only (Three p c e) w w2 := (((Only.refl (Three p c e) w).drewN (nq + 1)).setCell (p := ⟨e, k, none⟩) (Or.inl (Or.inr (Or.inr rfl))) _).trans (ho2.mono (fun i _ hi => Or.inl hi))
  have hgeo := (fl.counted k).burn_geo
  have Hgeo := Lib.hid hgeo
  have hR0 : RefAt w2 p c e { (fl.counted k).burn with bs := fl.bs.mapIdx (fillF q 0) } := by
    rw [fillF_zero]
    have e0 : (fl.counted k).burn = { (fl.counted k).burn with bs := fl.bs } := by
      rw [show fl.bs = (fl.counted k).burn.bs from hgeo.2.2.2.1.symm]
    rw [← e0]
    exact hf2
  have HR0 := Lib.hid hR0
  have HO := Lib.hid hO
  clear h5 h0 hz h4 h2 hc fek hcf hf2 ho2 hgeo hR0 hO
  go_wp2_with fail
  go_loopw [7] (fun v wr => ∃ i : Nat, i ≤ fl.Z ∧ v = .int .i64 (i : Int) ∧ RefAt wr p c e { (fl.counted k).burn with bs := fl.bs.mapIdx (fillF q i) } ∧ Only (Three p c e) w wr) (fun v _ => fl.Z - (intOf v).toNat)
  case atStart => exact ⟨0, Nat.zero_le _, rfl, HR0.out, HO.out⟩
  case round =>
    obtain ⟨i, hi, rfl, hR, hO⟩ := hrel
    have k1 : wr.cell? ⟨p, 1, none⟩ = some (.int .i64 (fl.Z : Int)) := by rw [hR.hd.cell]; show some (Value.int .i64 (((fl.counted k).burn.Z : Nat) : Int)) = _; rw [Hgeo.out.2.1]; rfl
    have k3 : wr.cell? ⟨p, 3, none⟩ = some (.slice (some ⟨c, 0, none⟩) T T) := by
      rw [hR.hd.cell]
      show some (Value.slice (some ⟨c, 0, none⟩) ((fl.counted k).burn.S * (fl.counted k).burn.Z) ((fl.counted k).burn.S * (fl.counted k).burn.Z)) = _
      rw [Hgeo.out.1, Hgeo.out.2.1, HT.out]
      rfl
    have HR := Lib.hid hR
    have HO := Lib.hid hO
    have hbl : fl.bs.length = T := by rw [Hf.out.ok.bl, HT.out]
    have Hbl := Lib.hid hbl
    clear hbl
    by_cases hlt : i < fl.Z
    · have hcc : wr.cell? ⟨c, q + i, none⟩ = some (B8 ((fillF q i) (q + i) (fl.bs[q + i]?.getD 0))) := by
        rw [hR.ce.cell]
        show (cellsB (fl.bs.mapIdx (fillF q i)))[q + i]? = _
        rw [cellsB_get, List.getElem?_mapIdx, List.getElem?_eq_getElem (show q + i < fl.bs.length by rw [Hbl.out]; omega)]
        rfl
      have hfr := hR.ce.frozen (q + i)
      have hqi := Hqi.out
      have hsum : IntKind.i64.wrap ((q : Int) + (i : Int)) = (q : Int) + (i : Int) := by rw [IntKind.wrap_i64]; omega
      have hidx : (q : Int) + (i : Int) < (T : Int) := by omega
      clear hR hO
      go_wp2_with fail
      go_region
      clear hqi hsum
      go_wp2
      go_roundw
      case rel =>
        refine ⟨i + 1, by omega, by go_num, ?_, (HO.out.setCell (p := ⟨c, q + i, none⟩) (Or.inl (Or.inr (Or.inl rfl))) _).drew⟩
        have h1 := HR.out.store (q + i) 255
        rw [fillF_step] at h1
        exact h1.drew
      case measure => simp [intOf]; omega
    · have hiz : i = fl.Z := by omega
      subst hiz
      clear hR hO
      go_wp2
      go_ret
      have he := erased_eq (fl := fl) (k := k) (t := fl.Z) Hq.out (by unfold Fl.many; rw [if_neg Hfu.out])
      rw [he, ← eraseF_all fl.bs q fl.Z fl.Z fl.mask (by omega)]
      exact ⟨rfl, HR.out, HO.out⟩

end Go.Proofs.Ytaepdmifenkhcaa
