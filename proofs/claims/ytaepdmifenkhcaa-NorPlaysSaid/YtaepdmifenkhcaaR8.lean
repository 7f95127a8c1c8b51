/- The walk over the document's Erase where the fuse is 0. -/
import Derived.Test.YtaepdmifenkhcaaR7
namespace Go.Proofs.Ytaepdmifenkhcaa
open Go.RowKit

set_option maxRecDepth 100000 in
set_option maxHeartbeats 8000000 in
theorem rerase_torn (p c e k m : Nat) (fl : Fl) (w : World) (hf : RefAt w p c e fl) (hu : fl.up = true) (hm : fl.er[k]? = some m) (h : m < fl.L) (hfu : fl.fuse = 0) (hkp : 0 ≤ fl.keep) :
    Calls Try.prog 26 #[.pointer (some ⟨p, 0, none⟩), .int .i64 (k : Int)] w fun e1 w' => e1 = .returned (.int .i64 5) ∧ RefAt w' p c e (fl.erased k) ∧ Only (Three p c e) w w' := by
  have hk : k < fl.S := by have := (List.getElem?_eq_some_iff.1 hm).1; rw [hf.ok.el] at this; exact this
  have h5 : w.cell? ⟨p, 5, none⟩ = some (.bool false) := by rw [hf.hd.cell]; simp [Fl.rhdr, hu]
  have h0 : w.cell? ⟨p, 0, none⟩ = some (.int .i64 (fl.S : Int)) := by rw [hf.hd.cell]; simp [Fl.rhdr]
  have hz : w.cell? ⟨p, 1, none⟩ = some (.int .i64 (fl.Z : Int)) := by rw [hf.hd.cell]; simp [Fl.rhdr]
  have h4 : w.cell? ⟨p, 4, none⟩ = some (.slice (some ⟨e, 0, none⟩) fl.S fl.S) := by rw [hf.hd.cell]; simp [Fl.rhdr]
  have h2 : w.cell? ⟨p, 2, none⟩ = some (.int .i64 (fl.L : Int)) := by rw [hf.hd.cell]; simp [Fl.rhdr]
  have hc : w.cell? ⟨e, k, none⟩ = some (.int .i64 (m : Int)) := by rw [hf.er.cell]; simp [hm]
  have fek := hf.er.frozen k
  have hs := hf.ok.s2
  have hz1 := hf.ok.z1
  have hz2 := hf.ok.z2
  have hl2 := hf.ok.l2
  have hsz := hf.ok.sz
  have hkz : k * fl.Z + fl.Z ≤ fl.S * fl.Z := by
    have := Nat.mul_le_mul_right fl.Z (show k + 1 ≤ fl.S by omega)
    rw [Nat.add_mul] at this
    omega
  obtain ⟨q, hq⟩ : ∃ q, q = k * fl.Z := ⟨_, rfl⟩
  rw [← hq] at hkz
  have hqi : IntKind.i64.wrap ((k : Int) * (fl.Z : Int)) = (q : Int) := by
    have : (k : Int) * (fl.Z : Int) = ((k * fl.Z : Nat) : Int) := by simp
    rw [this, ← hq, IntKind.wrap_i64]
    omega
  obtain ⟨T, hT⟩ : ∃ T, T = fl.S * fl.Z := ⟨_, rfl⟩
  rw [← hT] at hkz hsz
  have hki : (k : Int) < (fl.S : Int) := by omega
  have hk0 : (0 : Int) ≤ (k : Int) := by omega
  have npe : ¬ p = e := hf.pe
  have nep : ¬ e = p := fun h => hf.pe h.symm
  have HT := Lib.hid hT
  have Hq := Lib.hid hq
  have Hqi := Lib.hid hqi
  have Hu := Lib.hid hu
  have Hm := Lib.hid hm
  have Hf := Lib.hid hf
  clear hT hq hqi hm hu hf
  have hml := fl.many_le fl.Z
  have hkm : fl.keep % ((fl.Z : Int) + 1) = ((fl.many fl.Z : Nat) : Int) := by
    unfold Fl.many
    rw [if_pos hfu, Int.max_eq_left hkp]
    obtain ⟨x, hx⟩ := Int.eq_ofNat_of_zero_le hkp
    rw [hx]
    simp
  obtain ⟨t, ht⟩ : ∃ t, t = fl.many fl.Z := ⟨_, rfl⟩
  rw [← ht] at hkm hml
  have Hmt := Lib.hid ht
  have Hkm := Lib.hid hkm
  clear ht hkm
  have Hfu := Lib.hid hfu
  clear hfu
  go_enter Try.func26, Try.ntmps26
  go_wp2_with fail
  go_quiet (fail)
  go_wp2_with fail
  go_region
  go_wp2_with fail
  have hcf := (Hf.out.drewN (nq + 1)).count Hm.out h
  refine (whole_any p c e (fl.counted k) _ hcf Hu.out).mono ?_
  rintro e1 w2 ⟨rfl, hf2, ho2⟩
  rw [decide_eq_true (show (fl.counted k).fuse = 0 from Hfu.out)]
  have hO : Only (Three p c e) w w2 := (((Only.refl (Three p c e) w).drewN (nq + 1)).setCell (p := ⟨e, k, none⟩) (Or.inl (Or.inr (Or.inr rfl))) _).trans (ho2.mono (fun i _ hi => Or.inl hi))
  have hgeo := (fl.counted k).burn_geo
  have Hgeo := Lib.hid hgeo
  have hR0 : RefAt w2 p c e { (fl.counted k).burn with bs := fl.bs.mapIdx (fillF q 0) } := by
    rw [fillF_zero]
    have e0 : (fl.counted k).burn = { (fl.counted k).burn with bs := fl.bs } := by
      rw [show fl.bs = (fl.counted k).burn.bs from hgeo.2.2.2.1.symm]
    rw [← e0]
    exact hf2
  have j1 : w2.cell? ⟨p, 1, none⟩ = some (.int .i64 (fl.Z : Int)) := by rw [hf2.hd.cell]; show some (Value.int .i64 (((fl.counted k).burn.Z : Nat) : Int)) = _; rw [hgeo.2.1]; rfl
  have j7 : w2.cell? ⟨p, 7, none⟩ = some (.int .i64 fl.keep) := by rw [hf2.hd.cell]; show some (Value.int .i64 (fl.counted k).burn.keep) = _; rw [(fl.counted k).burn_rest.2]; rfl
  have HR0 := Lib.hid hR0
  have HO := Lib.hid hO
  clear h5 h0 hz h4 h2 hc fek hcf hf2 ho2 hgeo hR0 hO
  go_wp2_with fail
  go_quiet (fail)
  clear j1 j7
  rw [Hkm.out]
  have HR1 := Lib.hid (HR0.out.drewN nq)
  have HO1 := Lib.hid (HO.out.drewN nq)
  clear HR0 HO
  go_wp2_with fail
  go_loopw [7] (fun v wr => ∃ i : Nat, i ≤ t ∧ v = .int .i64 (i : Int) ∧ RefAt wr p c e { (fl.counted k).burn with bs := fl.bs.mapIdx (fillF q i) } ∧ Only (Three p c e) w wr) (fun v _ => t - (intOf v).toNat)
  case atStart => exact ⟨0, Nat.zero_le _, rfl, HR1.out, HO1.out⟩
  case round =>
    obtain ⟨i, hi, rfl, hR, hO⟩ := hrel
    have k1 : wr.cell? ⟨p, 1, none⟩ = some (.int .i64 (fl.Z : Int)) := by rw [hR.hd.cell]; show some (Value.int .i64 (((fl.counted k).burn.Z : Nat) : Int)) = _; rw [Hgeo.out.2.1]; rfl
    have k3 : wr.cell? ⟨p, 3, none⟩ = some (.slice (some ⟨c, 0, none⟩) T T) := by
      rw [hR.hd.cell]
      show some (Value.slice (some ⟨c, 0, none⟩) ((fl.counted k).burn.S * (fl.counted k).burn.Z) ((fl.counted k).burn.S * (fl.counted k).burn.Z)) = _
      rw [Hgeo.out.1, Hgeo.out.2.1, HT.out]
      rfl
    have HR := Lib.hid hR
    have HO := Lib.hid hO
    have hbl : fl.bs.length = T := by rw [Hf.out.ok.bl, HT.out]
    have Hbl := Lib.hid hbl
    clear hbl
    by_cases hlt : i < t
    · have hcc : wr.cell? ⟨c, q + i, none⟩ = some (B8 ((fillF q i) (q + i) (fl.bs[q + i]?.getD 0))) := by
        rw [hR.ce.cell]
        show (cellsB (fl.bs.mapIdx (fillF q i)))[q + i]? = _
        rw [cellsB_get, List.getElem?_mapIdx, List.getElem?_eq_getElem (show q + i < fl.bs.length by rw [Hbl.out]; omega)]
        rfl
      have hfr := hR.ce.frozen (q + i)
      have hqi := Hqi.out
      have hsum : IntKind.i64.wrap ((q : Int) + (i : Int)) = (q : Int) + (i : Int) := by rw [IntKind.wrap_i64]; omega
      have hidx : (q : Int) + (i : Int) < (T : Int) := by omega
      clear hR hO
      go_wp2_with fail
      go_region
      clear hqi hsum
      go_wp2
      go_roundw
      case rel =>
        refine ⟨i + 1, by omega, by go_num, ?_, (HO.out.setCell (p := ⟨c, q + i, none⟩) (Or.inl (Or.inr (Or.inl rfl))) _).drew⟩
        have h1 := HR.out.store (q + i) 255
        rw [fillF_step] at h1
        exact h1.drew
      case measure => simp [intOf]; omega
    · have hiz : i = t := by omega
      subst hiz
      clear hR hO
      by_cases htz : i < fl.Z
      · have hcl : q + i < fl.bs.length := by rw [Hbl.out]; omega
        have hcc : wr.cell? ⟨c, q + i, none⟩ = some (B8 (fl.bs[q + i]?.getD 0)) := by
          rw [HR.out.ce.cell]
          show (cellsB (fl.bs.mapIdx (fillF q i)))[q + i]? = _
          rw [cellsB_get, List.getElem?_mapIdx, List.getElem?_eq_getElem hcl]
          simp [fillF]
        have k8 : wr.cell? ⟨p, 8, none⟩ = some (.int .u8 (fl.mask.toNat : Int)) := by rw [HR.out.hd.cell]; show some (B8 (fl.counted k).burn.mask) = _; rw [(fl.counted k).burn_rest.1]; rfl
        have hfr := HR.out.ce.frozen (q + i)
        have hqi := Hqi.out
        have hsum : IntKind.i64.wrap ((q : Int) + (i : Int)) = (q : Int) + (i : Int) := by rw [IntKind.wrap_i64]; omega
        have hidx : (q : Int) + (i : Int) < (T : Int) := by omega
        unfold B8 at hcc
        generalize hcb : fl.bs[q + i]?.getD 0 = cb at hcc
        have Hcb := Lib.hid hcb
        clear hcb hcl
        go_wp2_with fail
        go_region
        clear hqi hsum
        go_wp2
        go_ret
        rw [b_orm]
        have h1 := HR.out.store (q + i) (cb ||| fl.mask)
        have hl := eraseF_torn fl.bs q i fl.Z fl.mask htz
        rw [Hcb.out] at hl
        rw [hl] at h1
        rw [erased_eq (fl := fl) (k := k) (t := i) Hq.out Hmt.out]
        exact ⟨rfl, h1.drew, (HO.out.setCell (p := ⟨c, q + i, none⟩) (Or.inl (Or.inr (Or.inl rfl))) _).drew⟩
      · go_wp2
        go_ret
        rw [erased_eq (fl := fl) (k := k) (t := i) Hq.out Hmt.out, ← eraseF_all fl.bs q i fl.Z fl.mask htz]
        exact ⟨rfl, HR.out, HO.out⟩

set_option maxRecDepth 100000 in
set_option maxHeartbeats 8000000 in
theorem rerase_neg (p c e k m : Nat) (fl : Fl) (w : World) (hf : RefAt w p c e fl) (hu : fl.up = true) (hm : fl.er[k]? = some m) (h : m < fl.L) (hfu : fl.fuse = 0) (hkp : fl.keep < 0) :
    Calls Try.prog 26 #[.pointer (some ⟨p, 0, none⟩), .int .i64 (k : Int)] w fun e1 w' => e1 = .returned (.int .i64 5) ∧ RefAt w' p c e (fl.erased k) ∧ Only (Three p c e) w w' := by
  have hk : k < fl.S := by have := (List.getElem?_eq_some_iff.1 hm).1; rw [hf.ok.el] at this; exact this
  have h5 : w.cell? ⟨p, 5, none⟩ = some (.bool false) := by rw [hf.hd.cell]; simp [Fl.rhdr, hu]
  have h0 : w.cell? ⟨p, 0, none⟩ = some (.int .i64 (fl.S : Int)) := by rw [hf.hd.cell]; simp [Fl.rhdr]
  have hz : w.cell? ⟨p, 1, none⟩ = some (.int .i64 (fl.Z : Int)) := by rw [hf.hd.cell]; simp [Fl.rhdr]
  have h4 : w.cell? ⟨p, 4, none⟩ = some (.slice (some ⟨e, 0, none⟩) fl.S fl.S) := by rw [hf.hd.cell]; simp [Fl.rhdr]
  have h2 : w.cell? ⟨p, 2, none⟩ = some (.int .i64 (fl.L : Int)) := by rw [hf.hd.cell]; simp [Fl.rhdr]
  have hc : w.cell? ⟨e, k, none⟩ = some (.int .i64 (m : Int)) := by rw [hf.er.cell]; simp [hm]
  have fek := hf.er.frozen k
  have hs := hf.ok.s2
  have hz1 := hf.ok.z1
  have hz2 := hf.ok.z2
  have hl2 := hf.ok.l2
  have hsz := hf.ok.sz
  have hkz : k * fl.Z + fl.Z ≤ fl.S * fl.Z := by
    have := Nat.mul_le_mul_right fl.Z (show k + 1 ≤ fl.S by omega)
    rw [Nat.add_mul] at this
    omega
  obtain ⟨q, hq⟩ : ∃ q, q = k * fl.Z := ⟨_, rfl⟩
  rw [← hq] at hkz
  have hqi : IntKind.i64.wrap ((k : Int) * (fl.Z : Int)) = (q : Int) := by
    have : (k : Int) * (fl.Z : Int) = ((k * fl.Z : Nat) : Int) := by simp
    rw [this, ← hq, IntKind.wrap_i64]
    omega
  obtain ⟨T, hT⟩ : ∃ T, T = fl.S * fl.Z := ⟨_, rfl⟩
  rw [← hT] at hkz hsz
  have hki : (k : Int) < (fl.S : Int) := by omega
  have hk0 : (0 : Int) ≤ (k : Int) := by omega
  have npe : ¬ p = e := hf.pe
  have nep : ¬ e = p := fun h => hf.pe h.symm
  have HT := Lib.hid hT
  have Hq := Lib.hid hq
  have Hqi := Lib.hid hqi
  have Hu := Lib.hid hu
  have Hm := Lib.hid hm
  have Hf := Lib.hid hf
  clear hT hq hqi hm hu hf
  have ht : 0 = fl.many fl.Z := by
    unfold Fl.many
    rw [if_pos hfu, Int.max_eq_right (by omega)]
    simp
  have Hmt := Lib.hid ht
  clear ht
  have Hfu := Lib.hid hfu
  clear hfu
  go_enter Try.func26, Try.ntmps26
  go_wp2_with fail
  go_quiet (fail)
  go_wp2_with fail
  go_region
  go_wp2_with fail
  have hcf := (Hf.out.drewN (nq + 1)).count Hm.out h
  refine (whole_any p c e (fl.counted k) _ hcf Hu.out).mono ?_
  rintro e1 w2 ⟨rfl, hf2, ho2⟩
  rw [decide_eq_true (show (fl.counted k).fuse = 0 from Hfu.out)]
  have hO : Only (Three p c e) w w2 := (((Only.refl (Three p c e) w).drewN (nq + 1)).setCell (p := ⟨e, k, none⟩) (Or.inl (Or.inr (Or.inr rfl))) _).trans (ho2.mono (fun i _ hi => Or.inl hi))
  have hgeo := (fl.counted k).burn_geo
  have Hgeo := Lib.hid hgeo
  have hR0 : RefAt w2 p c e { (fl.counted k).burn with bs := fl.bs.mapIdx (fillF q 0) } := by
    rw [fillF_zero]
    have e0 : (fl.counted k).burn = { (fl.counted k).burn with bs := fl.bs } := by
      rw [show fl.bs = (fl.counted k).burn.bs from hgeo.2.2.2.1.symm]
    rw [← e0]
    exact hf2
  have j1 : w2.cell? ⟨p, 1, none⟩ = some (.int .i64 (fl.Z : Int)) := by rw [hf2.hd.cell]; show some (Value.int .i64 (((fl.counted k).burn.Z : Nat) : Int)) = _; rw [hgeo.2.1]; rfl
  have j7 : w2.cell? ⟨p, 7, none⟩ = some (.int .i64 fl.keep) := by rw [hf2.hd.cell]; show some (Value.int .i64 (fl.counted k).burn.keep) = _; rw [(fl.counted k).burn_rest.2]; rfl
  have HR0 := Lib.hid hR0
  have HO := Lib.hid hO
  clear h5 h0 hz h4 h2 hc fek hcf hf2 ho2 hgeo hR0 hO
  go_wp2_with fail
  go_quiet (fail)
  clear j1 j7
  have HR1 := Lib.hid (HR0.out.drewN nq)
  have HO1 := Lib.hid (HO.out.drewN nq)
  clear HR0 HO
  go_wp2_with fail
  go_loopw [7] (fun v wr => ∃ i : Nat, i ≤ 0 ∧ v = .int .i64 (i : Int) ∧ RefAt wr p c e { (fl.counted k).burn with bs := fl.bs.mapIdx (fillF q i) } ∧ Only (Three p c e) w wr) (fun v _ => 0 - (intOf v).toNat)
  case atStart => exact ⟨0, Nat.zero_le _, rfl, HR1.out, HO1.out⟩
  case round =>
    obtain ⟨i, hi, rfl, hR, hO⟩ := hrel
    have k1 : wr.cell? ⟨p, 1, none⟩ = some (.int .i64 (fl.Z : Int)) := by rw [hR.hd.cell]; show some (Value.int .i64 (((fl.counted k).burn.Z : Nat) : Int)) = _; rw [Hgeo.out.2.1]; rfl
    have k3 : wr.cell? ⟨p, 3, none⟩ = some (.slice (some ⟨c, 0, none⟩) T T) := by
      rw [hR.hd.cell]
      show some (Value.slice (some ⟨c, 0, none⟩) ((fl.counted k).burn.S * (fl.counted k).burn.Z) ((fl.counted k).burn.S * (fl.counted k).burn.Z)) = _
      rw [Hgeo.out.1, Hgeo.out.2.1, HT.out]
      rfl
    have HR := Lib.hid hR
    have HO := Lib.hid hO
    have hbl : fl.bs.length = T := by rw [Hf.out.ok.bl, HT.out]
    have Hbl := Lib.hid hbl
    clear hbl
    by_cases hlt : i < 0
    · exact absurd hlt (by omega)
    · have hiz : i = 0 := by omega
      subst hiz
      clear hR hO
      have htz : 0 < fl.Z := by omega
      · have hcl : q < fl.bs.length := by rw [Hbl.out]; omega
        have hcc : wr.cell? ⟨c, q, none⟩ = some (B8 (fl.bs[q]?.getD 0)) := by
          rw [HR.out.ce.cell]
          show (cellsB (fl.bs.mapIdx (fillF q 0)))[q]? = _
          rw [cellsB_get, List.getElem?_mapIdx, List.getElem?_eq_getElem hcl]
          simp [fillF]
        have k8 : wr.cell? ⟨p, 8, none⟩ = some (.int .u8 (fl.mask.toNat : Int)) := by rw [HR.out.hd.cell]; show some (B8 (fl.counted k).burn.mask) = _; rw [(fl.counted k).burn_rest.1]; rfl
        have hfr := HR.out.ce.frozen (q)
        have hqi := Hqi.out
        have hsum : IntKind.i64.wrap ((q : Int)) = (q : Int) := by rw [IntKind.wrap_i64]; omega
        have hidx : (q : Int) < (T : Int) := by omega
        unfold B8 at hcc
        generalize hcb : fl.bs[q]?.getD 0 = cb at hcc
        have Hcb := Lib.hid hcb
        clear hcb hcl
        go_wp2_with fail
        go_region
        clear hqi hsum
        go_wp2
        go_ret
        rw [b_orm]
        have h1 := HR.out.store q (cb ||| fl.mask)
        have hl := eraseF_torn fl.bs q 0 fl.Z fl.mask htz
        rw [Nat.add_zero, Hcb.out] at hl
        rw [hl] at h1
        rw [erased_eq (fl := fl) (k := k) (t := 0) Hq.out Hmt.out]
        exact ⟨rfl, h1.drew, (HO.out.setCell (p := ⟨c, q, none⟩) (Or.inl (Or.inr (Or.inl rfl))) _).drew⟩

end Go.Proofs.Ytaepdmifenkhcaa
