/- The walk over (*nor.Flash).Program. -/
import Derived.Test.YtdhnbeimkeoefaaDoorW2
import Derived.RegionTactic
import Derived.ChangeAlike
import Derived.Deep.QuietTactic
import Derived.BigQuiet
import Derived.BigRegion
import Derived.Deep.OwnRows
namespace Go.Proofs.YtdhnbeimkeoefaaDoor
open Go.RowKit

/-- From o on the bytes xs are laid, k of n of them whole; of the next one the bits that the mask lets go. -/
def progF (o : Nat) (xs : List UInt8) (k : Nat) : Nat → UInt8 → UInt8 := fun i b => if o ≤ i ∧ i < o + k then b &&& (xs[i - o]?.getD 0) else b
def tornF (o : Nat) (xs : List UInt8) (k : Nat) (mask : UInt8) : Nat → UInt8 → UInt8 := fun i b =>
  if o ≤ i ∧ i < o + k then b &&& (xs[i - o]?.getD 0) else if i = o + k ∧ k < xs.length then b &&& ~~~(mask &&& ~~~(xs[k]?.getD 0)) else b

theorem progF_step (bs : List UInt8) (o k : Nat) (xs : List UInt8) : (bs.mapIdx (progF o xs k)).set (o + k) ((bs[o + k]?.getD 0) &&& (xs[k]?.getD 0)) = bs.mapIdx (progF o xs (k + 1)) := by
  apply set_mapIdx
  · intro b hb
    have e : o + k - o = k := by omega
    simp [progF, hb, e]
  · intro j b hj
    unfold progF
    by_cases h : o ≤ j ∧ j < o + k
    · rw [if_pos h, if_pos (by omega)]
    · rw [if_neg h, if_neg (by omega)]
theorem progF_zero (bs : List UInt8) (o : Nat) (xs : List UInt8) : bs.mapIdx (progF o xs 0) = bs :=
  mapIdx_id _ _ fun i b _ => by unfold progF; rw [if_neg (by omega)]
theorem progF_all (bs : List UInt8) (o k : Nat) (xs : List UInt8) (mask : UInt8) (h : ¬ k < xs.length) : bs.mapIdx (progF o xs k) = bs.mapIdx (tornF o xs k mask) := by
  congr 1
  funext i b
  unfold progF tornF
  by_cases h1 : o ≤ i ∧ i < o + k
  · rw [if_pos h1, if_pos h1]
  · rw [if_neg h1, if_neg h1, if_neg (by omega)]
theorem progF_torn (bs : List UInt8) (o k : Nat) (xs : List UInt8) (mask : UInt8) (h : k < xs.length) :
    (bs.mapIdx (progF o xs k)).set (o + k) ((bs[o + k]?.getD 0) &&& ~~~(mask &&& ~~~(xs[k]?.getD 0))) = bs.mapIdx (tornF o xs k mask) := by
  apply set_mapIdx
  · intro b hb
    unfold tornF
    rw [if_neg (by omega), if_pos ⟨rfl, h⟩, hb]
    rfl
  · intro j b hj
    unfold progF tornF
    by_cases h1 : o ≤ j ∧ j < o + k
    · rw [if_pos h1, if_pos h1]
    · rw [if_neg h1, if_neg h1, if_neg (by omega)]

/-- No bit of xs is 1 where the flash's is 0. -/
def Fits (bs : List UInt8) (o : Nat) (xs : List UInt8) : Prop := ∀ j, j < xs.length → (xs[j]?.getD 0) &&& ~~~(bs[o + j]?.getD 0) = 0
instance (bs : List UInt8) (o : Nat) (xs : List UInt8) : Decidable (Fits bs o xs) := by unfold Fits; infer_instance

def Fl.prog (fl : Fl) (o : Nat) (xs : List UInt8) : Fl := { fl.burn with bs := fl.bs.mapIdx (tornF o xs (fl.many xs.length) fl.mask) }

theorem Fl.many_le (fl : Fl) (n : Nat) : fl.many n ≤ n := by
  unfold Fl.many
  split
  · have := Nat.mod_lt (max fl.keep 0).toNat (show 0 < n + 1 by omega)
    omega
  · exact Nat.le_refl _

theorem not_not8 (x : UInt8) : ~~~(~~~x) = x := by
  apply UInt8.toBitVec_inj.1
  show ~~~(~~~x.toBitVec) = x.toBitVec
  exact BitVec.not_not
theorem clear_and (b x : UInt8) : b &&& ~~~(~~~x) = b &&& x := by rw [not_not8]

theorem b_clear (b x : UInt8) : Value.int .u8 (bits .andNot .u8 (b.toNat : Int) (bits .xor .u8 (if IntKind.u8.signed = true then -1 else IntKind.u8.max) (x.toNat : Int))) = B8 (b &&& x) := by
  have e : (if IntKind.u8.signed = true then -1 else IntKind.u8.max) = 255 := by decide
  rw [e, b_xor, b_andNot, not_not8]
  rfl
theorem b_torn (b mask x : UInt8) : Value.int .u8 (bits .andNot .u8 (b.toNat : Int) (bits .andNot .u8 (mask.toNat : Int) (x.toNat : Int))) = B8 (b &&& ~~~(mask &&& ~~~x)) := by
  rw [b_andNot, b_andNot]
  rfl

set_option maxHeartbeats 2000000 in
theorem program_fits (p c e at_ n cap : Nat) (fl : Fl) (xs : List UInt8) (A : Option Addr) (w : World) (hf : FlashAt w p c e fl) (hu : fl.up = true) (hs : ByteSl w (Three p c e) A n cap xs)
    (hin : at_ + n ≤ fl.S * fl.Z) (hfit : Fits fl.bs at_ xs) :
    Calls Tryd.prog 13 #[.pointer (some ⟨p, 0, none⟩), .int .i64 (at_ : Int), .slice A n cap] w fun e1 w' => e1 = .returned (.int .i64 fl.code) ∧
      FlashAt w' p c e (fl.prog at_ xs) ∧ Only (Three p c e) w w' := by
  have hsz := hf.ok.sz
  have hxl := hs.1
  have hnc := hs.2.1
  have hspan := span_in p c (fl.S * fl.Z) at_ n w (by rw [hf.hd.cell]; simp [Fl.hdr, hu]) (by rw [hf.hd.cell]; simp [Fl.hdr]) (by omega) hin
  obtain ⟨o, ho⟩ : ∃ o, o = if n = 0 then 0 else at_ := ⟨_, rfl⟩
  rw [← ho] at hspan
  have Hspan := Lib.hid hspan
  have Ho := Lib.hid ho
  have Hxl := Lib.hid hxl
  have Hu := Lib.hid hu
  clear hspan ho hxl hu
  go_enter Tryd.func13, Tryd.ntmps13
  go_wp2_with fail
  refine Hspan.out.mono ?_
  rintro e1 w1 ⟨rfl, rfl⟩
  go_wp2_with fail
  go_loop [27] (fun i => ∃ k : Nat, k ≤ n ∧ i = .int .i64 (k : Int)) (fun i => n - (intOf i).toNat)
  case atStart => exact ⟨0, Nat.zero_le _, rfl⟩
  case round =>
    obtain ⟨k, hk, rfl⟩ := hrel
    by_cases hlt : k < n
    · obtain ⟨ad, x, rfl, hab, hnS, hx, hxc⟩ := hs.at_ hlt
      have hoa : o = at_ := by rw [Ho.out, if_neg (by omega)]
      subst hoa
      have hcl : o + k < fl.bs.length := by rw [hf.ok.bl]; omega
      have hcc : w.cell? ⟨c, o + k, none⟩ = some (B8 (fl.bs[o + k]?.getD 0)) := by
        rw [hf.ce.cell]
        simp [hcl]
      have hz : (bits .andNot .u8 ((xs[k]?.getD 0).toNat : Int) ((fl.bs[o + k]?.getD 0).toNat : Int) != 0) = false := by
        rw [b_andNot, hfit k (by rw [Hxl.out]; exact hlt)]; rfl
      rw [hx] at hz
      unfold B8 at hxc hcc
      simp only [Option.getD_some] at hz
      generalize fl.bs[o + k]?.getD 0 = cb at hz hcc
      clear hs hf hfit hcl hx
      go_wp2
      go_round
      case rel => exact ⟨k + 1, by omega, by go_num⟩
      case measure => simp [intOf]; omega
    · clear hfit
      have hml := fl.many_le n
      go_wp2_with fail
      refine (act_any p c e fl n w hf Hu.out (by have := hs.2.2.1; unfold maxLen at this; omega)).mono ?_
      rintro e1 w1 ⟨rfl, hf1, ho1⟩
      have hs1 : ByteSl w1 (Three p c e) A n cap xs := hs.only ho1 (by intro i _ hi; exact Or.inl hi)
      obtain ⟨m, hm⟩ : ∃ m, m = fl.many n := ⟨_, rfl⟩
      rw [← hm] at hml ⊢
      have Hm := Lib.hid hm
      clear hm
      go_wp2_with fail
      have hgeo := fl.burn_geo
      go_loopw [51] (fun i wr => ∃ k : Nat, k ≤ m ∧ i = .int .i64 (k : Int) ∧ Blk wr c 5 (cellsB (fl.bs.mapIdx (progF o xs k))) ∧ Only (· = c) w1 wr) (fun i _ => m - (intOf i).toNat)
      case atStart => exact ⟨0, Nat.zero_le _, rfl, by rw [progF_zero]; have := hf1.ce; rw [hgeo.2.2.2.1] at this; exact this, Only.refl _ _⟩
      case round =>
        obtain ⟨k, hk, rfl, hbk, hok⟩ := hrel
        by_cases hlt : k < m
        · obtain ⟨ad, x, rfl, hab, hnS, hx, hxc⟩ := (hs1.only hok (by intro i _ hi; exact Or.inr (Or.inl hi))).at_ (show k < n by omega)
          have hoa : o = at_ := by rw [Ho.out, if_neg (by omega)]
          subst hoa
          have hcl : o + k < fl.bs.length := by rw [hf.ok.bl]; omega
          have hcc : wr.cell? ⟨c, o + k, none⟩ = some (B8 (fl.bs[o + k]?.getD 0)) := by
            rw [hbk.cell, cellsB_get, List.getElem?_mapIdx]
            simp [hcl, progF]
          have hfr := hbk.frozen (o + k)
          have Hbk := Lib.hid hbk
          have Hst := Lib.hid (progF_step fl.bs o k xs)
          have Hx := Lib.hid hx
          clear hs hs1 hf hf1 hbk hcl hx hgeo
          unfold B8 at hxc hcc
          generalize hcb : fl.bs[o + k]?.getD 0 = cb at hcc
          have Hcb := Lib.hid hcb
          clear hcb
          go_wp2
          go_roundw
          case rel =>
            refine ⟨k + 1, by omega, by go_num, ?_, hok.setCell (p := ⟨c, o + k, none⟩) (Or.inl rfl) _⟩
            rw [b_clear, ← Hst.out, ← cellsB_set, Hcb.out, Hx.out]
            exact Hbk.out.set_ _ _
          case measure => simp [intOf]; omega
        · obtain rfl : k = m := by omega
          have hp8 : wr.cell? ⟨p, 8, none⟩ = some (B8 fl.mask) := by
            have h1 := hok.blk hf1.hd hf1.pc
            rw [h1.cell]
            simp [Fl.hdr, fl.burn_rest.1]
          by_cases hmn : k < n
          · obtain ⟨ad, x, rfl, hab, hnS, hx, hxc⟩ := (hs1.only hok (by intro i _ hi; exact Or.inr (Or.inl hi))).at_ hmn
            have hoa : o = at_ := by rw [Ho.out, if_neg (by omega)]
            subst hoa
            have hcl : o + k < fl.bs.length := by rw [hf.ok.bl]; omega
            have hcc : wr.cell? ⟨c, o + k, none⟩ = some (B8 (fl.bs[o + k]?.getD 0)) := by
              rw [hbk.cell, cellsB_get, List.getElem?_mapIdx]
              simp [hcl, progF]
            have hfr := hbk.frozen (o + k)
            have Hbk := Lib.hid hbk
            have Hst := Lib.hid (progF_torn fl.bs o k xs fl.mask (by rw [Hxl.out]; exact hmn))
            have Hx := Lib.hid hx
            have Hf1 := Lib.hid hf1
            clear hs hs1 hf hf1 hbk hcl hx hgeo
            unfold B8 at hxc hcc hp8
            generalize hcb : fl.bs[o + k]?.getD 0 = cb at hcc
            have Hcb := Lib.hid hcb
            clear hcb
            go_wp2
            go_region
            go_wp2
            go_ret
            rw [b_torn]
            refine ⟨rfl, ?_, ?_⟩
            · have hb2 := Hbk.out.set_ (o + k) (B8 (cb &&& ~~~(fl.mask &&& ~~~x)))
              rw [cellsB_set, ← Hcb.out] at hb2
              have hst := Hst.out
              rw [Hx.out] at hst
              rw [Option.getD_some] at hst
              rw [hst] at hb2
              have ho2 := hok.setCell (p := ⟨c, o + k, none⟩) (Or.inl rfl) (B8 (fl.bs[o + k]?.getD 0 &&& ~~~(fl.mask &&& ~~~x)))
              have hfin := Hf1.out.bytes ho2 Hf1.out.pc Hf1.out.cep.symm (by rw [fl.burn_geo.2.2.2.1]; simp) hb2
              rw [Hcb.out] at hfin
              unfold Fl.prog
              rw [Hxl.out, ← Hm.out]
              exact hfin.drew
            · exact (((ho1.mono (T := Three p c e) (fun i _ hi => Or.inl hi)).trans (hok.mono (fun i _ hi => Or.inr (Or.inl hi)))).setCell (p := ⟨c, o + k, none⟩) (Or.inl (Or.inr (Or.inl rfl))) _).drew
          · go_wp2
            go_ret
            refine ⟨rfl, ?_, ?_⟩
            · have hst := progF_all fl.bs o k xs fl.mask (by rw [Hxl.out]; exact hmn)
              rw [hst] at hbk
              have hfin := hf1.bytes hok hf1.pc hf1.cep.symm (by rw [fl.burn_geo.2.2.2.1]; simp) hbk
              have ho3 : fl.bs.mapIdx (tornF o xs k fl.mask) = fl.bs.mapIdx (tornF at_ xs k fl.mask) := by
                by_cases h0 : n = 0
                · have hx0 : xs.length = 0 := by rw [Hxl.out, h0]
                  have hk0 : k = 0 := by omega
                  subst hk0
                  rw [mapIdx_id, mapIdx_id]
                  · intro i b _; unfold tornF; rw [if_neg (by omega), if_neg (by omega)]
                  · intro i b _; unfold tornF; rw [if_neg (by omega), if_neg (by omega)]
                · rw [Ho.out, if_neg h0]
              rw [ho3] at hfin
              unfold Fl.prog
              rw [Hxl.out, ← Hm.out]
              exact hfin
            · exact (ho1.mono (fun i _ hi => Or.inl hi)).trans (hok.mono (fun i _ hi => Or.inr (Or.inl hi)))

theorem program_nil (a : Int) (A : Option Addr) (n cap : Nat) (w : World) :
    Calls Tryd.prog 13 #[.pointer none, .int .i64 a, .slice A n cap] w fun e w' => e = .returned (.int .i64 5) ∧ w = w' := by
  go_enter Tryd.func13, Tryd.ntmps13
  go_wp2_with fail
  refine (span_nil _ _ _).mono ?_
  rintro e1 w1 ⟨rfl, rfl⟩
  go_wp2
  go_ret
  exact ⟨rfl, rfl⟩

theorem program_down (p : Nat) (a : Int) (A : Option Addr) (n cap : Nat) (w : World) (h5 : w.cell? ⟨p, 5, none⟩ = some (.bool false)) :
    Calls Tryd.prog 13 #[.pointer (some ⟨p, 0, none⟩), .int .i64 a, .slice A n cap] w fun e w' => e = .returned (.int .i64 5) ∧ w = w' := by
  go_enter Tryd.func13, Tryd.ntmps13
  go_wp2_with fail
  refine (span_down _ _ _ _ h5).mono ?_
  rintro e1 w1 ⟨rfl, rfl⟩
  go_wp2
  go_ret
  exact ⟨rfl, rfl⟩

theorem program_out (p c e : Nat) (fl : Fl) (a : Int) (A : Option Addr) (n cap : Nat) (w : World) (hf : FlashAt w p c e fl) (hu : fl.up = true) (a2 : a ≤ 9223372036854775807) (hn : n ≤ maxLen)
    (h : a < 0 ∨ ((fl.S * fl.Z : Nat) : Int) < a + n) :
    Calls Tryd.prog 13 #[.pointer (some ⟨p, 0, none⟩), .int .i64 a, .slice A n cap] w fun e w' => e = .returned (.int .i64 2) ∧ w = w' := by
  have hsz := hf.ok.sz
  have hs := span_out p c (fl.S * fl.Z) a n w (by rw [hf.hd.cell]; simp [Fl.hdr, hu]) (by rw [hf.hd.cell]; simp [Fl.hdr]) (by omega) a2 (by unfold maxLen at hn; omega) (by omega)
  have Hs := Lib.hid hs
  clear hs hf hu h
  go_enter Tryd.func13, Tryd.ntmps13
  go_wp2_with fail
  refine Hs.out.mono ?_
  rintro e1 w1 ⟨rfl, rfl⟩
  go_wp2
  go_ret
  exact ⟨rfl, rfl⟩

set_option maxHeartbeats 2000000 in
theorem program_bits (p c e at_ n cap : Nat) (fl : Fl) (xs : List UInt8) (A : Option Addr) (w : World) (hf : FlashAt w p c e fl) (hu : fl.up = true) (hs : ByteSl w (Three p c e) A n cap xs)
    (hin : at_ + n ≤ fl.S * fl.Z) (hfit : ¬ Fits fl.bs at_ xs) :
    Calls Tryd.prog 13 #[.pointer (some ⟨p, 0, none⟩), .int .i64 (at_ : Int), .slice A n cap] w fun e1 w' => e1 = .returned (.int .i64 3) ∧ w = w' := by
  have hsz := hf.ok.sz
  have hxl := hs.1
  have hnc := hs.2.1
  have hspan := span_in p c (fl.S * fl.Z) at_ n w (by rw [hf.hd.cell]; simp [Fl.hdr, hu]) (by rw [hf.hd.cell]; simp [Fl.hdr]) (by omega) hin
  have h0 : ¬ n = 0 := fun h0 => hfit fun j hj => by omega
  rw [if_neg h0] at hspan
  have Hspan := Lib.hid hspan
  have Hxl := Lib.hid hxl
  have Hfit := Lib.hid hfit
  clear hspan hxl hu h0 hfit
  go_enter Tryd.func13, Tryd.ntmps13
  go_wp2_with fail
  refine Hspan.out.mono ?_
  rintro e1 w1 ⟨rfl, rfl⟩
  go_wp2_with fail
  go_loop [27] (fun i => ∃ k : Nat, k ≤ n ∧ i = .int .i64 (k : Int) ∧ ∀ j, j < k → (xs[j]?.getD 0) &&& ~~~(fl.bs[at_ + j]?.getD 0) = 0) (fun i => n - (intOf i).toNat)
  case atStart => exact ⟨0, Nat.zero_le _, rfl, fun j hj => by omega⟩
  case round =>
    obtain ⟨k, hk, rfl, hall⟩ := hrel
    have Hall := Lib.hid hall
    clear hall
    by_cases hlt : k < n
    · obtain ⟨ad, x, rfl, hab, hnS, hx, hxc⟩ := hs.at_ hlt
      have hcl : at_ + k < fl.bs.length := by rw [hf.ok.bl]; omega
      have hcc : w.cell? ⟨c, at_ + k, none⟩ = some (B8 (fl.bs[at_ + k]?.getD 0)) := by
        rw [hf.ce.cell]
        simp [hcl]
      have hgx : xs[k]?.getD 0 = x := by rw [hx]; rfl
      have Hgx := Lib.hid hgx
      unfold B8 at hxc hcc
      by_cases hz : x &&& ~~~(fl.bs[at_ + k]?.getD 0) = 0
      · have hz1 : (bits .andNot .u8 (x.toNat : Int) ((fl.bs[at_ + k]?.getD 0).toNat : Int) != 0) = false := by rw [b_andNot, hz]; rfl
        have Hz := Lib.hid hz
        generalize hgb : fl.bs[at_ + k]?.getD 0 = b at hz1 hcc
        have Hgb := Lib.hid hgb
        clear hgb hz hs hf hcl hx hgx
        go_wp2
        go_round
        case rel =>
          refine ⟨k + 1, by omega, by go_num, fun j hj => ?_⟩
          by_cases hjk : j = k
          · subst hjk; rw [Hgx.out]; exact Hz.out
          · exact Hall.out j (by omega)
        case measure => simp [intOf]; omega
      · have hz1 : (bits .andNot .u8 (x.toNat : Int) ((fl.bs[at_ + k]?.getD 0).toNat : Int) != 0) = true := by
          rw [b_andNot, bne_iff_ne]
          intro h
          apply hz
          apply UInt8.toNat_inj.1
          have h2 : (x &&& ~~~(fl.bs[at_ + k]?.getD 0)).toNat = 0 := by omega
          rw [h2]; rfl
        generalize hgb : fl.bs[at_ + k]?.getD 0 = b at hz1 hcc
        clear hgb hz hs hf hcl hx hgx
        go_wp2
        go_ret
        exact ⟨rfl, rfl⟩
    · exfalso
      apply Hfit.out
      intro j hj
      rw [Hxl.out] at hj
      exact Hall.out j (by omega)

end Go.Proofs.YtdhnbeimkeoefaaDoor
