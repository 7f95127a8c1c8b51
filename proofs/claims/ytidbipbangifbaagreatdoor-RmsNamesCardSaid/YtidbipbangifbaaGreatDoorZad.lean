/- The walk over (*nor.Flash).Program. -/
import Derived.Test.YtidbipbangifbaaGreatDoorZab
import Derived.RegionTactic
import Derived.ChangeAlike
import Derived.Deep.QuietTactic
import Derived.BigQuiet
import Derived.BigRegion
import Derived.Deep.OwnRows
import Derived.Maps.AppendAt
import Derived.OwnWalk
import Derived.Laws.ResultCell
import Derived.Test.YtidbipbangifbaaGreatDoorZaa
namespace Go.Proofs.YtidbipbangifbaaGreatDoor
set_option maxRecDepth 100000
open Go.RowKit

/-- From o on the bytes xs are laid, k of n of them whole; of the next one the bits that the mask lets go. -/
def progF (o : Nat) (xs : List UInt8) (k : Nat) : Nat → UInt8 → UInt8 := fun i b => if o ≤ i ∧ i < o + k then b &&& (xs[i - o]?.getD 0) else b
def tornF (o : Nat) (xs : List UInt8) (k : Nat) (mask : UInt8) : Nat → UInt8 → UInt8 := fun i b =>
  if o ≤ i ∧ i < o + k then b &&& (xs[i - o]?.getD 0) else if i = o + k ∧ k < xs.length then b &&& ~~~(mask &&& ~~~(xs[k]?.getD 0)) else b

theorem progF_step (bs : List UInt8) (o k : Nat) (xs : List UInt8) : (bs.mapIdx (progF o xs k)).set (o + k) ((bs[o + k]?.getD 0) &&& (xs[k]?.getD 0)) = bs.mapIdx (progF o xs (k + 1)) := by
  apply set_mapIdx
  · intro b hb
    have e : o + k - o = k := by omega
    simp [progF, hb, e]
  · intro j b hj
    unfold progF
    by_cases h : o ≤ j ∧ j < o + k
    · rw [if_pos h, if_pos (by omega)]
    · rw [if_neg h, if_neg (by omega)]
theorem progF_zero (bs : List UInt8) (o : Nat) (xs : List UInt8) : bs.mapIdx (progF o xs 0) = bs :=
  mapIdx_id _ _ fun i b _ => by unfold progF; rw [if_neg (by omega)]
theorem progF_all (bs : List UInt8) (o k : Nat) (xs : List UInt8) (mask : UInt8) (h : ¬ k < xs.length) : bs.mapIdx (progF o xs k) = bs.mapIdx (tornF o xs k mask) := by
  congr 1
  funext i b
  unfold progF tornF
  by_cases h1 : o ≤ i ∧ i < o + k
  · rw [if_pos h1, if_pos h1]
  · rw [if_neg h1, if_neg h1, if_neg (by omega)]
theorem progF_torn (bs : List UInt8) (o k : Nat) (xs : List UInt8) (mask : UInt8) (h : k < xs.length) :
    (bs.mapIdx (progF o xs k)).set (o + k) ((bs[o + k]?.getD 0) &&& ~~~(mask &&& ~~~(xs[k]?.getD 0))) = bs.mapIdx (tornF o xs k mask) := by
  apply set_mapIdx
  · intro b hb
    unfold tornF
    rw [if_neg (by omega), if_pos ⟨rfl, h⟩, hb]
    rfl
  · intro j b hj
    unfold progF tornF
    by_cases h1 : o ≤ j ∧ j < o + k
    · rw [if_pos h1, if_pos h1]
    · rw [if_neg h1, if_neg h1, if_neg (by omega)]

/-- No bit of xs is 1 where the flash's is 0. -/
def Fits (bs : List UInt8) (o : Nat) (xs : List UInt8) : Prop := ∀ j, j < xs.length → (xs[j]?.getD 0) &&& ~~~(bs[o + j]?.getD 0) = 0
instance (bs : List UInt8) (o : Nat) (xs : List UInt8) : Decidable (Fits bs o xs) := by unfold Fits; infer_instance

def Fl.prog (fl : Fl) (o : Nat) (xs : List UInt8) : Fl := { fl.burn with bs := fl.bs.mapIdx (tornF o xs (fl.many xs.length) fl.mask) }

theorem Fl.many_le (fl : Fl) (n : Nat) : fl.many n ≤ n := by
  unfold Fl.many
  split
  · have := Nat.mod_lt (max fl.keep 0).toNat (show 0 < n + 1 by omega)
    omega
  · exact Nat.le_refl _

theorem not_not8 (x : UInt8) : ~~~(~~~x) = x := by
  apply UInt8.toBitVec_inj.1
  show ~~~(~~~x.toBitVec) = x.toBitVec
  exact BitVec.not_not
theorem clear_and (b x : UInt8) : b &&& ~~~(~~~x) = b &&& x := by rw [not_not8]

theorem b_clear (b x : UInt8) : Value.int .u8 (bits .andNot .u8 (b.toNat : Int) (bits .xor .u8 (if IntKind.u8.signed = true then -1 else IntKind.u8.max) (x.toNat : Int))) = B8 (b &&& x) := by
  have e : (if IntKind.u8.signed = true then -1 else IntKind.u8.max) = 255 := by decide
  rw [e, b_xor, b_andNot, not_not8]
  rfl
theorem b_torn (b mask x : UInt8) : Value.int .u8 (bits .andNot .u8 (b.toNat : Int) (bits .andNot .u8 (mask.toNat : Int) (x.toNat : Int))) = B8 (b &&& ~~~(mask &&& ~~~x)) := by
  rw [b_andNot, b_andNot]
  rfl

set_option maxHeartbeats 2000000 in
theorem program_fits (p c e at_ n cap : Nat) (fl : Fl) (xs : List UInt8) (A : Option Addr) (w : World) (hf : FlashAt w p c e fl) (hu : fl.up = true) (hs : ByteSl w (Three p c e) A n cap xs)
    (hin : at_ + n ≤ fl.S * fl.Z) (hfit : Fits fl.bs at_ xs) :
    Calls Tryz.prog 162 #[.pointer (some ⟨p, 0, none⟩), .int .i64 (at_ : Int), .slice A n cap] w fun e1 w' => e1 = .returned (.int .i64 fl.code) ∧
      FlashAt w' p c e (fl.prog at_ xs) ∧ Only (Three p c e) w w' := by
  have hsz := hf.ok.sz
  have hxl := hs.1
  have hnc := hs.2.1
  have hspan := span_in p c (fl.S * fl.Z) at_ n w (by rw [hf.hd.cell]; simp [Fl.hdr, hu]) (by rw [hf.hd.cell]; simp [Fl.hdr]) (by omega) hin
  obtain ⟨o, ho⟩ : ∃ o, o = if n = 0 then 0 else at_ := ⟨_, rfl⟩
  rw [← ho] at hspan
  have Hspan := Lib.hid hspan
  have Ho := Lib.hid ho
  have Hxl := Lib.hid hxl
  have Hu := Lib.hid hu
  clear hspan ho hxl hu
  go_enter Tryz.func162, Tryz.ntmps162
  go_wp2_with fail
  refine Hspan.out.mono ?_
  rintro e1 w1 ⟨rfl, rfl⟩
  go_wp2_with fail
  go_loop [27] (fun i => ∃ k : Nat, k ≤ n ∧ i = .int .i64 (k : Int)) (fun i => n - (intOf i).toNat)
  case atStart => exact ⟨0, Nat.zero_le _, rfl⟩
  case round =>
    obtain ⟨k, hk, rfl⟩ := hrel
    by_cases hlt : k < n
    · obtain ⟨ad, x, rfl, hab, hnS, hx, hxc⟩ := hs.at_ hlt
      have hoa : o = at_ := by rw [Ho.out, if_neg (by omega)]
      subst hoa
      have hcl : o + k < fl.bs.length := by rw [hf.ok.bl]; omega
      have hcc : w.cell? ⟨c, o + k, none⟩ = some (B8 (fl.bs[o + k]?.getD 0)) := by
        rw [hf.ce.cell]
        simp [hcl]
      have hz : (bits .andNot .u8 ((xs[k]?.getD 0).toNat : Int) ((fl.bs[o + k]?.getD 0).toNat : Int) != 0) = false := by
        rw [b_andNot, hfit k (by rw [Hxl.out]; exact hlt)]; rfl
      rw [hx] at hz
      unfold B8 at hxc hcc
      simp only [Option.getD_some] at hz
      generalize fl.bs[o + k]?.getD 0 = cb at hz hcc
      clear hs hf hfit hcl hx
      go_wp2
      go_round
      case rel => exact ⟨k + 1, by omega, by go_num⟩
      case measure => simp [intOf]; omega
    · clear hfit
      have hml := fl.many_le n
      go_wp2_with fail
      refine (act_any p c e fl n w hf Hu.out (by have := hs.2.2.1; unfold maxLen at this; omega)).mono ?_
      rintro e1 w1 ⟨rfl, hf1, ho1⟩
      have hs1 : ByteSl w1 (Three p c e) A n cap xs := hs.only ho1 (by intro i _ hi; exact Or.inl hi)
      obtain ⟨m, hm⟩ : ∃ m, m = fl.many n := ⟨_, rfl⟩
      rw [← hm] at hml ⊢
      have Hm := Lib.hid hm
      clear hm
      go_wp2_with fail
      have hgeo := fl.burn_geo
      go_loopw [51] (fun i wr => ∃ k : Nat, k ≤ m ∧ i = .int .i64 (k : Int) ∧ Blk wr c 5 (cellsB (fl.bs.mapIdx (progF o xs k))) ∧ Only (· = c) w1 wr) (fun i _ => m - (intOf i).toNat)
      case atStart => exact ⟨0, Nat.zero_le _, rfl, by rw [progF_zero]; have := hf1.ce; rw [hgeo.2.2.2.1] at this; exact this, Only.refl _ _⟩
      case round =>
        obtain ⟨k, hk, rfl, hbk, hok⟩ := hrel
        by_cases hlt : k < m
        · obtain ⟨ad, x, rfl, hab, hnS, hx, hxc⟩ := (hs1.only hok (by intro i _ hi; exact Or.inr (Or.inl hi))).at_ (show k < n by omega)
          have hoa : o = at_ := by rw [Ho.out, if_neg (by omega)]
          subst hoa
          have hcl : o + k < fl.bs.length := by rw [hf.ok.bl]; omega
          have hcc : wr.cell? ⟨c, o + k, none⟩ = some (B8 (fl.bs[o + k]?.getD 0)) := by
            rw [hbk.cell, cellsB_get, List.getElem?_mapIdx]
            simp [hcl, progF]
          have hfr := hbk.frozen (o + k)
          have Hbk := Lib.hid hbk
          have Hst := Lib.hid (progF_step fl.bs o k xs)
          have Hx := Lib.hid hx
          clear hs hs1 hf hf1 hbk hcl hx hgeo
          unfold B8 at hxc hcc
          generalize hcb : fl.bs[o + k]?.getD 0 = cb at hcc
          have Hcb := Lib.hid hcb
          clear hcb
          go_wp2
          go_roundw
          case rel =>
            refine ⟨k + 1, by omega, by go_num, ?_, hok.setCell (p := ⟨c, o + k, none⟩) (Or.inl rfl) _⟩
            rw [b_clear, ← Hst.out, ← cellsB_set, Hcb.out, Hx.out]
            exact Hbk.out.set_ _ _
          case measure => simp [intOf]; omega
        · obtain rfl : k = m := by omega
          have hp8 : wr.cell? ⟨p, 8, none⟩ = some (B8 fl.mask) := by
            have h1 := hok.blk hf1.hd hf1.pc
            rw [h1.cell]
            simp [Fl.hdr, fl.burn_rest.1]
          by_cases hmn : k < n
          · obtain ⟨ad, x, rfl, hab, hnS, hx, hxc⟩ := (hs1.only hok (by intro i _ hi; exact Or.inr (Or.inl hi))).at_ hmn
            have hoa : o = at_ := by rw [Ho.out, if_neg (by omega)]
            subst hoa
            have hcl : o + k < fl.bs.length := by rw [hf.ok.bl]; omega
            have hcc : wr.cell? ⟨c, o + k, none⟩ = some (B8 (fl.bs[o + k]?.getD 0)) := by
              rw [hbk.cell, cellsB_get, List.getElem?_mapIdx]
              simp [hcl, progF]
            have hfr := hbk.frozen (o + k)
            have Hbk := Lib.hid hbk
            have Hst := Lib.hid (progF_torn fl.bs o k xs fl.mask (by rw [Hxl.out]; exact hmn))
            have Hx := Lib.hid hx
            have Hf1 := Lib.hid hf1
            clear hs hs1 hf hf1 hbk hcl hx hgeo
            unfold B8 at hxc hcc hp8
            generalize hcb : fl.bs[o + k]?.getD 0 = cb at hcc
            have Hcb := Lib.hid hcb
            clear hcb
            go_wp2
            go_region
            go_wp2
            go_ret
            rw [b_torn]
            refine ⟨rfl, ?_, ?_⟩
            · have hb2 := Hbk.out.set_ (o + k) (B8 (cb &&& ~~~(fl.mask &&& ~~~x)))
              rw [cellsB_set, ← Hcb.out] at hb2
              have hst := Hst.out
              rw [Hx.out] at hst
              rw [Option.getD_some] at hst
              rw [hst] at hb2
              have ho2 := hok.setCell (p := ⟨c, o + k, none⟩) (Or.inl rfl) (B8 (fl.bs[o + k]?.getD 0 &&& ~~~(fl.mask &&& ~~~x)))
              have hfin := Hf1.out.bytes ho2 Hf1.out.pc Hf1.out.cep.symm (by rw [fl.burn_geo.2.2.2.1]; simp) hb2
              rw [Hcb.out] at hfin
              unfold Fl.prog
              rw [Hxl.out, ← Hm.out]
              exact hfin.drew
            · exact (((ho1.mono (T := Three p c e) (fun i _ hi => Or.inl hi)).trans (hok.mono (fun i _ hi => Or.inr (Or.inl hi)))).setCell (p := ⟨c, o + k, none⟩) (Or.inl (Or.inr (Or.inl rfl))) _).drew
          · go_wp2
            go_ret
            refine ⟨rfl, ?_, ?_⟩
            · have hst := progF_all fl.bs o k xs fl.mask (by rw [Hxl.out]; exact hmn)
              rw [hst] at hbk
              have hfin := hf1.bytes hok hf1.pc hf1.cep.symm (by rw [fl.burn_geo.2.2.2.1]; simp) hbk
              have ho3 : fl.bs.mapIdx (tornF o xs k fl.mask) = fl.bs.mapIdx (tornF at_ xs k fl.mask) := by
                by_cases h0 : n = 0
                · have hx0 : xs.length = 0 := by rw [Hxl.out, h0]
                  have hk0 : k = 0 := by omega
                  subst hk0
                  rw [mapIdx_id, mapIdx_id]
                  · intro i b _; unfold tornF; rw [if_neg (by omega), if_neg (by omega)]
                  · intro i b _; unfold tornF; rw [if_neg (by omega), if_neg (by omega)]
                · rw [Ho.out, if_neg h0]
              rw [ho3] at hfin
              unfold Fl.prog
              rw [Hxl.out, ← Hm.out]
              exact hfin
            · exact (ho1.mono (fun i _ hi => Or.inl hi)).trans (hok.mono (fun i _ hi => Or.inr (Or.inl hi)))

theorem program_nil (a : Int) (A : Option Addr) (n cap : Nat) (w : World) :
    Calls Tryz.prog 162 #[.pointer none, .int .i64 a, .slice A n cap] w fun e w' => e = .returned (.int .i64 5) ∧ w = w' := by
  go_enter Tryz.func162, Tryz.ntmps162
  go_wp2_with fail
  refine (span_nil _ _ _).mono ?_
  rintro e1 w1 ⟨rfl, rfl⟩
  go_wp2
  go_ret
  exact ⟨rfl, rfl⟩

theorem program_down (p : Nat) (a : Int) (A : Option Addr) (n cap : Nat) (w : World) (h5 : w.cell? ⟨p, 5, none⟩ = some (.bool false)) :
    Calls Tryz.prog 162 #[.pointer (some ⟨p, 0, none⟩), .int .i64 a, .slice A n cap] w fun e w' => e = .returned (.int .i64 5) ∧ w = w' := by
  go_enter Tryz.func162, Tryz.ntmps162
  go_wp2_with fail
  refine (span_down _ _ _ _ h5).mono ?_
  rintro e1 w1 ⟨rfl, rfl⟩
  go_wp2
  go_ret
  exact ⟨rfl, rfl⟩

theorem program_out (p c e : Nat) (fl : Fl) (a : Int) (A : Option Addr) (n cap : Nat) (w : World) (hf : FlashAt w p c e fl) (hu : fl.up = true) (a2 : a ≤ 9223372036854775807) (hn : n ≤ maxLen)
    (h : a < 0 ∨ ((fl.S * fl.Z : Nat) : Int) < a + n) :
    Calls Tryz.prog 162 #[.pointer (some ⟨p, 0, none⟩), .int .i64 a, .slice A n cap] w fun e w' => e = .returned (.int .i64 2) ∧ w = w' := by
  have hsz := hf.ok.sz
  have hs := span_out p c (fl.S * fl.Z) a n w (by rw [hf.hd.cell]; simp [Fl.hdr, hu]) (by rw [hf.hd.cell]; simp [Fl.hdr]) (by omega) a2 (by unfold maxLen at hn; omega) (by omega)
  have Hs := Lib.hid hs
  clear hs hf hu h
  go_enter Tryz.func162, Tryz.ntmps162
  go_wp2_with fail
  refine Hs.out.mono ?_
  rintro e1 w1 ⟨rfl, rfl⟩
  go_wp2
  go_ret
  exact ⟨rfl, rfl⟩

set_option maxHeartbeats 2000000 in
theorem program_bits (p c e at_ n cap : Nat) (fl : Fl) (xs : List UInt8) (A : Option Addr) (w : World) (hf : FlashAt w p c e fl) (hu : fl.up = true) (hs : ByteSl w (Three p c e) A n cap xs)
    (hin : at_ + n ≤ fl.S * fl.Z) (hfit : ¬ Fits fl.bs at_ xs) :
    Calls Tryz.prog 162 #[.pointer (some ⟨p, 0, none⟩), .int .i64 (at_ : Int), .slice A n cap] w fun e1 w' => e1 = .returned (.int .i64 3) ∧ w = w' := by
  have hsz := hf.ok.sz
  have hxl := hs.1
  have hnc := hs.2.1
  have hspan := span_in p c (fl.S * fl.Z) at_ n w (by rw [hf.hd.cell]; simp [Fl.hdr, hu]) (by rw [hf.hd.cell]; simp [Fl.hdr]) (by omega) hin
  have h0 : ¬ n = 0 := fun h0 => hfit fun j hj => by omega
  rw [if_neg h0] at hspan
  have Hspan := Lib.hid hspan
  have Hxl := Lib.hid hxl
  have Hfit := Lib.hid hfit
  clear hspan hxl hu h0 hfit
  go_enter Tryz.func162, Tryz.ntmps162
  go_wp2_with fail
  refine Hspan.out.mono ?_
  rintro e1 w1 ⟨rfl, rfl⟩
  go_wp2_with fail
  go_loop [27] (fun i => ∃ k : Nat, k ≤ n ∧ i = .int .i64 (k : Int) ∧ ∀ j, j < k → (xs[j]?.getD 0) &&& ~~~(fl.bs[at_ + j]?.getD 0) = 0) (fun i => n - (intOf i).toNat)
  case atStart => exact ⟨0, Nat.zero_le _, rfl, fun j hj => by omega⟩
  case round =>
    obtain ⟨k, hk, rfl, hall⟩ := hrel
    have Hall := Lib.hid hall
    clear hall
    by_cases hlt : k < n
    · obtain ⟨ad, x, rfl, hab, hnS, hx, hxc⟩ := hs.at_ hlt
      have hcl : at_ + k < fl.bs.length := by rw [hf.ok.bl]; omega
      have hcc : w.cell? ⟨c, at_ + k, none⟩ = some (B8 (fl.bs[at_ + k]?.getD 0)) := by
        rw [hf.ce.cell]
        simp [hcl]
      have hgx : xs[k]?.getD 0 = x := by rw [hx]; rfl
      have Hgx := Lib.hid hgx
      unfold B8 at hxc hcc
      by_cases hz : x &&& ~~~(fl.bs[at_ + k]?.getD 0) = 0
      · have hz1 : (bits .andNot .u8 (x.toNat : Int) ((fl.bs[at_ + k]?.getD 0).toNat : Int) != 0) = false := by rw [b_andNot, hz]; rfl
        have Hz := Lib.hid hz
        generalize hgb : fl.bs[at_ + k]?.getD 0 = b at hz1 hcc
        have Hgb := Lib.hid hgb
        clear hgb hz hs hf hcl hx hgx
        go_wp2
        go_round
        case rel =>
          refine ⟨k + 1, by omega, by go_num, fun j hj => ?_⟩
          by_cases hjk : j = k
          · subst hjk; rw [Hgx.out]; exact Hz.out
          · exact Hall.out j (by omega)
        case measure => simp [intOf]; omega
      · have hz1 : (bits .andNot .u8 (x.toNat : Int) ((fl.bs[at_ + k]?.getD 0).toNat : Int) != 0) = true := by
          rw [b_andNot, bne_iff_ne]
          intro h
          apply hz
          apply UInt8.toNat_inj.1
          have h2 : (x &&& ~~~(fl.bs[at_ + k]?.getD 0)).toNat = 0 := by omega
          rw [h2]; rfl
        generalize hgb : fl.bs[at_ + k]?.getD 0 = b at hz1 hcc
        clear hgb hz hs hf hcl hx hgx
        go_wp2
        go_ret
        exact ⟨rfl, rfl⟩
    · exfalso
      apply Hfit.out
      intro j hj
      rw [Hxl.out] at hj
      exact Hall.out j (by omega)

end Go.Proofs.YtidbipbangifbaaGreatDoor

/- The walks over Read, Erases, Geometry, Reset, Fuse, sector, Erase. -/
namespace Go.Proofs.YtidbipbangifbaaGreatDoor
set_option maxRecDepth 100000
open Go.RowKit

/-! ### Read -/
theorem read_nil (a n : Int) (w : World) :
    Calls Tryz.prog 91 #[.pointer none, .int .i64 a, .int .i64 n] w fun e w' => e = .returned (.tuple #[.slice none 0 0, .int .i64 5]) ∧ w = w' := by
  go_enter Tryz.func91, Tryz.ntmps91
  go_wp2_with fail
  refine (span_nil _ _ _).mono ?_
  rintro e1 w1 ⟨rfl, rfl⟩
  go_wp2
  go_ret2
  exact ⟨rfl, rfl⟩

theorem read_down (p : Nat) (a n : Int) (w : World) (h5 : w.cell? ⟨p, 5, none⟩ = some (.bool false)) :
    Calls Tryz.prog 91 #[.pointer (some ⟨p, 0, none⟩), .int .i64 a, .int .i64 n] w fun e w' => e = .returned (.tuple #[.slice none 0 0, .int .i64 5]) ∧ w = w' := by
  go_enter Tryz.func91, Tryz.ntmps91
  go_wp2_with fail
  refine (span_down _ _ _ _ h5).mono ?_
  rintro e1 w1 ⟨rfl, rfl⟩
  go_wp2
  go_ret2
  exact ⟨rfl, rfl⟩

theorem read_out (p c e : Nat) (fl : Fl) (a n : Int) (w : World) (hf : FlashAt w p c e fl) (hu : fl.up = true) (a2 : a ≤ 9223372036854775807) (n2 : n ≤ 9223372036854775807)
    (h : a < 0 ∨ n < 0 ∨ ((fl.S * fl.Z : Nat) : Int) < a + n) :
    Calls Tryz.prog 91 #[.pointer (some ⟨p, 0, none⟩), .int .i64 a, .int .i64 n] w fun e w' => e = .returned (.tuple #[.slice none 0 0, .int .i64 2]) ∧ w = w' := by
  have hsz := hf.ok.sz
  have hs := span_out p c (fl.S * fl.Z) a n w (by rw [hf.hd.cell]; simp [Fl.hdr, hu]) (by rw [hf.hd.cell]; simp [Fl.hdr]) (by omega) a2 n2 h
  have Hs := Lib.hid hs
  clear hs hf hu h
  go_enter Tryz.func91, Tryz.ntmps91
  go_wp2_with fail
  refine Hs.out.mono ?_
  rintro e1 w1 ⟨rfl, rfl⟩
  go_wp2
  go_ret2
  exact ⟨rfl, rfl⟩

/-- What is read is new memory. -/
def ReadOk (w w' : World) (n : Nat) (xs : List UInt8) (e : Ending) : Prop :=
  ∃ v, e = .returned (.tuple #[v, .int .i64 0]) ∧ w'.ownsRow w.heap.size 5 1 v n (xs.map B8) ∧ Below w.heap.size w w'

set_option maxHeartbeats 1000000 in
theorem read_in (p c e at_ n : Nat) (fl : Fl) (w : World) (hf : FlashAt w p c e fl) (hu : fl.up = true) (h : at_ + n ≤ fl.S * fl.Z) :
    Calls Tryz.prog 91 #[.pointer (some ⟨p, 0, none⟩), .int .i64 (at_ : Int), .int .i64 (n : Int)] w fun e w' => ReadOk w w' n ((fl.bs.drop at_).take n) e := by
  have hsz := hf.ok.sz
  have hs := span_in p c (fl.S * fl.Z) at_ n w (by rw [hf.hd.cell]; simp [Fl.hdr, hu]) (by rw [hf.hd.cell]; simp [Fl.hdr]) (by omega) h
  obtain ⟨o, ho⟩ : ∃ o, o = if n = 0 then 0 else at_ := ⟨_, rfl⟩
  rw [← ho] at hs
  have Hs := Lib.hid hs
  have Ho := Lib.hid ho
  clear hs ho hu
  obtain ⟨i0, hi, hz0, hz1, hz2⟩ := info_parts Tryz.infoU8
  have hlen : (((fl.bs.drop at_).take n).map B8).length = n * 1 := by
    simp [hf.ok.bl]; omega
  have hcells : ∀ j u, (((fl.bs.drop at_).take n).map B8)[j]? = some u → w.cell? ((⟨c, o, none⟩ : Addr).add j) = some u := by
    intro j u hj
    have hjn : j < n := by
      have := (List.getElem?_eq_some_iff.1 hj).1
      omega
    have ho : o = at_ := by rw [Ho.out, if_neg (by omega)]
    subst ho
    have ha : (⟨c, o, none⟩ : Addr).add j = ⟨c, o + j, none⟩ := by unfold Addr.add; split <;> simp_all
    rw [ha, hf.ce.cell]
    rw [List.getElem?_map, List.getElem?_take, if_pos hjn, List.getElem?_drop] at hj
    simpa using hj
  have h1 : ∀ u ∈ (((fl.bs.drop at_).take n).map B8), u.oneCell' = true := by
    intro u hm
    obtain ⟨b, _, rfl⟩ := List.mem_map.1 hm
    rfl
  have hnm : n ≤ 4194304 := by omega
  obtain ⟨news, hnews⟩ : ∃ l, l = ((fl.bs.drop at_).take n).map B8 := ⟨_, rfl⟩
  rw [← hnews] at hlen hcells h1
  have Hnews := Lib.hid hnews
  have Hl := Lib.hid hlen
  have Hc := Lib.hid hcells
  have H1 := Lib.hid h1
  have Hi := Lib.hid hi
  have Hz0 := Lib.hid hz0
  have Hz1 := Lib.hid hz1
  have Hz2 := Lib.hid hz2
  clear hlen hcells h1 hi hz0 hz1 hz2 hf hnews
  go_enter Tryz.func91, Tryz.ntmps91
  go_wp2_with fail
  refine Hs.out.mono ?_
  rintro e1 w1 ⟨rfl, rfl⟩
  go_wp2_with (at_builtin; refine wpList_append_own_at _ rfl (.const (.slice none 0 0)) (.tmp 20) 22 rfl w.heap.size 5 i0 (.int .u8 0) 1 1 Tryz.underlying22 Hi.out Hz0.out Hz1.out Hz2.out rfl (by decide) (.slice none 0 0) 0 [] rfl (World.ownsRow_nil _ _ _ _) ⟨c, o, none⟩ n n news rfl Hl.out Hc.out H1.out ?c3 ?c4 ?c5 ?_)
  case c3 => unfold maxLen; omega
  case c4 => omega
  case c5 => exact Nat.le_refl _
  intro v1 w1 hown hg _ hat
  go_wp2
  go_ret2
  rw [Hnews.out] at hown
  exact ⟨v1, rfl, hown, (Below.refl _ _).grown hg (Nat.le_refl _) (by intro k hk; simp [Value.ownBlock] at hk)⟩

/-! ### Erases, Geometry, Reset, Fuse -/
theorem erases_nil (k : Int) (w : World) :
    Calls Tryz.prog 94 #[.pointer none, .int .i64 k] w fun e w' => e = .returned (.int .i64 0) ∧ w = w' := by
  go_enter Tryz.func94, Tryz.ntmps94
  go_wp2_with fail
  refine (has_nil _ _).mono ?_
  rintro e1 w1 ⟨rfl, rfl⟩
  go_wp2
  go_ret
  exact ⟨rfl, rfl⟩

theorem erases_out (p c e : Nat) (fl : Fl) (k : Int) (w : World) (hf : FlashAt w p c e fl) (h : k < 0 ∨ (fl.S : Int) ≤ k) :
    Calls Tryz.prog 94 #[.pointer (some ⟨p, 0, none⟩), .int .i64 k] w fun e w' => e = .returned (.int .i64 0) ∧ w = w' := by
  have hh := has_any p e fl.S k w (by rw [hf.hd.cell]; simp [Fl.hdr])
  have hb : (decide (0 ≤ k) && decide (k < (fl.S : Int))) = false := by simp; omega
  rw [hb] at hh
  have Hh := Lib.hid hh
  clear hh hf hb h
  go_enter Tryz.func94, Tryz.ntmps94
  go_wp2_with fail
  refine Hh.out.mono ?_
  rintro e1 w1 ⟨rfl, rfl⟩
  go_wp2
  go_ret
  exact ⟨rfl, rfl⟩

theorem erases_in (p c e k m : Nat) (fl : Fl) (w : World) (hf : FlashAt w p c e fl) (h : fl.er[k]? = some m) :
    Calls Tryz.prog 94 #[.pointer (some ⟨p, 0, none⟩), .int .i64 (k : Int)] w fun e w' => e = .returned (.int .i64 (m : Int)) ∧ w = w' := by
  have hk : k < fl.S := by have := (List.getElem?_eq_some_iff.1 h).1; rw [hf.ok.el] at this; exact this
  have hh := has_any p e fl.S k w (by rw [hf.hd.cell]; simp [Fl.hdr])
  have hb : (decide (0 ≤ (k : Int)) && decide ((k : Int) < (fl.S : Int))) = true := by simp; omega
  rw [hb] at hh
  have Hh := Lib.hid hh
  have h4 : w.cell? ⟨p, 4, none⟩ = some (.slice (some ⟨e, 0, none⟩) fl.S fl.S) := by rw [hf.hd.cell]; simp [Fl.hdr]
  have hc : w.cell? ⟨e, k, none⟩ = some (.int .i64 (m : Int)) := by rw [hf.er.cell]; simp [h]
  have hs := hf.ok.s2
  clear hh hf hb h
  go_enter Tryz.func94, Tryz.ntmps94
  go_wp2_with fail
  refine Hh.out.mono ?_
  rintro e1 w1 ⟨rfl, rfl⟩
  go_wp2
  go_ret
  exact ⟨rfl, rfl⟩

theorem geometry_nil (w : World) :
    Calls Tryz.prog 30 #[.pointer none] w fun e w' => e = .returned (.agg #[.int .i64 0, .int .i64 0, .int .i64 0]) ∧ Below w.heap.size w w' := by
  go_enter Tryz.func30, Tryz.ntmps30
  go_wp2
  refine bodyPost_ret (v := .agg #[.int .i64 0, .int .i64 0, .int .i64 0]) (by simp [results, Tryz.results30, go_sem]) rfl ⟨rfl, ?_⟩
  exact (Below.refl _ _).alloc (Nat.le_refl _) _

theorem geometry_any (p c e : Nat) (fl : Fl) (w : World) (hf : FlashAt w p c e fl) :
    Calls Tryz.prog 30 #[.pointer (some ⟨p, 0, none⟩)] w fun e w' => e = .returned (.agg #[.int .i64 (fl.S : Int), .int .i64 (fl.Z : Int), .int .i64 (fl.L : Int)]) ∧ Below w.heap.size w w' := by
  have h0 : w.cell? ⟨p, 0, none⟩ = some (.int .i64 (fl.S : Int)) := by rw [hf.hd.cell]; simp [Fl.hdr]
  have h1 : w.cell? ⟨p, 1, none⟩ = some (.int .i64 (fl.Z : Int)) := by rw [hf.hd.cell]; simp [Fl.hdr]
  have h2 : w.cell? ⟨p, 2, none⟩ = some (.int .i64 (fl.L : Int)) := by rw [hf.hd.cell]; simp [Fl.hdr]
  have hp := hf.hd.lt
  clear hf
  go_enter Tryz.func30, Tryz.ntmps30
  go_wp2
  refine bodyPost_ret (v := .agg #[.int .i64 (fl.S : Int), .int .i64 (fl.Z : Int), .int .i64 (fl.L : Int)]) (by simp [results, Tryz.results30, go_sem]) rfl ⟨rfl, ?_⟩
  exact (Below.refl _ _).alloc (Nat.le_refl _) _

theorem reset_nil (w : World) :
    Calls Tryz.prog 16 #[.pointer none] w fun e w' => e = .returned (.tuple #[]) ∧ w = w' := by
  go_enter Tryz.func16, Tryz.ntmps16
  go_wp2
  go_end0
  exact ⟨rfl, rfl⟩

def Fl.reset (fl : Fl) : Fl := { fl with up := true, fuse := -1, keep := 0, mask := 0 }

theorem reset_any (p c e : Nat) (fl : Fl) (w : World) (hf : FlashAt w p c e fl) :
    Calls Tryz.prog 16 #[.pointer (some ⟨p, 0, none⟩)] w fun e1 w' => e1 = .returned (.tuple #[]) ∧ FlashAt w' p c e fl.reset ∧ Only (· = p) w w' := by
  have hh := hf.hd.cell
  have h5 : w.cell? ⟨p, 5, none⟩ = some (.bool fl.up) := by rw [hh]; simp [Fl.hdr]
  have h6 : w.cell? ⟨p, 6, none⟩ = some (.int .i64 fl.fuse) := by rw [hh]; simp [Fl.hdr]
  have h7 : w.cell? ⟨p, 7, none⟩ = some (.int .i64 fl.keep) := by rw [hh]; simp [Fl.hdr]
  have h8 : w.cell? ⟨p, 8, none⟩ = some (.int .u8 (fl.mask.toNat : Int)) := by rw [hh]; simp [Fl.hdr, B8]
  have f5 := hf.hd.frozen 5
  have f6 := hf.hd.frozen 6
  have f7 := hf.hd.frozen 7
  have f8 := hf.hd.frozen 8
  have Hf := Lib.hid hf
  clear hf hh
  go_enter Tryz.func16, Tryz.ntmps16
  go_wp2
  go_end0
  have hf := Hf.out
  refine ⟨rfl, ⟨⟨hf.ok.s1, hf.ok.s2, hf.ok.z1, hf.ok.z2, hf.ok.l1, hf.ok.l2, hf.ok.bl, hf.ok.el, hf.ok.eb, by simp [Fl.reset], by simp [Fl.reset], by simp [Fl.reset], by simp [Fl.reset]⟩, ?_, ?_, ?_⟩, ?_⟩
  · have h2 := (((hf.hd.set_ 5 (.bool true)).set_ 6 (.int .i64 (-1))).set_ 7 (.int .i64 0)).set_ 8 (.int .u8 0)
    exact h2
  · have hp : c ≠ p := hf.pc.symm
    exact (((hf.ce.far (p := ⟨p, 5, none⟩) hp _).far (p := ⟨p, 6, none⟩) hp _).far (p := ⟨p, 7, none⟩) hp _).far (p := ⟨p, 8, none⟩) hp _
  · have hp : e ≠ p := hf.pe.symm
    exact (((hf.er.far (p := ⟨p, 5, none⟩) hp _).far (p := ⟨p, 6, none⟩) hp _).far (p := ⟨p, 7, none⟩) hp _).far (p := ⟨p, 8, none⟩) hp _
  · exact ((((Only.refl (· = p) w).setCell (p := ⟨p, 5, none⟩) (Or.inl rfl) _).setCell (p := ⟨p, 6, none⟩) (Or.inl rfl) _).setCell (p := ⟨p, 7, none⟩) (Or.inl rfl) _).setCell (p := ⟨p, 8, none⟩) (Or.inl rfl) _

theorem fuse_nil (n k : Int) (m : UInt8) (w : World) :
    Calls Tryz.prog 14 #[.pointer none, .int .i64 n, .agg #[.int .i64 k, B8 m]] w fun e w' => e = .returned (.tuple #[]) ∧ Below w.heap.size w w' := by
  unfold B8
  go_enter Tryz.func14, Tryz.ntmps14
  go_wp2
  go_end0
  exact ⟨rfl, (Below.refl _ _).alloc (Nat.le_refl _) _⟩

def Fl.fused (fl : Fl) (n k : Int) (m : UInt8) : Fl := { fl with fuse := n, keep := k, mask := m }

set_option maxHeartbeats 1000000 in
theorem fuse_any (p c e : Nat) (fl : Fl) (n k : Int) (m : UInt8) (w : World) (hf : FlashAt w p c e fl) (n1 : -9223372036854775808 ≤ n) (n2 : n ≤ 9223372036854775807) (k1 : -9223372036854775808 ≤ k) (k2 : k ≤ 9223372036854775807) :
    Calls Tryz.prog 14 #[.pointer (some ⟨p, 0, none⟩), .int .i64 n, .agg #[.int .i64 k, B8 m]] w fun e1 w' => e1 = .returned (.tuple #[]) ∧ FlashAt w' p c e (fl.fused n k m) ∧ Only (· = p) w w' := by
  have hh := hf.hd.cell
  have h6 : w.cell? ⟨p, 6, none⟩ = some (.int .i64 fl.fuse) := by rw [hh]; simp [Fl.hdr]
  have h7 : w.cell? ⟨p, 7, none⟩ = some (.int .i64 fl.keep) := by rw [hh]; simp [Fl.hdr]
  have h8 : w.cell? ⟨p, 8, none⟩ = some (.int .u8 (fl.mask.toNat : Int)) := by rw [hh]; simp [Fl.hdr, B8]
  have f6 := hf.hd.frozen 6
  have f7 := hf.hd.frozen 7
  have f8 := hf.hd.frozen 8
  have hlt := hf.hd.lt
  have Hf := Lib.hid hf
  clear hf hh
  unfold B8
  go_enter Tryz.func14, Tryz.ntmps14
  go_wp2
  go_region
  go_end0
  have hf := Hf.out
  refine ⟨rfl, FlashAt.drew ⟨⟨hf.ok.s1, hf.ok.s2, hf.ok.z1, hf.ok.z2, hf.ok.l1, hf.ok.l2, hf.ok.bl, hf.ok.el, hf.ok.eb, n1, n2, k1, k2⟩, Blk.alloc ?_ _, Blk.alloc ?_ _, Blk.alloc ?_ _⟩, Only.drew (Only.alloc ?_ _)⟩
  · have h2 := ((hf.hd.set_ 6 (.int .i64 n)).set_ 7 (.int .i64 k)).set_ 8 (B8 m)
    exact h2
  · have hp : c ≠ p := hf.pc.symm
    exact ((hf.ce.far (p := ⟨p, 6, none⟩) hp _).far (p := ⟨p, 7, none⟩) hp _).far (p := ⟨p, 8, none⟩) hp _
  · have hp : e ≠ p := hf.pe.symm
    exact ((hf.er.far (p := ⟨p, 6, none⟩) hp _).far (p := ⟨p, 7, none⟩) hp _).far (p := ⟨p, 8, none⟩) hp _
  · exact (((Only.refl (· = p) w).setCell (p := ⟨p, 6, none⟩) (Or.inl rfl) _).setCell (p := ⟨p, 7, none⟩) (Or.inl rfl) _).setCell (p := ⟨p, 8, none⟩) (Or.inl rfl) _

/-! ### sector, Erase -/
set_option maxHeartbeats 1000000 in
theorem sector_any (p c S Z k : Nat) (w : World) (h1 : w.cell? ⟨p, 1, none⟩ = some (.int .i64 (Z : Int))) (h3 : w.cell? ⟨p, 3, none⟩ = some (.slice (some ⟨c, 0, none⟩) (S * Z) (S * Z)))
    (hZ : 1 ≤ Z) (hT : S * Z ≤ 4194304) (hk : k < S) :
    Calls Tryz.prog 129 #[.pointer (some ⟨p, 0, none⟩), .int .i64 (k : Int)] w fun e1 w' => e1 = .returned (.slice (some ⟨c, k * Z, none⟩) Z Z) ∧ w = w' := by
  have hkz : k * Z + Z ≤ S * Z := by
    have := Nat.mul_le_mul_right Z (show k + 1 ≤ S by omega)
    rw [Nat.add_mul] at this
    omega
  obtain ⟨q, hq⟩ : ∃ q, q = k * Z := ⟨_, rfl⟩
  have hqi : (k : Int) * (Z : Int) = (q : Int) := by rw [hq]; simp
  rw [← hq] at hkz ⊢
  obtain ⟨T, hTT⟩ : ∃ T, T = S * Z := ⟨_, rfl⟩
  rw [← hTT] at h3 hT hkz
  clear hq hTT
  have hw : IntKind.i64.wrap ((k : Int) * (Z : Int)) = (q : Int) := by rw [hqi, IntKind.wrap_i64]; omega
  have hsub : q + Z - q = Z := by omega
  have Hsub := Lib.hid hsub
  clear hsub
  go_enter Tryz.func129, Tryz.ntmps129
  go_wp2
  go_ret
  refine ⟨?_, rfl⟩
  show Ending.returned (.slice (some ⟨c, q, none⟩) (q + Z - q) (q + Z - q)) = _
  rw [Hsub.out]

theorem erase_nil (k : Int) (w : World) :
    Calls Tryz.prog 102 #[.pointer none, .int .i64 k] w fun e w' => e = .returned (.int .i64 5) ∧ w = w' := by
  go_enter Tryz.func102, Tryz.ntmps102
  go_wp2_with fail
  refine (isDown_nil _).mono ?_
  rintro e1 w1 ⟨rfl, rfl⟩
  go_wp2
  go_ret
  exact ⟨rfl, rfl⟩

theorem erase_down (p : Nat) (k : Int) (w : World) (h5 : w.cell? ⟨p, 5, none⟩ = some (.bool false)) :
    Calls Tryz.prog 102 #[.pointer (some ⟨p, 0, none⟩), .int .i64 k] w fun e w' => e = .returned (.int .i64 5) ∧ w = w' := by
  go_enter Tryz.func102, Tryz.ntmps102
  go_wp2_with fail
  refine (isDown_any _ _ _ h5).mono ?_
  rintro e1 w1 ⟨rfl, rfl⟩
  go_wp2
  go_ret
  exact ⟨rfl, rfl⟩

theorem erase_out (p c e : Nat) (fl : Fl) (k : Int) (w : World) (hf : FlashAt w p c e fl) (hu : fl.up = true) (h : k < 0 ∨ (fl.S : Int) ≤ k) :
    Calls Tryz.prog 102 #[.pointer (some ⟨p, 0, none⟩), .int .i64 k] w fun e w' => e = .returned (.int .i64 2) ∧ w = w' := by
  have hh := has_any p e fl.S k w (by rw [hf.hd.cell]; simp [Fl.hdr])
  have hb : (decide (0 ≤ k) && decide (k < (fl.S : Int))) = false := by simp; omega
  rw [hb] at hh
  have Hh := Lib.hid hh
  have hd := isDown_any p true w (by rw [hf.hd.cell]; simp [Fl.hdr, hu])
  have Hd := Lib.hid hd
  clear hh hf hb h hd
  go_enter Tryz.func102, Tryz.ntmps102
  go_wp2_with fail
  refine Hd.out.mono ?_
  rintro e1 w1 ⟨rfl, rfl⟩
  go_wp2_with fail
  refine Hh.out.mono ?_
  rintro e1 w1 ⟨rfl, rfl⟩
  go_wp2
  go_ret
  exact ⟨rfl, rfl⟩

/-- From o on m of Z bytes are 255; of the next one those bits that the mask has. -/
def eraseF (o m Z : Nat) (mask : UInt8) : Nat → UInt8 → UInt8 := fun i b => if o ≤ i ∧ i < o + m then 255 else if i = o + m ∧ m < Z then b ||| mask else b

theorem eraseF_all (bs : List UInt8) (o m Z : Nat) (mask : UInt8) (h : ¬ m < Z) : bs.mapIdx (fillF o m) = bs.mapIdx (eraseF o m Z mask) := by
  congr 1
  funext i b
  unfold fillF eraseF
  by_cases h1 : o ≤ i ∧ i < o + m
  · rw [if_pos h1, if_pos h1]
  · rw [if_neg h1, if_neg h1, if_neg (by omega)]
theorem eraseF_torn (bs : List UInt8) (o m Z : Nat) (mask : UInt8) (h : m < Z) : (bs.mapIdx (fillF o m)).set (o + m) ((bs[o + m]?.getD 0) ||| mask) = bs.mapIdx (eraseF o m Z mask) := by
  apply set_mapIdx
  · intro b hb
    unfold eraseF
    rw [if_neg (by omega), if_pos ⟨rfl, h⟩, hb]
    rfl
  · intro j b hj
    unfold fillF eraseF
    by_cases h1 : o ≤ j ∧ j < o + m
    · rw [if_pos h1, if_pos h1]
    · rw [if_neg h1, if_neg h1, if_neg (by omega)]

def Fl.erased (fl : Fl) (k : Nat) : Fl :=
  { fl.burn with bs := fl.bs.mapIdx (eraseF (k * fl.Z) (fl.many fl.Z) fl.Z fl.mask), er := fl.er.set k ((fl.er[k]?.getD 0) + 1) }

set_option maxHeartbeats 2000000 in
theorem erase_worn (p c e k m : Nat) (fl : Fl) (w : World) (hf : FlashAt w p c e fl) (hu : fl.up = true) (hm : fl.er[k]? = some m) (h : fl.L ≤ m) :
    Calls Tryz.prog 102 #[.pointer (some ⟨p, 0, none⟩), .int .i64 (k : Int)] w fun e1 w' => e1 = .returned (.int .i64 4) ∧ ∃ n, w' = w.drewN n := by
  have hk : k < fl.S := by have := (List.getElem?_eq_some_iff.1 hm).1; rw [hf.ok.el] at this; exact this
  have hh := has_any p e fl.S k w (by rw [hf.hd.cell]; simp [Fl.hdr])
  have hb : (decide (0 ≤ (k : Int)) && decide ((k : Int) < (fl.S : Int))) = true := by simp; omega
  rw [hb] at hh
  have Hh := Lib.hid hh
  have hd := isDown_any p true w (by rw [hf.hd.cell]; simp [Fl.hdr, hu])
  have Hd := Lib.hid hd
  have h4 : w.cell? ⟨p, 4, none⟩ = some (.slice (some ⟨e, 0, none⟩) fl.S fl.S) := by rw [hf.hd.cell]; simp [Fl.hdr]
  have h2 : w.cell? ⟨p, 2, none⟩ = some (.int .i64 (fl.L : Int)) := by rw [hf.hd.cell]; simp [Fl.hdr]
  have hc : w.cell? ⟨e, k, none⟩ = some (.int .i64 (m : Int)) := by rw [hf.er.cell]; simp [hm]
  have hs := hf.ok.s2
  have hki : (k : Int) < (fl.S : Int) := by omega
  have hk0 : (0 : Int) ≤ (k : Int) := by omega
  clear hh hf hb hd hm hu
  go_enter Tryz.func102, Tryz.ntmps102
  go_wp2_with fail
  refine Hd.out.mono ?_
  rintro e1 w1 ⟨rfl, rfl⟩
  go_wp2_with fail
  refine Hh.out.mono ?_
  rintro e1 w1 ⟨rfl, rfl⟩
  go_wp2_with fail
  go_quiet (fail)
  go_wp2
  go_ret
  exact ⟨rfl, _, rfl⟩

theorem erased_at {w' : World} {p c e k m : Nat} {fl : Fl} (hok : fl.burn.Ok) (hm : fl.er[k]? = some m) (hml : m < fl.L) (hd : Blk w' p 93 (fl.burn.hdr c e))
    (hc : Blk w' c 5 (cellsB (fl.bs.mapIdx (eraseF (k * fl.Z) (fl.many fl.Z) fl.Z fl.mask))))
    (he : Blk w' e 3 ((fl.er.map fun (n : Nat) => Value.int .i64 (n : Int)).toArray.setIfInBounds k (.int .i64 ((m : Int) + 1)))) : FlashAt w' p c e (fl.erased k) := by
  have hb := hok.bl
  have hel := hok.el
  have heb := hok.eb
  rw [fl.burn_geo.2.2.2.1] at hb
  rw [fl.burn_geo.2.2.2.2] at hel heb
  refine ⟨⟨hok.s1, hok.s2, hok.z1, hok.z2, hok.l1, hok.l2, ?_, ?_, ?_, hok.f1, hok.f2, hok.k1, hok.k2⟩, hd, hc, ?_⟩
  · show (fl.bs.mapIdx _).length = _
    rw [List.length_mapIdx]; exact hb
  · show (fl.er.set k _).length = _
    rw [List.length_set]; exact hel
  · intro i n hi
    have hi2 : (fl.er.set k ((fl.er[k]?.getD 0) + 1))[i]? = some n := hi
    show n ≤ fl.burn.L
    rw [List.getElem?_set] at hi2
    by_cases hik : k = i
    · rw [if_pos hik] at hi2
      split at hi2
      · rw [hm] at hi2
        simp at hi2
        rw [fl.burn_geo.2.2.1]
        omega
      · cases hi2
    · rw [if_neg hik] at hi2
      exact heb i n hi2
  · show Blk w' e 3 (((fl.er.set k ((fl.er[k]?.getD 0) + 1)).map fun (n : Nat) => Value.int .i64 (n : Int)).toArray)
    have e1 : ((fl.er.set k ((fl.er[k]?.getD 0) + 1)).map fun (n : Nat) => Value.int .i64 (n : Int)).toArray = (fl.er.map fun (n : Nat) => Value.int .i64 (n : Int)).toArray.setIfInBounds k (.int .i64 ((m : Int) + 1)) := by
      rw [hm]
      simp [List.map_set]
    rw [e1]
    exact he

theorem b_orm (b mask : UInt8) : Value.int .u8 (bits .or .u8 (b.toNat : Int) (mask.toNat : Int)) = B8 (b ||| mask) := by
  rw [b_or]
  rfl

set_option maxHeartbeats 4000000 in
theorem erase_in (p c e k m : Nat) (fl : Fl) (w : World) (hf : FlashAt w p c e fl) (hu : fl.up = true) (hm : fl.er[k]? = some m) (h : m < fl.L) :
    Calls Tryz.prog 102 #[.pointer (some ⟨p, 0, none⟩), .int .i64 (k : Int)] w fun e1 w' => e1 = .returned (.int .i64 fl.code) ∧ FlashAt w' p c e (fl.erased k) ∧ Only (Three p c e) w w' := by
  have hk : k < fl.S := by have := (List.getElem?_eq_some_iff.1 hm).1; rw [hf.ok.el] at this; exact this
  have hh := has_any p e fl.S k w (by rw [hf.hd.cell]; simp [Fl.hdr])
  have hb : (decide (0 ≤ (k : Int)) && decide ((k : Int) < (fl.S : Int))) = true := by simp; omega
  rw [hb] at hh
  have Hh := Lib.hid hh
  have hd := isDown_any p true w (by rw [hf.hd.cell]; simp [Fl.hdr, hu])
  have Hd := Lib.hid hd
  have h4 : w.cell? ⟨p, 4, none⟩ = some (.slice (some ⟨e, 0, none⟩) fl.S fl.S) := by rw [hf.hd.cell]; simp [Fl.hdr]
  have h2 : w.cell? ⟨p, 2, none⟩ = some (.int .i64 (fl.L : Int)) := by rw [hf.hd.cell]; simp [Fl.hdr]
  have hc : w.cell? ⟨e, k, none⟩ = some (.int .i64 (m : Int)) := by rw [hf.er.cell]; simp [hm]
  have hs := hf.ok.s2
  have hz1 := hf.ok.z1
  have hz2 := hf.ok.z2
  have hl2 := hf.ok.l2
  have hsz := hf.ok.sz
  have hkz : k * fl.Z + fl.Z ≤ fl.S * fl.Z := by
    have := Nat.mul_le_mul_right fl.Z (show k + 1 ≤ fl.S by omega)
    rw [Nat.add_mul] at this
    omega
  have hki : (k : Int) < (fl.S : Int) := by omega
  have hk0 : (0 : Int) ≤ (k : Int) := by omega
  have Hu := Lib.hid hu
  have Hm := Lib.hid hm
  clear hh hb hd hm hu
  have Hf := Lib.hid hf
  clear hf
  go_enter Tryz.func102, Tryz.ntmps102
  go_wp2_with fail
  refine Hd.out.mono ?_
  rintro e1 w1 ⟨rfl, rfl⟩
  go_wp2_with fail
  refine Hh.out.mono ?_
  rintro e1 w1 ⟨rfl, rfl⟩
  go_wp2_with fail
  go_quiet (fail)
  go_wp2_with fail
  have hfn := Hf.out.drewN nq
  refine (sector_any p c fl.S fl.Z k (w.drewN nq) (by rw [hfn.hd.cell]; simp [Fl.hdr]) (by rw [hfn.hd.cell]; simp [Fl.hdr]) (by omega) (by omega) hk).mono ?_
  rintro e1 w1 ⟨rfl, rfl⟩
  go_wp2_with fail
  refine (act_any p c e fl fl.Z _ hfn Hu.out (by omega)).mono ?_
  rintro e1 w1 ⟨rfl, hf1, ho1⟩
  have hml := fl.many_le fl.Z
  obtain ⟨q, hq⟩ : ∃ q, q = fl.many fl.Z := ⟨_, rfl⟩
  rw [← hq] at hml ⊢
  obtain ⟨o, hok⟩ : ∃ o, o = k * fl.Z := ⟨_, rfl⟩
  rw [← hok] at hkz ⊢
  have Hq := Lib.hid hq
  have Hok := Lib.hid hok
  clear hq hok h4 h2 hc
  go_wp2_with fail
  refine (fill_any c o q fl.Z fl.burn.bs w1 hf1.ce (by rw [hf1.ok.bl, fl.burn_geo.1, fl.burn_geo.2.1]; omega) (by omega)).mono ?_
  rintro e1 w2 ⟨rfl, hb2, ho2⟩
  rw [fl.burn_geo.2.2.2.1] at hb2
  have hhd := ho2.blk hf1.hd hf1.pc
  have her := ho2.blk hf1.er hf1.cep.symm
  rw [fl.burn_geo.2.2.2.2] at her
  have hp4 : w2.cell? ⟨p, 4, none⟩ = some (.slice (some ⟨e, 0, none⟩) fl.S fl.S) := by rw [hhd.cell]; simp [Fl.hdr, fl.burn_geo]
  have hp8 : w2.cell? ⟨p, 8, none⟩ = some (.int .u8 (fl.mask.toNat : Int)) := by rw [hhd.cell]; simp [Fl.hdr, fl.burn_rest.1, B8]
  have hek : w2.cell? ⟨e, k, none⟩ = some (.int .i64 (m : Int)) := by rw [her.cell]; simp [Hm.out]
  have fek := her.frozen k
  have npc : ¬ p = c := hf1.pc
  have nec : ¬ e = c := hf1.cep.symm
  have nep : ¬ e = p := hf1.pe.symm
  have ho3 : Only (Three p c e) w w2 := by
    have h1 : Only (Three p c e) (w.drewN nq) w1 := ho1.mono (fun i _ hi => Or.inl hi)
    have h2 : Only (Three p c e) w1 w2 := ho2.mono (fun i _ hi => Or.inr (Or.inl hi))
    exact ((Only.refl (Three p c e) w).drewN nq).trans (h1.trans h2)
  have Hf1 := Lib.hid hf1
  have Hhd := Lib.hid hhd
  have Her := Lib.hid her
  have Hb2 := Lib.hid hb2
  have Ho2 := Lib.hid ho2
  have Ho3 := Lib.hid ho3
  clear hf1 hhd her hfn ho1 hb2 ho2 ho3
  have hb2 := Hb2.out
  by_cases hqz : q < fl.Z
  · have hcl : o + q < fl.bs.length := by rw [Hf.out.ok.bl]; omega
    have hcc : w2.cell? ⟨c, o + q, none⟩ = some (B8 (fl.bs[o + q]?.getD 0)) := by
      rw [hb2.cell, cellsB_get, List.getElem?_mapIdx]
      simp [hcl, fillF]
    have fcc := hb2.frozen (o + q)
    unfold B8 at hcc
    clear hb2 hcl
    generalize hcb : fl.bs[o + q]?.getD 0 = cb at hcc
    have Hcb := Lib.hid hcb
    clear hcb
    go_wp2
    go_region
    go_wp2
    go_ret
    rw [b_orm]
    refine ⟨rfl, ?_, ?_⟩
    · have hb3 := (Hb2.out.set_ (o + q) (B8 (cb ||| fl.mask))).far (p := ⟨e, k, none⟩) (fun h => nec h.symm) (.int .i64 ((m : Int) + 1))
      have hl : (fl.bs.mapIdx (fillF o q)).set (o + q) (cb ||| fl.mask) = fl.bs.mapIdx (eraseF (k * fl.Z) (fl.many fl.Z) fl.Z fl.mask) := by
        rw [← Hcb.out, eraseF_torn _ _ _ _ _ hqz, Hok.out, Hq.out]
      rw [cellsB_set, hl] at hb3
      have hfin := erased_at (w' := ((w2.setCell ⟨c, o + q, none⟩ (B8 (cb ||| fl.mask))).setCell ⟨e, k, none⟩ (.int .i64 ((m : Int) + 1)))) Hf1.out.ok Hm.out h
        ((Hhd.out.far (p := ⟨c, o + q, none⟩) npc _).far (p := ⟨e, k, none⟩) (fun h => nep h.symm) _) hb3 ((Her.out.far (p := ⟨c, o + q, none⟩) nec _).set_ _ _)
      exact hfin.drew
    · exact ((Ho3.out.setCell (p := ⟨c, o + q, none⟩) (Or.inl (Or.inr (Or.inl rfl))) _).setCell (p := ⟨e, k, none⟩) (Or.inl (Or.inr (Or.inr rfl))) _).drew
  · clear hb2
    go_wp2
    go_ret
    refine ⟨rfl, ?_, ?_⟩
    · have hb3 := Hb2.out.far (p := ⟨e, k, none⟩) (fun h => nec h.symm) (.int .i64 ((m : Int) + 1))
      rw [eraseF_all _ _ _ _ fl.mask hqz, Hok.out, Hq.out] at hb3
      exact erased_at Hf1.out.ok Hm.out h (Hhd.out.far (p := ⟨e, k, none⟩) (fun h => nep h.symm) _) hb3 (Her.out.set_ _ _)
    · exact Ho3.out.setCell (p := ⟨e, k, none⟩) (Or.inl (Or.inr (Or.inr rfl))) _

end Go.Proofs.YtidbipbangifbaaGreatDoor

/- The walks over mayBe and New. -/
namespace Go.Proofs.YtidbipbangifbaaGreatDoor
set_option maxRecDepth 100000
open Go.RowKit

theorem within_yes (a b c : Int) (w : World) (h : b ≤ a ∧ a ≤ c) :
    Calls Tryz.prog 88 #[.int .i64 a, .int .i64 b, .int .i64 c] w fun e w' => e = .returned (.bool true) ∧ w = w' :=
  (within_any a b c w).mono fun e w' ⟨he, hw⟩ => ⟨by rw [he]; simp [h.1, h.2], hw⟩
theorem within_no (a b c : Int) (w : World) (h : a < b ∨ c < a) :
    Calls Tryz.prog 88 #[.int .i64 a, .int .i64 b, .int .i64 c] w fun e w' => e = .returned (.bool false) ∧ w = w' :=
  (within_any a b c w).mono fun e w' ⟨he, hw⟩ => ⟨by rw [he]; congr 2; simp; omega, hw⟩

/-- A geometry that may be. -/
structure GeoOk (S Z L : Int) : Prop where
  s1 : 1 ≤ S
  s2 : S ≤ 64
  z1 : 64 ≤ Z
  z2 : Z ≤ 65536
  l1 : 1 ≤ L
  l2 : L ≤ 1048576

set_option maxHeartbeats 1000000 in
theorem mayBe_yes (S Z L : Int) (w : World) (h : GeoOk S Z L) :
    Calls Tryz.prog 52 #[.agg #[.int .i64 S, .int .i64 Z, .int .i64 L]] w fun e w' => e = .returned (.bool true) ∧ w' = w.alloc (.cells #[.int .i64 S, .int .i64 Z, .int .i64 L] 66) := by
  go_enter Tryz.func52, Tryz.ntmps52
  go_wp2_with fail
  refine (within_yes _ _ _ _ ⟨h.s1, h.s2⟩).mono ?_
  rintro e1 w1 ⟨rfl, rfl⟩
  go_wp2_with fail
  refine (within_yes _ _ _ _ ⟨h.z1, h.z2⟩).mono ?_
  rintro e1 w1 ⟨rfl, rfl⟩
  go_wp2_with fail
  refine (within_yes _ _ _ _ ⟨h.l1, h.l2⟩).mono ?_
  rintro e1 w1 ⟨rfl, rfl⟩
  go_wp2
  go_ret
  exact ⟨rfl, rfl⟩

set_option maxHeartbeats 1000000 in
theorem mayBe_no (S Z L : Int) (w : World) (h : ¬ GeoOk S Z L) :
    Calls Tryz.prog 52 #[.agg #[.int .i64 S, .int .i64 Z, .int .i64 L]] w fun e w' => e = .returned (.bool false) ∧ w' = w.alloc (.cells #[.int .i64 S, .int .i64 Z, .int .i64 L] 66) := by
  have Hh := Lib.hid h
  clear h
  by_cases hS : 1 ≤ S ∧ S ≤ 64
  · by_cases hZ : 64 ≤ Z ∧ Z ≤ 65536
    · have hL : L < 1 ∨ 1048576 < L := by
        rcases Int.lt_or_le L 1 with h | h
        · exact Or.inl h
        · refine Or.inr (Int.not_le.1 fun h2 => Hh.out ⟨hS.1, hS.2, hZ.1, hZ.2, h, h2⟩)
      go_enter Tryz.func52, Tryz.ntmps52
      go_wp2_with fail
      refine (within_yes _ _ _ _ hS).mono ?_
      rintro e1 w1 ⟨rfl, rfl⟩
      go_wp2_with fail
      refine (within_yes _ _ _ _ hZ).mono ?_
      rintro e1 w1 ⟨rfl, rfl⟩
      go_wp2_with fail
      refine (within_no _ _ _ _ hL).mono ?_
      rintro e1 w1 ⟨rfl, rfl⟩
      go_wp2
      go_ret
      exact ⟨rfl, rfl⟩
    · go_enter Tryz.func52, Tryz.ntmps52
      go_wp2_with fail
      refine (within_yes _ _ _ _ hS).mono ?_
      rintro e1 w1 ⟨rfl, rfl⟩
      go_wp2_with fail
      refine (within_no _ _ _ _ (by omega)).mono ?_
      rintro e1 w1 ⟨rfl, rfl⟩
      go_wp2
      go_ret
      exact ⟨rfl, rfl⟩
  · go_enter Tryz.func52, Tryz.ntmps52
    go_wp2_with fail
    refine (within_no _ _ _ _ (by omega)).mono ?_
    rintro e1 w1 ⟨rfl, rfl⟩
    go_wp2
    go_ret
    exact ⟨rfl, rfl⟩

set_option maxHeartbeats 1000000 in
theorem new_no (S Z L : Int) (w : World) (h : ¬ GeoOk S Z L) :
    Calls Tryz.prog 23 #[.agg #[.int .i64 S, .int .i64 Z, .int .i64 L]] w fun e w' => e = .returned (.tuple #[.pointer none, .int .i64 1]) ∧ Below w.heap.size w w' := by
  have Hh := Lib.hid h
  clear h
  go_enter Tryz.func23, Tryz.ntmps23
  go_wp2_with fail
  refine (mayBe_no _ _ _ _ Hh.out).mono ?_
  rintro e1 w1 ⟨rfl, rfl⟩
  go_wp2
  go_ret2
  exact ⟨rfl, ((Below.refl _ _).alloc (Nat.le_refl _) _).alloc (by simp) _⟩

/-- A new flash. -/
def Fl.fresh (S Z L : Nat) : Fl := { S := S, Z := Z, L := L, bs := List.replicate (S * Z) 255, er := List.replicate S 0, up := true, fuse := -1, keep := 0, mask := 0 }

/-- What New gives. -/
def NewOk (w w' : World) (S Z L : Nat) (e : Ending) : Prop :=
  ∃ p c er, e = .returned (.tuple #[.pointer (some ⟨p, 0, none⟩), .int .i64 0]) ∧ FlashAt w' p c er (Fl.fresh S Z L) ∧ Below w.heap.size w w' ∧ w.heap.size ≤ p ∧ w.heap.size ≤ c ∧ w.heap.size ≤ er

theorem Tryz.infoInt : (Tryz.prog.info? 3).map (fun i => (i.zero, i.size, i.bytes)) = some (some (.int .i64 0), 1, 8) := by kernel_rfl

theorem made_ints (n : Nat) : madeCells #[.int .i64 0] n = ((List.replicate n 0).map fun (n : Nat) => Value.int .i64 (n : Int)).toArray := by
  apply Array.ext'
  rw [toList_madeCells_one]
  simp
theorem filled_all (n : Nat) : (List.replicate n (0 : UInt8)).mapIdx (fillF 0 n) = List.replicate n 255 := by
  apply List.ext_getElem?
  intro j
  rw [List.getElem?_mapIdx, List.getElem?_replicate, List.getElem?_replicate]
  by_cases h : j < n
  · simp [h, fillF]
  · simp [h]

theorem Blk.new' {w : World} {g : Nat} {t : TypeId} {cs : Array Value} (h : g = w.heap.size) : Blk (w.alloc (.cells cs t)) g t cs := by rw [h]; exact Blk.new w t cs

theorem fresh_ok {S Z L : Nat} (h : GeoOk S Z L) : (Fl.fresh S Z L).Ok := by
  obtain ⟨a, b, c, d, e, f⟩ := h
  refine ⟨?_, ?_, ?_, ?_, ?_, ?_, ?_, ?_, ?_, ?_, ?_, ?_, ?_⟩ <;> simp only [Fl.fresh] <;> first | omega | (simp; done) | skip
  intro i n hi
  rw [List.getElem?_replicate] at hi
  split at hi
  · cases hi; omega
  · cases hi

theorem new_end {w W w2 : World} {p c er S Z L T : Nat} (h : GeoOk S Z L) (hT : T = S * Z) (hb : Below w.heap.size w W) (hp : w.heap.size ≤ p) (hc : w.heap.size ≤ c) (he : w.heap.size ≤ er) (hpc : p ≠ c) (hec : er ≠ c)
    (hd : Blk W p 93 #[.int .i64 (S : Int), .int .i64 (Z : Int), .int .i64 (L : Int), .slice (some ⟨c, 0, none⟩) T T, .slice (some ⟨er, 0, none⟩) S S, .bool true, .int .i64 (-1), .int .i64 0, .int .u8 0])
    (hr : Blk W er 3 (madeCells #[.int .i64 0] S)) (hcc : Blk w2 c 5 (cellsB ((List.replicate T 0).mapIdx (fillF 0 T)))) (ho : Only (· = c) W w2) :
    NewOk w w2 S Z L (.returned (.tuple #[.pointer (some ⟨p, 0, none⟩), .int .i64 0])) := by
  subst hT
  have hd2 := ho.blk hd hpc
  have hr2 := ho.blk hr hec
  rw [filled_all] at hcc
  rw [made_ints] at hr2
  refine ⟨p, c, er, rfl, ⟨fresh_ok h, hd2, hcc, hr2⟩, ?_, hp, hc, he⟩
  exact hb.trans ((ho.below hb.size (by intro k hk e; omega)))

set_option maxHeartbeats 2000000 in
theorem new_yes (S Z L : Nat) (w : World) (h : GeoOk S Z L) :
    Calls Tryz.prog 23 #[.agg #[.int .i64 (S : Int), .int .i64 (Z : Int), .int .i64 (L : Int)]] w fun e w' => NewOk w w' S Z L e := by
  have hT : S * Z ≤ 64 * 65536 := Nat.mul_le_mul (by have := h.s2; omega) (by have := h.z2; omega)
  have hs2 := h.s2
  obtain ⟨T, hTe⟩ : ∃ T, T = S * Z := ⟨_, rfl⟩
  have hmul : IntKind.i64.wrap ((S : Int) * (Z : Int)) = (T : Int) := by
    have : (S : Int) * (Z : Int) = ((S * Z : Nat) : Int) := by simp
    rw [this, ← hTe, IntKind.wrap_i64]
    omega
  rw [← hTe] at hT
  have hmk1 := fun W => run_make_row' (P := Tryz.prog) 22 5 (.int .u8 0) 1 Tryz.underlying22 Tryz.infoU8 rfl .i64 .i64 T (by omega) (by omega) W
  have hmk2 := fun W => run_make_row' (P := Tryz.prog) 71 3 (.int .i64 0) 8 Tryz.underlying71 Tryz.infoInt rfl .i64 .i64 S (by omega) (by omega) W
  have Hh := Lib.hid h
  have HT := Lib.hid hTe
  clear h hTe
  go_enter Tryz.func23, Tryz.ntmps23
  go_wp2_with fail
  refine (mayBe_yes _ _ _ _ Hh.out).mono ?_
  rintro e1 w1 ⟨rfl, rfl⟩
  go_wp2_with fail
  go_region
  · go_wp2_with fail
    clear hmk1 hmk2 hmul
    refine (fill_any (w.heap.size + 1 + 1) 0 T T (List.replicate T 0) _ ?hb (by simp) (by omega)).mono ?_
    case hb =>
      rw [← made_bytes]
      exact (((Blk.new' (by simp)).alloc _).alloc _).drew
    rintro e1 w2 ⟨rfl, hb2, ho2⟩
    go_wp2
    go_ret2
    refine new_end (p := w.heap.size + 1 + 1 + 1 + 1) (er := w.heap.size + 1 + 1 + 1) Hh.out HT.out ?_ (by omega) (by omega) (by omega) (by omega) (by omega) ?_ ?_ hb2 ho2
    · exact (((((((Below.refl _ _).alloc (Nat.le_refl _) _).alloc (by simp) _).alloc (by simp; omega) _).alloc (by simp; omega) _).alloc (by simp; omega) _).drew)
    · exact (Blk.new' (by simp)).drew
    · exact ((Blk.new' (by simp)).alloc _).drew
  · go_wp2_with fail
    clear hmk1 hmk2 hmul
    refine (fill_any (w.heap.size + 1 + 1 + 1) 0 T T (List.replicate T 0) _ ?hb (by simp) (by omega)).mono ?_
    case hb =>
      rw [← made_bytes]
      exact ((Blk.new' (by simp)).alloc _).drew
    rintro e1 w2 ⟨rfl, hb2, ho2⟩
    go_wp2
    go_ret2
    refine new_end (p := w.heap.size + 1 + 1 + 1 + 1) (er := w.heap.size + 1 + 1) Hh.out HT.out ?_ (by omega) (by omega) (by omega) (by omega) (by omega) ?_ ?_ hb2 ho2
    · exact (((((((Below.refl _ _).alloc (Nat.le_refl _) _).alloc (by simp) _).alloc (by simp; omega) _).alloc (by simp; omega) _).alloc (by simp; omega) _).drew)
    · exact (Blk.new' (by simp)).drew
    · exact (((Blk.new' (by simp)).alloc _).alloc _).drew

end Go.Proofs.YtidbipbangifbaaGreatDoor

/- One sector of a flash that is up and has no fuse: its bytes, and what nor's calls do to them. -/
namespace Go.Proofs.YtidbipbangifbaaGreatDoor
set_option maxRecDepth 100000
open Go.RowKit

theorem splice_get (L : List UInt8) (o : Nat) (cs : List UInt8) (j : Nat) (h : o + cs.length ≤ L.length) : (splice L o cs)[j]? = if o ≤ j ∧ j < o + cs.length then cs[j - o]? else L[j]? := by
  unfold splice
  have ho : (L.take o).length = o := by rw [List.length_take]; omega
  by_cases h1 : j < o
  · rw [if_neg (by omega), List.getElem?_append_left (by omega), List.getElem?_take, if_pos h1]
  · rw [List.getElem?_append_right (by omega), ho]
    by_cases h2 : j < o + cs.length
    · rw [if_pos (by omega), List.getElem?_append_left (by omega)]
    · rw [if_neg (by omega), List.getElem?_append_right (by omega), List.getElem?_drop]
      congr 1
      omega

/-- The bytes of sector k. -/
def secB (bs : List UInt8) (k Z : Nat) : List UInt8 := (bs.drop (k * Z)).take Z
theorem secB_get (bs : List UInt8) (k Z j : Nat) (h : j < Z) : (secB bs k Z)[j]? = bs[k * Z + j]? := by
  unfold secB
  rw [List.getElem?_take, if_pos h, List.getElem?_drop]
theorem secB_len (bs : List UInt8) (k Z : Nat) (h : k * Z + Z ≤ bs.length) : (secB bs k Z).length = Z := by
  unfold secB
  rw [List.length_take, List.length_drop]
  omega

theorem secB_prog (bs : List UInt8) (k Z o : Nat) (ys : List UInt8) (mask : UInt8) (hl : k * Z + Z ≤ bs.length) (ho : o + ys.length ≤ Z) (hf : Fits (secB bs k Z) o ys) :
    secB (bs.mapIdx (tornF (k * Z + o) ys ys.length mask)) k Z = splice (secB bs k Z) o ys := by
  apply List.ext_getElem?
  intro j
  rw [splice_get _ _ _ _ (by rw [secB_len _ _ _ hl]; exact ho)]
  by_cases hj : j < Z
  · rw [secB_get _ _ _ _ hj, List.getElem?_mapIdx]
    have hb : k * Z + j < bs.length := by omega
    rw [List.getElem?_eq_getElem hb]
    simp only [Option.map_some]
    unfold tornF
    by_cases h1 : o ≤ j ∧ j < o + ys.length
    · rw [if_pos h1, if_pos (by omega)]
      have hyj : j - o < ys.length := by omega
      have h := hf (j - o) hyj
      rw [show o + (j - o) = j by omega, secB_get _ _ _ _ hj, List.getElem?_eq_getElem hb, List.getElem?_eq_getElem hyj] at h
      simp only [Option.getD_some] at h
      rw [show k * Z + j - (k * Z + o) = j - o by omega, List.getElem?_eq_getElem hyj, Option.getD_some, and_fit h]
    · rw [if_neg h1, if_neg (by omega), if_neg (by omega), secB_get _ _ _ _ hj, List.getElem?_eq_getElem hb]
  · rw [if_neg (by omega), List.getElem?_eq_none (by rw [secB_len _ _ _ (by rw [List.length_mapIdx]; exact hl)]; omega), List.getElem?_eq_none (by rw [secB_len _ _ _ hl]; omega)]

theorem secB_erase (bs : List UInt8) (k Z q : Nat) (mask : UInt8) (hl : k * Z + Z ≤ bs.length) : secB (bs.mapIdx (eraseF (k * Z) q Z mask)) k Z = (secB bs k Z).mapIdx (eraseF 0 q Z mask) := by
  apply List.ext_getElem?
  intro j
  by_cases hj : j < Z
  · rw [secB_get _ _ _ _ hj, List.getElem?_mapIdx, List.getElem?_mapIdx, secB_get _ _ _ _ hj]
    have hb : k * Z + j < bs.length := by omega
    rw [List.getElem?_eq_getElem hb]
    simp only [Option.map_some]
    congr 1
    have a1 : (k * Z ≤ k * Z + j ∧ k * Z + j < k * Z + q) = (0 ≤ j ∧ j < 0 + q) := by apply propext; constructor <;> intro h <;> omega
    have a2 : (k * Z + j = k * Z + q ∧ q < Z) = (j = 0 + q ∧ q < Z) := by apply propext; constructor <;> intro h <;> omega
    unfold eraseF
    simp only [a1, a2]
  · rw [List.getElem?_eq_none (by rw [secB_len _ _ _ (by rw [List.length_mapIdx]; exact hl)]; omega), List.getElem?_eq_none (by rw [List.length_mapIdx, secB_len _ _ _ hl]; omega)]
theorem erase_whole (xs : List UInt8) (mask : UInt8) : xs.mapIdx (eraseF 0 xs.length xs.length mask) = List.replicate xs.length 255 := by
  apply List.ext_getElem?
  intro j
  rw [List.getElem?_mapIdx, List.getElem?_replicate]
  by_cases hj : j < xs.length
  · rw [List.getElem?_eq_getElem hj, if_pos hj]
    simp only [Option.map_some]
    unfold eraseF
    rw [if_pos (by omega)]
  · rw [List.getElem?_eq_none (by omega), if_neg hj]
    rfl

/-- A flash that is up and has no fuse, of this geometry; sector k was erased m times and has the bytes xs. -/
def Sec (w : World) (p c e S Z L k m : Nat) (xs : List UInt8) : Prop :=
  ∃ fl : Fl, FlashAt w p c e fl ∧ fl.up = true ∧ fl.fuse = -1 ∧ fl.S = S ∧ fl.Z = Z ∧ fl.L = L ∧ fl.er[k]? = some m ∧ secB fl.bs k Z = xs

section
variable {w w' : World} {p c e S Z L k m : Nat} {xs : List UInt8} {T : Nat → Prop}
theorem Sec.of (h : Sec w p c e S Z L k m xs) (o : Only T w w') (hp : ¬ T p) (hc : ¬ T c) (he : ¬ T e) : Sec w' p c e S Z L k m xs := by
  obtain ⟨fl, hf, r⟩ := h
  exact ⟨fl, hf.of o hp hc he, r⟩
theorem Sec.below (h : Sec w p c e S Z L k m xs) (o : Below w.heap.size w w') : Sec w' p c e S Z L k m xs := h.of (Only.of_below (S := Empty) o) (fun h => h) (fun h => h) (fun h => h)
theorem Sec.kS (h : Sec w p c e S Z L k m xs) : k < S := by
  obtain ⟨fl, hf, _, _, hS, _, _, hm, _⟩ := h
  have := (List.getElem?_eq_some_iff.1 hm).1
  rw [hf.ok.el] at this
  omega
theorem kz_le {S Z k : Nat} (h : k < S) : k * Z + Z ≤ S * Z := by
  have := Nat.mul_le_mul_right Z (show k + 1 ≤ S by omega)
  rw [Nat.add_mul] at this
  omega
theorem Sec.len (h : Sec w p c e S Z L k m xs) : xs.length = Z := by
  have hk := h.kS
  obtain ⟨fl, hf, _, _, hS, hZ, _, hm, hx⟩ := h
  rw [← hx, secB_len]
  have := kz_le (Z := Z) hk
  rw [hf.ok.bl, hS, hZ]
  exact this
theorem Sec.bz (h : Sec w p c e S Z L k m xs) : S ≤ 64 ∧ 64 ≤ Z ∧ Z ≤ 65536 ∧ k * Z + Z ≤ S * Z ∧ S * Z ≤ 4194304 := by
  have hk := h.kS
  obtain ⟨fl, hf, _, _, hS, hZ, _, hm, hx⟩ := h
  have h1 := hf.ok.s2
  have h2 := hf.ok.z1
  have h3 := hf.ok.z2
  have h4 := hf.ok.sz
  rw [hS] at h1
  rw [hZ] at h2 h3
  rw [hS, hZ] at h4
  exact ⟨h1, h2, h3, kz_le hk, h4.1⟩
end

theorem prog_sec (p c e S Z L k m at_ n cap : Nat) (xs ys : List UInt8) (A : Option Addr) (w : World) (hs : Sec w p c e S Z L k m xs) (hb : ByteSl w (Three p c e) A n cap ys) (hin : at_ + n ≤ Z) (hfit : Fits xs at_ ys) :
    Calls Tryz.prog 162 #[.pointer (some ⟨p, 0, none⟩), .int .i64 ((k * Z + at_ : Nat) : Int), .slice A n cap] w fun e1 w' => e1 = .returned (.int .i64 0) ∧ Sec w' p c e S Z L k m (splice xs at_ ys) ∧ Only (Three p c e) w w' := by
  have hz := hs.bz
  obtain ⟨fl, hf, hu, hfu, rfl, rfl, rfl, hm, rfl⟩ := hs
  have hbl := hf.ok.bl
  have hyl := hb.1
  have hkz := hz.2.2.2.1
  refine (program_fits p c e (k * fl.Z + at_) n cap fl ys A w hf hu hb (by omega) ?_).mono fun e1 w' ⟨he, hf2, ho⟩ => ⟨?_, ⟨_, hf2, ?_⟩, ho⟩
  · intro j hj
    have h := hfit j hj
    rw [secB_get _ _ _ _ (by omega)] at h
    rw [Nat.add_assoc]
    exact h
  · rw [he, code_none hfu]
  · unfold Fl.prog
    rw [burn_none hfu, many_none hfu]
    refine ⟨hu, hfu, rfl, rfl, rfl, hm, ?_⟩
    exact secB_prog fl.bs k fl.Z at_ ys fl.mask (by omega) (by omega) hfit

theorem erase_sec (p c e S Z L k m : Nat) (xs : List UInt8) (w : World) (hs : Sec w p c e S Z L k m xs) (hm2 : m < L) :
    Calls Tryz.prog 102 #[.pointer (some ⟨p, 0, none⟩), .int .i64 (k : Int)] w fun e1 w' => e1 = .returned (.int .i64 0) ∧ Sec w' p c e S Z L k (m + 1) (List.replicate Z 255) ∧ Only (Three p c e) w w' := by
  have hz := hs.bz
  have hk := hs.kS
  have hl := hs.len
  obtain ⟨fl, hf, hu, hfu, rfl, rfl, rfl, hm, rfl⟩ := hs
  have hbl := hf.ok.bl
  have hel := hf.ok.el
  have hkz := hz.2.2.2.1
  refine (erase_in p c e k m fl w hf hu hm hm2).mono fun e1 w' ⟨he, hf2, ho⟩ => ⟨?_, ⟨_, hf2, ?_⟩, ho⟩
  · rw [he, code_none hfu]
  · unfold Fl.erased
    rw [burn_none hfu, many_none hfu]
    refine ⟨hu, hfu, rfl, rfl, rfl, ?_, ?_⟩
    · show (fl.er.set k ((fl.er[k]?.getD 0) + 1))[k]? = some (m + 1)
      rw [List.getElem?_set, if_pos rfl, hm, if_pos (by omega)]
      rfl
    · show secB (fl.bs.mapIdx (eraseF (k * fl.Z) fl.Z fl.Z fl.mask)) k fl.Z = _
      rw [secB_erase _ _ _ _ _ (by omega)]
      have h := erase_whole (secB fl.bs k fl.Z) fl.mask
      rw [hl] at h
      exact h

/-- Behind a fuse of no acts, an erase and a reset. -/
theorem torn_sec {p c e S Z L k m : Nat} {xs : List UInt8} {w w' : World} (hs : Sec w p c e S Z L k m xs) (kk : Int) (mk : UInt8) (fl : Fl) (hfl : fl.S = S ∧ fl.Z = Z ∧ fl.L = L ∧ fl.er[k]? = some m ∧ secB fl.bs k Z = xs)
    (hf : FlashAt w' p c e (((fl.fused 0 kk mk).erased k).reset)) : ∃ q, q ≤ Z ∧ Sec w' p c e S Z L k (m + 1) (xs.mapIdx (eraseF 0 q Z mk)) := by
  have hz := hs.bz
  have hk := hs.kS
  have hok := hf.ok
  obtain ⟨rfl, rfl, rfl, hm, rfl⟩ := hfl
  have hg := (fl.fused 0 kk mk).burn_geo
  have hr := (fl.fused 0 kk mk).burn_rest
  refine ⟨(fl.fused 0 kk mk).many fl.Z, Fl.many_le _ _, _, hf, rfl, rfl, ?_, ?_, ?_, ?_, ?_⟩
  · exact hg.1
  · exact hg.2.1
  · exact hg.2.2.1
  · show (fl.er.set k ((fl.er[k]?.getD 0) + 1))[k]? = some (m + 1)
    have := (List.getElem?_eq_some_iff.1 hm).1
    rw [List.getElem?_set, if_pos rfl, hm, if_pos (by omega)]
    rfl
  · have hbl : (fl.bs.mapIdx (eraseF (k * fl.Z) ((fl.fused 0 kk mk).many fl.Z) fl.Z mk)).length = (((fl.fused 0 kk mk).erased k).reset).S * (((fl.fused 0 kk mk).erased k).reset).Z := hok.bl
    rw [List.length_mapIdx] at hbl
    have h1 : (((fl.fused 0 kk mk).erased k).reset).S = fl.S := hg.1
    have h2 : (((fl.fused 0 kk mk).erased k).reset).Z = fl.Z := hg.2.1
    rw [h1, h2] at hbl
    exact secB_erase fl.bs k fl.Z _ mk (by have := hz.2.2.2.1; omega)

end Go.Proofs.YtidbipbangifbaaGreatDoor
