/- The document's Program: no bytes with a fuse of 0; bits that do not fit; all that fits. -/
import Derived.Test.YtaepdmifenkhcaaR5
namespace Go.Proofs.Ytaepdmifenkhcaa
open Go.RowKit

theorem fit_of {b x : UInt8} (h : x &&& b = x) : x &&& ~~~b = 0 := by
  rw [← h, UInt8.and_assoc]
  have e : b &&& ~~~b = 0 := by
    apply UInt8.toBitVec_inj.1
    show b.toBitVec &&& ~~~b.toBitVec = 0#8
    ext i hi
    simp only [BitVec.getElem_and, BitVec.getElem_not]
    cases b.toBitVec[i] <;> simp
  rw [e, UInt8.and_zero]

set_option maxRecDepth 100000 in
set_option maxHeartbeats 8000000 in
theorem rprogram_none (p c e at_ cap : Nat) (fl : Fl) (A : Option Addr) (w : World) (hf : RefAt w p c e fl) (hu : fl.up = true) (hfu : fl.fuse = 0) (hin : at_ ≤ fl.S * fl.Z) :
    Calls Try.prog 25 #[.pointer (some ⟨p, 0, none⟩), .int .i64 (at_ : Int), .slice A 0 cap] w fun e1 w' => e1 = .returned (.int .i64 5) ∧
      RefAt w' p c e (fl.prog at_ []) ∧ Only (Three p c e) w w' := by
  have hsz := hf.ok.sz
  have hthere := there_yes p c (fl.S * fl.Z) at_ 0 w (by rw [hf.hd.cell]; simp [Fl.rhdr]) (by omega) (by omega)
  have h5 : w.cell? ⟨p, 5, none⟩ = some (.bool false) := by rw [hf.hd.cell]; simp [Fl.rhdr, hu]
  obtain ⟨T, hT⟩ : ∃ T, T = fl.S * fl.Z := ⟨_, rfl⟩
  rw [← hT] at hin hsz
  have hbl : fl.bs.length = T := by rw [hf.ok.bl, hT]
  have Hbl := Lib.hid hbl
  have HT := Lib.hid hT
  have Ht := Lib.hid hthere
  have Hu := Lib.hid hu
  have Hfu := Lib.hid hfu
  have Hf := Lib.hid hf
  clear hthere hT hu hbl hfu hf
  have hl0 : (0 : Int) ≤ (at_ : Int) := by omega
  have hl1 : (at_ : Int) ≤ (T : Int) := by omega
  by_cases hat : at_ = T
  · skip
    subst hat
    by_cases hk : fl.keep < 0
    · skip
      go_enter Try.func25, Try.ntmps25
      go_wp2_with fail
      refine Ht.out.mono ?_
      rintro e1 w1 ⟨rfl, rfl⟩
      go_wp2_with fail
      go_loop [22] (fun i => i = .int .i64 0) (fun _ => 0)
      case atStart => rfl
      case round =>
        obtain rfl := hrel
        go_wp2_with fail
        refine (whole_any p c e fl w Hf.out Hu.out).mono ?_
        rintro e1 w1 ⟨rfl, hf1, ho1⟩
        rw [decide_eq_true Hfu.out]
        have g3 : w1.cell? ⟨p, 3, none⟩ = some (.slice (some ⟨c, 0, none⟩) at_ at_) := by rw [hf1.hd.cell]; simp [Fl.rhdr, fl.burn_geo, HT.out]
        have g7 : w1.cell? ⟨p, 7, none⟩ = some (.int .i64 fl.keep) := by rw [hf1.hd.cell]; simp [Fl.rhdr, fl.burn_rest.2]
        have hce := hf1.ce
        rw [fl.burn_geo.2.2.2.1] at hce
        have hfin : ∀ w2, Only (· = c) w1.drew w2 → Blk w2 c 5 (splice (fl.bs.map B8) at_ []).toArray → RefAt w2 p c e (fl.prog at_ []) ∧ Only (Three p c e) w w2 := by
          intro w2 ho2 hb2
          have hsp : splice (fl.bs.map B8) at_ [] = fl.bs.map B8 := by simp [splice]
          rw [hsp] at hb2
          have hTA : TornAt w w1 p c e at_ 0 fl [] := ⟨hf1, ho1, Hfu.out, by rw [Hbl.out]; omega, rfl, fun j hj => by simp at hj⟩
          have hm : 0 = fl.many 0 := by have := fl.many_le 0; omega
          exact hTA.done hm (mapIdx_id _ _ fun i b _ => by unfold tornF; rw [if_neg (by omega), if_neg (by simp)]).symm hb2 (((Only.refl (· = c) w1).drew).trans ho2)
        have Hfin := Lib.hid hfin
        have Hce := Lib.hid hce
        have hXl : (fl.bs.map B8).length = at_ := by rw [List.length_map, Hbl.out]
        obtain ⟨X, hX⟩ : ∃ X, X = fl.bs.map B8 := ⟨_, rfl⟩
        have HX := Lib.hid hX
        have HXl : Hid (X.length = at_) := by rw [hX]; exact hXl
        have HceX : Hid (Blk w1 c 5 X.toArray) := by rw [hX]; exact hce
        clear hfin hce hXl hX hf1 ho1 Hce
        go_wp2_with fail
        go_region_law (refine step_copy_only rfl (.tmp 66) (.tmp 69) 34 34 rfl 5 Try.underlying34 Try.sizeU8 (some ⟨c, 0, none⟩) A (0) (0) 0 cap rfl rfl c at_ X 5 HceX.out.drew [] (by simp) (fun hp => absurd hp (by simp)) (by rw [HXl.out]; show at_ + 0 ≤ _; omega) (by simp) ?_; intro w2 hb2 ho2)
        go_wp2
        go_ret
        have hb3 := hb2.out
        rw [HX.out] at hb3
        obtain ⟨h1, h2⟩ := Hfin.out w2 ho2 hb3
        exact ⟨rfl, h1, h2⟩
    · skip
      go_enter Try.func25, Try.ntmps25
      go_wp2_with fail
      refine Ht.out.mono ?_
      rintro e1 w1 ⟨rfl, rfl⟩
      go_wp2_with fail
      go_loop [22] (fun i => i = .int .i64 0) (fun _ => 0)
      case atStart => rfl
      case round =>
        obtain rfl := hrel
        go_wp2_with fail
        refine (whole_any p c e fl w Hf.out Hu.out).mono ?_
        rintro e1 w1 ⟨rfl, hf1, ho1⟩
        rw [decide_eq_true Hfu.out]
        have g3 : w1.cell? ⟨p, 3, none⟩ = some (.slice (some ⟨c, 0, none⟩) at_ at_) := by rw [hf1.hd.cell]; simp [Fl.rhdr, fl.burn_geo, HT.out]
        have g7 : w1.cell? ⟨p, 7, none⟩ = some (.int .i64 fl.keep) := by rw [hf1.hd.cell]; simp [Fl.rhdr, fl.burn_rest.2]
        have hce := hf1.ce
        rw [fl.burn_geo.2.2.2.1] at hce
        have hfin : ∀ w2, Only (· = c) w1.drew w2 → Blk w2 c 5 (splice (fl.bs.map B8) at_ []).toArray → RefAt w2 p c e (fl.prog at_ []) ∧ Only (Three p c e) w w2 := by
          intro w2 ho2 hb2
          have hsp : splice (fl.bs.map B8) at_ [] = fl.bs.map B8 := by simp [splice]
          rw [hsp] at hb2
          have hTA : TornAt w w1 p c e at_ 0 fl [] := ⟨hf1, ho1, Hfu.out, by rw [Hbl.out]; omega, rfl, fun j hj => by simp at hj⟩
          have hm : 0 = fl.many 0 := by have := fl.many_le 0; omega
          exact hTA.done hm (mapIdx_id _ _ fun i b _ => by unfold tornF; rw [if_neg (by omega), if_neg (by simp)]).symm hb2 (((Only.refl (· = c) w1).drew).trans ho2)
        have Hfin := Lib.hid hfin
        have Hce := Lib.hid hce
        have hXl : (fl.bs.map B8).length = at_ := by rw [List.length_map, Hbl.out]
        obtain ⟨X, hX⟩ : ∃ X, X = fl.bs.map B8 := ⟨_, rfl⟩
        have HX := Lib.hid hX
        have HXl : Hid (X.length = at_) := by rw [hX]; exact hXl
        have HceX : Hid (Blk w1 c 5 X.toArray) := by rw [hX]; exact hce
        clear hfin hce hXl hX hf1 ho1 Hce
        go_wp2_with fail
        go_region_law (refine step_copy_only rfl (.tmp 66) (.tmp 69) 34 34 rfl 5 Try.underlying34 Try.sizeU8 (some ⟨c, 0, none⟩) A (0) (0) 0 cap rfl rfl c at_ X 5 HceX.out.drew [] (by simp) (fun hp => absurd hp (by simp)) (by rw [HXl.out]; show at_ + 0 ≤ _; omega) (by simp) ?_; intro w2 hb2 ho2)
        go_wp2
        go_ret
        have hb3 := hb2.out
        rw [HX.out] at hb3
        obtain ⟨h1, h2⟩ := Hfin.out w2 ho2 hb3
        exact ⟨rfl, h1, h2⟩
  · have hat2 : ¬ T = at_ := fun h => hat h.symm
    clear hat
    by_cases hk : fl.keep < 0
    · skip
      go_enter Try.func25, Try.ntmps25
      go_wp2_with fail
      refine Ht.out.mono ?_
      rintro e1 w1 ⟨rfl, rfl⟩
      go_wp2_with fail
      go_loop [22] (fun i => i = .int .i64 0) (fun _ => 0)
      case atStart => rfl
      case round =>
        obtain rfl := hrel
        go_wp2_with fail
        refine (whole_any p c e fl w Hf.out Hu.out).mono ?_
        rintro e1 w1 ⟨rfl, hf1, ho1⟩
        rw [decide_eq_true Hfu.out]
        have g3 : w1.cell? ⟨p, 3, none⟩ = some (.slice (some ⟨c, 0, none⟩) T T) := by rw [hf1.hd.cell]; simp [Fl.rhdr, fl.burn_geo, HT.out]
        have g7 : w1.cell? ⟨p, 7, none⟩ = some (.int .i64 fl.keep) := by rw [hf1.hd.cell]; simp [Fl.rhdr, fl.burn_rest.2]
        have hce := hf1.ce
        rw [fl.burn_geo.2.2.2.1] at hce
        have hfin : ∀ w2, Only (· = c) w1.drew w2 → Blk w2 c 5 (splice (fl.bs.map B8) at_ []).toArray → RefAt w2 p c e (fl.prog at_ []) ∧ Only (Three p c e) w w2 := by
          intro w2 ho2 hb2
          have hsp : splice (fl.bs.map B8) at_ [] = fl.bs.map B8 := by simp [splice]
          rw [hsp] at hb2
          have hTA : TornAt w w1 p c e at_ 0 fl [] := ⟨hf1, ho1, Hfu.out, by rw [Hbl.out]; omega, rfl, fun j hj => by simp at hj⟩
          have hm : 0 = fl.many 0 := by have := fl.many_le 0; omega
          exact hTA.done hm (mapIdx_id _ _ fun i b _ => by unfold tornF; rw [if_neg (by omega), if_neg (by simp)]).symm hb2 (((Only.refl (· = c) w1).drew).trans ho2)
        have Hfin := Lib.hid hfin
        have Hce := Lib.hid hce
        have hXl : (fl.bs.map B8).length = T := by rw [List.length_map, Hbl.out]
        obtain ⟨X, hX⟩ : ∃ X, X = fl.bs.map B8 := ⟨_, rfl⟩
        have HX := Lib.hid hX
        have HXl : Hid (X.length = T) := by rw [hX]; exact hXl
        have HceX : Hid (Blk w1 c 5 X.toArray) := by rw [hX]; exact hce
        clear hfin hce hXl hX hf1 ho1 Hce
        go_wp2_with fail
        go_region_law (refine step_copy_only rfl (.tmp 66) (.tmp 69) 34 34 rfl 5 Try.underlying34 Try.sizeU8 (some ⟨c, at_, none⟩) A (T - at_) (T - at_) 0 cap rfl rfl c at_ X 5 HceX.out.drew [] (by simp) (fun hp => absurd hp (by simp)) (by rw [HXl.out]; show at_ + 0 ≤ _; omega) (by simp) ?_; intro w2 hb2 ho2)
        go_wp2
        go_ret
        have hb3 := hb2.out
        rw [HX.out] at hb3
        obtain ⟨h1, h2⟩ := Hfin.out w2 ho2 hb3
        exact ⟨rfl, h1, h2⟩
    · skip
      go_enter Try.func25, Try.ntmps25
      go_wp2_with fail
      refine Ht.out.mono ?_
      rintro e1 w1 ⟨rfl, rfl⟩
      go_wp2_with fail
      go_loop [22] (fun i => i = .int .i64 0) (fun _ => 0)
      case atStart => rfl
      case round =>
        obtain rfl := hrel
        go_wp2_with fail
        refine (whole_any p c e fl w Hf.out Hu.out).mono ?_
        rintro e1 w1 ⟨rfl, hf1, ho1⟩
        rw [decide_eq_true Hfu.out]
        have g3 : w1.cell? ⟨p, 3, none⟩ = some (.slice (some ⟨c, 0, none⟩) T T) := by rw [hf1.hd.cell]; simp [Fl.rhdr, fl.burn_geo, HT.out]
        have g7 : w1.cell? ⟨p, 7, none⟩ = some (.int .i64 fl.keep) := by rw [hf1.hd.cell]; simp [Fl.rhdr, fl.burn_rest.2]
        have hce := hf1.ce
        rw [fl.burn_geo.2.2.2.1] at hce
        have hfin : ∀ w2, Only (· = c) w1.drew w2 → Blk w2 c 5 (splice (fl.bs.map B8) at_ []).toArray → RefAt w2 p c e (fl.prog at_ []) ∧ Only (Three p c e) w w2 := by
          intro w2 ho2 hb2
          have hsp : splice (fl.bs.map B8) at_ [] = fl.bs.map B8 := by simp [splice]
          rw [hsp] at hb2
          have hTA : TornAt w w1 p c e at_ 0 fl [] := ⟨hf1, ho1, Hfu.out, by rw [Hbl.out]; omega, rfl, fun j hj => by simp at hj⟩
          have hm : 0 = fl.many 0 := by have := fl.many_le 0; omega
          exact hTA.done hm (mapIdx_id _ _ fun i b _ => by unfold tornF; rw [if_neg (by omega), if_neg (by simp)]).symm hb2 (((Only.refl (· = c) w1).drew).trans ho2)
        have Hfin := Lib.hid hfin
        have Hce := Lib.hid hce
        have hXl : (fl.bs.map B8).length = T := by rw [List.length_map, Hbl.out]
        obtain ⟨X, hX⟩ : ∃ X, X = fl.bs.map B8 := ⟨_, rfl⟩
        have HX := Lib.hid hX
        have HXl : Hid (X.length = T) := by rw [hX]; exact hXl
        have HceX : Hid (Blk w1 c 5 X.toArray) := by rw [hX]; exact hce
        clear hfin hce hXl hX hf1 ho1 Hce
        go_wp2_with fail
        go_region_law (refine step_copy_only rfl (.tmp 66) (.tmp 69) 34 34 rfl 5 Try.underlying34 Try.sizeU8 (some ⟨c, at_, none⟩) A (T - at_) (T - at_) 0 cap rfl rfl c at_ X 5 HceX.out.drew [] (by simp) (fun hp => absurd hp (by simp)) (by rw [HXl.out]; show at_ + 0 ≤ _; omega) (by simp) ?_; intro w2 hb2 ho2)
        go_wp2
        go_ret
        have hb3 := hb2.out
        rw [HX.out] at hb3
        obtain ⟨h1, h2⟩ := Hfin.out w2 ho2 hb3
        exact ⟨rfl, h1, h2⟩

set_option maxRecDepth 100000 in
set_option maxHeartbeats 4000000 in
theorem rprogram_bits (p c e at_ n cap : Nat) (fl : Fl) (xs : List UInt8) (A : Option Addr) (w : World) (hf : RefAt w p c e fl) (hu : fl.up = true) (hs : ByteSl w (Three p c e) A n cap xs)
    (hin : at_ + n ≤ fl.S * fl.Z) (hfit : ¬ Fits fl.bs at_ xs) :
    Calls Try.prog 25 #[.pointer (some ⟨p, 0, none⟩), .int .i64 (at_ : Int), .slice A n cap] w fun e1 w' => e1 = .returned (.int .i64 3) ∧ w = w' := by
  have hsz := hf.ok.sz
  have hxl := hs.1
  have hthere := there_yes p c (fl.S * fl.Z) at_ n w (by rw [hf.hd.cell]; simp [Fl.rhdr]) (by omega) hin
  have h5 : w.cell? ⟨p, 5, none⟩ = some (.bool false) := by rw [hf.hd.cell]; simp [Fl.rhdr, hu]
  have h3 : w.cell? ⟨p, 3, none⟩ = some (.slice (some ⟨c, 0, none⟩) (fl.S * fl.Z) (fl.S * fl.Z)) := by rw [hf.hd.cell]; simp [Fl.rhdr]
  obtain ⟨T, hT⟩ : ∃ T, T = fl.S * fl.Z := ⟨_, rfl⟩
  rw [← hT] at h3 hin hsz
  have hbl : fl.bs.length = T := by rw [hf.ok.bl, hT]
  have Hbl := Lib.hid hbl
  have Ht := Lib.hid hthere
  have Hxl := Lib.hid hxl
  have Hfit := Lib.hid hfit
  clear hthere hxl hu hfit hT hbl
  go_enter Try.func25, Try.ntmps25
  go_wp2_with fail
  refine Ht.out.mono ?_
  rintro e1 w1 ⟨rfl, rfl⟩
  go_wp2_with fail
  go_loop [22] (fun i => ∃ k : Nat, k ≤ n ∧ i = .int .i64 (k : Int) ∧ ∀ j, j < k → (xs[j]?.getD 0) &&& ~~~(fl.bs[at_ + j]?.getD 0) = 0) (fun i => n - (intOf i).toNat)
  case atStart => exact ⟨0, Nat.zero_le _, rfl, fun j hj => by omega⟩
  case round =>
    obtain ⟨k, hk, rfl, hall⟩ := hrel
    have Hall := Lib.hid hall
    clear hall
    by_cases hlt : k < n
    · obtain ⟨ad, x, rfl, hab, hnS, hx, hxc⟩ := hs.at_ hlt
      have hcl : at_ + k < fl.bs.length := by rw [Hbl.out]; omega
      have hcc : w.cell? ⟨c, at_ + k, none⟩ = some (B8 (fl.bs[at_ + k]?.getD 0)) := by
        rw [hf.ce.cell]
        simp [hcl]
      have hgx : xs[k]?.getD 0 = x := by rw [hx]; rfl
      have Hgx := Lib.hid hgx
      unfold B8 at hxc hcc
      by_cases hz : x &&& ~~~(fl.bs[at_ + k]?.getD 0) = 0
      · have hz1 : (bits .and .u8 (x.toNat : Int) ((fl.bs[at_ + k]?.getD 0).toNat : Int) != (x.toNat : Int)) = false := by rw [b_and, fit_and hz]; simp
        have Hz := Lib.hid hz
        generalize hgb : fl.bs[at_ + k]?.getD 0 = b at hz1 hcc
        have Hgb := Lib.hid hgb
        clear hgb hz hs hf hcl hx hgx
        go_wp2
        go_round
        case rel =>
          refine ⟨k + 1, by omega, by go_num, fun j hj => ?_⟩
          by_cases hjk : j = k
          · subst hjk; rw [Hgx.out]; exact Hz.out
          · exact Hall.out j (by omega)
        case measure => simp [intOf]; omega
      · have hz1 : (bits .and .u8 (x.toNat : Int) ((fl.bs[at_ + k]?.getD 0).toNat : Int) != (x.toNat : Int)) = true := by
          rw [b_and, bne_iff_ne]
          intro h
          apply hz
          have h2 : x &&& (fl.bs[at_ + k]?.getD 0) = x := UInt8.toNat_inj.1 (by omega)
          exact fit_of h2
        generalize hgb : fl.bs[at_ + k]?.getD 0 = b at hz1 hcc
        clear hgb hz hs hf hcl hx hgx
        go_wp2
        go_ret
        exact ⟨rfl, rfl⟩
    · exfalso
      apply Hfit.out
      intro j hj
      rw [Hxl.out] at hj
      exact Hall.out j (by omega)

/-- All that fits: the code and the bytes are the program's. -/
theorem rprogram_fits (p c e at_ n cap : Nat) (fl : Fl) (xs : List UInt8) (A : Option Addr) (w : World) (hf : RefAt w p c e fl) (hu : fl.up = true) (hs : ByteSl w (Three p c e) A n cap xs)
    (hin : at_ + n ≤ fl.S * fl.Z) (hfit : Fits fl.bs at_ xs) :
    Calls Try.prog 25 #[.pointer (some ⟨p, 0, none⟩), .int .i64 (at_ : Int), .slice A n cap] w fun e1 w' => e1 = .returned (.int .i64 fl.code) ∧
      RefAt w' p c e (fl.prog at_ xs) ∧ Only (Three p c e) w w' := by
  by_cases hfu : fl.fuse = 0
  · have hc : fl.code = 5 := by unfold Fl.code; rw [if_pos hfu]
    rw [hc]
    by_cases hn : 0 < n
    · by_cases hk : fl.keep < 0
      · exact rprogram_neg p c e at_ n cap fl xs A w hf hu hfu hs hin hfit hn hk
      · exact rprogram_torn p c e at_ n cap fl xs A w hf hu hfu hs hin hfit hn (by omega)
    · obtain rfl : n = 0 := by omega
      obtain rfl : xs = [] := List.eq_nil_of_length_eq_zero hs.1
      exact rprogram_none p c e at_ cap fl A w hf hu hfu hin
  · have hc : fl.code = 0 := by unfold Fl.code; rw [if_neg hfu]
    rw [hc]
    exact rprogram_whole p c e at_ n cap fl xs A w hf hu hfu hs hin hfit

end Go.Proofs.Ytaepdmifenkhcaa
