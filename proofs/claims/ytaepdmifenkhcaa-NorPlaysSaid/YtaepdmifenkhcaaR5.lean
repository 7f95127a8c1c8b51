/- The walk over the document's Program where the fuse is 0 and Keep below 0. -/
import Derived.Test.YtaepdmifenkhcaaR4
namespace Go.Proofs.Ytaepdmifenkhcaa
open Go.RowKit

set_option maxRecDepth 100000 in
set_option maxHeartbeats 8000000 in
theorem rprogram_neg (p c e at_ n cap : Nat) (fl : Fl) (xs : List UInt8) (A : Option Addr) (w : World) (hf : RefAt w p c e fl) (hu : fl.up = true) (hfu : fl.fuse = 0) (hs : ByteSl w (Three p c e) A n cap xs)
    (hin : at_ + n ≤ fl.S * fl.Z) (hfit : Fits fl.bs at_ xs) (hn : 0 < n) (hk : fl.keep < 0) :
    Calls Try.prog 25 #[.pointer (some ⟨p, 0, none⟩), .int .i64 (at_ : Int), .slice A n cap] w fun e1 w' => e1 = .returned (.int .i64 5) ∧
      RefAt w' p c e (fl.prog at_ xs) ∧ Only (Three p c e) w w' := by
  have hsz := hf.ok.sz
  have hnc := hs.2.1
  have hthere := there_yes p c (fl.S * fl.Z) at_ n w (by rw [hf.hd.cell]; simp [Fl.rhdr]) (by omega) hin
  have h5 : w.cell? ⟨p, 5, none⟩ = some (.bool false) := by rw [hf.hd.cell]; simp [Fl.rhdr, hu]
  have h3 : w.cell? ⟨p, 3, none⟩ = some (.slice (some ⟨c, 0, none⟩) (fl.S * fl.Z) (fl.S * fl.Z)) := by rw [hf.hd.cell]; simp [Fl.rhdr]
  obtain ⟨T, hT⟩ : ∃ T, T = fl.S * fl.Z := ⟨_, rfl⟩
  rw [← hT] at h3 hin hsz
  have hbl : fl.bs.length = T := by rw [hf.ok.bl, hT]
  have hnm : n < 4611686018427387904 := by omega
  have hm0 : 0 = fl.many n := by
    unfold Fl.many
    rw [if_pos hfu, Int.max_eq_right (by omega)]
    simp
  have Hbl := Lib.hid hbl
  have HT := Lib.hid hT
  have Hxl := Lib.hid hs.1
  have Ht := Lib.hid hthere
  have Hu := Lib.hid hu
  have Hfu := Lib.hid hfu
  have Hm := Lib.hid hm0
  clear hthere hT hu hbl hfu hm0
  go_enter Try.func25, Try.ntmps25
  go_wp2_with fail
  refine Ht.out.mono ?_
  rintro e1 w1 ⟨rfl, rfl⟩
  go_wp2_with fail
  go_loop [22] (fun i => ∃ k : Nat, k ≤ n ∧ i = .int .i64 (k : Int)) (fun i => n - (intOf i).toNat)
  case atStart => exact ⟨0, Nat.zero_le _, rfl⟩
  case round =>
    obtain ⟨k, hk1, rfl⟩ := hrel
    by_cases hlt : k < n
    · obtain ⟨ad, x, rfl, hab, hnS, hx, hxc⟩ := hs.at_ hlt
      have hcl : at_ + k < fl.bs.length := by rw [Hbl.out]; omega
      have hcc : w.cell? ⟨c, at_ + k, none⟩ = some (B8 (fl.bs[at_ + k]?.getD 0)) := by
        rw [hf.ce.cell]
        simp [hcl]
      have hz : (bits .and .u8 ((xs[k]?.getD 0).toNat : Int) ((fl.bs[at_ + k]?.getD 0).toNat : Int) != ((xs[k]?.getD 0).toNat : Int)) = false := by
        rw [b_and, fit_and (hfit k (by rw [Hxl.out]; exact hlt))]; simp
      rw [hx] at hz
      unfold B8 at hxc hcc
      simp only [Option.getD_some] at hz
      generalize fl.bs[at_ + k]?.getD 0 = cb at hz hcc
      clear hs hf hfit hcl hx hk
      go_wp2
      go_round
      case rel => exact ⟨k + 1, by omega, by go_num⟩
      case measure => simp [intOf]; omega
    · go_wp2_with fail
      refine (whole_any p c e fl w hf Hu.out).mono ?_
      rintro e1 w1 ⟨rfl, hf1, ho1⟩
      rw [decide_eq_true Hfu.out]
      have hTA : TornAt w w1 p c e at_ n fl xs := ⟨hf1, ho1, Hfu.out, by rw [Hbl.out]; exact hin, Hxl.out, hfit⟩
      have hs1 : ByteSl w1 (Three p c e) A n cap xs := hs.only ho1 (by intro i _ hi; exact Or.inl hi)
      have g3 : w1.cell? ⟨p, 3, none⟩ = some (.slice (some ⟨c, 0, none⟩) T T) := by rw [hf1.hd.cell]; simp [Fl.rhdr, fl.burn_geo, HT.out]
      have g7 : w1.cell? ⟨p, 7, none⟩ = some (.int .i64 fl.keep) := by rw [hf1.hd.cell]; simp [Fl.rhdr, fl.burn_rest.2]
      have HTA := Lib.hid hTA
      clear hf hs h3 h5 hf1 ho1 hfit hTA
      go_wp2_with fail
      have hce := HTA.out.hf.ce
      rw [fl.burn_geo.2.2.2.1] at hce
      have g8 : w1.cell? ⟨p, 8, none⟩ = some (.int .u8 (fl.mask.toNat : Int)) := by rw [HTA.out.hf.hd.cell]; simp [Fl.rhdr, fl.burn_rest.1, B8]
      obtain ⟨X, hX⟩ : ∃ X, X = fl.bs.map B8 := ⟨_, rfl⟩
      obtain ⟨Y, hY⟩ : ∃ Y, Y = (xs.take 0).map B8 := ⟨_, rfl⟩
      rw [← hX] at hce
      have hXl : X.length = T := by rw [hX, List.length_map, Hbl.out]
      have hYl : Y.length = 0 := by rw [hY]; rfl
      have hY1 : ∀ v ∈ Y, v.oneCell' = true := by
        intro v hv
        rw [hY] at hv
        obtain ⟨b, _, rfl⟩ := List.mem_map.1 hv
        rfl
      obtain ⟨ad, hA, _, _, hcs⟩ := hs1.2.2.2 hn
      subst hA
      have hsrc : ∀ j v, Y[j]? = some v → w1.cell? (ad.add j) = some v := by
        intro j v hv
        rw [hY, List.getElem?_map, List.getElem?_take] at hv
        split at hv
        · rcases hx : xs[j]? with _ | x
          · rw [hx] at hv; cases hv
          · rw [hx] at hv
            simp at hv
            rw [hcs j x hx, hv]
        · cases hv
      have hXY : splice X at_ Y = (fl.bs.mapIdx (progF at_ xs 0)).map B8 := by
        rw [hX, hY, splice_map, splice_prog fl.bs xs at_ 0 HTA.out.fit (by omega) (by rw [Hbl.out, Hxl.out]; exact hin)]
      have Hsrc := Lib.hid hsrc
      have Hce := Lib.hid hce
      have HXl := Lib.hid hXl
      have HYl := Lib.hid hYl
      have HY1 := Lib.hid hY1
      have HXY := Lib.hid hXY
      have Hs1 := Lib.hid hs1
      have hap := HTA.out.hf.pc
      clear hsrc hce hXl hYl hY1 hX hY hXY hs1 hcs hk
      have hat : ¬ T = at_ := by omega
      have hl0 : (0 : Int) ≤ (at_ : Int) := by omega
      have hl1 : (at_ : Int) ≤ (T : Int) := by omega
      have hm0 : (0 : Int) ≤ (0 : Int) := by omega
      have hm1 : (0 : Int) ≤ (cap : Int) := by omega
      go_region_law (refine step_copy_only rfl (.tmp 66) (.tmp 69) 34 34 rfl 5 Try.underlying34 Try.sizeU8 (some ⟨c, at_, none⟩) (some ad) (T - at_) (T - at_) 0 cap rfl rfl c at_ X 5 Hce.out.drew Y (by rw [HYl.out]; simp only [Nat.min_def]; split <;> omega) (fun _ => ⟨rfl, ad, rfl, Hsrc.out⟩) (by rw [HYl.out, HXl.out]; omega) HY1.out ?_; intro w2 hb2 ho2)
      have hb3 := hb2.out
      rw [HXY.out] at hb3
      have hb4 : Blk w2 c 5 (cellsB (fl.bs.mapIdx (progF at_ xs 0))) := hb3
      have hw12 : Only (· = c) w1 w2 := ((Only.refl (· = c) w1).drew).trans ho2
      have Hb4 := Lib.hid hb4
      have Hw12 := Lib.hid hw12
      have k3 : w2.cell? ⟨p, 3, none⟩ = some (.slice (some ⟨c, 0, none⟩) T T) := by rw [hw12.cell (p := ⟨p, 3, none⟩) HTA.out.hf.hd.lt hap]; exact g3
      have k8 : w2.cell? ⟨p, 8, none⟩ = some (.int .u8 (fl.mask.toNat : Int)) := by rw [hw12.cell (p := ⟨p, 8, none⟩) HTA.out.hf.hd.lt hap]; exact g8
      have hs2 := Hs1.out.only hw12 (fun i _ hi => Or.inr (Or.inl hi))
      clear hb2 hb3 hb4 ho2 hw12 g3 g7 g8
      by_cases hmn : 0 < n
      · obtain ⟨ad', x, hA', _, _, hx, hxc⟩ := hs2.at_ hmn
        injection hA' with hA'
        subst hA'
        have hcl : at_ < fl.bs.length := by rw [Hbl.out]; omega
        have hcc : w2.cell? ⟨c, at_, none⟩ = some (B8 (fl.bs[at_]?.getD 0)) := by
          rw [Hb4.out.cell, cellsB_get, List.getElem?_mapIdx]
          simp [hcl, progF]
        have hfr := Hb4.out.frozen (at_)
        unfold B8 at hxc hcc
        have Hx := Lib.hid hx
        generalize hcb : fl.bs[at_]?.getD 0 = cb at hcc
        have Hcb := Lib.hid hcb
        have hmb := byte_lt fl.mask
        have hsum : IntKind.i64.wrap (at_ : Int) = (at_ : Int) := by rw [IntKind.wrap_i64]; omega
        have hidx : (at_ : Int) < (T : Int) := by omega
        have e0 : ad.add 0 = ad := rfl
        rw [e0] at hxc
        clear e0
        have hmn2 : (0 : Int) < (n : Int) := by omega
        clear hcb hx hs2 hcl
        go_wp2_with fail
        go_region
        go_wp2
        go_ret
        rw [b_rtorn]
        have hl := progF_torn fl.bs at_ 0 xs fl.mask (by rw [Hxl.out]; exact hmn)
        rw [Nat.add_zero] at hl
        rw [Hcb.out, Hx.out, Option.getD_some] at hl
        have hb5 := Hb4.out.set_ (at_) (B8 (cb &&& ~~~(fl.mask &&& ~~~x)))
        rw [cellsB_set, hl] at hb5
        obtain ⟨h1, h2⟩ := HTA.out.done Hm.out rfl hb5 (Hw12.out.setCell (p := ⟨c, at_, none⟩) (Or.inl rfl) _)
        exact ⟨rfl, h1.drew, h2.drew⟩
      · exact absurd hn hmn

end Go.Proofs.Ytaepdmifenkhcaa
