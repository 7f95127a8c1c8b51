/- The walk over carpetbagmake's choice; printed by gen/gen_wl.py. -/
import Derived.Test.YtdkkpcbebhgbiaaGreatDoorZam
import Derived.Test.YtdkkpcbebhgbiaaGreatDoorZab
namespace Go.Proofs.YtdkkpcbebhgbiaaGreatDoor
set_option maxRecDepth 100000
open Go.RowKit Go.Maps

set_option maxHeartbeats 4000000 in
theorem choice_s (x : Wx) (w : World) (D : Int) (s : Ws) (N : Nat) (F : Ws → Ws) (c B : Nat) (hD : -10 ≤ D ∧ D ≤ 10) (hF : CtS x 124 (D + 1) F B) (hFa : AddsW F c) (hFg : GrowW F) (h : WrS x w D s) (hz : s.sz N) (hN : N + 6 * c + 40 ≤ B) (hB : B ≤ 15600000) :
    Calls Tryz.prog 176 #[.pointer (some ⟨x.g, 0, none⟩)] w fun e w' => e = .returned (.tuple #[]) ∧ WrS x w' D (choiceW x.xs F s) ∧ Fr x w w' := by
  obtain ⟨w0, rfl⟩ : ∃ w0, w0 = w := ⟨_, rfl⟩
  have HW0 := Lib.hid h
  have HO0 : Hid (Fr x w0 w0) := Lib.hid (Fr.refl x w0)
  have HZ0 := Lib.hid hz
  obtain ⟨FS, hFS⟩ : ∃ FS, choiceW x.xs F s = FS := ⟨_, rfl⟩
  have HFS := Lib.hid hFS
  rw [hFS]
  clear h hz hFS
  have HI1 := Lib.hid (ct_int1 x)
  have HFs := Lib.hid (fun (W : World) (t : Ws) (M : Nat) (h : WrS x W D t) (hz : t.sz M) (hM : M + 3 * c ≤ B) => some_s x W D t M F c B hD hF hFa h hz hM)
  have HFa := Lib.hid (adds_some x.xs hFa)
  have HFg := Lib.hid (grow_some x.xs hFg)
  clear hF hFa hFg
  go_enter Tryz.func176, Tryz.ntmps176
  go_wp2_with fail
  refine (HI1.out _ _ _ N HW0.out HZ0.out (by omega)).mono ?_
  rintro e w1 ⟨rfl, h, ho⟩
  have HW1 := Lib.hid h
  have HO1 : Hid (Fr x w0 w1) := Lib.hid (HO0.out.trans ho)
  have HZ1 : Hid ((intW x.xs 1 (s)).sz (N + 8)) := Lib.hid (((adds_il1 x.xs).1 _ _ HZ0.out).more (by omega))
  clear h ho
  have t1 := HW1.out.t
  have hbt := belowA w1 (.cells #[.int .u8 153, .int .u8 154, .int .u8 155, .int .u8 156, .int .u8 157, .int .u8 158] 5)
  have kb1 := Blk.new w1 5 #[.int .u8 153, .int .u8 154, .int .u8 155, .int .u8 156, .int .u8 157, .int .u8 158]
  have h := HW1.out.below hbt
  have ho := Fr.of_below (x := x) hbt
  obtain ⟨w2, hw1⟩ : ∃ W, w1.alloc (.cells #[.int .u8 153, .int .u8 154, .int .u8 155, .int .u8 156, .int .u8 157, .int .u8 158] 5) = W := ⟨_, rfl⟩
  rw [hw1] at h ho kb1
  have HWW1 := Lib.hid hw1
  have HKB1 := Lib.hid kb1
  have t1b := h.t
  rw [← hw1] at t1b
  have hgl1 := HW1.out.lt
  clear hw1 kb1 hbt
  have HW2 := Lib.hid h
  have HO2 : Hid (Fr x w0 w2) := Lib.hid (HO1.out.trans ho)
  have HZ2 : Hid ((intW x.xs 1 (s)).sz (N + 8)) := Lib.hid ((HZ1.out).more (by omega))
  clear h ho
  go_wp2_with fail
  rw [HWW1.out]
  clear t1 t1b
  refine (next_s x _ _ _ 6 _ HW2.out (by omega) (by omega) rfl).mono ?_
  rintro e w3 ⟨rfl, h, ho⟩
  have HQ3 := Lib.hid (ho.2 _ _ _ HKB1.out (by unfold WE; decide))
  have HW3 := Lib.hid h
  have HO3 : Hid (Fr x w0 w3) := Lib.hid (HO2.out.trans ho)
  have HZ3 : Hid (((intW x.xs 1 (s)).nx x.xs).sz (N + 8)) := Lib.hid ((Ws.sz_nx x.xs HZ2.out).more (by omega))
  clear h ho
  obtain ⟨a, ha⟩ : ∃ a, nxV x.xs 6 (intW x.xs 1 (s)).at_ = a := ⟨_, rfl⟩
  have ba : a < 6 := by rw [← ha]; exact nxV_lt (by omega)
  rw [ha]
  have HVa := Lib.hid ha
  have da : w3.cell? ⟨w1.heap.size, a, none⟩ = some (.int .u8 ((ifOps.getD a 0).toNat : Int)) := by
    rw [HQ3.out.cell]
    exact u8_of_tab ifOps a ba
  have la : w1.heap.size < w3.heap.size := HQ3.out.lt
  obtain ⟨qa, hqa⟩ : ∃ q : Int, ((ifOps.getD a 0).toNat : Int) = q := ⟨_, rfl⟩
  rw [hqa] at da
  have HQa := Lib.hid hqa
  clear ha hqa
  go_wp2_with fail
  refine (branch_s x _ _ _ (N + 8) (ifOps.getD a 0) _ HQa.out HW3.out HZ3.out (by omega)).mono ?_
  rintro e w4 ⟨rfl, h, ho⟩
  have HW4 := Lib.hid h
  have HO4 : Hid (Fr x w0 w4) := Lib.hid (HO3.out.trans ho)
  have HZ4 : Hid ((((intW x.xs 1 (s)).nx x.xs).op (ifOps.getD a 0) 0).sz (N + 9)) := Lib.hid ((Ws.sz_op _ _ HZ3.out).more (by omega))
  clear h ho
  obtain ⟨q1, hq1⟩ : ∃ q1, ((intW x.xs 1 (s)).nx x.xs).code.length = q1 := ⟨_, rfl⟩
  rw [hq1]
  have HQq1 := Lib.hid hq1
  clear hq1
  go_wp2_with fail
  refine (HFs.out _ _ (N + 9) HW4.out HZ4.out (by omega)).mono ?_
  rintro e w5 ⟨rfl, h, ho⟩
  have HW5 := Lib.hid h
  have HO5 : Hid (Fr x w0 w5) := Lib.hid (HO4.out.trans ho)
  have HZ5 : Hid ((someW x.xs F (((intW x.xs 1 (s)).nx x.xs).op (ifOps.getD a 0) 0)).sz (N + 3 * c + 9)) := Lib.hid ((HFa.out _ _ HZ4.out).more (by omega))
  clear h ho
  go_wp2_with fail
  refine (branch_s x _ _ _ (N + 3 * c + 9) 167 _ rfl HW5.out HZ5.out (by omega)).mono ?_
  rintro e w6 ⟨rfl, h, ho⟩
  have HW6 := Lib.hid h
  have HO6 : Hid (Fr x w0 w6) := Lib.hid (HO5.out.trans ho)
  have HZ6 : Hid (((someW x.xs F (((intW x.xs 1 (s)).nx x.xs).op (ifOps.getD a 0) 0)).op 167 0).sz (N + 3 * c + 10)) := Lib.hid ((Ws.sz_op _ _ HZ5.out).more (by omega))
  clear h ho
  obtain ⟨q2, hq2⟩ : ∃ q2, (someW x.xs F (((intW x.xs 1 (s)).nx x.xs).op (ifOps.getD a 0) 0)).code.length = q2 := ⟨_, rfl⟩
  rw [hq2]
  have HQq2 := Lib.hid hq2
  clear hq2
  obtain ⟨Cd, ncd, ccd, hWC⟩ := HW6.out
  have hCs : ∃ gc, Cd = some ⟨gc, 0, none⟩ := by
    obtain ⟨T, nt, ct, M, nm, cm, lm, hD⟩ := hWC
    rcases hD.code.here with h0 | ⟨g, cur, h1, _⟩
    · exact absurd (hD.code.isNil h0).1 (by have h1 : ((someW x.xs F (((intW x.xs 1 (s)).nx x.xs).op (ifOps.getD a 0) 0)).op 167 0).code.length = ncd := hD.code.row.1; have := (show ((intW x.xs 1 (s)).nx x.xs).code.length < ((someW x.xs F (((intW x.xs 1 (s)).nx x.xs).op (ifOps.getD a 0) 0)).op 167 0).code.length from by exact (by have g1 := HFg.out (((intW x.xs 1 (s)).nx x.xs).op (ifOps.getD a 0) 0); have g2 : (((intW x.xs 1 (s)).nx x.xs).op (ifOps.getD a 0) 0).code.length = (((intW x.xs 1 (s)).nx x.xs).code.length) + 1 := len_op _ _ _; have g3 : ((someW x.xs F (((intW x.xs 1 (s)).nx x.xs).op (ifOps.getD a 0) 0)).op 167 0).code.length = ((someW x.xs F (((intW x.xs 1 (s)).nx x.xs).op (ifOps.getD a 0) 0)).code.length) + 1 := len_op _ _ _; omega)); omega)
    · exact ⟨g, h1⟩
  obtain ⟨gc, rfl⟩ := hCs
  have hln : ((someW x.xs F (((intW x.xs 1 (s)).nx x.xs).op (ifOps.getD a 0) 0)).op 167 0).code.length = ncd := by obtain ⟨T, nt, ct, M, nm, cm, lm, hD⟩ := hWC; exact hD.code.row.1
  have hpl : ((intW x.xs 1 (s)).nx x.xs).code.length < ncd := by have := (show ((intW x.xs 1 (s)).nx x.xs).code.length < ((someW x.xs F (((intW x.xs 1 (s)).nx x.xs).op (ifOps.getD a 0) 0)).op 167 0).code.length from by exact (by have g1 := HFg.out (((intW x.xs 1 (s)).nx x.xs).op (ifOps.getD a 0) 0); have g2 : (((intW x.xs 1 (s)).nx x.xs).op (ifOps.getD a 0) 0).code.length = (((intW x.xs 1 (s)).nx x.xs).code.length) + 1 := len_op _ _ _; have g3 : ((someW x.xs F (((intW x.xs 1 (s)).nx x.xs).op (ifOps.getD a 0) 0)).op 167 0).code.length = ((someW x.xs F (((intW x.xs 1 (s)).nx x.xs).op (ifOps.getD a 0) 0)).code.length) + 1 := len_op _ _ _; omega)); omega
  have HPE : Hid (((intW x.xs 1 (s)).nx x.xs).code.length = q1) := HQq1
  rw [HPE.out] at hpl
  have hSw : w6.cell? ⟨x.g, 0, none⟩ = some (.pointer (some ⟨x.tp, 0, none⟩)) := HW6.out.t
  have hdr : Below w6.heap.size w6 w6.drew := ((Only.refl Empty w6).drew).below (Nat.le_refl _) (fun _ _ h => h)
  have hWD : WrC x w6.drew D ((someW x.xs F (((intW x.xs 1 (s)).nx x.xs).op (ifOps.getD a 0) 0)).op 167 0) (some ⟨gc, 0, none⟩) ncd ccd := by
    obtain ⟨T, nt, ct, M, nm, cm, lm, hD⟩ := hWC
    exact ⟨T, nt, ct, M, nm, cm, lm, hD.below hdr⟩
  have c1d : w6.drew.cell? ⟨x.g, 1, none⟩ = some (.slice (some ⟨gc, 0, none⟩) ncd ccd) := by
    obtain ⟨T, nt, ct, M, nm, cm, lm, hD⟩ := hWD
    exact hD.blk.cell 1
  have hS0 : w6.drew.cell? ⟨x.g, 0, none⟩ = some (.pointer (some ⟨x.tp, 0, none⟩)) := by
    obtain ⟨T, nt, ct, M, nm, cm, lm, hD⟩ := hWD
    exact hD.blk.cell 0
  have hcc : ncd ≤ ccd ∧ ccd ≤ 9223372036854775807 := by
    obtain ⟨T, nt, ct, M, nm, cm, lm, hD⟩ := hWC
    have := hD.code.row.2.2.1
    unfold maxLen at this
    exact ⟨hD.code.row.2.1, by omega⟩
  obtain ⟨hcc1, hcc2⟩ := hcc
  obtain ⟨L0, hL0⟩ : ∃ L0, ((someW x.xs F (((intW x.xs 1 (s)).nx x.xs).op (ifOps.getD a 0) 0)).op 167 0).code.length = L0 := ⟨_, rfl⟩
  have HL0 := Lib.hid hL0
  have CL : Hid (Calls Tryz.prog 216 #[.pointer (some ⟨x.g, 0, none⟩), .slice none 0 0] w6.drew fun e w' => e = .returned (.int .i64 (L0 : Int)) ∧ WrC x w' D (((someW x.xs F (((intW x.xs 1 (s)).nx x.xs).op (ifOps.getD a 0) 0)).op 167 0).label []) (some ⟨gc, 0, none⟩) ncd ccd ∧ Fr x w6.drew w') := Lib.hid (by rw [← hL0]; exact label_d x _ _ _ (N + 3 * c + 10) none 0 0 [] _ _ _ (Or.inl ⟨rfl, rfl, rfl, rfl⟩) hWD HZ6.out (by omega))
  have HDR := Lib.hid (Fr.of_below (x := x) hdr)
  clear hWC hWD hdr hln hL0
  go_wp2_with fail
  refine wp_region_held_drew (S := fun W => W.cell? ⟨x.g, 0, none⟩ = some (.pointer (some ⟨x.tp, 0, none⟩))) (by kernel_rfl) hSw (fun hHeld0 => ?_)
  refine take_yes 0 20 ?_ rfl rfl (by kernel_rfl) (by kernel_rfl) (by kernel_rfl) (fun _ _ _ h => h) (by kernel_rfl) ?_ (by assumption) ?_; rotate_left; (focus (intro w hSw; (try dsimp only at hSw); go_simp; all_goals first | with_reducible rfl)); simp only [Act.put, List.setIfInBounds_toArray, List.set_cons_zero, List.set_cons_succ]
  refine take_yes 1 21 ?_ rfl rfl (by kernel_rfl) (by kernel_rfl) (by kernel_rfl) (fun _ _ _ h => h) (by kernel_rfl) ?_ (by assumption) ?_; rotate_left; (focus (intro w hSw; (try dsimp only at hSw); go_simp; all_goals first | with_reducible rfl)); simp only [Act.put, List.setIfInBounds_toArray, List.set_cons_zero, List.set_cons_succ]
  refine take_yes 2 22 ?_ rfl rfl (by kernel_rfl) (by kernel_rfl) (by kernel_rfl) (fun _ _ _ h => h) (by kernel_rfl) ?_ (by assumption) ?_; rotate_left; (focus (intro w hSw; (try dsimp only at hSw); go_simp; all_goals first | with_reducible rfl)); simp only [Act.put, List.setIfInBounds_toArray, List.set_cons_zero, List.set_cons_succ]
  refine take_yes 4 24 ?_ rfl rfl (by kernel_rfl) (by kernel_rfl) (by kernel_rfl) (fun _ _ _ h => h) (by kernel_rfl) ?_ (by assumption) ?_; rotate_left; (focus (intro w hSw; (try dsimp only at hSw); go_simp; all_goals first | with_reducible rfl)); simp only [Act.put, List.setIfInBounds_toArray, List.set_cons_zero, List.set_cons_succ]
  refine take_yes 5 25 ?_ rfl rfl (by kernel_rfl) (by kernel_rfl) (by kernel_rfl) (fun _ _ _ h => h) (by kernel_rfl) ?_ (by assumption) ?_; rotate_left; (focus (intro w hSw; (try dsimp only at hSw); go_simp; all_goals first | with_reducible rfl)); simp only [Act.put, List.setIfInBounds_toArray, List.set_cons_zero, List.set_cons_succ]
  refine wpAnyH_ready (rs := [3, 6]) (by kernel_rfl) (by simp) ?_
  refine AllReadyH.cons rfl (fun K hK => ?_) (AllReadyH.cons rfl (fun K hK => ?_) AllReadyH.nil)
  · go_simp
    refine hK.out _ _ (hS0) (fun _ => ?_)
    clear hK K
    try simp only [Act.put, List.setIfInBounds_toArray, List.set_cons_zero, List.set_cons_succ]
    refine wpAnyH_ready (rs := [6]) (by kernel_rfl) (by simp) ?_
    refine AllReadyH.cons rfl (fun K hK => ?_) AllReadyH.nil
    go_simp
    go_at_call 216; (refine CL.out.mono ?_); rintro e wn ⟨rfl, hDn, hFn⟩
    have HFN := Lib.hid (HDR.out.trans hFn)
    obtain ⟨Tn, ntn, ctn, Mn, nmn, cmn, lmn, hDn⟩ := hDn
    have hSn : wn.cell? ⟨x.g, 0, none⟩ = some (.pointer (some ⟨x.tp, 0, none⟩)) := hDn.blk.cell 0
    have c1n : wn.cell? ⟨x.g, 1, none⟩ = some (.slice (some ⟨gc, 0, none⟩) ncd ccd) := hDn.blk.cell 1
    obtain ⟨hP, hF⟩ := hDn.aim_ hpl (L0 : Int)
    have hbc : ∃ v, wn.cell? ⟨gc, q1 * 7 + 1, none⟩ = some v := by
      obtain ⟨b', o', y, e', _, _, hy, hc⟩ := hDn.code.row.at_ hpl
      cases e'
      have := hc 1 (by decide)
      rw [Nat.zero_add] at this
      exact ⟨_, this⟩
    obtain ⟨vc, hvc⟩ := hbc
    have hfz : wn.frozen? ⟨gc, q1 * 7 + 1, none⟩ = false := by
      obtain ⟨cur, hb, _⟩ := gotR_block hDn.code (show (Value.slice (some ⟨gc, 0, none⟩) ncd ccd).ownBlock = some gc from rfl)
      exact hb.frozen _
    obtain ⟨w7, hwe⟩ : ∃ W, wn.setCell ⟨gc, q1 * 7 + 1, none⟩ (.int .i64 (L0 : Int)) = W := ⟨_, rfl⟩
    rw [hwe] at hP hF
    have hSe : w7.cell? ⟨x.g, 0, none⟩ = some (.pointer (some ⟨x.tp, 0, none⟩)) := hP.blk.cell 0
    have HWE := Lib.hid hwe
    have HWX : Hid (WrS x w7 D ((((someW x.xs F (((intW x.xs 1 (s)).nx x.xs).op (ifOps.getD a 0) 0)).op 167 0).label []).aim ((intW x.xs 1 (s)).nx x.xs).code.length (((someW x.xs F (((intW x.xs 1 (s)).nx x.xs).op (ifOps.getD a 0) 0)).op 167 0).code.length : Int))) := Lib.hid (by rw [HPE.out, HL0.out]; exact ⟨_, _, _, Tn, ntn, ctn, Mn, nmn, cmn, lmn, hP⟩)
    have HOX : Hid (Fr x w6 w7) := Lib.hid (HFN.out.trans hF)
    clear hDn hFn hP hF hwe
    go_wp2_with fail
    refine hK.out _ _ (hSn) (fun _ => ?_)
    clear hK K
    try simp only [Act.put, List.setIfInBounds_toArray, List.set_cons_zero, List.set_cons_succ]
    refine take_yes 7 27 ?_ rfl rfl (by kernel_rfl) (by kernel_rfl) (by kernel_rfl) (fun _ _ _ h => h) (by kernel_rfl) ?_ (by assumption) ?_; rotate_left; (focus (intro w hSw; (try dsimp only at hSw); go_simp; all_goals first | with_reducible rfl)); simp only [Act.put, List.setIfInBounds_toArray, List.set_cons_zero, List.set_cons_succ]
    refine take_yes 8 28 ?_ rfl rfl (by kernel_rfl) (by kernel_rfl) (by kernel_rfl) (fun _ _ _ h => h) (by kernel_rfl) ?_ (by assumption) ?_; rotate_left; (focus (intro w hSw; (try dsimp only at hSw); go_simp; all_goals first | with_reducible rfl)); simp only [Act.put, List.setIfInBounds_toArray, List.set_cons_zero, List.set_cons_succ]
    refine wpAnyH_ready (rs := [9]) (by kernel_rfl) (by simp) ?_
    refine AllReadyH.cons rfl (fun K hK => ?_) AllReadyH.nil
    go_simp
    rw [HWE.out]
    refine hK.out _ _ (hSe) (fun _ => ?_)
    clear hK K
    try simp only [Act.put, List.setIfInBounds_toArray, List.set_cons_zero, List.set_cons_succ]
    refine wpAnyH_done (by kernel_rfl) ?_ _
    clear hSe hSn c1n hvc hfz hHeld0 hS0 c1d hSw hpl hcc1 hcc2
    have h := HWX.out
    have ho := HOX.out
    have HW7 := Lib.hid h
    have HO7 : Hid (Fr x w0 w7) := Lib.hid (HO6.out.trans ho)
    have HZ7 : Hid (((((someW x.xs F (((intW x.xs 1 (s)).nx x.xs).op (ifOps.getD a 0) 0)).op 167 0).label []).aim ((intW x.xs 1 (s)).nx x.xs).code.length (((someW x.xs F (((intW x.xs 1 (s)).nx x.xs).op (ifOps.getD a 0) 0)).op 167 0).code.length : Int)).sz (N + 3 * c + 11)) := Lib.hid ((Ws.sz_aim _ _ (Ws.sz_label [] HZ6.out)).more (by omega))
    clear h ho
    go_wp2_with fail
    refine (HFs.out _ _ (N + 3 * c + 11) HW7.out HZ7.out (by omega)).mono ?_
    rintro e w8 ⟨rfl, h, ho⟩
    have HW8 := Lib.hid h
    have HO8 : Hid (Fr x w0 w8) := Lib.hid (HO7.out.trans ho)
    have HZ8 : Hid ((someW x.xs F ((((someW x.xs F (((intW x.xs 1 (s)).nx x.xs).op (ifOps.getD a 0) 0)).op 167 0).label []).aim ((intW x.xs 1 (s)).nx x.xs).code.length (((someW x.xs F (((intW x.xs 1 (s)).nx x.xs).op (ifOps.getD a 0) 0)).op 167 0).code.length : Int))).sz (N + 6 * c + 11)) := Lib.hid ((HFa.out _ _ HZ7.out).more (by omega))
    clear h ho
    obtain ⟨Cd, ncd, ccd, hWC⟩ := HW8.out
    have hCs : ∃ gc, Cd = some ⟨gc, 0, none⟩ := by
      obtain ⟨T, nt, ct, M, nm, cm, lm, hD⟩ := hWC
      rcases hD.code.here with h0 | ⟨g, cur, h1, _⟩
      · exact absurd (hD.code.isNil h0).1 (by have h1 : (someW x.xs F ((((someW x.xs F (((intW x.xs 1 (s)).nx x.xs).op (ifOps.getD a 0) 0)).op 167 0).label []).aim ((intW x.xs 1 (s)).nx x.xs).code.length (((someW x.xs F (((intW x.xs 1 (s)).nx x.xs).op (ifOps.getD a 0) 0)).op 167 0).code.length : Int))).code.length = ncd := hD.code.row.1; have := (show (someW x.xs F (((intW x.xs 1 (s)).nx x.xs).op (ifOps.getD a 0) 0)).code.length < (someW x.xs F ((((someW x.xs F (((intW x.xs 1 (s)).nx x.xs).op (ifOps.getD a 0) 0)).op 167 0).label []).aim ((intW x.xs 1 (s)).nx x.xs).code.length (((someW x.xs F (((intW x.xs 1 (s)).nx x.xs).op (ifOps.getD a 0) 0)).op 167 0).code.length : Int))).code.length from by exact (by have g1 := HFg.out ((((someW x.xs F (((intW x.xs 1 (s)).nx x.xs).op (ifOps.getD a 0) 0)).op 167 0).label []).aim ((intW x.xs 1 (s)).nx x.xs).code.length (((someW x.xs F (((intW x.xs 1 (s)).nx x.xs).op (ifOps.getD a 0) 0)).op 167 0).code.length : Int)); have g2 : ((((someW x.xs F (((intW x.xs 1 (s)).nx x.xs).op (ifOps.getD a 0) 0)).op 167 0).label []).aim ((intW x.xs 1 (s)).nx x.xs).code.length (((someW x.xs F (((intW x.xs 1 (s)).nx x.xs).op (ifOps.getD a 0) 0)).op 167 0).code.length : Int)).code.length = ((someW x.xs F (((intW x.xs 1 (s)).nx x.xs).op (ifOps.getD a 0) 0)).code.length) + 1 := (by simp only [len_op, len_nx, len_label, len_aim]); omega)); omega)
      · exact ⟨g, h1⟩
    obtain ⟨gc, rfl⟩ := hCs
    have hln : (someW x.xs F ((((someW x.xs F (((intW x.xs 1 (s)).nx x.xs).op (ifOps.getD a 0) 0)).op 167 0).label []).aim ((intW x.xs 1 (s)).nx x.xs).code.length (((someW x.xs F (((intW x.xs 1 (s)).nx x.xs).op (ifOps.getD a 0) 0)).op 167 0).code.length : Int))).code.length = ncd := by obtain ⟨T, nt, ct, M, nm, cm, lm, hD⟩ := hWC; exact hD.code.row.1
    have hpl : (someW x.xs F (((intW x.xs 1 (s)).nx x.xs).op (ifOps.getD a 0) 0)).code.length < ncd := by have := (show (someW x.xs F (((intW x.xs 1 (s)).nx x.xs).op (ifOps.getD a 0) 0)).code.length < (someW x.xs F ((((someW x.xs F (((intW x.xs 1 (s)).nx x.xs).op (ifOps.getD a 0) 0)).op 167 0).label []).aim ((intW x.xs 1 (s)).nx x.xs).code.length (((someW x.xs F (((intW x.xs 1 (s)).nx x.xs).op (ifOps.getD a 0) 0)).op 167 0).code.length : Int))).code.length from by exact (by have g1 := HFg.out ((((someW x.xs F (((intW x.xs 1 (s)).nx x.xs).op (ifOps.getD a 0) 0)).op 167 0).label []).aim ((intW x.xs 1 (s)).nx x.xs).code.length (((someW x.xs F (((intW x.xs 1 (s)).nx x.xs).op (ifOps.getD a 0) 0)).op 167 0).code.length : Int)); have g2 : ((((someW x.xs F (((intW x.xs 1 (s)).nx x.xs).op (ifOps.getD a 0) 0)).op 167 0).label []).aim ((intW x.xs 1 (s)).nx x.xs).code.length (((someW x.xs F (((intW x.xs 1 (s)).nx x.xs).op (ifOps.getD a 0) 0)).op 167 0).code.length : Int)).code.length = ((someW x.xs F (((intW x.xs 1 (s)).nx x.xs).op (ifOps.getD a 0) 0)).code.length) + 1 := (by simp only [len_op, len_nx, len_label, len_aim]); omega)); omega
    have HPE : Hid ((someW x.xs F (((intW x.xs 1 (s)).nx x.xs).op (ifOps.getD a 0) 0)).code.length = q2) := HQq2
    rw [HPE.out] at hpl
    have hSw : w8.cell? ⟨x.g, 0, none⟩ = some (.pointer (some ⟨x.tp, 0, none⟩)) := HW8.out.t
    have hdr : Below w8.heap.size w8 w8.drew := ((Only.refl Empty w8).drew).below (Nat.le_refl _) (fun _ _ h => h)
    have hWD : WrC x w8.drew D (someW x.xs F ((((someW x.xs F (((intW x.xs 1 (s)).nx x.xs).op (ifOps.getD a 0) 0)).op 167 0).label []).aim ((intW x.xs 1 (s)).nx x.xs).code.length (((someW x.xs F (((intW x.xs 1 (s)).nx x.xs).op (ifOps.getD a 0) 0)).op 167 0).code.length : Int))) (some ⟨gc, 0, none⟩) ncd ccd := by
      obtain ⟨T, nt, ct, M, nm, cm, lm, hD⟩ := hWC
      exact ⟨T, nt, ct, M, nm, cm, lm, hD.below hdr⟩
    have c1d : w8.drew.cell? ⟨x.g, 1, none⟩ = some (.slice (some ⟨gc, 0, none⟩) ncd ccd) := by
      obtain ⟨T, nt, ct, M, nm, cm, lm, hD⟩ := hWD
      exact hD.blk.cell 1
    have hS0 : w8.drew.cell? ⟨x.g, 0, none⟩ = some (.pointer (some ⟨x.tp, 0, none⟩)) := by
      obtain ⟨T, nt, ct, M, nm, cm, lm, hD⟩ := hWD
      exact hD.blk.cell 0
    have hcc : ncd ≤ ccd ∧ ccd ≤ 9223372036854775807 := by
      obtain ⟨T, nt, ct, M, nm, cm, lm, hD⟩ := hWC
      have := hD.code.row.2.2.1
      unfold maxLen at this
      exact ⟨hD.code.row.2.1, by omega⟩
    obtain ⟨hcc1, hcc2⟩ := hcc
    obtain ⟨L0, hL0⟩ : ∃ L0, (someW x.xs F ((((someW x.xs F (((intW x.xs 1 (s)).nx x.xs).op (ifOps.getD a 0) 0)).op 167 0).label []).aim ((intW x.xs 1 (s)).nx x.xs).code.length (((someW x.xs F (((intW x.xs 1 (s)).nx x.xs).op (ifOps.getD a 0) 0)).op 167 0).code.length : Int))).code.length = L0 := ⟨_, rfl⟩
    have HL0 := Lib.hid hL0
    have CL : Hid (Calls Tryz.prog 216 #[.pointer (some ⟨x.g, 0, none⟩), .slice none 0 0] w8.drew fun e w' => e = .returned (.int .i64 (L0 : Int)) ∧ WrC x w' D ((someW x.xs F ((((someW x.xs F (((intW x.xs 1 (s)).nx x.xs).op (ifOps.getD a 0) 0)).op 167 0).label []).aim ((intW x.xs 1 (s)).nx x.xs).code.length (((someW x.xs F (((intW x.xs 1 (s)).nx x.xs).op (ifOps.getD a 0) 0)).op 167 0).code.length : Int))).label []) (some ⟨gc, 0, none⟩) ncd ccd ∧ Fr x w8.drew w') := Lib.hid (by rw [← hL0]; exact label_d x _ _ _ (N + 6 * c + 11) none 0 0 [] _ _ _ (Or.inl ⟨rfl, rfl, rfl, rfl⟩) hWD HZ8.out (by omega))
    have HDR := Lib.hid (Fr.of_below (x := x) hdr)
    clear hWC hWD hdr hln hL0
    go_wp2_with fail
    refine wp_region_held_drew (S := fun W => W.cell? ⟨x.g, 0, none⟩ = some (.pointer (some ⟨x.tp, 0, none⟩))) (by kernel_rfl) hSw (fun hHeld0 => ?_)
    refine take_yes 0 31 ?_ rfl rfl (by kernel_rfl) (by kernel_rfl) (by kernel_rfl) (fun _ _ _ h => h) (by kernel_rfl) ?_ (by assumption) ?_; rotate_left; (focus (intro w hSw; (try dsimp only at hSw); go_simp; all_goals first | with_reducible rfl)); simp only [Act.put, List.setIfInBounds_toArray, List.set_cons_zero, List.set_cons_succ]
    refine take_yes 1 32 ?_ rfl rfl (by kernel_rfl) (by kernel_rfl) (by kernel_rfl) (fun _ _ _ h => h) (by kernel_rfl) ?_ (by assumption) ?_; rotate_left; (focus (intro w hSw; (try dsimp only at hSw); go_simp; all_goals first | with_reducible rfl)); simp only [Act.put, List.setIfInBounds_toArray, List.set_cons_zero, List.set_cons_succ]
    refine take_yes 2 33 ?_ rfl rfl (by kernel_rfl) (by kernel_rfl) (by kernel_rfl) (fun _ _ _ h => h) (by kernel_rfl) ?_ (by assumption) ?_; rotate_left; (focus (intro w hSw; (try dsimp only at hSw); go_simp; all_goals first | with_reducible rfl)); simp only [Act.put, List.setIfInBounds_toArray, List.set_cons_zero, List.set_cons_succ]
    refine take_yes 4 35 ?_ rfl rfl (by kernel_rfl) (by kernel_rfl) (by kernel_rfl) (fun _ _ _ h => h) (by kernel_rfl) ?_ (by assumption) ?_; rotate_left; (focus (intro w hSw; (try dsimp only at hSw); go_simp; all_goals first | with_reducible rfl)); simp only [Act.put, List.setIfInBounds_toArray, List.set_cons_zero, List.set_cons_succ]
    refine take_yes 5 36 ?_ rfl rfl (by kernel_rfl) (by kernel_rfl) (by kernel_rfl) (fun _ _ _ h => h) (by kernel_rfl) ?_ (by assumption) ?_; rotate_left; (focus (intro w hSw; (try dsimp only at hSw); go_simp; all_goals first | with_reducible rfl)); simp only [Act.put, List.setIfInBounds_toArray, List.set_cons_zero, List.set_cons_succ]
    refine wpAnyH_ready (rs := [3, 6]) (by kernel_rfl) (by simp) ?_
    refine AllReadyH.cons rfl (fun K hK => ?_) (AllReadyH.cons rfl (fun K hK => ?_) AllReadyH.nil)
    · go_simp
      refine hK.out _ _ (hS0) (fun _ => ?_)
      clear hK K
      try simp only [Act.put, List.setIfInBounds_toArray, List.set_cons_zero, List.set_cons_succ]
      refine wpAnyH_ready (rs := [6]) (by kernel_rfl) (by simp) ?_
      refine AllReadyH.cons rfl (fun K hK => ?_) AllReadyH.nil
      go_simp
      go_at_call 216; (refine CL.out.mono ?_); rintro e wn ⟨rfl, hDn, hFn⟩
      have HFN := Lib.hid (HDR.out.trans hFn)
      obtain ⟨Tn, ntn, ctn, Mn, nmn, cmn, lmn, hDn⟩ := hDn
      have hSn : wn.cell? ⟨x.g, 0, none⟩ = some (.pointer (some ⟨x.tp, 0, none⟩)) := hDn.blk.cell 0
      have c1n : wn.cell? ⟨x.g, 1, none⟩ = some (.slice (some ⟨gc, 0, none⟩) ncd ccd) := hDn.blk.cell 1
      obtain ⟨hP, hF⟩ := hDn.aim_ hpl (L0 : Int)
      have hbc : ∃ v, wn.cell? ⟨gc, q2 * 7 + 1, none⟩ = some v := by
        obtain ⟨b', o', y, e', _, _, hy, hc⟩ := hDn.code.row.at_ hpl
        cases e'
        have := hc 1 (by decide)
        rw [Nat.zero_add] at this
        exact ⟨_, this⟩
      obtain ⟨vc, hvc⟩ := hbc
      have hfz : wn.frozen? ⟨gc, q2 * 7 + 1, none⟩ = false := by
        obtain ⟨cur, hb, _⟩ := gotR_block hDn.code (show (Value.slice (some ⟨gc, 0, none⟩) ncd ccd).ownBlock = some gc from rfl)
        exact hb.frozen _
      obtain ⟨w9, hwe⟩ : ∃ W, wn.setCell ⟨gc, q2 * 7 + 1, none⟩ (.int .i64 (L0 : Int)) = W := ⟨_, rfl⟩
      rw [hwe] at hP hF
      have hSe : w9.cell? ⟨x.g, 0, none⟩ = some (.pointer (some ⟨x.tp, 0, none⟩)) := hP.blk.cell 0
      have HWE := Lib.hid hwe
      have HWX : Hid (WrS x w9 D (((someW x.xs F ((((someW x.xs F (((intW x.xs 1 (s)).nx x.xs).op (ifOps.getD a 0) 0)).op 167 0).label []).aim ((intW x.xs 1 (s)).nx x.xs).code.length (((someW x.xs F (((intW x.xs 1 (s)).nx x.xs).op (ifOps.getD a 0) 0)).op 167 0).code.length : Int))).label []).aim (someW x.xs F (((intW x.xs 1 (s)).nx x.xs).op (ifOps.getD a 0) 0)).code.length ((someW x.xs F ((((someW x.xs F (((intW x.xs 1 (s)).nx x.xs).op (ifOps.getD a 0) 0)).op 167 0).label []).aim ((intW x.xs 1 (s)).nx x.xs).code.length (((someW x.xs F (((intW x.xs 1 (s)).nx x.xs).op (ifOps.getD a 0) 0)).op 167 0).code.length : Int))).code.length : Int))) := Lib.hid (by rw [HPE.out, HL0.out]; exact ⟨_, _, _, Tn, ntn, ctn, Mn, nmn, cmn, lmn, hP⟩)
      have HOX : Hid (Fr x w8 w9) := Lib.hid (HFN.out.trans hF)
      clear hDn hFn hP hF hwe
      go_wp2_with fail
      refine hK.out _ _ (hSn) (fun _ => ?_)
      clear hK K
      try simp only [Act.put, List.setIfInBounds_toArray, List.set_cons_zero, List.set_cons_succ]
      refine take_yes 7 38 ?_ rfl rfl (by kernel_rfl) (by kernel_rfl) (by kernel_rfl) (fun _ _ _ h => h) (by kernel_rfl) ?_ (by assumption) ?_; rotate_left; (focus (intro w hSw; (try dsimp only at hSw); go_simp; all_goals first | with_reducible rfl)); simp only [Act.put, List.setIfInBounds_toArray, List.set_cons_zero, List.set_cons_succ]
      refine take_yes 8 39 ?_ rfl rfl (by kernel_rfl) (by kernel_rfl) (by kernel_rfl) (fun _ _ _ h => h) (by kernel_rfl) ?_ (by assumption) ?_; rotate_left; (focus (intro w hSw; (try dsimp only at hSw); go_simp; all_goals first | with_reducible rfl)); simp only [Act.put, List.setIfInBounds_toArray, List.set_cons_zero, List.set_cons_succ]
      refine wpAnyH_ready (rs := [9]) (by kernel_rfl) (by simp) ?_
      refine AllReadyH.cons rfl (fun K hK => ?_) AllReadyH.nil
      go_simp
      rw [HWE.out]
      refine hK.out _ _ (hSe) (fun _ => ?_)
      clear hK K
      try simp only [Act.put, List.setIfInBounds_toArray, List.set_cons_zero, List.set_cons_succ]
      refine wpAnyH_done (by kernel_rfl) ?_ _
      clear hSe hSn c1n hvc hfz hHeld0 hS0 c1d hSw hpl hcc1 hcc2
      have h := HWX.out
      have ho := HOX.out
      have HW9 := Lib.hid h
      have HO9 : Hid (Fr x w0 w9) := Lib.hid (HO8.out.trans ho)
      have HZ9 : Hid ((((someW x.xs F ((((someW x.xs F (((intW x.xs 1 (s)).nx x.xs).op (ifOps.getD a 0) 0)).op 167 0).label []).aim ((intW x.xs 1 (s)).nx x.xs).code.length (((someW x.xs F (((intW x.xs 1 (s)).nx x.xs).op (ifOps.getD a 0) 0)).op 167 0).code.length : Int))).label []).aim (someW x.xs F (((intW x.xs 1 (s)).nx x.xs).op (ifOps.getD a 0) 0)).code.length ((someW x.xs F ((((someW x.xs F (((intW x.xs 1 (s)).nx x.xs).op (ifOps.getD a 0) 0)).op 167 0).label []).aim ((intW x.xs 1 (s)).nx x.xs).code.length (((someW x.xs F (((intW x.xs 1 (s)).nx x.xs).op (ifOps.getD a 0) 0)).op 167 0).code.length : Int))).code.length : Int)).sz (N + 6 * c + 12)) := Lib.hid ((Ws.sz_aim _ _ (Ws.sz_label [] HZ8.out)).more (by omega))
      clear h ho
      have HE : Hid (FS = ((someW x.xs F ((((someW x.xs F (((intW x.xs 1 (s)).nx x.xs).op (ifOps.getD a 0) 0)).op 167 0).label []).aim ((intW x.xs 1 (s)).nx x.xs).code.length (((someW x.xs F (((intW x.xs 1 (s)).nx x.xs).op (ifOps.getD a 0) 0)).op 167 0).code.length : Int))).label []).aim (someW x.xs F (((intW x.xs 1 (s)).nx x.xs).op (ifOps.getD a 0) 0)).code.length ((someW x.xs F ((((someW x.xs F (((intW x.xs 1 (s)).nx x.xs).op (ifOps.getD a 0) 0)).op 167 0).label []).aim ((intW x.xs 1 (s)).nx x.xs).code.length (((someW x.xs F (((intW x.xs 1 (s)).nx x.xs).op (ifOps.getD a 0) 0)).op 167 0).code.length : Int))).code.length : Int)) := Lib.hid (by rw [← HFS.out]; unfold choiceW; simp only [HVa.out]; rfl)
      go_wp2
      go_end0
      rw [HE.out]
      exact ⟨rfl, HW9.out, HO9.out⟩
    · go_simp
      go_at_call 216; (refine CL.out.mono ?_); rintro e wn ⟨rfl, hDn, hFn⟩
      have HFN := Lib.hid (HDR.out.trans hFn)
      obtain ⟨Tn, ntn, ctn, Mn, nmn, cmn, lmn, hDn⟩ := hDn
      have hSn : wn.cell? ⟨x.g, 0, none⟩ = some (.pointer (some ⟨x.tp, 0, none⟩)) := hDn.blk.cell 0
      have c1n : wn.cell? ⟨x.g, 1, none⟩ = some (.slice (some ⟨gc, 0, none⟩) ncd ccd) := hDn.blk.cell 1
      obtain ⟨hP, hF⟩ := hDn.aim_ hpl (L0 : Int)
      have hbc : ∃ v, wn.cell? ⟨gc, q2 * 7 + 1, none⟩ = some v := by
        obtain ⟨b', o', y, e', _, _, hy, hc⟩ := hDn.code.row.at_ hpl
        cases e'
        have := hc 1 (by decide)
        rw [Nat.zero_add] at this
        exact ⟨_, this⟩
      obtain ⟨vc, hvc⟩ := hbc
      have hfz : wn.frozen? ⟨gc, q2 * 7 + 1, none⟩ = false := by
        obtain ⟨cur, hb, _⟩ := gotR_block hDn.code (show (Value.slice (some ⟨gc, 0, none⟩) ncd ccd).ownBlock = some gc from rfl)
        exact hb.frozen _
      obtain ⟨w9, hwe⟩ : ∃ W, wn.setCell ⟨gc, q2 * 7 + 1, none⟩ (.int .i64 (L0 : Int)) = W := ⟨_, rfl⟩
      rw [hwe] at hP hF
      have hSe : w9.cell? ⟨x.g, 0, none⟩ = some (.pointer (some ⟨x.tp, 0, none⟩)) := hP.blk.cell 0
      have HWE := Lib.hid hwe
      have HWX : Hid (WrS x w9 D (((someW x.xs F ((((someW x.xs F (((intW x.xs 1 (s)).nx x.xs).op (ifOps.getD a 0) 0)).op 167 0).label []).aim ((intW x.xs 1 (s)).nx x.xs).code.length (((someW x.xs F (((intW x.xs 1 (s)).nx x.xs).op (ifOps.getD a 0) 0)).op 167 0).code.length : Int))).label []).aim (someW x.xs F (((intW x.xs 1 (s)).nx x.xs).op (ifOps.getD a 0) 0)).code.length ((someW x.xs F ((((someW x.xs F (((intW x.xs 1 (s)).nx x.xs).op (ifOps.getD a 0) 0)).op 167 0).label []).aim ((intW x.xs 1 (s)).nx x.xs).code.length (((someW x.xs F (((intW x.xs 1 (s)).nx x.xs).op (ifOps.getD a 0) 0)).op 167 0).code.length : Int))).code.length : Int))) := Lib.hid (by rw [HPE.out, HL0.out]; exact ⟨_, _, _, Tn, ntn, ctn, Mn, nmn, cmn, lmn, hP⟩)
      have HOX : Hid (Fr x w8 w9) := Lib.hid (HFN.out.trans hF)
      clear hDn hFn hP hF hwe
      go_wp2_with fail
      refine hK.out _ _ (hSn) (fun _ => ?_)
      clear hK K
      try simp only [Act.put, List.setIfInBounds_toArray, List.set_cons_zero, List.set_cons_succ]
      refine wpAnyH_ready (rs := [3]) (by kernel_rfl) (by simp) ?_
      refine AllReadyH.cons rfl (fun K hK => ?_) AllReadyH.nil
      go_simp
      refine hK.out _ _ (hSn) (fun _ => ?_)
      clear hK K
      try simp only [Act.put, List.setIfInBounds_toArray, List.set_cons_zero, List.set_cons_succ]
      refine take_yes 7 38 ?_ rfl rfl (by kernel_rfl) (by kernel_rfl) (by kernel_rfl) (fun _ _ _ h => h) (by kernel_rfl) ?_ (by assumption) ?_; rotate_left; (focus (intro w hSw; (try dsimp only at hSw); go_simp; all_goals first | with_reducible rfl)); simp only [Act.put, List.setIfInBounds_toArray, List.set_cons_zero, List.set_cons_succ]
      refine take_yes 8 39 ?_ rfl rfl (by kernel_rfl) (by kernel_rfl) (by kernel_rfl) (fun _ _ _ h => h) (by kernel_rfl) ?_ (by assumption) ?_; rotate_left; (focus (intro w hSw; (try dsimp only at hSw); go_simp; all_goals first | with_reducible rfl)); simp only [Act.put, List.setIfInBounds_toArray, List.set_cons_zero, List.set_cons_succ]
      refine wpAnyH_ready (rs := [9]) (by kernel_rfl) (by simp) ?_
      refine AllReadyH.cons rfl (fun K hK => ?_) AllReadyH.nil
      go_simp
      rw [HWE.out]
      refine hK.out _ _ (hSe) (fun _ => ?_)
      clear hK K
      try simp only [Act.put, List.setIfInBounds_toArray, List.set_cons_zero, List.set_cons_succ]
      refine wpAnyH_done (by kernel_rfl) ?_ _
      clear hSe hSn c1n hvc hfz hHeld0 hS0 c1d hSw hpl hcc1 hcc2
      have h := HWX.out
      have ho := HOX.out
      have HW9 := Lib.hid h
      have HO9 : Hid (Fr x w0 w9) := Lib.hid (HO8.out.trans ho)
      have HZ9 : Hid ((((someW x.xs F ((((someW x.xs F (((intW x.xs 1 (s)).nx x.xs).op (ifOps.getD a 0) 0)).op 167 0).label []).aim ((intW x.xs 1 (s)).nx x.xs).code.length (((someW x.xs F (((intW x.xs 1 (s)).nx x.xs).op (ifOps.getD a 0) 0)).op 167 0).code.length : Int))).label []).aim (someW x.xs F (((intW x.xs 1 (s)).nx x.xs).op (ifOps.getD a 0) 0)).code.length ((someW x.xs F ((((someW x.xs F (((intW x.xs 1 (s)).nx x.xs).op (ifOps.getD a 0) 0)).op 167 0).label []).aim ((intW x.xs 1 (s)).nx x.xs).code.length (((someW x.xs F (((intW x.xs 1 (s)).nx x.xs).op (ifOps.getD a 0) 0)).op 167 0).code.length : Int))).code.length : Int)).sz (N + 6 * c + 12)) := Lib.hid ((Ws.sz_aim _ _ (Ws.sz_label [] HZ8.out)).more (by omega))
      clear h ho
      have HE : Hid (FS = ((someW x.xs F ((((someW x.xs F (((intW x.xs 1 (s)).nx x.xs).op (ifOps.getD a 0) 0)).op 167 0).label []).aim ((intW x.xs 1 (s)).nx x.xs).code.length (((someW x.xs F (((intW x.xs 1 (s)).nx x.xs).op (ifOps.getD a 0) 0)).op 167 0).code.length : Int))).label []).aim (someW x.xs F (((intW x.xs 1 (s)).nx x.xs).op (ifOps.getD a 0) 0)).code.length ((someW x.xs F ((((someW x.xs F (((intW x.xs 1 (s)).nx x.xs).op (ifOps.getD a 0) 0)).op 167 0).label []).aim ((intW x.xs 1 (s)).nx x.xs).code.length (((someW x.xs F (((intW x.xs 1 (s)).nx x.xs).op (ifOps.getD a 0) 0)).op 167 0).code.length : Int))).code.length : Int)) := Lib.hid (by rw [← HFS.out]; unfold choiceW; simp only [HVa.out]; rfl)
      go_wp2
      go_end0
      rw [HE.out]
      exact ⟨rfl, HW9.out, HO9.out⟩
  · go_simp
    go_at_call 216; (refine CL.out.mono ?_); rintro e wn ⟨rfl, hDn, hFn⟩
    have HFN := Lib.hid (HDR.out.trans hFn)
    obtain ⟨Tn, ntn, ctn, Mn, nmn, cmn, lmn, hDn⟩ := hDn
    have hSn : wn.cell? ⟨x.g, 0, none⟩ = some (.pointer (some ⟨x.tp, 0, none⟩)) := hDn.blk.cell 0
    have c1n : wn.cell? ⟨x.g, 1, none⟩ = some (.slice (some ⟨gc, 0, none⟩) ncd ccd) := hDn.blk.cell 1
    obtain ⟨hP, hF⟩ := hDn.aim_ hpl (L0 : Int)
    have hbc : ∃ v, wn.cell? ⟨gc, q1 * 7 + 1, none⟩ = some v := by
      obtain ⟨b', o', y, e', _, _, hy, hc⟩ := hDn.code.row.at_ hpl
      cases e'
      have := hc 1 (by decide)
      rw [Nat.zero_add] at this
      exact ⟨_, this⟩
    obtain ⟨vc, hvc⟩ := hbc
    have hfz : wn.frozen? ⟨gc, q1 * 7 + 1, none⟩ = false := by
      obtain ⟨cur, hb, _⟩ := gotR_block hDn.code (show (Value.slice (some ⟨gc, 0, none⟩) ncd ccd).ownBlock = some gc from rfl)
      exact hb.frozen _
    obtain ⟨w7, hwe⟩ : ∃ W, wn.setCell ⟨gc, q1 * 7 + 1, none⟩ (.int .i64 (L0 : Int)) = W := ⟨_, rfl⟩
    rw [hwe] at hP hF
    have hSe : w7.cell? ⟨x.g, 0, none⟩ = some (.pointer (some ⟨x.tp, 0, none⟩)) := hP.blk.cell 0
    have HWE := Lib.hid hwe
    have HWX : Hid (WrS x w7 D ((((someW x.xs F (((intW x.xs 1 (s)).nx x.xs).op (ifOps.getD a 0) 0)).op 167 0).label []).aim ((intW x.xs 1 (s)).nx x.xs).code.length (((someW x.xs F (((intW x.xs 1 (s)).nx x.xs).op (ifOps.getD a 0) 0)).op 167 0).code.length : Int))) := Lib.hid (by rw [HPE.out, HL0.out]; exact ⟨_, _, _, Tn, ntn, ctn, Mn, nmn, cmn, lmn, hP⟩)
    have HOX : Hid (Fr x w6 w7) := Lib.hid (HFN.out.trans hF)
    clear hDn hFn hP hF hwe
    go_wp2_with fail
    refine hK.out _ _ (hSn) (fun _ => ?_)
    clear hK K
    try simp only [Act.put, List.setIfInBounds_toArray, List.set_cons_zero, List.set_cons_succ]
    refine wpAnyH_ready (rs := [3]) (by kernel_rfl) (by simp) ?_
    refine AllReadyH.cons rfl (fun K hK => ?_) AllReadyH.nil
    go_simp
    refine hK.out _ _ (hSn) (fun _ => ?_)
    clear hK K
    try simp only [Act.put, List.setIfInBounds_toArray, List.set_cons_zero, List.set_cons_succ]
    refine take_yes 7 27 ?_ rfl rfl (by kernel_rfl) (by kernel_rfl) (by kernel_rfl) (fun _ _ _ h => h) (by kernel_rfl) ?_ (by assumption) ?_; rotate_left; (focus (intro w hSw; (try dsimp only at hSw); go_simp; all_goals first | with_reducible rfl)); simp only [Act.put, List.setIfInBounds_toArray, List.set_cons_zero, List.set_cons_succ]
    refine take_yes 8 28 ?_ rfl rfl (by kernel_rfl) (by kernel_rfl) (by kernel_rfl) (fun _ _ _ h => h) (by kernel_rfl) ?_ (by assumption) ?_; rotate_left; (focus (intro w hSw; (try dsimp only at hSw); go_simp; all_goals first | with_reducible rfl)); simp only [Act.put, List.setIfInBounds_toArray, List.set_cons_zero, List.set_cons_succ]
    refine wpAnyH_ready (rs := [9]) (by kernel_rfl) (by simp) ?_
    refine AllReadyH.cons rfl (fun K hK => ?_) AllReadyH.nil
    go_simp
    rw [HWE.out]
    refine hK.out _ _ (hSe) (fun _ => ?_)
    clear hK K
    try simp only [Act.put, List.setIfInBounds_toArray, List.set_cons_zero, List.set_cons_succ]
    refine wpAnyH_done (by kernel_rfl) ?_ _
    clear hSe hSn c1n hvc hfz hHeld0 hS0 c1d hSw hpl hcc1 hcc2
    have h := HWX.out
    have ho := HOX.out
    have HW7 := Lib.hid h
    have HO7 : Hid (Fr x w0 w7) := Lib.hid (HO6.out.trans ho)
    have HZ7 : Hid (((((someW x.xs F (((intW x.xs 1 (s)).nx x.xs).op (ifOps.getD a 0) 0)).op 167 0).label []).aim ((intW x.xs 1 (s)).nx x.xs).code.length (((someW x.xs F (((intW x.xs 1 (s)).nx x.xs).op (ifOps.getD a 0) 0)).op 167 0).code.length : Int)).sz (N + 3 * c + 11)) := Lib.hid ((Ws.sz_aim _ _ (Ws.sz_label [] HZ6.out)).more (by omega))
    clear h ho
    go_wp2_with fail
    refine (HFs.out _ _ (N + 3 * c + 11) HW7.out HZ7.out (by omega)).mono ?_
    rintro e w8 ⟨rfl, h, ho⟩
    have HW8 := Lib.hid h
    have HO8 : Hid (Fr x w0 w8) := Lib.hid (HO7.out.trans ho)
    have HZ8 : Hid ((someW x.xs F ((((someW x.xs F (((intW x.xs 1 (s)).nx x.xs).op (ifOps.getD a 0) 0)).op 167 0).label []).aim ((intW x.xs 1 (s)).nx x.xs).code.length (((someW x.xs F (((intW x.xs 1 (s)).nx x.xs).op (ifOps.getD a 0) 0)).op 167 0).code.length : Int))).sz (N + 6 * c + 11)) := Lib.hid ((HFa.out _ _ HZ7.out).more (by omega))
    clear h ho
    obtain ⟨Cd, ncd, ccd, hWC⟩ := HW8.out
    have hCs : ∃ gc, Cd = some ⟨gc, 0, none⟩ := by
      obtain ⟨T, nt, ct, M, nm, cm, lm, hD⟩ := hWC
      rcases hD.code.here with h0 | ⟨g, cur, h1, _⟩
      · exact absurd (hD.code.isNil h0).1 (by have h1 : (someW x.xs F ((((someW x.xs F (((intW x.xs 1 (s)).nx x.xs).op (ifOps.getD a 0) 0)).op 167 0).label []).aim ((intW x.xs 1 (s)).nx x.xs).code.length (((someW x.xs F (((intW x.xs 1 (s)).nx x.xs).op (ifOps.getD a 0) 0)).op 167 0).code.length : Int))).code.length = ncd := hD.code.row.1; have := (show (someW x.xs F (((intW x.xs 1 (s)).nx x.xs).op (ifOps.getD a 0) 0)).code.length < (someW x.xs F ((((someW x.xs F (((intW x.xs 1 (s)).nx x.xs).op (ifOps.getD a 0) 0)).op 167 0).label []).aim ((intW x.xs 1 (s)).nx x.xs).code.length (((someW x.xs F (((intW x.xs 1 (s)).nx x.xs).op (ifOps.getD a 0) 0)).op 167 0).code.length : Int))).code.length from by exact (by have g1 := HFg.out ((((someW x.xs F (((intW x.xs 1 (s)).nx x.xs).op (ifOps.getD a 0) 0)).op 167 0).label []).aim ((intW x.xs 1 (s)).nx x.xs).code.length (((someW x.xs F (((intW x.xs 1 (s)).nx x.xs).op (ifOps.getD a 0) 0)).op 167 0).code.length : Int)); have g2 : ((((someW x.xs F (((intW x.xs 1 (s)).nx x.xs).op (ifOps.getD a 0) 0)).op 167 0).label []).aim ((intW x.xs 1 (s)).nx x.xs).code.length (((someW x.xs F (((intW x.xs 1 (s)).nx x.xs).op (ifOps.getD a 0) 0)).op 167 0).code.length : Int)).code.length = ((someW x.xs F (((intW x.xs 1 (s)).nx x.xs).op (ifOps.getD a 0) 0)).code.length) + 1 := (by simp only [len_op, len_nx, len_label, len_aim]); omega)); omega)
      · exact ⟨g, h1⟩
    obtain ⟨gc, rfl⟩ := hCs
    have hln : (someW x.xs F ((((someW x.xs F (((intW x.xs 1 (s)).nx x.xs).op (ifOps.getD a 0) 0)).op 167 0).label []).aim ((intW x.xs 1 (s)).nx x.xs).code.length (((someW x.xs F (((intW x.xs 1 (s)).nx x.xs).op (ifOps.getD a 0) 0)).op 167 0).code.length : Int))).code.length = ncd := by obtain ⟨T, nt, ct, M, nm, cm, lm, hD⟩ := hWC; exact hD.code.row.1
    have hpl : (someW x.xs F (((intW x.xs 1 (s)).nx x.xs).op (ifOps.getD a 0) 0)).code.length < ncd := by have := (show (someW x.xs F (((intW x.xs 1 (s)).nx x.xs).op (ifOps.getD a 0) 0)).code.length < (someW x.xs F ((((someW x.xs F (((intW x.xs 1 (s)).nx x.xs).op (ifOps.getD a 0) 0)).op 167 0).label []).aim ((intW x.xs 1 (s)).nx x.xs).code.length (((someW x.xs F (((intW x.xs 1 (s)).nx x.xs).op (ifOps.getD a 0) 0)).op 167 0).code.length : Int))).code.length from by exact (by have g1 := HFg.out ((((someW x.xs F (((intW x.xs 1 (s)).nx x.xs).op (ifOps.getD a 0) 0)).op 167 0).label []).aim ((intW x.xs 1 (s)).nx x.xs).code.length (((someW x.xs F (((intW x.xs 1 (s)).nx x.xs).op (ifOps.getD a 0) 0)).op 167 0).code.length : Int)); have g2 : ((((someW x.xs F (((intW x.xs 1 (s)).nx x.xs).op (ifOps.getD a 0) 0)).op 167 0).label []).aim ((intW x.xs 1 (s)).nx x.xs).code.length (((someW x.xs F (((intW x.xs 1 (s)).nx x.xs).op (ifOps.getD a 0) 0)).op 167 0).code.length : Int)).code.length = ((someW x.xs F (((intW x.xs 1 (s)).nx x.xs).op (ifOps.getD a 0) 0)).code.length) + 1 := (by simp only [len_op, len_nx, len_label, len_aim]); omega)); omega
    have HPE : Hid ((someW x.xs F (((intW x.xs 1 (s)).nx x.xs).op (ifOps.getD a 0) 0)).code.length = q2) := HQq2
    rw [HPE.out] at hpl
    have hSw : w8.cell? ⟨x.g, 0, none⟩ = some (.pointer (some ⟨x.tp, 0, none⟩)) := HW8.out.t
    have hdr : Below w8.heap.size w8 w8.drew := ((Only.refl Empty w8).drew).below (Nat.le_refl _) (fun _ _ h => h)
    have hWD : WrC x w8.drew D (someW x.xs F ((((someW x.xs F (((intW x.xs 1 (s)).nx x.xs).op (ifOps.getD a 0) 0)).op 167 0).label []).aim ((intW x.xs 1 (s)).nx x.xs).code.length (((someW x.xs F (((intW x.xs 1 (s)).nx x.xs).op (ifOps.getD a 0) 0)).op 167 0).code.length : Int))) (some ⟨gc, 0, none⟩) ncd ccd := by
      obtain ⟨T, nt, ct, M, nm, cm, lm, hD⟩ := hWC
      exact ⟨T, nt, ct, M, nm, cm, lm, hD.below hdr⟩
    have c1d : w8.drew.cell? ⟨x.g, 1, none⟩ = some (.slice (some ⟨gc, 0, none⟩) ncd ccd) := by
      obtain ⟨T, nt, ct, M, nm, cm, lm, hD⟩ := hWD
      exact hD.blk.cell 1
    have hS0 : w8.drew.cell? ⟨x.g, 0, none⟩ = some (.pointer (some ⟨x.tp, 0, none⟩)) := by
      obtain ⟨T, nt, ct, M, nm, cm, lm, hD⟩ := hWD
      exact hD.blk.cell 0
    have hcc : ncd ≤ ccd ∧ ccd ≤ 9223372036854775807 := by
      obtain ⟨T, nt, ct, M, nm, cm, lm, hD⟩ := hWC
      have := hD.code.row.2.2.1
      unfold maxLen at this
      exact ⟨hD.code.row.2.1, by omega⟩
    obtain ⟨hcc1, hcc2⟩ := hcc
    obtain ⟨L0, hL0⟩ : ∃ L0, (someW x.xs F ((((someW x.xs F (((intW x.xs 1 (s)).nx x.xs).op (ifOps.getD a 0) 0)).op 167 0).label []).aim ((intW x.xs 1 (s)).nx x.xs).code.length (((someW x.xs F (((intW x.xs 1 (s)).nx x.xs).op (ifOps.getD a 0) 0)).op 167 0).code.length : Int))).code.length = L0 := ⟨_, rfl⟩
    have HL0 := Lib.hid hL0
    have CL : Hid (Calls Tryz.prog 216 #[.pointer (some ⟨x.g, 0, none⟩), .slice none 0 0] w8.drew fun e w' => e = .returned (.int .i64 (L0 : Int)) ∧ WrC x w' D ((someW x.xs F ((((someW x.xs F (((intW x.xs 1 (s)).nx x.xs).op (ifOps.getD a 0) 0)).op 167 0).label []).aim ((intW x.xs 1 (s)).nx x.xs).code.length (((someW x.xs F (((intW x.xs 1 (s)).nx x.xs).op (ifOps.getD a 0) 0)).op 167 0).code.length : Int))).label []) (some ⟨gc, 0, none⟩) ncd ccd ∧ Fr x w8.drew w') := Lib.hid (by rw [← hL0]; exact label_d x _ _ _ (N + 6 * c + 11) none 0 0 [] _ _ _ (Or.inl ⟨rfl, rfl, rfl, rfl⟩) hWD HZ8.out (by omega))
    have HDR := Lib.hid (Fr.of_below (x := x) hdr)
    clear hWC hWD hdr hln hL0
    go_wp2_with fail
    refine wp_region_held_drew (S := fun W => W.cell? ⟨x.g, 0, none⟩ = some (.pointer (some ⟨x.tp, 0, none⟩))) (by kernel_rfl) hSw (fun hHeld0 => ?_)
    refine take_yes 0 31 ?_ rfl rfl (by kernel_rfl) (by kernel_rfl) (by kernel_rfl) (fun _ _ _ h => h) (by kernel_rfl) ?_ (by assumption) ?_; rotate_left; (focus (intro w hSw; (try dsimp only at hSw); go_simp; all_goals first | with_reducible rfl)); simp only [Act.put, List.setIfInBounds_toArray, List.set_cons_zero, List.set_cons_succ]
    refine take_yes 1 32 ?_ rfl rfl (by kernel_rfl) (by kernel_rfl) (by kernel_rfl) (fun _ _ _ h => h) (by kernel_rfl) ?_ (by assumption) ?_; rotate_left; (focus (intro w hSw; (try dsimp only at hSw); go_simp; all_goals first | with_reducible rfl)); simp only [Act.put, List.setIfInBounds_toArray, List.set_cons_zero, List.set_cons_succ]
    refine take_yes 2 33 ?_ rfl rfl (by kernel_rfl) (by kernel_rfl) (by kernel_rfl) (fun _ _ _ h => h) (by kernel_rfl) ?_ (by assumption) ?_; rotate_left; (focus (intro w hSw; (try dsimp only at hSw); go_simp; all_goals first | with_reducible rfl)); simp only [Act.put, List.setIfInBounds_toArray, List.set_cons_zero, List.set_cons_succ]
    refine take_yes 4 35 ?_ rfl rfl (by kernel_rfl) (by kernel_rfl) (by kernel_rfl) (fun _ _ _ h => h) (by kernel_rfl) ?_ (by assumption) ?_; rotate_left; (focus (intro w hSw; (try dsimp only at hSw); go_simp; all_goals first | with_reducible rfl)); simp only [Act.put, List.setIfInBounds_toArray, List.set_cons_zero, List.set_cons_succ]
    refine take_yes 5 36 ?_ rfl rfl (by kernel_rfl) (by kernel_rfl) (by kernel_rfl) (fun _ _ _ h => h) (by kernel_rfl) ?_ (by assumption) ?_; rotate_left; (focus (intro w hSw; (try dsimp only at hSw); go_simp; all_goals first | with_reducible rfl)); simp only [Act.put, List.setIfInBounds_toArray, List.set_cons_zero, List.set_cons_succ]
    refine wpAnyH_ready (rs := [3, 6]) (by kernel_rfl) (by simp) ?_
    refine AllReadyH.cons rfl (fun K hK => ?_) (AllReadyH.cons rfl (fun K hK => ?_) AllReadyH.nil)
    · go_simp
      refine hK.out _ _ (hS0) (fun _ => ?_)
      clear hK K
      try simp only [Act.put, List.setIfInBounds_toArray, List.set_cons_zero, List.set_cons_succ]
      refine wpAnyH_ready (rs := [6]) (by kernel_rfl) (by simp) ?_
      refine AllReadyH.cons rfl (fun K hK => ?_) AllReadyH.nil
      go_simp
      go_at_call 216; (refine CL.out.mono ?_); rintro e wn ⟨rfl, hDn, hFn⟩
      have HFN := Lib.hid (HDR.out.trans hFn)
      obtain ⟨Tn, ntn, ctn, Mn, nmn, cmn, lmn, hDn⟩ := hDn
      have hSn : wn.cell? ⟨x.g, 0, none⟩ = some (.pointer (some ⟨x.tp, 0, none⟩)) := hDn.blk.cell 0
      have c1n : wn.cell? ⟨x.g, 1, none⟩ = some (.slice (some ⟨gc, 0, none⟩) ncd ccd) := hDn.blk.cell 1
      obtain ⟨hP, hF⟩ := hDn.aim_ hpl (L0 : Int)
      have hbc : ∃ v, wn.cell? ⟨gc, q2 * 7 + 1, none⟩ = some v := by
        obtain ⟨b', o', y, e', _, _, hy, hc⟩ := hDn.code.row.at_ hpl
        cases e'
        have := hc 1 (by decide)
        rw [Nat.zero_add] at this
        exact ⟨_, this⟩
      obtain ⟨vc, hvc⟩ := hbc
      have hfz : wn.frozen? ⟨gc, q2 * 7 + 1, none⟩ = false := by
        obtain ⟨cur, hb, _⟩ := gotR_block hDn.code (show (Value.slice (some ⟨gc, 0, none⟩) ncd ccd).ownBlock = some gc from rfl)
        exact hb.frozen _
      obtain ⟨w9, hwe⟩ : ∃ W, wn.setCell ⟨gc, q2 * 7 + 1, none⟩ (.int .i64 (L0 : Int)) = W := ⟨_, rfl⟩
      rw [hwe] at hP hF
      have hSe : w9.cell? ⟨x.g, 0, none⟩ = some (.pointer (some ⟨x.tp, 0, none⟩)) := hP.blk.cell 0
      have HWE := Lib.hid hwe
      have HWX : Hid (WrS x w9 D (((someW x.xs F ((((someW x.xs F (((intW x.xs 1 (s)).nx x.xs).op (ifOps.getD a 0) 0)).op 167 0).label []).aim ((intW x.xs 1 (s)).nx x.xs).code.length (((someW x.xs F (((intW x.xs 1 (s)).nx x.xs).op (ifOps.getD a 0) 0)).op 167 0).code.length : Int))).label []).aim (someW x.xs F (((intW x.xs 1 (s)).nx x.xs).op (ifOps.getD a 0) 0)).code.length ((someW x.xs F ((((someW x.xs F (((intW x.xs 1 (s)).nx x.xs).op (ifOps.getD a 0) 0)).op 167 0).label []).aim ((intW x.xs 1 (s)).nx x.xs).code.length (((someW x.xs F (((intW x.xs 1 (s)).nx x.xs).op (ifOps.getD a 0) 0)).op 167 0).code.length : Int))).code.length : Int))) := Lib.hid (by rw [HPE.out, HL0.out]; exact ⟨_, _, _, Tn, ntn, ctn, Mn, nmn, cmn, lmn, hP⟩)
      have HOX : Hid (Fr x w8 w9) := Lib.hid (HFN.out.trans hF)
      clear hDn hFn hP hF hwe
      go_wp2_with fail
      refine hK.out _ _ (hSn) (fun _ => ?_)
      clear hK K
      try simp only [Act.put, List.setIfInBounds_toArray, List.set_cons_zero, List.set_cons_succ]
      refine take_yes 7 38 ?_ rfl rfl (by kernel_rfl) (by kernel_rfl) (by kernel_rfl) (fun _ _ _ h => h) (by kernel_rfl) ?_ (by assumption) ?_; rotate_left; (focus (intro w hSw; (try dsimp only at hSw); go_simp; all_goals first | with_reducible rfl)); simp only [Act.put, List.setIfInBounds_toArray, List.set_cons_zero, List.set_cons_succ]
      refine take_yes 8 39 ?_ rfl rfl (by kernel_rfl) (by kernel_rfl) (by kernel_rfl) (fun _ _ _ h => h) (by kernel_rfl) ?_ (by assumption) ?_; rotate_left; (focus (intro w hSw; (try dsimp only at hSw); go_simp; all_goals first | with_reducible rfl)); simp only [Act.put, List.setIfInBounds_toArray, List.set_cons_zero, List.set_cons_succ]
      refine wpAnyH_ready (rs := [9]) (by kernel_rfl) (by simp) ?_
      refine AllReadyH.cons rfl (fun K hK => ?_) AllReadyH.nil
      go_simp
      rw [HWE.out]
      refine hK.out _ _ (hSe) (fun _ => ?_)
      clear hK K
      try simp only [Act.put, List.setIfInBounds_toArray, List.set_cons_zero, List.set_cons_succ]
      refine wpAnyH_done (by kernel_rfl) ?_ _
      clear hSe hSn c1n hvc hfz hHeld0 hS0 c1d hSw hpl hcc1 hcc2
      have h := HWX.out
      have ho := HOX.out
      have HW9 := Lib.hid h
      have HO9 : Hid (Fr x w0 w9) := Lib.hid (HO8.out.trans ho)
      have HZ9 : Hid ((((someW x.xs F ((((someW x.xs F (((intW x.xs 1 (s)).nx x.xs).op (ifOps.getD a 0) 0)).op 167 0).label []).aim ((intW x.xs 1 (s)).nx x.xs).code.length (((someW x.xs F (((intW x.xs 1 (s)).nx x.xs).op (ifOps.getD a 0) 0)).op 167 0).code.length : Int))).label []).aim (someW x.xs F (((intW x.xs 1 (s)).nx x.xs).op (ifOps.getD a 0) 0)).code.length ((someW x.xs F ((((someW x.xs F (((intW x.xs 1 (s)).nx x.xs).op (ifOps.getD a 0) 0)).op 167 0).label []).aim ((intW x.xs 1 (s)).nx x.xs).code.length (((someW x.xs F (((intW x.xs 1 (s)).nx x.xs).op (ifOps.getD a 0) 0)).op 167 0).code.length : Int))).code.length : Int)).sz (N + 6 * c + 12)) := Lib.hid ((Ws.sz_aim _ _ (Ws.sz_label [] HZ8.out)).more (by omega))
      clear h ho
      have HE : Hid (FS = ((someW x.xs F ((((someW x.xs F (((intW x.xs 1 (s)).nx x.xs).op (ifOps.getD a 0) 0)).op 167 0).label []).aim ((intW x.xs 1 (s)).nx x.xs).code.length (((someW x.xs F (((intW x.xs 1 (s)).nx x.xs).op (ifOps.getD a 0) 0)).op 167 0).code.length : Int))).label []).aim (someW x.xs F (((intW x.xs 1 (s)).nx x.xs).op (ifOps.getD a 0) 0)).code.length ((someW x.xs F ((((someW x.xs F (((intW x.xs 1 (s)).nx x.xs).op (ifOps.getD a 0) 0)).op 167 0).label []).aim ((intW x.xs 1 (s)).nx x.xs).code.length (((someW x.xs F (((intW x.xs 1 (s)).nx x.xs).op (ifOps.getD a 0) 0)).op 167 0).code.length : Int))).code.length : Int)) := Lib.hid (by rw [← HFS.out]; unfold choiceW; simp only [HVa.out]; rfl)
      go_wp2
      go_end0
      rw [HE.out]
      exact ⟨rfl, HW9.out, HO9.out⟩
    · go_simp
      go_at_call 216; (refine CL.out.mono ?_); rintro e wn ⟨rfl, hDn, hFn⟩
      have HFN := Lib.hid (HDR.out.trans hFn)
      obtain ⟨Tn, ntn, ctn, Mn, nmn, cmn, lmn, hDn⟩ := hDn
      have hSn : wn.cell? ⟨x.g, 0, none⟩ = some (.pointer (some ⟨x.tp, 0, none⟩)) := hDn.blk.cell 0
      have c1n : wn.cell? ⟨x.g, 1, none⟩ = some (.slice (some ⟨gc, 0, none⟩) ncd ccd) := hDn.blk.cell 1
      obtain ⟨hP, hF⟩ := hDn.aim_ hpl (L0 : Int)
      have hbc : ∃ v, wn.cell? ⟨gc, q2 * 7 + 1, none⟩ = some v := by
        obtain ⟨b', o', y, e', _, _, hy, hc⟩ := hDn.code.row.at_ hpl
        cases e'
        have := hc 1 (by decide)
        rw [Nat.zero_add] at this
        exact ⟨_, this⟩
      obtain ⟨vc, hvc⟩ := hbc
      have hfz : wn.frozen? ⟨gc, q2 * 7 + 1, none⟩ = false := by
        obtain ⟨cur, hb, _⟩ := gotR_block hDn.code (show (Value.slice (some ⟨gc, 0, none⟩) ncd ccd).ownBlock = some gc from rfl)
        exact hb.frozen _
      obtain ⟨w9, hwe⟩ : ∃ W, wn.setCell ⟨gc, q2 * 7 + 1, none⟩ (.int .i64 (L0 : Int)) = W := ⟨_, rfl⟩
      rw [hwe] at hP hF
      have hSe : w9.cell? ⟨x.g, 0, none⟩ = some (.pointer (some ⟨x.tp, 0, none⟩)) := hP.blk.cell 0
      have HWE := Lib.hid hwe
      have HWX : Hid (WrS x w9 D (((someW x.xs F ((((someW x.xs F (((intW x.xs 1 (s)).nx x.xs).op (ifOps.getD a 0) 0)).op 167 0).label []).aim ((intW x.xs 1 (s)).nx x.xs).code.length (((someW x.xs F (((intW x.xs 1 (s)).nx x.xs).op (ifOps.getD a 0) 0)).op 167 0).code.length : Int))).label []).aim (someW x.xs F (((intW x.xs 1 (s)).nx x.xs).op (ifOps.getD a 0) 0)).code.length ((someW x.xs F ((((someW x.xs F (((intW x.xs 1 (s)).nx x.xs).op (ifOps.getD a 0) 0)).op 167 0).label []).aim ((intW x.xs 1 (s)).nx x.xs).code.length (((someW x.xs F (((intW x.xs 1 (s)).nx x.xs).op (ifOps.getD a 0) 0)).op 167 0).code.length : Int))).code.length : Int))) := Lib.hid (by rw [HPE.out, HL0.out]; exact ⟨_, _, _, Tn, ntn, ctn, Mn, nmn, cmn, lmn, hP⟩)
      have HOX : Hid (Fr x w8 w9) := Lib.hid (HFN.out.trans hF)
      clear hDn hFn hP hF hwe
      go_wp2_with fail
      refine hK.out _ _ (hSn) (fun _ => ?_)
      clear hK K
      try simp only [Act.put, List.setIfInBounds_toArray, List.set_cons_zero, List.set_cons_succ]
      refine wpAnyH_ready (rs := [3]) (by kernel_rfl) (by simp) ?_
      refine AllReadyH.cons rfl (fun K hK => ?_) AllReadyH.nil
      go_simp
      refine hK.out _ _ (hSn) (fun _ => ?_)
      clear hK K
      try simp only [Act.put, List.setIfInBounds_toArray, List.set_cons_zero, List.set_cons_succ]
      refine take_yes 7 38 ?_ rfl rfl (by kernel_rfl) (by kernel_rfl) (by kernel_rfl) (fun _ _ _ h => h) (by kernel_rfl) ?_ (by assumption) ?_; rotate_left; (focus (intro w hSw; (try dsimp only at hSw); go_simp; all_goals first | with_reducible rfl)); simp only [Act.put, List.setIfInBounds_toArray, List.set_cons_zero, List.set_cons_succ]
      refine take_yes 8 39 ?_ rfl rfl (by kernel_rfl) (by kernel_rfl) (by kernel_rfl) (fun _ _ _ h => h) (by kernel_rfl) ?_ (by assumption) ?_; rotate_left; (focus (intro w hSw; (try dsimp only at hSw); go_simp; all_goals first | with_reducible rfl)); simp only [Act.put, List.setIfInBounds_toArray, List.set_cons_zero, List.set_cons_succ]
      refine wpAnyH_ready (rs := [9]) (by kernel_rfl) (by simp) ?_
      refine AllReadyH.cons rfl (fun K hK => ?_) AllReadyH.nil
      go_simp
      rw [HWE.out]
      refine hK.out _ _ (hSe) (fun _ => ?_)
      clear hK K
      try simp only [Act.put, List.setIfInBounds_toArray, List.set_cons_zero, List.set_cons_succ]
      refine wpAnyH_done (by kernel_rfl) ?_ _
      clear hSe hSn c1n hvc hfz hHeld0 hS0 c1d hSw hpl hcc1 hcc2
      have h := HWX.out
      have ho := HOX.out
      have HW9 := Lib.hid h
      have HO9 : Hid (Fr x w0 w9) := Lib.hid (HO8.out.trans ho)
      have HZ9 : Hid ((((someW x.xs F ((((someW x.xs F (((intW x.xs 1 (s)).nx x.xs).op (ifOps.getD a 0) 0)).op 167 0).label []).aim ((intW x.xs 1 (s)).nx x.xs).code.length (((someW x.xs F (((intW x.xs 1 (s)).nx x.xs).op (ifOps.getD a 0) 0)).op 167 0).code.length : Int))).label []).aim (someW x.xs F (((intW x.xs 1 (s)).nx x.xs).op (ifOps.getD a 0) 0)).code.length ((someW x.xs F ((((someW x.xs F (((intW x.xs 1 (s)).nx x.xs).op (ifOps.getD a 0) 0)).op 167 0).label []).aim ((intW x.xs 1 (s)).nx x.xs).code.length (((someW x.xs F (((intW x.xs 1 (s)).nx x.xs).op (ifOps.getD a 0) 0)).op 167 0).code.length : Int))).code.length : Int)).sz (N + 6 * c + 12)) := Lib.hid ((Ws.sz_aim _ _ (Ws.sz_label [] HZ8.out)).more (by omega))
      clear h ho
      have HE : Hid (FS = ((someW x.xs F ((((someW x.xs F (((intW x.xs 1 (s)).nx x.xs).op (ifOps.getD a 0) 0)).op 167 0).label []).aim ((intW x.xs 1 (s)).nx x.xs).code.length (((someW x.xs F (((intW x.xs 1 (s)).nx x.xs).op (ifOps.getD a 0) 0)).op 167 0).code.length : Int))).label []).aim (someW x.xs F (((intW x.xs 1 (s)).nx x.xs).op (ifOps.getD a 0) 0)).code.length ((someW x.xs F ((((someW x.xs F (((intW x.xs 1 (s)).nx x.xs).op (ifOps.getD a 0) 0)).op 167 0).label []).aim ((intW x.xs 1 (s)).nx x.xs).code.length (((someW x.xs F (((intW x.xs 1 (s)).nx x.xs).op (ifOps.getD a 0) 0)).op 167 0).code.length : Int))).code.length : Int)) := Lib.hid (by rw [← HFS.out]; unfold choiceW; simp only [HVa.out]; rfl)
      go_wp2
      go_end0
      rw [HE.out]
      exact ⟨rfl, HW9.out, HO9.out⟩

end Go.Proofs.YtdkkpcbebhgbiaaGreatDoor

/- The walk over carpetbagmake's loop; printed by gen/gen_wm.py. -/
namespace Go.Proofs.YtdkkpcbebhgbiaaGreatDoor
set_option maxRecDepth 100000
open Go.RowKit Go.Maps

theorem grow_loop (xs : Bs) {F : Ws → Ws} (h : GrowW F) : GrowW (loopW xs F) := fun s => by
  unfold loopW
  simp only
  rw [len_aim, len_label, len_op, len_push]
  have h2 := grow_some xs h ((((((s.nx xs).push (numI (nxV xs 5 s.at_ : Int))).op 54 2).label []).op 21 2).op 158 0)
  simp only [len_op, len_push, len_nx, len_label] at h2
  omega

set_option maxHeartbeats 4000000 in
theorem loop_s (x : Wx) (w : World) (D : Int) (s : Ws) (N : Nat) (F : Ws → Ws) (c B : Nat) (hD : -10 ≤ D ∧ D ≤ 10) (hF : CtS x 124 (D + 1) F B) (hFa : AddsW F c) (hFg : GrowW F) (h : WrS x w D s) (hz : s.sz N) (hN : N + 6 * c + 40 ≤ B) (hB : B ≤ 15600000) :
    Calls Tryz.prog 177 #[.pointer (some ⟨x.g, 0, none⟩)] w fun e w' => e = .returned (.tuple #[]) ∧ WrS x w' D (loopW x.xs F s) ∧ Fr x w w' := by
  obtain ⟨w0, rfl⟩ : ∃ w0, w0 = w := ⟨_, rfl⟩
  have HW0 := Lib.hid h
  have HO0 : Hid (Fr x w0 w0) := Lib.hid (Fr.refl x w0)
  have HZ0 := Lib.hid hz
  obtain ⟨FS, hFS⟩ : ∃ FS, loopW x.xs F s = FS := ⟨_, rfl⟩
  have HFS := Lib.hid hFS
  rw [hFS]
  clear h hz hFS
  have HFs := Lib.hid (fun (W : World) (t : Ws) (M : Nat) (h : WrS x W D t) (hz : t.sz M) (hM : M + 3 * c ≤ B) => some_s x W D t M F c B hD hF hFa h hz hM)
  have HFa := Lib.hid (adds_some x.xs hFa)
  have HFg := Lib.hid (grow_some x.xs hFg)
  clear hF hFa hFg
  go_enter Tryz.func177, Tryz.ntmps177
  have t0 := HW0.out.t
  go_wp2_with fail
  refine (next_s x _ _ _ 5 _ HW0.out (by omega) (by omega) rfl).mono ?_
  rintro e w1 ⟨rfl, h, ho⟩
  have HW1 := Lib.hid h
  have HO1 : Hid (Fr x w0 w1) := Lib.hid (HO0.out.trans ho)
  have HZ1 : Hid (((s).nx x.xs).sz N) := Lib.hid ((Ws.sz_nx x.xs HZ0.out).more (by omega))
  clear h ho
  obtain ⟨v, hv⟩ : ∃ v, nxV x.xs 5 (s).at_ = v := ⟨_, rfl⟩
  have bv : v < 5 := by rw [← hv]; exact nxV_lt (by omega)
  rw [hv]
  have HVv := Lib.hid hv
  clear hv t0
  go_wp2_with fail
  refine (number_s x _ _ _ N (v : Int) (by omega) HW1.out HZ1.out (by omega)).mono ?_
  rintro e w2 ⟨rfl, h, ho⟩
  have HW2 := Lib.hid h
  have HO2 : Hid (Fr x w0 w2) := Lib.hid (HO1.out.trans ho)
  have HZ2 : Hid ((((s).nx x.xs).push (numI (v : Int))).sz (N + 1)) := Lib.hid ((Ws.sz_push _ HZ1.out).more (by omega))
  clear h ho
  go_wp2_with fail
  refine (op_v x _ _ _ (N + 1) 54 _ _ (by first | rfl | decide | assumption) HW2.out HZ2.out (by omega)).mono ?_
  rintro e w3 ⟨rfl, h, ho⟩
  have HW3 := Lib.hid h
  have HO3 : Hid (Fr x w0 w3) := Lib.hid (HO2.out.trans ho)
  have HZ3 : Hid (((((s).nx x.xs).push (numI (v : Int))).op 54 2).sz (N + 2)) := Lib.hid ((Ws.sz_op _ _ HZ2.out).more (by omega))
  clear h ho
  go_wp2_with fail
  refine (label_s x _ _ _ (N + 2) none 0 0 [] (Or.inl ⟨rfl, rfl, rfl, rfl⟩) HW3.out HZ3.out (by omega)).mono ?_
  rintro e w4 ⟨rfl, h, ho⟩
  have HW4 := Lib.hid h
  have HO4 : Hid (Fr x w0 w4) := Lib.hid (HO3.out.trans ho)
  have HZ4 : Hid ((((((s).nx x.xs).push (numI (v : Int))).op 54 2).label []).sz (N + 3)) := Lib.hid ((Ws.sz_label [] HZ3.out).more (by omega))
  clear h ho
  obtain ⟨q1, hq1⟩ : ∃ q1, ((((s).nx x.xs).push (numI (v : Int))).op 54 2).code.length = q1 := ⟨_, rfl⟩
  rw [hq1]
  have HQq1 := Lib.hid hq1
  clear hq1
  go_wp2_with fail
  refine (op_v x _ _ _ (N + 3) 21 _ _ (by first | rfl | decide | assumption) HW4.out HZ4.out (by omega)).mono ?_
  rintro e w5 ⟨rfl, h, ho⟩
  have HW5 := Lib.hid h
  have HO5 : Hid (Fr x w0 w5) := Lib.hid (HO4.out.trans ho)
  have HZ5 : Hid (((((((s).nx x.xs).push (numI (v : Int))).op 54 2).label []).op 21 2).sz (N + 4)) := Lib.hid ((Ws.sz_op _ _ HZ4.out).more (by omega))
  clear h ho
  go_wp2_with fail
  refine (branch_s x _ _ _ (N + 4) 158 _ rfl HW5.out HZ5.out (by omega)).mono ?_
  rintro e w6 ⟨rfl, h, ho⟩
  have HW6 := Lib.hid h
  have HO6 : Hid (Fr x w0 w6) := Lib.hid (HO5.out.trans ho)
  have HZ6 : Hid ((((((((s).nx x.xs).push (numI (v : Int))).op 54 2).label []).op 21 2).op 158 0).sz (N + 5)) := Lib.hid ((Ws.sz_op _ _ HZ5.out).more (by omega))
  clear h ho
  obtain ⟨q2, hq2⟩ : ∃ q2, ((((((s).nx x.xs).push (numI (v : Int))).op 54 2).label []).op 21 2).code.length = q2 := ⟨_, rfl⟩
  rw [hq2]
  have HQq2 := Lib.hid hq2
  clear hq2
  go_wp2_with fail
  refine (HFs.out _ _ (N + 5) HW6.out HZ6.out (by omega)).mono ?_
  rintro e w7 ⟨rfl, h, ho⟩
  have HW7 := Lib.hid h
  have HO7 : Hid (Fr x w0 w7) := Lib.hid (HO6.out.trans ho)
  have HZ7 : Hid ((someW x.xs F (((((((s).nx x.xs).push (numI (v : Int))).op 54 2).label []).op 21 2).op 158 0)).sz (N + 3 * c + 5)) := Lib.hid ((HFa.out _ _ HZ6.out).more (by omega))
  clear h ho
  obtain ⟨C7, nc7, cc7, T7, nt7, ct7, M7, nm7, cm7, lm7, hD⟩ := HW7.out
  have hnc7 : nc7 ≤ (N + 3 * c + 5) := by rw [← hD.code.row.1]; exact HZ7.out.1
  have c17 : w7.cell? ⟨x.g, 1, none⟩ = some (.slice C7 nc7 cc7) := hD.blk.cell 1
  have hgl7 := hD.blk.lt
  have hb := belowA w7 (.cells (inC (⟨132, 2, -1, [], [], [], []⟩ : InD)).toArray 98)
  have hD1 := hD.below hb
  have f17 : w7.frozen? ⟨x.g, 1, none⟩ = false := hD.blk.frozen 1
  have HC7 : Hid (GotR inC 7 98 x.b0 (w7.alloc (.cells (inC (⟨132, 2, -1, [], [], [], []⟩ : InD)).toArray 98)) C7 nc7 cc7 (someW x.xs F (((((((s).nx x.xs).push (numI (v : Int))).op 54 2).label []).op 21 2).op 158 0)).code) := Lib.hid hD1.code
  have HB7 : Hid (Blk (w7.alloc (.cells (inC (⟨132, 2, -1, [], [], [], []⟩ : InD)).toArray 98)) w7.heap.size 98 (inC (⟨132, 2, -1, [], [], [], []⟩ : InD)).toArray) := Lib.hid (Blk.new _ _ _)
  have hb07 := hD1.b0
  have HGO7 := Lib.hid (ne_own hD.code hD.blk (by decide))
  have HD17 := Lib.hid hD1
  have HBE7 := Lib.hid hb
  clear hD hD1 hb
  simp only [inC] at HC7 HB7 HBE7 HD17 hb07
  go_wp2_with (at_builtin; refine wpList_push rfl _ _ rfl x.b0 C7 nc7 cc7 (someW x.xs F (((((((s).nx x.xs).push (numI (v : Int))).op 54 2).label []).op 21 2).op 158 0)).code rfl HC7.out w7.heap.size (⟨132, 2, -1, [], [], [], []⟩ : InD) rfl HB7.out (by omega) hb07 ?_; intro C27 c27 wx7 hG7 hg7 hr7; have s17 : wx7.cell? ⟨x.g, 1, none⟩ = some (.slice C7 nc7 cc7) := ((only_grown hg7 hr7).cell (p := ⟨x.g, 1, none⟩) (by simp; omega) HGO7.out).trans (cellA _ c17); have s27 : wx7.frozen? ⟨x.g, 1, none⟩ = false := (((only_grown hg7 hr7).blk HD17.out.blk HGO7.out)).frozen 1)
  obtain ⟨hP, hF⟩ := HD17.out.push hG7 hg7 hr7
  obtain ⟨w8, hwe⟩ : ∃ W, wx7.setCell ⟨x.g, 1, none⟩ (.slice C27 (nc7 + 1) c27) = W := ⟨_, rfl⟩
  rw [hwe] at hP hF ⊢
  have h : WrS x w8 _ ((someW x.xs F (((((((s).nx x.xs).push (numI (v : Int))).op 54 2).label []).op 21 2).op 158 0)).push ⟨132, 2, -1, [], [], [], []⟩) := ⟨C27, nc7 + 1, c27, T7, nt7, ct7, M7, nm7, cm7, lm7, hP⟩
  have ho : Fr x w7 w8 := (Fr.of_below HBE7.out).trans hF
  clear hwe hP hF hG7 hg7 hr7 s17 s27 c17 f17
  have HW8 := Lib.hid h
  have HO8 : Hid (Fr x w0 w8) := Lib.hid (HO7.out.trans ho)
  have HZ8 : Hid (((someW x.xs F (((((((s).nx x.xs).push (numI (v : Int))).op 54 2).label []).op 21 2).op 158 0)).push ⟨132, 2, -1, [], [], [], []⟩).sz (N + 3 * c + 6)) := Lib.hid ((Ws.sz_push _ HZ7.out).more (by omega))
  clear h ho
  go_wp2_with fail
  refine (op_v x _ _ _ (N + 3 * c + 6) 167 _ _ (by first | rfl | decide | assumption) HW8.out HZ8.out (by omega)).mono ?_
  rintro e w9 ⟨rfl, h, ho⟩
  have HW9 := Lib.hid h
  have HO9 : Hid (Fr x w0 w9) := Lib.hid (HO8.out.trans ho)
  have HZ9 : Hid ((((someW x.xs F (((((((s).nx x.xs).push (numI (v : Int))).op 54 2).label []).op 21 2).op 158 0)).push ⟨132, 2, -1, [], [], [], []⟩).op 167 (q1 : Int)).sz (N + 3 * c + 7)) := Lib.hid ((Ws.sz_op _ _ HZ8.out).more (by omega))
  clear h ho
  obtain ⟨Cd, ncd, ccd, hWC⟩ := HW9.out
  have hCs : ∃ gc, Cd = some ⟨gc, 0, none⟩ := by
    obtain ⟨T, nt, ct, M, nm, cm, lm, hD⟩ := hWC
    rcases hD.code.here with h0 | ⟨g, cur, h1, _⟩
    · exact absurd (hD.code.isNil h0).1 (by have h1 : (((someW x.xs F (((((((s).nx x.xs).push (numI (v : Int))).op 54 2).label []).op 21 2).op 158 0)).push ⟨132, 2, -1, [], [], [], []⟩).op 167 (q1 : Int)).code.length = ncd := hD.code.row.1; have := (show ((((((s).nx x.xs).push (numI (v : Int))).op 54 2).label []).op 21 2).code.length < (((someW x.xs F (((((((s).nx x.xs).push (numI (v : Int))).op 54 2).label []).op 21 2).op 158 0)).push ⟨132, 2, -1, [], [], [], []⟩).op 167 (q1 : Int)).code.length from by exact (by have g1 := HFg.out (((((((s).nx x.xs).push (numI (v : Int))).op 54 2).label []).op 21 2).op 158 0); have g2 : (((((((s).nx x.xs).push (numI (v : Int))).op 54 2).label []).op 21 2).op 158 0).code.length = (((((((s).nx x.xs).push (numI (v : Int))).op 54 2).label []).op 21 2).code.length) + 1 := len_op _ _ _; simp only [len_op, len_push] at g1 g2 ⊢; omega)); omega)
    · exact ⟨g, h1⟩
  obtain ⟨gc, rfl⟩ := hCs
  have hln : (((someW x.xs F (((((((s).nx x.xs).push (numI (v : Int))).op 54 2).label []).op 21 2).op 158 0)).push ⟨132, 2, -1, [], [], [], []⟩).op 167 (q1 : Int)).code.length = ncd := by obtain ⟨T, nt, ct, M, nm, cm, lm, hD⟩ := hWC; exact hD.code.row.1
  have hpl : ((((((s).nx x.xs).push (numI (v : Int))).op 54 2).label []).op 21 2).code.length < ncd := by have := (show ((((((s).nx x.xs).push (numI (v : Int))).op 54 2).label []).op 21 2).code.length < (((someW x.xs F (((((((s).nx x.xs).push (numI (v : Int))).op 54 2).label []).op 21 2).op 158 0)).push ⟨132, 2, -1, [], [], [], []⟩).op 167 (q1 : Int)).code.length from by exact (by have g1 := HFg.out (((((((s).nx x.xs).push (numI (v : Int))).op 54 2).label []).op 21 2).op 158 0); have g2 : (((((((s).nx x.xs).push (numI (v : Int))).op 54 2).label []).op 21 2).op 158 0).code.length = (((((((s).nx x.xs).push (numI (v : Int))).op 54 2).label []).op 21 2).code.length) + 1 := len_op _ _ _; simp only [len_op, len_push] at g1 g2 ⊢; omega)); omega
  have HPE : Hid (((((((s).nx x.xs).push (numI (v : Int))).op 54 2).label []).op 21 2).code.length = q2) := HQq2
  rw [HPE.out] at hpl
  have hSw : w9.cell? ⟨x.g, 0, none⟩ = some (.pointer (some ⟨x.tp, 0, none⟩)) := HW9.out.t
  have hdr : Below w9.heap.size w9 w9.drew := ((Only.refl Empty w9).drew).below (Nat.le_refl _) (fun _ _ h => h)
  have hWD : WrC x w9.drew D (((someW x.xs F (((((((s).nx x.xs).push (numI (v : Int))).op 54 2).label []).op 21 2).op 158 0)).push ⟨132, 2, -1, [], [], [], []⟩).op 167 (q1 : Int)) (some ⟨gc, 0, none⟩) ncd ccd := by
    obtain ⟨T, nt, ct, M, nm, cm, lm, hD⟩ := hWC
    exact ⟨T, nt, ct, M, nm, cm, lm, hD.below hdr⟩
  have c1d : w9.drew.cell? ⟨x.g, 1, none⟩ = some (.slice (some ⟨gc, 0, none⟩) ncd ccd) := by
    obtain ⟨T, nt, ct, M, nm, cm, lm, hD⟩ := hWD
    exact hD.blk.cell 1
  have hS0 : w9.drew.cell? ⟨x.g, 0, none⟩ = some (.pointer (some ⟨x.tp, 0, none⟩)) := by
    obtain ⟨T, nt, ct, M, nm, cm, lm, hD⟩ := hWD
    exact hD.blk.cell 0
  have hcc : ncd ≤ ccd ∧ ccd ≤ 9223372036854775807 := by
    obtain ⟨T, nt, ct, M, nm, cm, lm, hD⟩ := hWC
    have := hD.code.row.2.2.1
    unfold maxLen at this
    exact ⟨hD.code.row.2.1, by omega⟩
  obtain ⟨hcc1, hcc2⟩ := hcc
  obtain ⟨L0, hL0⟩ : ∃ L0, (((someW x.xs F (((((((s).nx x.xs).push (numI (v : Int))).op 54 2).label []).op 21 2).op 158 0)).push ⟨132, 2, -1, [], [], [], []⟩).op 167 (q1 : Int)).code.length = L0 := ⟨_, rfl⟩
  have HL0 := Lib.hid hL0
  have CL : Hid (Calls Tryz.prog 216 #[.pointer (some ⟨x.g, 0, none⟩), .slice none 0 0] w9.drew fun e w' => e = .returned (.int .i64 (L0 : Int)) ∧ WrC x w' D ((((someW x.xs F (((((((s).nx x.xs).push (numI (v : Int))).op 54 2).label []).op 21 2).op 158 0)).push ⟨132, 2, -1, [], [], [], []⟩).op 167 (q1 : Int)).label []) (some ⟨gc, 0, none⟩) ncd ccd ∧ Fr x w9.drew w') := Lib.hid (by rw [← hL0]; exact label_d x _ _ _ (N + 3 * c + 7) none 0 0 [] _ _ _ (Or.inl ⟨rfl, rfl, rfl, rfl⟩) hWD HZ9.out (by omega))
  have HDR := Lib.hid (Fr.of_below (x := x) hdr)
  clear hWC hWD hdr hln hL0
  go_wp2_with fail
  refine wp_region_held_drew (S := fun W => W.cell? ⟨x.g, 0, none⟩ = some (.pointer (some ⟨x.tp, 0, none⟩))) (by kernel_rfl) hSw (fun hHeld0 => ?_)
  refine take_yes 0 34 ?_ rfl rfl (by kernel_rfl) (by kernel_rfl) (by kernel_rfl) (fun _ _ _ h => h) (by kernel_rfl) ?_ (by assumption) ?_; rotate_left; (focus (intro w hSw; (try dsimp only at hSw); go_simp; all_goals first | with_reducible rfl)); simp only [Act.put, List.setIfInBounds_toArray, List.set_cons_zero, List.set_cons_succ]
  refine take_yes 1 35 ?_ rfl rfl (by kernel_rfl) (by kernel_rfl) (by kernel_rfl) (fun _ _ _ h => h) (by kernel_rfl) ?_ (by assumption) ?_; rotate_left; (focus (intro w hSw; (try dsimp only at hSw); go_simp; all_goals first | with_reducible rfl)); simp only [Act.put, List.setIfInBounds_toArray, List.set_cons_zero, List.set_cons_succ]
  refine take_yes 2 36 ?_ rfl rfl (by kernel_rfl) (by kernel_rfl) (by kernel_rfl) (fun _ _ _ h => h) (by kernel_rfl) ?_ (by assumption) ?_; rotate_left; (focus (intro w hSw; (try dsimp only at hSw); go_simp; all_goals first | with_reducible rfl)); simp only [Act.put, List.setIfInBounds_toArray, List.set_cons_zero, List.set_cons_succ]
  refine take_yes 4 38 ?_ rfl rfl (by kernel_rfl) (by kernel_rfl) (by kernel_rfl) (fun _ _ _ h => h) (by kernel_rfl) ?_ (by assumption) ?_; rotate_left; (focus (intro w hSw; (try dsimp only at hSw); go_simp; all_goals first | with_reducible rfl)); simp only [Act.put, List.setIfInBounds_toArray, List.set_cons_zero, List.set_cons_succ]
  refine take_yes 5 39 ?_ rfl rfl (by kernel_rfl) (by kernel_rfl) (by kernel_rfl) (fun _ _ _ h => h) (by kernel_rfl) ?_ (by assumption) ?_; rotate_left; (focus (intro w hSw; (try dsimp only at hSw); go_simp; all_goals first | with_reducible rfl)); simp only [Act.put, List.setIfInBounds_toArray, List.set_cons_zero, List.set_cons_succ]
  refine wpAnyH_ready (rs := [3, 6]) (by kernel_rfl) (by simp) ?_
  refine AllReadyH.cons rfl (fun K hK => ?_) (AllReadyH.cons rfl (fun K hK => ?_) AllReadyH.nil)
  · go_simp
    refine hK.out _ _ (hS0) (fun _ => ?_)
    clear hK K
    try simp only [Act.put, List.setIfInBounds_toArray, List.set_cons_zero, List.set_cons_succ]
    refine wpAnyH_ready (rs := [6]) (by kernel_rfl) (by simp) ?_
    refine AllReadyH.cons rfl (fun K hK => ?_) AllReadyH.nil
    go_simp
    go_at_call 216; (refine CL.out.mono ?_); rintro e wn ⟨rfl, hDn, hFn⟩
    have HFN := Lib.hid (HDR.out.trans hFn)
    obtain ⟨Tn, ntn, ctn, Mn, nmn, cmn, lmn, hDn⟩ := hDn
    have hSn : wn.cell? ⟨x.g, 0, none⟩ = some (.pointer (some ⟨x.tp, 0, none⟩)) := hDn.blk.cell 0
    have c1n : wn.cell? ⟨x.g, 1, none⟩ = some (.slice (some ⟨gc, 0, none⟩) ncd ccd) := hDn.blk.cell 1
    obtain ⟨hP, hF⟩ := hDn.aim_ hpl (L0 : Int)
    have hbc : ∃ v, wn.cell? ⟨gc, q2 * 7 + 1, none⟩ = some v := by
      obtain ⟨b', o', y, e', _, _, hy, hc⟩ := hDn.code.row.at_ hpl
      cases e'
      have := hc 1 (by decide)
      rw [Nat.zero_add] at this
      exact ⟨_, this⟩
    obtain ⟨vc, hvc⟩ := hbc
    have hfz : wn.frozen? ⟨gc, q2 * 7 + 1, none⟩ = false := by
      obtain ⟨cur, hb, _⟩ := gotR_block hDn.code (show (Value.slice (some ⟨gc, 0, none⟩) ncd ccd).ownBlock = some gc from rfl)
      exact hb.frozen _
    obtain ⟨w10, hwe⟩ : ∃ W, wn.setCell ⟨gc, q2 * 7 + 1, none⟩ (.int .i64 (L0 : Int)) = W := ⟨_, rfl⟩
    rw [hwe] at hP hF
    have hSe : w10.cell? ⟨x.g, 0, none⟩ = some (.pointer (some ⟨x.tp, 0, none⟩)) := hP.blk.cell 0
    have HWE := Lib.hid hwe
    have HWX : Hid (WrS x w10 D (((((someW x.xs F (((((((s).nx x.xs).push (numI (v : Int))).op 54 2).label []).op 21 2).op 158 0)).push ⟨132, 2, -1, [], [], [], []⟩).op 167 (q1 : Int)).label []).aim ((((((s).nx x.xs).push (numI (v : Int))).op 54 2).label []).op 21 2).code.length ((((someW x.xs F (((((((s).nx x.xs).push (numI (v : Int))).op 54 2).label []).op 21 2).op 158 0)).push ⟨132, 2, -1, [], [], [], []⟩).op 167 (q1 : Int)).code.length : Int))) := Lib.hid (by rw [HPE.out, HL0.out]; exact ⟨_, _, _, Tn, ntn, ctn, Mn, nmn, cmn, lmn, hP⟩)
    have HOX : Hid (Fr x w9 w10) := Lib.hid (HFN.out.trans hF)
    clear hDn hFn hP hF hwe
    go_wp2_with fail
    refine hK.out _ _ (hSn) (fun _ => ?_)
    clear hK K
    try simp only [Act.put, List.setIfInBounds_toArray, List.set_cons_zero, List.set_cons_succ]
    refine take_yes 7 41 ?_ rfl rfl (by kernel_rfl) (by kernel_rfl) (by kernel_rfl) (fun _ _ _ h => h) (by kernel_rfl) ?_ (by assumption) ?_; rotate_left; (focus (intro w hSw; (try dsimp only at hSw); go_simp; all_goals first | with_reducible rfl)); simp only [Act.put, List.setIfInBounds_toArray, List.set_cons_zero, List.set_cons_succ]
    refine take_yes 8 42 ?_ rfl rfl (by kernel_rfl) (by kernel_rfl) (by kernel_rfl) (fun _ _ _ h => h) (by kernel_rfl) ?_ (by assumption) ?_; rotate_left; (focus (intro w hSw; (try dsimp only at hSw); go_simp; all_goals first | with_reducible rfl)); simp only [Act.put, List.setIfInBounds_toArray, List.set_cons_zero, List.set_cons_succ]
    refine wpAnyH_ready (rs := [9]) (by kernel_rfl) (by simp) ?_
    refine AllReadyH.cons rfl (fun K hK => ?_) AllReadyH.nil
    go_simp
    rw [HWE.out]
    refine hK.out _ _ (hSe) (fun _ => ?_)
    clear hK K
    try simp only [Act.put, List.setIfInBounds_toArray, List.set_cons_zero, List.set_cons_succ]
    refine wpAnyH_done (by kernel_rfl) ?_ _
    clear hSe hSn c1n hvc hfz hHeld0 hS0 c1d hSw hpl hcc1 hcc2
    have h := HWX.out
    have ho := HOX.out
    have HW10 := Lib.hid h
    have HO10 : Hid (Fr x w0 w10) := Lib.hid (HO9.out.trans ho)
    have HZ10 : Hid ((((((someW x.xs F (((((((s).nx x.xs).push (numI (v : Int))).op 54 2).label []).op 21 2).op 158 0)).push ⟨132, 2, -1, [], [], [], []⟩).op 167 (q1 : Int)).label []).aim ((((((s).nx x.xs).push (numI (v : Int))).op 54 2).label []).op 21 2).code.length ((((someW x.xs F (((((((s).nx x.xs).push (numI (v : Int))).op 54 2).label []).op 21 2).op 158 0)).push ⟨132, 2, -1, [], [], [], []⟩).op 167 (q1 : Int)).code.length : Int)).sz (N + 3 * c + 8)) := Lib.hid ((Ws.sz_aim _ _ (Ws.sz_label [] HZ9.out)).more (by omega))
    clear h ho
    have HE : Hid (FS = ((((someW x.xs F (((((((s).nx x.xs).push (numI (v : Int))).op 54 2).label []).op 21 2).op 158 0)).push ⟨132, 2, -1, [], [], [], []⟩).op 167 (q1 : Int)).label []).aim ((((((s).nx x.xs).push (numI (v : Int))).op 54 2).label []).op 21 2).code.length ((((someW x.xs F (((((((s).nx x.xs).push (numI (v : Int))).op 54 2).label []).op 21 2).op 158 0)).push ⟨132, 2, -1, [], [], [], []⟩).op 167 (q1 : Int)).code.length : Int)) := Lib.hid (by rw [← HFS.out]; unfold loopW; simp only [HVv.out, HQq1.out])
    go_wp2
    go_end0
    rw [HE.out]
    exact ⟨rfl, HW10.out, HO10.out⟩
  · go_simp
    go_at_call 216; (refine CL.out.mono ?_); rintro e wn ⟨rfl, hDn, hFn⟩
    have HFN := Lib.hid (HDR.out.trans hFn)
    obtain ⟨Tn, ntn, ctn, Mn, nmn, cmn, lmn, hDn⟩ := hDn
    have hSn : wn.cell? ⟨x.g, 0, none⟩ = some (.pointer (some ⟨x.tp, 0, none⟩)) := hDn.blk.cell 0
    have c1n : wn.cell? ⟨x.g, 1, none⟩ = some (.slice (some ⟨gc, 0, none⟩) ncd ccd) := hDn.blk.cell 1
    obtain ⟨hP, hF⟩ := hDn.aim_ hpl (L0 : Int)
    have hbc : ∃ v, wn.cell? ⟨gc, q2 * 7 + 1, none⟩ = some v := by
      obtain ⟨b', o', y, e', _, _, hy, hc⟩ := hDn.code.row.at_ hpl
      cases e'
      have := hc 1 (by decide)
      rw [Nat.zero_add] at this
      exact ⟨_, this⟩
    obtain ⟨vc, hvc⟩ := hbc
    have hfz : wn.frozen? ⟨gc, q2 * 7 + 1, none⟩ = false := by
      obtain ⟨cur, hb, _⟩ := gotR_block hDn.code (show (Value.slice (some ⟨gc, 0, none⟩) ncd ccd).ownBlock = some gc from rfl)
      exact hb.frozen _
    obtain ⟨w10, hwe⟩ : ∃ W, wn.setCell ⟨gc, q2 * 7 + 1, none⟩ (.int .i64 (L0 : Int)) = W := ⟨_, rfl⟩
    rw [hwe] at hP hF
    have hSe : w10.cell? ⟨x.g, 0, none⟩ = some (.pointer (some ⟨x.tp, 0, none⟩)) := hP.blk.cell 0
    have HWE := Lib.hid hwe
    have HWX : Hid (WrS x w10 D (((((someW x.xs F (((((((s).nx x.xs).push (numI (v : Int))).op 54 2).label []).op 21 2).op 158 0)).push ⟨132, 2, -1, [], [], [], []⟩).op 167 (q1 : Int)).label []).aim ((((((s).nx x.xs).push (numI (v : Int))).op 54 2).label []).op 21 2).code.length ((((someW x.xs F (((((((s).nx x.xs).push (numI (v : Int))).op 54 2).label []).op 21 2).op 158 0)).push ⟨132, 2, -1, [], [], [], []⟩).op 167 (q1 : Int)).code.length : Int))) := Lib.hid (by rw [HPE.out, HL0.out]; exact ⟨_, _, _, Tn, ntn, ctn, Mn, nmn, cmn, lmn, hP⟩)
    have HOX : Hid (Fr x w9 w10) := Lib.hid (HFN.out.trans hF)
    clear hDn hFn hP hF hwe
    go_wp2_with fail
    refine hK.out _ _ (hSn) (fun _ => ?_)
    clear hK K
    try simp only [Act.put, List.setIfInBounds_toArray, List.set_cons_zero, List.set_cons_succ]
    refine wpAnyH_ready (rs := [3]) (by kernel_rfl) (by simp) ?_
    refine AllReadyH.cons rfl (fun K hK => ?_) AllReadyH.nil
    go_simp
    refine hK.out _ _ (hSn) (fun _ => ?_)
    clear hK K
    try simp only [Act.put, List.setIfInBounds_toArray, List.set_cons_zero, List.set_cons_succ]
    refine take_yes 7 41 ?_ rfl rfl (by kernel_rfl) (by kernel_rfl) (by kernel_rfl) (fun _ _ _ h => h) (by kernel_rfl) ?_ (by assumption) ?_; rotate_left; (focus (intro w hSw; (try dsimp only at hSw); go_simp; all_goals first | with_reducible rfl)); simp only [Act.put, List.setIfInBounds_toArray, List.set_cons_zero, List.set_cons_succ]
    refine take_yes 8 42 ?_ rfl rfl (by kernel_rfl) (by kernel_rfl) (by kernel_rfl) (fun _ _ _ h => h) (by kernel_rfl) ?_ (by assumption) ?_; rotate_left; (focus (intro w hSw; (try dsimp only at hSw); go_simp; all_goals first | with_reducible rfl)); simp only [Act.put, List.setIfInBounds_toArray, List.set_cons_zero, List.set_cons_succ]
    refine wpAnyH_ready (rs := [9]) (by kernel_rfl) (by simp) ?_
    refine AllReadyH.cons rfl (fun K hK => ?_) AllReadyH.nil
    go_simp
    rw [HWE.out]
    refine hK.out _ _ (hSe) (fun _ => ?_)
    clear hK K
    try simp only [Act.put, List.setIfInBounds_toArray, List.set_cons_zero, List.set_cons_succ]
    refine wpAnyH_done (by kernel_rfl) ?_ _
    clear hSe hSn c1n hvc hfz hHeld0 hS0 c1d hSw hpl hcc1 hcc2
    have h := HWX.out
    have ho := HOX.out
    have HW10 := Lib.hid h
    have HO10 : Hid (Fr x w0 w10) := Lib.hid (HO9.out.trans ho)
    have HZ10 : Hid ((((((someW x.xs F (((((((s).nx x.xs).push (numI (v : Int))).op 54 2).label []).op 21 2).op 158 0)).push ⟨132, 2, -1, [], [], [], []⟩).op 167 (q1 : Int)).label []).aim ((((((s).nx x.xs).push (numI (v : Int))).op 54 2).label []).op 21 2).code.length ((((someW x.xs F (((((((s).nx x.xs).push (numI (v : Int))).op 54 2).label []).op 21 2).op 158 0)).push ⟨132, 2, -1, [], [], [], []⟩).op 167 (q1 : Int)).code.length : Int)).sz (N + 3 * c + 8)) := Lib.hid ((Ws.sz_aim _ _ (Ws.sz_label [] HZ9.out)).more (by omega))
    clear h ho
    have HE : Hid (FS = ((((someW x.xs F (((((((s).nx x.xs).push (numI (v : Int))).op 54 2).label []).op 21 2).op 158 0)).push ⟨132, 2, -1, [], [], [], []⟩).op 167 (q1 : Int)).label []).aim ((((((s).nx x.xs).push (numI (v : Int))).op 54 2).label []).op 21 2).code.length ((((someW x.xs F (((((((s).nx x.xs).push (numI (v : Int))).op 54 2).label []).op 21 2).op 158 0)).push ⟨132, 2, -1, [], [], [], []⟩).op 167 (q1 : Int)).code.length : Int)) := Lib.hid (by rw [← HFS.out]; unfold loopW; simp only [HVv.out, HQq1.out])
    go_wp2
    go_end0
    rw [HE.out]
    exact ⟨rfl, HW10.out, HO10.out⟩

end Go.Proofs.YtdkkpcbebhgbiaaGreatDoor
