/- The walks over carpetbagmake's long; ints and longs by depth; printed by gen/gen_wf.py. -/
import Derived.Test.YtdkkpcbebhgbiaaGreatDoorZak
import Derived.Test.YtdkkpcbebhgbiaaGreatDoorZal
namespace Go.Proofs.YtdkkpcbebhgbiaaGreatDoor
set_option maxRecDepth 100000
open Go.RowKit Go.Maps

set_option maxHeartbeats 4000000 in
theorem long_leaf (x : Wx) (w : World) (D : Int) (s : Ws) (N : Nat) (I L : Ws → Ws) (v0 : Int) (hv0 : v0 ≤ 0) (hv1 : -10 ≤ v0) (c B : Nat) (hc : c ≤ 18) (hI : CtW x 125 (v0 - 1) I B) (hIa : AddsW I c) (h : WrS x w D s) (hz : s.sz N) (hN : N + 100 ≤ B) (hB : B ≤ 16000000) :
    Calls Tryz.prog 174 #[.pointer (some ⟨x.g, 0, none⟩), .int .i64 v0] w fun e w' => e = .returned (.tuple #[]) ∧ WrS x w' D (stepL x.xs false I L s) ∧ Fr x w w' := by
  obtain ⟨w0, rfl⟩ : ∃ w0, w0 = w := ⟨_, rfl⟩
  have HW0 := Lib.hid h
  have HO0 : Hid (Fr x w0 w0) := Lib.hid (Fr.refl x w0)
  have HZ0 := Lib.hid hz
  obtain ⟨FS, hFS⟩ : ∃ FS, stepL x.xs false I L s = FS := ⟨_, rfl⟩
  have HFS := Lib.hid hFS
  rw [hFS]
  clear h hz hFS
  have HI := Lib.hid hI
  have HIa := Lib.hid hIa
  clear hI hIa
  go_enter Tryz.func174, Tryz.ntmps174
  have t0 := HW0.out.t
  go_wp2_with fail
  refine (next_s x _ _ _ 6 _ HW0.out (by omega) (by omega) rfl).mono ?_
  rintro e w1 ⟨rfl, h, ho⟩
  have HW1 := Lib.hid h
  have HO1 : Hid (Fr x w0 w1) := Lib.hid (HO0.out.trans ho)
  have HZ1 : Hid (((s).nx x.xs).sz N) := Lib.hid ((Ws.sz_nx x.xs HZ0.out).more (by omega))
  clear h ho
  obtain ⟨v, hv⟩ : ∃ v, nxV x.xs 6 (s).at_ = v := ⟨_, rfl⟩
  have bv : v < 6 := by rw [← hv]; exact nxV_lt (by omega)
  rw [hv]
  have HVv := Lib.hid hv
  clear hv t0
  have hcs : v = 0 ∨ v = 1 ∨ v = 2 ∨ v = 3 ∨ v = 4 ∨ v = 5 := by omega
  clear bv
  rcases hcs with rfl | rfl | rfl | rfl | rfl | rfl
  · go_wp2_with fail
    refine (HI.out _ _ _ N HW1.out HZ1.out (by omega)).mono ?_
    rintro e w2 ⟨rfl, h, ho⟩
    have HW2 := Lib.hid h
    have HO2 : Hid (Fr x w0 w2) := Lib.hid (HO1.out.trans ho)
    have HZ2 : Hid ((I ((s).nx x.xs)).sz (N + 1 * c + 0)) := Lib.hid ((HIa.out _ _ HZ1.out).more (by omega))
    clear h ho
    go_wp2_with fail
    refine (op_v x _ _ _ (N + 1 * c + 0) 133 _ _ (by first | rfl | decide | assumption) HW2.out HZ2.out (by omega)).mono ?_
    rintro e w3 ⟨rfl, h, ho⟩
    have HW3 := Lib.hid h
    have HO3 : Hid (Fr x w0 w3) := Lib.hid (HO2.out.trans ho)
    have HZ3 : Hid (((I ((s).nx x.xs)).op 133 0).sz (N + 1 * c + 1)) := Lib.hid ((Ws.sz_op _ _ HZ2.out).more (by omega))
    clear h ho
    have HE : Hid (FS = (I ((s).nx x.xs)).op 133 0) := Lib.hid (by rw [← HFS.out]; unfold stepL; simp [HVv.out])
    go_wp2
    go_end0
    rw [HE.out]
    exact ⟨rfl, HW3.out, HO3.out⟩
  · go_wp2_with fail
    refine (HI.out _ _ _ N HW1.out HZ1.out (by omega)).mono ?_
    rintro e w2 ⟨rfl, h, ho⟩
    have HW2 := Lib.hid h
    have HO2 : Hid (Fr x w0 w2) := Lib.hid (HO1.out.trans ho)
    have HZ2 : Hid ((I ((s).nx x.xs)).sz (N + 1 * c + 0)) := Lib.hid ((HIa.out _ _ HZ1.out).more (by omega))
    clear h ho
    go_wp2_with fail
    refine (op_v x _ _ _ (N + 1 * c + 0) 133 _ _ (by first | rfl | decide | assumption) HW2.out HZ2.out (by omega)).mono ?_
    rintro e w3 ⟨rfl, h, ho⟩
    have HW3 := Lib.hid h
    have HO3 : Hid (Fr x w0 w3) := Lib.hid (HO2.out.trans ho)
    have HZ3 : Hid (((I ((s).nx x.xs)).op 133 0).sz (N + 1 * c + 1)) := Lib.hid ((Ws.sz_op _ _ HZ2.out).more (by omega))
    clear h ho
    have HE : Hid (FS = (I ((s).nx x.xs)).op 133 0) := Lib.hid (by rw [← HFS.out]; unfold stepL; simp [HVv.out])
    go_wp2
    go_end0
    rw [HE.out]
    exact ⟨rfl, HW3.out, HO3.out⟩
  · go_wp2_with fail
    refine (HI.out _ _ _ N HW1.out HZ1.out (by omega)).mono ?_
    rintro e w2 ⟨rfl, h, ho⟩
    have HW2 := Lib.hid h
    have HO2 : Hid (Fr x w0 w2) := Lib.hid (HO1.out.trans ho)
    have HZ2 : Hid ((I ((s).nx x.xs)).sz (N + 1 * c + 0)) := Lib.hid ((HIa.out _ _ HZ1.out).more (by omega))
    clear h ho
    go_wp2_with fail
    refine (op_v x _ _ _ (N + 1 * c + 0) 133 _ _ (by first | rfl | decide | assumption) HW2.out HZ2.out (by omega)).mono ?_
    rintro e w3 ⟨rfl, h, ho⟩
    have HW3 := Lib.hid h
    have HO3 : Hid (Fr x w0 w3) := Lib.hid (HO2.out.trans ho)
    have HZ3 : Hid (((I ((s).nx x.xs)).op 133 0).sz (N + 1 * c + 1)) := Lib.hid ((Ws.sz_op _ _ HZ2.out).more (by omega))
    clear h ho
    have HE : Hid (FS = (I ((s).nx x.xs)).op 133 0) := Lib.hid (by rw [← HFS.out]; unfold stepL; simp [HVv.out])
    go_wp2
    go_end0
    rw [HE.out]
    exact ⟨rfl, HW3.out, HO3.out⟩
  · go_wp2_with fail
    refine (op_v x _ _ _ N 22 _ _ (by first | rfl | decide | assumption) HW1.out HZ1.out (by omega)).mono ?_
    rintro e w2 ⟨rfl, h, ho⟩
    have HW2 := Lib.hid h
    have HO2 : Hid (Fr x w0 w2) := Lib.hid (HO1.out.trans ho)
    have HZ2 : Hid ((((s).nx x.xs).op 22 3).sz (N + 1)) := Lib.hid ((Ws.sz_op _ _ HZ1.out).more (by omega))
    clear h ho
    have HE : Hid (FS = ((s).nx x.xs).op 22 3) := Lib.hid (by rw [← HFS.out]; unfold stepL; simp [HVv.out])
    go_wp2
    go_end0
    rw [HE.out]
    exact ⟨rfl, HW2.out, HO2.out⟩
  · obtain ⟨Cd, ncd, ccd, Td, ntd, ctd, Md, nmd, cmd, lmd, hD⟩ := HW1.out
    have hncd : ncd ≤ N := by rw [← hD.code.row.1]; exact HZ1.out.1
    have hc0 : w1.cell? ⟨x.g, 0, none⟩ = some (.pointer (some ⟨x.tp, 0, none⟩)) := hD.blk.cell 0
    have hdr : Below w1.heap.size w1 w1.drew := ((Only.refl Empty w1).drew).below (Nat.le_refl _) (fun _ _ h => h)
    have HDD := Lib.hid (hD.below hdr)
    have HFD := Lib.hid (Fr.of_below (x := x) hdr)
    have hgl := hD.blk.lt
    have c1d : w1.drew.cell? ⟨x.g, 1, none⟩ = some (.slice Cd ncd ccd) := HDD.out.blk.cell 1
    have hc0d : w1.drew.cell? ⟨x.g, 0, none⟩ = some (.pointer (some ⟨x.tp, 0, none⟩)) := HDD.out.blk.cell 0
    obtain ⟨a, ha⟩ : ∃ a, nxV x.xs 256 ((s).nx x.xs).at_ = a := ⟨_, rfl⟩
    have ba : a < 256 := by rw [← ha]; exact nxV_lt (by omega)
    have HVa := Lib.hid ha
    have CN : Hid (Calls Tryz.prog 57 #[.pointer (some ⟨x.tp, 0, none⟩), .int .i64 256] w1.drew fun e w' => e = .returned (.int .i64 (a : Int)) ∧ WrD x w' D (((s).nx x.xs).nx x.xs) Cd ncd ccd Td ntd ctd Md nmd cmd lmd ∧ Fr x w1.drew w') := Lib.hid (by
      refine (next_ex x.B x.tp x.A x.n x.cap x.xs _ 256 _ HDD.out.tape (by omega) (by omega)).mono ?_
      rintro e w' ⟨rfl, ht, ho⟩
      exact ⟨by rw [HVa.out], HDD.out.tape_ ho ht, ho.mono (fun i _ e => ow_tape x i e), keep_tape HDD.out ho⟩)
    clear hD hdr ha
    go_wp2_with fail
    refine wp_region_held_drew (S := fun W => W.cell? ⟨x.g, 0, none⟩ = some (.pointer (some ⟨x.tp, 0, none⟩))) (by kernel_rfl) hc0 (fun hHeld0 => ?_)
    refine take_yes 0 74 ?_ rfl rfl (by kernel_rfl) (by kernel_rfl) (by kernel_rfl) (fun _ _ _ h => h) (by kernel_rfl) ?_ (by assumption) ?_; rotate_left; (focus (intro w hSw; (try dsimp only at hSw); go_simp; all_goals first | with_reducible rfl)); simp only [Act.put, List.setIfInBounds_toArray, List.set_cons_zero, List.set_cons_succ]
    refine take_yes 1 75 ?_ rfl rfl (by kernel_rfl) (by kernel_rfl) (by kernel_rfl) (fun _ _ _ h => h) (by kernel_rfl) ?_ (by assumption) ?_; rotate_left; (focus (intro w hSw; (try dsimp only at hSw); go_simp; all_goals first | with_reducible rfl)); simp only [Act.put, List.setIfInBounds_toArray, List.set_cons_zero, List.set_cons_succ]
    refine take_yes 2 76 ?_ rfl rfl (by kernel_rfl) (by kernel_rfl) (by kernel_rfl) (fun _ _ _ h => h) (by kernel_rfl) ?_ (by assumption) ?_; rotate_left; (focus (intro w hSw; (try dsimp only at hSw); go_simp; all_goals first | with_reducible rfl)); simp only [Act.put, List.setIfInBounds_toArray, List.set_cons_zero, List.set_cons_succ]
    refine take_yes 3 77 ?_ rfl rfl (by kernel_rfl) (by kernel_rfl) (by kernel_rfl) (fun _ _ _ h => h) (by kernel_rfl) ?_ (by assumption) ?_; rotate_left; (focus (intro w hSw; (try dsimp only at hSw); go_simp; all_goals first | with_reducible rfl)); simp only [Act.put, List.setIfInBounds_toArray, List.set_cons_zero, List.set_cons_succ]
    refine take_yes 5 79 ?_ rfl rfl (by kernel_rfl) (by kernel_rfl) (by kernel_rfl) (fun _ _ _ h => h) (by kernel_rfl) ?_ (by assumption) ?_; rotate_left; (focus (intro w hSw; (try dsimp only at hSw); go_simp; all_goals first | with_reducible rfl)); simp only [Act.put, List.setIfInBounds_toArray, List.set_cons_zero, List.set_cons_succ]
    refine take_yes 6 80 ?_ rfl rfl (by kernel_rfl) (by kernel_rfl) (by kernel_rfl) (fun _ _ _ h => h) (by kernel_rfl) ?_ (by assumption) ?_; rotate_left; (focus (intro w hSw; (try dsimp only at hSw); go_simp; all_goals first | with_reducible rfl)); simp only [Act.put, List.setIfInBounds_toArray, List.set_cons_zero, List.set_cons_succ]
    refine take_yes 7 81 ?_ rfl rfl (by kernel_rfl) (by kernel_rfl) (by kernel_rfl) (fun _ _ _ h => h) (by kernel_rfl) ?_ (by assumption) ?_; rotate_left; (focus (intro w hSw; (try dsimp only at hSw); go_simp; all_goals first | with_reducible rfl)); simp only [Act.put, List.setIfInBounds_toArray, List.set_cons_zero, List.set_cons_succ]
    refine take_yes 8 82 ?_ rfl rfl (by kernel_rfl) (by kernel_rfl) (by kernel_rfl) (fun _ _ _ h => h) (by kernel_rfl) ?_ (by assumption) ?_; rotate_left; (focus (intro w hSw; (try dsimp only at hSw); go_simp; all_goals first | with_reducible rfl)); simp only [Act.put, List.setIfInBounds_toArray, List.set_cons_zero, List.set_cons_succ]
    refine wpAnyH_ready (rs := [4, 9]) (by kernel_rfl) (by simp) ?_
    refine AllReadyH.cons rfl (fun K hK => ?_) (AllReadyH.cons rfl (fun K hK => ?_) AllReadyH.nil)
    · go_simp
      refine hK.out _ _ (hc0d) (fun _ => ?_)
      clear hK K
      try simp only [Act.put, List.setIfInBounds_toArray, List.set_cons_zero, List.set_cons_succ]
      refine wpAnyH_ready (rs := [9]) (by kernel_rfl) (by simp) ?_
      refine AllReadyH.cons rfl (fun K hK => ?_) AllReadyH.nil
      go_simp
      go_at_call 57; (refine CN.out.mono ?_); rintro e wn ⟨rfl, hDn, hFn⟩
      have HDN := Lib.hid hDn
      have HFN := Lib.hid (HFD.out.trans hFn)
      have hSn : wn.cell? ⟨x.g, 0, none⟩ = some (.pointer (some ⟨x.tp, 0, none⟩)) := hDn.blk.cell 0
      have c1n : wn.cell? ⟨x.g, 1, none⟩ = some (.slice Cd ncd ccd) := hDn.blk.cell 1
      clear hDn hFn
      go_wp2_with fail
      refine hK.out _ _ (hSn) (fun _ => ?_)
      clear hK K
      try simp only [Act.put, List.setIfInBounds_toArray, List.set_cons_zero, List.set_cons_succ]
      have hq1 : IntKind.i64.wrap ((a : Int) * 1099511627776) = (a : Int) * 1099511627776 := by rw [IntKind.wrap_i64]; omega
      have hq2 : IntKind.i64.wrap ((a : Int) * 1099511627776 - 5) = (a : Int) * 1099511627776 - 5 := by rw [IntKind.wrap_i64]; omega
      refine take_yes 10 84 (.int .i64 ((a : Int) * 1099511627776)) rfl rfl (by kernel_rfl) (by kernel_rfl) (by kernel_rfl) (fun _ _ _ h => h) (by kernel_rfl) ?_ (by assumption) ?_; (focus (intro w hSw; (try dsimp only at hSw); go_simp; all_goals first | with_reducible rfl | simp [hq1])); simp only [Act.put, List.setIfInBounds_toArray, List.set_cons_zero, List.set_cons_succ]
      refine take_yes 11 85 (.int .i64 ((a : Int) * 1099511627776 - 5)) rfl rfl (by kernel_rfl) (by kernel_rfl) (by kernel_rfl) (fun _ _ _ h => h) (by kernel_rfl) ?_ (by assumption) ?_; (focus (intro w hSw; (try dsimp only at hSw); go_simp; all_goals first | with_reducible rfl | simp [hq2])); simp only [Act.put, List.setIfInBounds_toArray, List.set_cons_zero, List.set_cons_succ]
      refine take_yes 12 86 ?_ rfl rfl (by kernel_rfl) (by kernel_rfl) (by kernel_rfl) (fun _ _ _ h => h) (by kernel_rfl) ?_ (by assumption) ?_; rotate_left; (focus (intro w hSw; (try dsimp only at hSw); go_simp; all_goals first | with_reducible rfl)); simp only [Act.put, List.setIfInBounds_toArray, List.set_cons_zero, List.set_cons_succ]
      have hbl := belowA wn (.cells (inC (⟨20, (a : Int) * 1099511627776 - 5, 0, [], [], [74], []⟩ : InD)).toArray 98)
      have hDl := HDN.out.below hbl
      have HBL : Hid (Blk (wn.alloc (.cells (inC (⟨20, (a : Int) * 1099511627776 - 5, 0, [], [], [74], []⟩ : InD)).toArray 98)) wn.heap.size 98 (inC (⟨20, (a : Int) * 1099511627776 - 5, 0, [], [], [74], []⟩ : InD)).toArray) := Lib.hid (Blk.new _ _ _)
      have hSl : (wn.alloc (.cells (inC (⟨20, (a : Int) * 1099511627776 - 5, 0, [], [], [74], []⟩ : InD)).toArray 98)).cell? ⟨x.g, 0, none⟩ = some (.pointer (some ⟨x.tp, 0, none⟩)) := hDl.blk.cell 0
      have c1l : (wn.alloc (.cells #[.int .u8 20, .int .i64 ((a : Int) * 1099511627776 - 5), .int .i64 0, .string ⟨#[]⟩, .string ⟨#[]⟩, .string ⟨#[74]⟩, .string ⟨#[]⟩] 98)).cell? ⟨x.g, 1, none⟩ = some (.slice Cd ncd ccd) := hDl.blk.cell 1
      have hb0l := hDl.b0
      obtain ⟨A3, c3, w3, hrun, hG, hg, hr⟩ := run_append_rows (S := Empty) inC_len inC_one (by decide) 37 98 _ 88 Tryz.underlying37 Tryz.infoIn (by simp [Value.cells]) (by decide) 37 x.b0 Cd ncd ccd ((s).nx x.xs).code hDl.code ⟨wn.heap.size, 0, none⟩ 1 1 [(⟨20, (a : Int) * 1099511627776 - 5, 0, [], [], [74], []⟩ : InD)] (RowSl.of_blk inC_len HBL.out rfl (Nat.le_refl _) (by unfold maxLen; omega) (fun j _ => by simp) (fun h => h)) (by omega) hb0l
      have hgo := ne_own hDl.code hDl.blk (show 98 ≠ 166 by decide)
      have s1 : w3.cell? ⟨x.g, 1, none⟩ = some (.slice Cd ncd ccd) := ((only_grown hg hr).cell (p := ⟨x.g, 1, none⟩) hDl.blk.lt hgo).trans (hDl.blk.cell 1)
      have s0 : w3.cell? ⟨x.g, 0, none⟩ = some (.pointer (some ⟨x.tp, 0, none⟩)) := ((only_grown hg hr).cell (p := ⟨x.g, 0, none⟩) hDl.blk.lt hgo).trans hSl
      have s2 : w3.frozen? ⟨x.g, 1, none⟩ = false := ((only_grown hg hr).blk hDl.blk hgo).frozen 1
      obtain ⟨hP, hF⟩ := hDl.push hG hg hr
      obtain ⟨w2, hwe⟩ : ∃ W, w3.setCell ⟨x.g, 1, none⟩ (.slice A3 (ncd + 1) c3) = W := ⟨_, rfl⟩
      rw [hwe] at hP hF
      have hSe : w2.cell? ⟨x.g, 0, none⟩ = some (.pointer (some ⟨x.tp, 0, none⟩)) := hP.blk.cell 0
      have h : WrS x w2 D (((((s).nx x.xs).nx x.xs)).push ⟨20, (a : Int) * 1099511627776 - 5, 0, [], [], [74], []⟩) := ⟨A3, ncd + 1, c3, Td, ntd, ctd, Md, nmd, cmd, lmd, hP⟩
      have ho : Fr x w1 w2 := (HFN.out.trans (Fr.of_below hbl)).trans hF
      have HWE := Lib.hid hwe
      have HWX := Lib.hid h
      have HOX := Lib.hid ho
      simp only [inC] at hSl hrun
      clear hbl hDl hG hg hr hgo hP hF hwe h ho
      refine wpAnyH_ready (rs := [13]) (by kernel_rfl) (by simp) ?_
      refine AllReadyH.cons rfl (fun K hK => ?_) AllReadyH.nil
      go_simp
      refine hK.out _ _ (hSl) (fun _ => ?_)
      clear hK K
      try simp only [Act.put, List.setIfInBounds_toArray, List.set_cons_zero, List.set_cons_succ]
      refine wpAnyH_ready (rs := [14]) (by kernel_rfl) (by simp) ?_
      refine AllReadyH.cons rfl (fun K hK => ?_) AllReadyH.nil
      refine step_append_eq (ts := 37) rfl (.tmp 78) (.tmp 87) rfl rfl rfl rfl hrun ?_
      show K (Act.put _ (some 88) _) _
      refine hK.out _ _ (s0) (fun _ => ?_)
      clear hK K
      try simp only [Act.put, List.setIfInBounds_toArray, List.set_cons_zero, List.set_cons_succ]
      refine take_yes 15 89 ?_ rfl rfl (by kernel_rfl) (by kernel_rfl) (by kernel_rfl) (fun _ _ _ h => h) (by kernel_rfl) ?_ (by assumption) ?_; rotate_left; (focus (intro w hSw; (try dsimp only at hSw); go_simp; all_goals first | with_reducible rfl)); simp only [Act.put, List.setIfInBounds_toArray, List.set_cons_zero, List.set_cons_succ]
      refine take_yes 16 90 ?_ rfl rfl (by kernel_rfl) (by kernel_rfl) (by kernel_rfl) (fun _ _ _ h => h) (by kernel_rfl) ?_ (by assumption) ?_; rotate_left; (focus (intro w hSw; (try dsimp only at hSw); go_simp; all_goals first | with_reducible rfl)); simp only [Act.put, List.setIfInBounds_toArray, List.set_cons_zero, List.set_cons_succ]
      refine wpAnyH_ready (rs := [17]) (by kernel_rfl) (by simp) ?_
      refine AllReadyH.cons rfl (fun K hK => ?_) AllReadyH.nil
      go_simp
      rw [HWE.out]
      refine hK.out _ _ (hSe) (fun _ => ?_)
      clear hK K
      try simp only [Act.put, List.setIfInBounds_toArray, List.set_cons_zero, List.set_cons_succ]
      refine wpAnyH_done (by kernel_rfl) ?_ _
      clear hSe s0 s1 s2 hSn c1n c1l hSl hrun hHeld0
      have h := HWX.out
      have ho := HOX.out
      have HW2 := Lib.hid h
      have HO2 : Hid (Fr x w0 w2) := Lib.hid (HO1.out.trans ho)
      have HZ2 : Hid (((((s).nx x.xs).nx x.xs).push ⟨20, (a : Int) * 1099511627776 - 5, 0, [], [], [74], []⟩).sz (N + 1)) := Lib.hid ((Ws.sz_push _ (Ws.sz_nx x.xs HZ1.out)).more (by omega))
      clear h ho
      have HE : Hid (FS = (((s).nx x.xs).nx x.xs).push ⟨20, (a : Int) * 1099511627776 - 5, 0, [], [], [74], []⟩) := Lib.hid (by rw [← HFS.out]; unfold stepL; simp [HVv.out, HVa.out])
      go_wp2
      go_end0
      rw [HE.out]
      exact ⟨rfl, HW2.out, HO2.out⟩
    · go_simp
      go_at_call 57; (refine CN.out.mono ?_); rintro e wn ⟨rfl, hDn, hFn⟩
      have HDN := Lib.hid hDn
      have HFN := Lib.hid (HFD.out.trans hFn)
      have hSn : wn.cell? ⟨x.g, 0, none⟩ = some (.pointer (some ⟨x.tp, 0, none⟩)) := hDn.blk.cell 0
      have c1n : wn.cell? ⟨x.g, 1, none⟩ = some (.slice Cd ncd ccd) := hDn.blk.cell 1
      clear hDn hFn
      go_wp2_with fail
      refine hK.out _ _ (hSn) (fun _ => ?_)
      clear hK K
      try simp only [Act.put, List.setIfInBounds_toArray, List.set_cons_zero, List.set_cons_succ]
      have hq1 : IntKind.i64.wrap ((a : Int) * 1099511627776) = (a : Int) * 1099511627776 := by rw [IntKind.wrap_i64]; omega
      have hq2 : IntKind.i64.wrap ((a : Int) * 1099511627776 - 5) = (a : Int) * 1099511627776 - 5 := by rw [IntKind.wrap_i64]; omega
      refine take_yes 10 84 (.int .i64 ((a : Int) * 1099511627776)) rfl rfl (by kernel_rfl) (by kernel_rfl) (by kernel_rfl) (fun _ _ _ h => h) (by kernel_rfl) ?_ (by assumption) ?_; (focus (intro w hSw; (try dsimp only at hSw); go_simp; all_goals first | with_reducible rfl | simp [hq1])); simp only [Act.put, List.setIfInBounds_toArray, List.set_cons_zero, List.set_cons_succ]
      refine take_yes 11 85 (.int .i64 ((a : Int) * 1099511627776 - 5)) rfl rfl (by kernel_rfl) (by kernel_rfl) (by kernel_rfl) (fun _ _ _ h => h) (by kernel_rfl) ?_ (by assumption) ?_; (focus (intro w hSw; (try dsimp only at hSw); go_simp; all_goals first | with_reducible rfl | simp [hq2])); simp only [Act.put, List.setIfInBounds_toArray, List.set_cons_zero, List.set_cons_succ]
      refine take_yes 12 86 ?_ rfl rfl (by kernel_rfl) (by kernel_rfl) (by kernel_rfl) (fun _ _ _ h => h) (by kernel_rfl) ?_ (by assumption) ?_; rotate_left; (focus (intro w hSw; (try dsimp only at hSw); go_simp; all_goals first | with_reducible rfl)); simp only [Act.put, List.setIfInBounds_toArray, List.set_cons_zero, List.set_cons_succ]
      have hbl := belowA wn (.cells (inC (⟨20, (a : Int) * 1099511627776 - 5, 0, [], [], [74], []⟩ : InD)).toArray 98)
      have hDl := HDN.out.below hbl
      have HBL : Hid (Blk (wn.alloc (.cells (inC (⟨20, (a : Int) * 1099511627776 - 5, 0, [], [], [74], []⟩ : InD)).toArray 98)) wn.heap.size 98 (inC (⟨20, (a : Int) * 1099511627776 - 5, 0, [], [], [74], []⟩ : InD)).toArray) := Lib.hid (Blk.new _ _ _)
      have hSl : (wn.alloc (.cells (inC (⟨20, (a : Int) * 1099511627776 - 5, 0, [], [], [74], []⟩ : InD)).toArray 98)).cell? ⟨x.g, 0, none⟩ = some (.pointer (some ⟨x.tp, 0, none⟩)) := hDl.blk.cell 0
      have c1l : (wn.alloc (.cells #[.int .u8 20, .int .i64 ((a : Int) * 1099511627776 - 5), .int .i64 0, .string ⟨#[]⟩, .string ⟨#[]⟩, .string ⟨#[74]⟩, .string ⟨#[]⟩] 98)).cell? ⟨x.g, 1, none⟩ = some (.slice Cd ncd ccd) := hDl.blk.cell 1
      have hb0l := hDl.b0
      obtain ⟨A3, c3, w3, hrun, hG, hg, hr⟩ := run_append_rows (S := Empty) inC_len inC_one (by decide) 37 98 _ 88 Tryz.underlying37 Tryz.infoIn (by simp [Value.cells]) (by decide) 37 x.b0 Cd ncd ccd ((s).nx x.xs).code hDl.code ⟨wn.heap.size, 0, none⟩ 1 1 [(⟨20, (a : Int) * 1099511627776 - 5, 0, [], [], [74], []⟩ : InD)] (RowSl.of_blk inC_len HBL.out rfl (Nat.le_refl _) (by unfold maxLen; omega) (fun j _ => by simp) (fun h => h)) (by omega) hb0l
      have hgo := ne_own hDl.code hDl.blk (show 98 ≠ 166 by decide)
      have s1 : w3.cell? ⟨x.g, 1, none⟩ = some (.slice Cd ncd ccd) := ((only_grown hg hr).cell (p := ⟨x.g, 1, none⟩) hDl.blk.lt hgo).trans (hDl.blk.cell 1)
      have s0 : w3.cell? ⟨x.g, 0, none⟩ = some (.pointer (some ⟨x.tp, 0, none⟩)) := ((only_grown hg hr).cell (p := ⟨x.g, 0, none⟩) hDl.blk.lt hgo).trans hSl
      have s2 : w3.frozen? ⟨x.g, 1, none⟩ = false := ((only_grown hg hr).blk hDl.blk hgo).frozen 1
      obtain ⟨hP, hF⟩ := hDl.push hG hg hr
      obtain ⟨w2, hwe⟩ : ∃ W, w3.setCell ⟨x.g, 1, none⟩ (.slice A3 (ncd + 1) c3) = W := ⟨_, rfl⟩
      rw [hwe] at hP hF
      have hSe : w2.cell? ⟨x.g, 0, none⟩ = some (.pointer (some ⟨x.tp, 0, none⟩)) := hP.blk.cell 0
      have h : WrS x w2 D (((((s).nx x.xs).nx x.xs)).push ⟨20, (a : Int) * 1099511627776 - 5, 0, [], [], [74], []⟩) := ⟨A3, ncd + 1, c3, Td, ntd, ctd, Md, nmd, cmd, lmd, hP⟩
      have ho : Fr x w1 w2 := (HFN.out.trans (Fr.of_below hbl)).trans hF
      have HWE := Lib.hid hwe
      have HWX := Lib.hid h
      have HOX := Lib.hid ho
      simp only [inC] at hSl hrun
      clear hbl hDl hG hg hr hgo hP hF hwe h ho
      refine wpAnyH_ready (rs := [4, 13]) (by kernel_rfl) (by simp) ?_
      refine AllReadyH.cons rfl (fun K hK => ?_) (AllReadyH.cons rfl (fun K hK => ?_) AllReadyH.nil)
      · go_simp
        refine hK.out _ _ (hSn) (fun _ => ?_)
        clear hK K
        try simp only [Act.put, List.setIfInBounds_toArray, List.set_cons_zero, List.set_cons_succ]
        refine wpAnyH_ready (rs := [13]) (by kernel_rfl) (by simp) ?_
        refine AllReadyH.cons rfl (fun K hK => ?_) AllReadyH.nil
        go_simp
        refine hK.out _ _ (hSl) (fun _ => ?_)
        clear hK K
        try simp only [Act.put, List.setIfInBounds_toArray, List.set_cons_zero, List.set_cons_succ]
        refine wpAnyH_ready (rs := [14]) (by kernel_rfl) (by simp) ?_
        refine AllReadyH.cons rfl (fun K hK => ?_) AllReadyH.nil
        refine step_append_eq (ts := 37) rfl (.tmp 78) (.tmp 87) rfl rfl rfl rfl hrun ?_
        show K (Act.put _ (some 88) _) _
        refine hK.out _ _ (s0) (fun _ => ?_)
        clear hK K
        try simp only [Act.put, List.setIfInBounds_toArray, List.set_cons_zero, List.set_cons_succ]
        refine take_yes 15 89 ?_ rfl rfl (by kernel_rfl) (by kernel_rfl) (by kernel_rfl) (fun _ _ _ h => h) (by kernel_rfl) ?_ (by assumption) ?_; rotate_left; (focus (intro w hSw; (try dsimp only at hSw); go_simp; all_goals first | with_reducible rfl)); simp only [Act.put, List.setIfInBounds_toArray, List.set_cons_zero, List.set_cons_succ]
        refine take_yes 16 90 ?_ rfl rfl (by kernel_rfl) (by kernel_rfl) (by kernel_rfl) (fun _ _ _ h => h) (by kernel_rfl) ?_ (by assumption) ?_; rotate_left; (focus (intro w hSw; (try dsimp only at hSw); go_simp; all_goals first | with_reducible rfl)); simp only [Act.put, List.setIfInBounds_toArray, List.set_cons_zero, List.set_cons_succ]
        refine wpAnyH_ready (rs := [17]) (by kernel_rfl) (by simp) ?_
        refine AllReadyH.cons rfl (fun K hK => ?_) AllReadyH.nil
        go_simp
        rw [HWE.out]
        refine hK.out _ _ (hSe) (fun _ => ?_)
        clear hK K
        try simp only [Act.put, List.setIfInBounds_toArray, List.set_cons_zero, List.set_cons_succ]
        refine wpAnyH_done (by kernel_rfl) ?_ _
        clear hSe s0 s1 s2 hSn c1n c1l hSl hrun hHeld0
        have h := HWX.out
        have ho := HOX.out
        have HW2 := Lib.hid h
        have HO2 : Hid (Fr x w0 w2) := Lib.hid (HO1.out.trans ho)
        have HZ2 : Hid (((((s).nx x.xs).nx x.xs).push ⟨20, (a : Int) * 1099511627776 - 5, 0, [], [], [74], []⟩).sz (N + 1)) := Lib.hid ((Ws.sz_push _ (Ws.sz_nx x.xs HZ1.out)).more (by omega))
        clear h ho
        have HE : Hid (FS = (((s).nx x.xs).nx x.xs).push ⟨20, (a : Int) * 1099511627776 - 5, 0, [], [], [74], []⟩) := Lib.hid (by rw [← HFS.out]; unfold stepL; simp [HVv.out, HVa.out])
        go_wp2
        go_end0
        rw [HE.out]
        exact ⟨rfl, HW2.out, HO2.out⟩
      · go_simp
        refine hK.out _ _ (hSl) (fun _ => ?_)
        clear hK K
        try simp only [Act.put, List.setIfInBounds_toArray, List.set_cons_zero, List.set_cons_succ]
        refine wpAnyH_ready (rs := [4]) (by kernel_rfl) (by simp) ?_
        refine AllReadyH.cons rfl (fun K hK => ?_) AllReadyH.nil
        go_simp
        refine hK.out _ _ (hSl) (fun _ => ?_)
        clear hK K
        try simp only [Act.put, List.setIfInBounds_toArray, List.set_cons_zero, List.set_cons_succ]
        refine wpAnyH_ready (rs := [14]) (by kernel_rfl) (by simp) ?_
        refine AllReadyH.cons rfl (fun K hK => ?_) AllReadyH.nil
        refine step_append_eq (ts := 37) rfl (.tmp 78) (.tmp 87) rfl rfl rfl rfl hrun ?_
        show K (Act.put _ (some 88) _) _
        refine hK.out _ _ (s0) (fun _ => ?_)
        clear hK K
        try simp only [Act.put, List.setIfInBounds_toArray, List.set_cons_zero, List.set_cons_succ]
        refine take_yes 15 89 ?_ rfl rfl (by kernel_rfl) (by kernel_rfl) (by kernel_rfl) (fun _ _ _ h => h) (by kernel_rfl) ?_ (by assumption) ?_; rotate_left; (focus (intro w hSw; (try dsimp only at hSw); go_simp; all_goals first | with_reducible rfl)); simp only [Act.put, List.setIfInBounds_toArray, List.set_cons_zero, List.set_cons_succ]
        refine take_yes 16 90 ?_ rfl rfl (by kernel_rfl) (by kernel_rfl) (by kernel_rfl) (fun _ _ _ h => h) (by kernel_rfl) ?_ (by assumption) ?_; rotate_left; (focus (intro w hSw; (try dsimp only at hSw); go_simp; all_goals first | with_reducible rfl)); simp only [Act.put, List.setIfInBounds_toArray, List.set_cons_zero, List.set_cons_succ]
        refine wpAnyH_ready (rs := [17]) (by kernel_rfl) (by simp) ?_
        refine AllReadyH.cons rfl (fun K hK => ?_) AllReadyH.nil
        go_simp
        rw [HWE.out]
        refine hK.out _ _ (hSe) (fun _ => ?_)
        clear hK K
        try simp only [Act.put, List.setIfInBounds_toArray, List.set_cons_zero, List.set_cons_succ]
        refine wpAnyH_done (by kernel_rfl) ?_ _
        clear hSe s0 s1 s2 hSn c1n c1l hSl hrun hHeld0
        have h := HWX.out
        have ho := HOX.out
        have HW2 := Lib.hid h
        have HO2 : Hid (Fr x w0 w2) := Lib.hid (HO1.out.trans ho)
        have HZ2 : Hid (((((s).nx x.xs).nx x.xs).push ⟨20, (a : Int) * 1099511627776 - 5, 0, [], [], [74], []⟩).sz (N + 1)) := Lib.hid ((Ws.sz_push _ (Ws.sz_nx x.xs HZ1.out)).more (by omega))
        clear h ho
        have HE : Hid (FS = (((s).nx x.xs).nx x.xs).push ⟨20, (a : Int) * 1099511627776 - 5, 0, [], [], [74], []⟩) := Lib.hid (by rw [← HFS.out]; unfold stepL; simp [HVv.out, HVa.out])
        go_wp2
        go_end0
        rw [HE.out]
        exact ⟨rfl, HW2.out, HO2.out⟩
  · go_wp2_with fail
    refine (HI.out _ _ _ N HW1.out HZ1.out (by omega)).mono ?_
    rintro e w2 ⟨rfl, h, ho⟩
    have HW2 := Lib.hid h
    have HO2 : Hid (Fr x w0 w2) := Lib.hid (HO1.out.trans ho)
    have HZ2 : Hid ((I ((s).nx x.xs)).sz (N + 1 * c + 0)) := Lib.hid ((HIa.out _ _ HZ1.out).more (by omega))
    clear h ho
    go_wp2_with fail
    refine (op_v x _ _ _ (N + 1 * c + 0) 133 _ _ (by first | rfl | decide | assumption) HW2.out HZ2.out (by omega)).mono ?_
    rintro e w3 ⟨rfl, h, ho⟩
    have HW3 := Lib.hid h
    have HO3 : Hid (Fr x w0 w3) := Lib.hid (HO2.out.trans ho)
    have HZ3 : Hid (((I ((s).nx x.xs)).op 133 0).sz (N + 1 * c + 1)) := Lib.hid ((Ws.sz_op _ _ HZ2.out).more (by omega))
    clear h ho
    have HE : Hid (FS = (I ((s).nx x.xs)).op 133 0) := Lib.hid (by rw [← HFS.out]; unfold stepL; simp [HVv.out])
    go_wp2
    go_end0
    rw [HE.out]
    exact ⟨rfl, HW3.out, HO3.out⟩

set_option maxHeartbeats 4000000 in
theorem long_deep (x : Wx) (w : World) (D : Int) (s : Ws) (N : Nat) (I L : Ws → Ws) (v0 : Int) (hv0 : 0 < v0) (hv1 : v0 ≤ 2) (c B : Nat) (hc : c ≤ 18) (hI : CtW x 125 (v0 - 1) I B) (hIa : AddsW I c) (hL : CtW x 174 (v0 - 1) L B) (hLa : AddsW L c) (h : WrS x w D s) (hz : s.sz N) (hN : N + 100 ≤ B) (hB : B ≤ 16000000) :
    Calls Tryz.prog 174 #[.pointer (some ⟨x.g, 0, none⟩), .int .i64 v0] w fun e w' => e = .returned (.tuple #[]) ∧ WrS x w' D (stepL x.xs true I L s) ∧ Fr x w w' := by
  obtain ⟨w0, rfl⟩ : ∃ w0, w0 = w := ⟨_, rfl⟩
  have HW0 := Lib.hid h
  have HO0 : Hid (Fr x w0 w0) := Lib.hid (Fr.refl x w0)
  have HZ0 := Lib.hid hz
  obtain ⟨FS, hFS⟩ : ∃ FS, stepL x.xs true I L s = FS := ⟨_, rfl⟩
  have HFS := Lib.hid hFS
  rw [hFS]
  clear h hz hFS
  have HI := Lib.hid hI
  have HL := Lib.hid hL
  have HIa := Lib.hid hIa
  have HLa := Lib.hid hLa
  clear hI hL hIa hLa
  go_enter Tryz.func174, Tryz.ntmps174
  have t0 := HW0.out.t
  go_wp2_with fail
  refine (next_s x _ _ _ 6 _ HW0.out (by omega) (by omega) rfl).mono ?_
  rintro e w1 ⟨rfl, h, ho⟩
  have HW1 := Lib.hid h
  have HO1 : Hid (Fr x w0 w1) := Lib.hid (HO0.out.trans ho)
  have HZ1 : Hid (((s).nx x.xs).sz N) := Lib.hid ((Ws.sz_nx x.xs HZ0.out).more (by omega))
  clear h ho
  obtain ⟨v, hv⟩ : ∃ v, nxV x.xs 6 (s).at_ = v := ⟨_, rfl⟩
  have bv : v < 6 := by rw [← hv]; exact nxV_lt (by omega)
  rw [hv]
  have HVv := Lib.hid hv
  clear hv t0
  have hcs : v = 0 ∨ v = 1 ∨ v = 2 ∨ v = 3 ∨ v = 4 ∨ v = 5 := by omega
  clear bv
  rcases hcs with rfl | rfl | rfl | rfl | rfl | rfl
  · go_wp2_with fail
    refine (HL.out _ _ _ N HW1.out HZ1.out (by omega)).mono ?_
    rintro e w2 ⟨rfl, h, ho⟩
    have HW2 := Lib.hid h
    have HO2 : Hid (Fr x w0 w2) := Lib.hid (HO1.out.trans ho)
    have HZ2 : Hid ((L ((s).nx x.xs)).sz (N + 1 * c + 0)) := Lib.hid ((HLa.out _ _ HZ1.out).more (by omega))
    clear h ho
    go_wp2_with fail
    refine (HL.out _ _ _ (N + 1 * c + 0) HW2.out HZ2.out (by omega)).mono ?_
    rintro e w3 ⟨rfl, h, ho⟩
    have HW3 := Lib.hid h
    have HO3 : Hid (Fr x w0 w3) := Lib.hid (HO2.out.trans ho)
    have HZ3 : Hid ((L (L ((s).nx x.xs))).sz (N + 2 * c + 0)) := Lib.hid ((HLa.out _ _ HZ2.out).more (by omega))
    clear h ho
    have t3 := HW3.out.t
    have hbt := belowA w3 (.cells #[.int .u8 97, .int .u8 101, .int .u8 105, .int .u8 109, .int .u8 127, .int .u8 131, .int .u8 113, .int .u8 129] 5)
    have kb3 := Blk.new w3 5 #[.int .u8 97, .int .u8 101, .int .u8 105, .int .u8 109, .int .u8 127, .int .u8 131, .int .u8 113, .int .u8 129]
    have h := HW3.out.below hbt
    have ho := Fr.of_below (x := x) hbt
    obtain ⟨w4, hw3⟩ : ∃ W, w3.alloc (.cells #[.int .u8 97, .int .u8 101, .int .u8 105, .int .u8 109, .int .u8 127, .int .u8 131, .int .u8 113, .int .u8 129] 5) = W := ⟨_, rfl⟩
    rw [hw3] at h ho kb3
    have HWW3 := Lib.hid hw3
    have HKB3 := Lib.hid kb3
    have t3b := h.t
    rw [← hw3] at t3b
    have hgl3 := HW3.out.lt
    clear hw3 kb3 hbt
    have HW4 := Lib.hid h
    have HO4 : Hid (Fr x w0 w4) := Lib.hid (HO3.out.trans ho)
    have HZ4 : Hid ((L (L ((s).nx x.xs))).sz (N + 2 * c + 0)) := Lib.hid ((HZ3.out).more (by omega))
    clear h ho
    go_wp2_with fail
    rw [HWW3.out]
    clear t3 t3b
    refine (next_s x _ _ _ 8 _ HW4.out (by omega) (by omega) rfl).mono ?_
    rintro e w5 ⟨rfl, h, ho⟩
    have HQ5 := Lib.hid (ho.2 _ _ _ HKB3.out (by unfold WE; decide))
    have HW5 := Lib.hid h
    have HO5 : Hid (Fr x w0 w5) := Lib.hid (HO4.out.trans ho)
    have HZ5 : Hid (((L (L ((s).nx x.xs))).nx x.xs).sz (N + 2 * c + 0)) := Lib.hid ((Ws.sz_nx x.xs HZ4.out).more (by omega))
    clear h ho
    obtain ⟨a, ha⟩ : ∃ a, nxV x.xs 8 (L (L ((s).nx x.xs))).at_ = a := ⟨_, rfl⟩
    have ba : a < 8 := by rw [← ha]; exact nxV_lt (by omega)
    rw [ha]
    have HVa := Lib.hid ha
    have da : w5.cell? ⟨w3.heap.size, a, none⟩ = some (.int .u8 ((longOps.getD a 0).toNat : Int)) := by
      rw [HQ5.out.cell]
      exact u8_of_tab longOps a ba
    have la : w3.heap.size < w5.heap.size := HQ5.out.lt
    obtain ⟨qa, hqa⟩ : ∃ q : Int, ((longOps.getD a 0).toNat : Int) = q := ⟨_, rfl⟩
    rw [hqa] at da
    have HQa := Lib.hid hqa
    clear ha hqa
    go_wp2_with fail
    refine (op_v x _ _ _ (N + 2 * c + 0) (longOps.getD a 0) _ _ HQa.out HW5.out HZ5.out (by omega)).mono ?_
    rintro e w6 ⟨rfl, h, ho⟩
    have HW6 := Lib.hid h
    have HO6 : Hid (Fr x w0 w6) := Lib.hid (HO5.out.trans ho)
    have HZ6 : Hid ((((L (L ((s).nx x.xs))).nx x.xs).op (longOps.getD a 0) 0).sz (N + 2 * c + 1)) := Lib.hid ((Ws.sz_op _ _ HZ5.out).more (by omega))
    clear h ho
    have HE : Hid (FS = ((L (L ((s).nx x.xs))).nx x.xs).op (longOps.getD a 0) 0) := Lib.hid (by rw [← HFS.out]; unfold stepL; simp [HVv.out, HVa.out])
    go_wp2
    go_end0
    rw [HE.out]
    exact ⟨rfl, HW6.out, HO6.out⟩
  · go_wp2_with fail
    refine (HL.out _ _ _ N HW1.out HZ1.out (by omega)).mono ?_
    rintro e w2 ⟨rfl, h, ho⟩
    have HW2 := Lib.hid h
    have HO2 : Hid (Fr x w0 w2) := Lib.hid (HO1.out.trans ho)
    have HZ2 : Hid ((L ((s).nx x.xs)).sz (N + 1 * c + 0)) := Lib.hid ((HLa.out _ _ HZ1.out).more (by omega))
    clear h ho
    go_wp2_with fail
    refine (HL.out _ _ _ (N + 1 * c + 0) HW2.out HZ2.out (by omega)).mono ?_
    rintro e w3 ⟨rfl, h, ho⟩
    have HW3 := Lib.hid h
    have HO3 : Hid (Fr x w0 w3) := Lib.hid (HO2.out.trans ho)
    have HZ3 : Hid ((L (L ((s).nx x.xs))).sz (N + 2 * c + 0)) := Lib.hid ((HLa.out _ _ HZ2.out).more (by omega))
    clear h ho
    have t3 := HW3.out.t
    have hbt := belowA w3 (.cells #[.int .u8 97, .int .u8 101, .int .u8 105, .int .u8 109, .int .u8 127, .int .u8 131, .int .u8 113, .int .u8 129] 5)
    have kb3 := Blk.new w3 5 #[.int .u8 97, .int .u8 101, .int .u8 105, .int .u8 109, .int .u8 127, .int .u8 131, .int .u8 113, .int .u8 129]
    have h := HW3.out.below hbt
    have ho := Fr.of_below (x := x) hbt
    obtain ⟨w4, hw3⟩ : ∃ W, w3.alloc (.cells #[.int .u8 97, .int .u8 101, .int .u8 105, .int .u8 109, .int .u8 127, .int .u8 131, .int .u8 113, .int .u8 129] 5) = W := ⟨_, rfl⟩
    rw [hw3] at h ho kb3
    have HWW3 := Lib.hid hw3
    have HKB3 := Lib.hid kb3
    have t3b := h.t
    rw [← hw3] at t3b
    have hgl3 := HW3.out.lt
    clear hw3 kb3 hbt
    have HW4 := Lib.hid h
    have HO4 : Hid (Fr x w0 w4) := Lib.hid (HO3.out.trans ho)
    have HZ4 : Hid ((L (L ((s).nx x.xs))).sz (N + 2 * c + 0)) := Lib.hid ((HZ3.out).more (by omega))
    clear h ho
    go_wp2_with fail
    rw [HWW3.out]
    clear t3 t3b
    refine (next_s x _ _ _ 8 _ HW4.out (by omega) (by omega) rfl).mono ?_
    rintro e w5 ⟨rfl, h, ho⟩
    have HQ5 := Lib.hid (ho.2 _ _ _ HKB3.out (by unfold WE; decide))
    have HW5 := Lib.hid h
    have HO5 : Hid (Fr x w0 w5) := Lib.hid (HO4.out.trans ho)
    have HZ5 : Hid (((L (L ((s).nx x.xs))).nx x.xs).sz (N + 2 * c + 0)) := Lib.hid ((Ws.sz_nx x.xs HZ4.out).more (by omega))
    clear h ho
    obtain ⟨a, ha⟩ : ∃ a, nxV x.xs 8 (L (L ((s).nx x.xs))).at_ = a := ⟨_, rfl⟩
    have ba : a < 8 := by rw [← ha]; exact nxV_lt (by omega)
    rw [ha]
    have HVa := Lib.hid ha
    have da : w5.cell? ⟨w3.heap.size, a, none⟩ = some (.int .u8 ((longOps.getD a 0).toNat : Int)) := by
      rw [HQ5.out.cell]
      exact u8_of_tab longOps a ba
    have la : w3.heap.size < w5.heap.size := HQ5.out.lt
    obtain ⟨qa, hqa⟩ : ∃ q : Int, ((longOps.getD a 0).toNat : Int) = q := ⟨_, rfl⟩
    rw [hqa] at da
    have HQa := Lib.hid hqa
    clear ha hqa
    go_wp2_with fail
    refine (op_v x _ _ _ (N + 2 * c + 0) (longOps.getD a 0) _ _ HQa.out HW5.out HZ5.out (by omega)).mono ?_
    rintro e w6 ⟨rfl, h, ho⟩
    have HW6 := Lib.hid h
    have HO6 : Hid (Fr x w0 w6) := Lib.hid (HO5.out.trans ho)
    have HZ6 : Hid ((((L (L ((s).nx x.xs))).nx x.xs).op (longOps.getD a 0) 0).sz (N + 2 * c + 1)) := Lib.hid ((Ws.sz_op _ _ HZ5.out).more (by omega))
    clear h ho
    have HE : Hid (FS = ((L (L ((s).nx x.xs))).nx x.xs).op (longOps.getD a 0) 0) := Lib.hid (by rw [← HFS.out]; unfold stepL; simp [HVv.out, HVa.out])
    go_wp2
    go_end0
    rw [HE.out]
    exact ⟨rfl, HW6.out, HO6.out⟩
  · go_wp2_with fail
    refine (HL.out _ _ _ N HW1.out HZ1.out (by omega)).mono ?_
    rintro e w2 ⟨rfl, h, ho⟩
    have HW2 := Lib.hid h
    have HO2 : Hid (Fr x w0 w2) := Lib.hid (HO1.out.trans ho)
    have HZ2 : Hid ((L ((s).nx x.xs)).sz (N + 1 * c + 0)) := Lib.hid ((HLa.out _ _ HZ1.out).more (by omega))
    clear h ho
    go_wp2_with fail
    refine (HI.out _ _ _ (N + 1 * c + 0) HW2.out HZ2.out (by omega)).mono ?_
    rintro e w3 ⟨rfl, h, ho⟩
    have HW3 := Lib.hid h
    have HO3 : Hid (Fr x w0 w3) := Lib.hid (HO2.out.trans ho)
    have HZ3 : Hid ((I (L ((s).nx x.xs))).sz (N + 2 * c + 0)) := Lib.hid ((HIa.out _ _ HZ2.out).more (by omega))
    clear h ho
    have t3 := HW3.out.t
    have hbt := belowA w3 (.cells #[.int .u8 121, .int .u8 123, .int .u8 125] 5)
    have kb3 := Blk.new w3 5 #[.int .u8 121, .int .u8 123, .int .u8 125]
    have h := HW3.out.below hbt
    have ho := Fr.of_below (x := x) hbt
    obtain ⟨w4, hw3⟩ : ∃ W, w3.alloc (.cells #[.int .u8 121, .int .u8 123, .int .u8 125] 5) = W := ⟨_, rfl⟩
    rw [hw3] at h ho kb3
    have HWW3 := Lib.hid hw3
    have HKB3 := Lib.hid kb3
    have t3b := h.t
    rw [← hw3] at t3b
    have hgl3 := HW3.out.lt
    clear hw3 kb3 hbt
    have HW4 := Lib.hid h
    have HO4 : Hid (Fr x w0 w4) := Lib.hid (HO3.out.trans ho)
    have HZ4 : Hid ((I (L ((s).nx x.xs))).sz (N + 2 * c + 0)) := Lib.hid ((HZ3.out).more (by omega))
    clear h ho
    go_wp2_with fail
    rw [HWW3.out]
    clear t3 t3b
    refine (next_s x _ _ _ 3 _ HW4.out (by omega) (by omega) rfl).mono ?_
    rintro e w5 ⟨rfl, h, ho⟩
    have HQ5 := Lib.hid (ho.2 _ _ _ HKB3.out (by unfold WE; decide))
    have HW5 := Lib.hid h
    have HO5 : Hid (Fr x w0 w5) := Lib.hid (HO4.out.trans ho)
    have HZ5 : Hid (((I (L ((s).nx x.xs))).nx x.xs).sz (N + 2 * c + 0)) := Lib.hid ((Ws.sz_nx x.xs HZ4.out).more (by omega))
    clear h ho
    obtain ⟨a, ha⟩ : ∃ a, nxV x.xs 3 (I (L ((s).nx x.xs))).at_ = a := ⟨_, rfl⟩
    have ba : a < 3 := by rw [← ha]; exact nxV_lt (by omega)
    rw [ha]
    have HVa := Lib.hid ha
    have da : w5.cell? ⟨w3.heap.size, a, none⟩ = some (.int .u8 ((shOps.getD a 0).toNat : Int)) := by
      rw [HQ5.out.cell]
      exact u8_of_tab shOps a ba
    have la : w3.heap.size < w5.heap.size := HQ5.out.lt
    obtain ⟨qa, hqa⟩ : ∃ q : Int, ((shOps.getD a 0).toNat : Int) = q := ⟨_, rfl⟩
    rw [hqa] at da
    have HQa := Lib.hid hqa
    clear ha hqa
    go_wp2_with fail
    refine (op_v x _ _ _ (N + 2 * c + 0) (shOps.getD a 0) _ _ HQa.out HW5.out HZ5.out (by omega)).mono ?_
    rintro e w6 ⟨rfl, h, ho⟩
    have HW6 := Lib.hid h
    have HO6 : Hid (Fr x w0 w6) := Lib.hid (HO5.out.trans ho)
    have HZ6 : Hid ((((I (L ((s).nx x.xs))).nx x.xs).op (shOps.getD a 0) 0).sz (N + 2 * c + 1)) := Lib.hid ((Ws.sz_op _ _ HZ5.out).more (by omega))
    clear h ho
    have HE : Hid (FS = ((I (L ((s).nx x.xs))).nx x.xs).op (shOps.getD a 0) 0) := Lib.hid (by rw [← HFS.out]; unfold stepL; simp [HVv.out, HVa.out])
    go_wp2
    go_end0
    rw [HE.out]
    exact ⟨rfl, HW6.out, HO6.out⟩
  · go_wp2_with fail
    refine (op_v x _ _ _ N 22 _ _ (by first | rfl | decide | assumption) HW1.out HZ1.out (by omega)).mono ?_
    rintro e w2 ⟨rfl, h, ho⟩
    have HW2 := Lib.hid h
    have HO2 : Hid (Fr x w0 w2) := Lib.hid (HO1.out.trans ho)
    have HZ2 : Hid ((((s).nx x.xs).op 22 3).sz (N + 1)) := Lib.hid ((Ws.sz_op _ _ HZ1.out).more (by omega))
    clear h ho
    have HE : Hid (FS = ((s).nx x.xs).op 22 3) := Lib.hid (by rw [← HFS.out]; unfold stepL; simp [HVv.out])
    go_wp2
    go_end0
    rw [HE.out]
    exact ⟨rfl, HW2.out, HO2.out⟩
  · obtain ⟨Cd, ncd, ccd, Td, ntd, ctd, Md, nmd, cmd, lmd, hD⟩ := HW1.out
    have hncd : ncd ≤ N := by rw [← hD.code.row.1]; exact HZ1.out.1
    have hc0 : w1.cell? ⟨x.g, 0, none⟩ = some (.pointer (some ⟨x.tp, 0, none⟩)) := hD.blk.cell 0
    have hdr : Below w1.heap.size w1 w1.drew := ((Only.refl Empty w1).drew).below (Nat.le_refl _) (fun _ _ h => h)
    have HDD := Lib.hid (hD.below hdr)
    have HFD := Lib.hid (Fr.of_below (x := x) hdr)
    have hgl := hD.blk.lt
    have c1d : w1.drew.cell? ⟨x.g, 1, none⟩ = some (.slice Cd ncd ccd) := HDD.out.blk.cell 1
    have hc0d : w1.drew.cell? ⟨x.g, 0, none⟩ = some (.pointer (some ⟨x.tp, 0, none⟩)) := HDD.out.blk.cell 0
    obtain ⟨a, ha⟩ : ∃ a, nxV x.xs 256 ((s).nx x.xs).at_ = a := ⟨_, rfl⟩
    have ba : a < 256 := by rw [← ha]; exact nxV_lt (by omega)
    have HVa := Lib.hid ha
    have CN : Hid (Calls Tryz.prog 57 #[.pointer (some ⟨x.tp, 0, none⟩), .int .i64 256] w1.drew fun e w' => e = .returned (.int .i64 (a : Int)) ∧ WrD x w' D (((s).nx x.xs).nx x.xs) Cd ncd ccd Td ntd ctd Md nmd cmd lmd ∧ Fr x w1.drew w') := Lib.hid (by
      refine (next_ex x.B x.tp x.A x.n x.cap x.xs _ 256 _ HDD.out.tape (by omega) (by omega)).mono ?_
      rintro e w' ⟨rfl, ht, ho⟩
      exact ⟨by rw [HVa.out], HDD.out.tape_ ho ht, ho.mono (fun i _ e => ow_tape x i e), keep_tape HDD.out ho⟩)
    clear hD hdr ha
    go_wp2_with fail
    refine wp_region_held_drew (S := fun W => W.cell? ⟨x.g, 0, none⟩ = some (.pointer (some ⟨x.tp, 0, none⟩))) (by kernel_rfl) hc0 (fun hHeld0 => ?_)
    refine take_yes 0 74 ?_ rfl rfl (by kernel_rfl) (by kernel_rfl) (by kernel_rfl) (fun _ _ _ h => h) (by kernel_rfl) ?_ (by assumption) ?_; rotate_left; (focus (intro w hSw; (try dsimp only at hSw); go_simp; all_goals first | with_reducible rfl)); simp only [Act.put, List.setIfInBounds_toArray, List.set_cons_zero, List.set_cons_succ]
    refine take_yes 1 75 ?_ rfl rfl (by kernel_rfl) (by kernel_rfl) (by kernel_rfl) (fun _ _ _ h => h) (by kernel_rfl) ?_ (by assumption) ?_; rotate_left; (focus (intro w hSw; (try dsimp only at hSw); go_simp; all_goals first | with_reducible rfl)); simp only [Act.put, List.setIfInBounds_toArray, List.set_cons_zero, List.set_cons_succ]
    refine take_yes 2 76 ?_ rfl rfl (by kernel_rfl) (by kernel_rfl) (by kernel_rfl) (fun _ _ _ h => h) (by kernel_rfl) ?_ (by assumption) ?_; rotate_left; (focus (intro w hSw; (try dsimp only at hSw); go_simp; all_goals first | with_reducible rfl)); simp only [Act.put, List.setIfInBounds_toArray, List.set_cons_zero, List.set_cons_succ]
    refine take_yes 3 77 ?_ rfl rfl (by kernel_rfl) (by kernel_rfl) (by kernel_rfl) (fun _ _ _ h => h) (by kernel_rfl) ?_ (by assumption) ?_; rotate_left; (focus (intro w hSw; (try dsimp only at hSw); go_simp; all_goals first | with_reducible rfl)); simp only [Act.put, List.setIfInBounds_toArray, List.set_cons_zero, List.set_cons_succ]
    refine take_yes 5 79 ?_ rfl rfl (by kernel_rfl) (by kernel_rfl) (by kernel_rfl) (fun _ _ _ h => h) (by kernel_rfl) ?_ (by assumption) ?_; rotate_left; (focus (intro w hSw; (try dsimp only at hSw); go_simp; all_goals first | with_reducible rfl)); simp only [Act.put, List.setIfInBounds_toArray, List.set_cons_zero, List.set_cons_succ]
    refine take_yes 6 80 ?_ rfl rfl (by kernel_rfl) (by kernel_rfl) (by kernel_rfl) (fun _ _ _ h => h) (by kernel_rfl) ?_ (by assumption) ?_; rotate_left; (focus (intro w hSw; (try dsimp only at hSw); go_simp; all_goals first | with_reducible rfl)); simp only [Act.put, List.setIfInBounds_toArray, List.set_cons_zero, List.set_cons_succ]
    refine take_yes 7 81 ?_ rfl rfl (by kernel_rfl) (by kernel_rfl) (by kernel_rfl) (fun _ _ _ h => h) (by kernel_rfl) ?_ (by assumption) ?_; rotate_left; (focus (intro w hSw; (try dsimp only at hSw); go_simp; all_goals first | with_reducible rfl)); simp only [Act.put, List.setIfInBounds_toArray, List.set_cons_zero, List.set_cons_succ]
    refine take_yes 8 82 ?_ rfl rfl (by kernel_rfl) (by kernel_rfl) (by kernel_rfl) (fun _ _ _ h => h) (by kernel_rfl) ?_ (by assumption) ?_; rotate_left; (focus (intro w hSw; (try dsimp only at hSw); go_simp; all_goals first | with_reducible rfl)); simp only [Act.put, List.setIfInBounds_toArray, List.set_cons_zero, List.set_cons_succ]
    refine wpAnyH_ready (rs := [4, 9]) (by kernel_rfl) (by simp) ?_
    refine AllReadyH.cons rfl (fun K hK => ?_) (AllReadyH.cons rfl (fun K hK => ?_) AllReadyH.nil)
    · go_simp
      refine hK.out _ _ (hc0d) (fun _ => ?_)
      clear hK K
      try simp only [Act.put, List.setIfInBounds_toArray, List.set_cons_zero, List.set_cons_succ]
      refine wpAnyH_ready (rs := [9]) (by kernel_rfl) (by simp) ?_
      refine AllReadyH.cons rfl (fun K hK => ?_) AllReadyH.nil
      go_simp
      go_at_call 57; (refine CN.out.mono ?_); rintro e wn ⟨rfl, hDn, hFn⟩
      have HDN := Lib.hid hDn
      have HFN := Lib.hid (HFD.out.trans hFn)
      have hSn : wn.cell? ⟨x.g, 0, none⟩ = some (.pointer (some ⟨x.tp, 0, none⟩)) := hDn.blk.cell 0
      have c1n : wn.cell? ⟨x.g, 1, none⟩ = some (.slice Cd ncd ccd) := hDn.blk.cell 1
      clear hDn hFn
      go_wp2_with fail
      refine hK.out _ _ (hSn) (fun _ => ?_)
      clear hK K
      try simp only [Act.put, List.setIfInBounds_toArray, List.set_cons_zero, List.set_cons_succ]
      have hq1 : IntKind.i64.wrap ((a : Int) * 1099511627776) = (a : Int) * 1099511627776 := by rw [IntKind.wrap_i64]; omega
      have hq2 : IntKind.i64.wrap ((a : Int) * 1099511627776 - 5) = (a : Int) * 1099511627776 - 5 := by rw [IntKind.wrap_i64]; omega
      refine take_yes 10 84 (.int .i64 ((a : Int) * 1099511627776)) rfl rfl (by kernel_rfl) (by kernel_rfl) (by kernel_rfl) (fun _ _ _ h => h) (by kernel_rfl) ?_ (by assumption) ?_; (focus (intro w hSw; (try dsimp only at hSw); go_simp; all_goals first | with_reducible rfl | simp [hq1])); simp only [Act.put, List.setIfInBounds_toArray, List.set_cons_zero, List.set_cons_succ]
      refine take_yes 11 85 (.int .i64 ((a : Int) * 1099511627776 - 5)) rfl rfl (by kernel_rfl) (by kernel_rfl) (by kernel_rfl) (fun _ _ _ h => h) (by kernel_rfl) ?_ (by assumption) ?_; (focus (intro w hSw; (try dsimp only at hSw); go_simp; all_goals first | with_reducible rfl | simp [hq2])); simp only [Act.put, List.setIfInBounds_toArray, List.set_cons_zero, List.set_cons_succ]
      refine take_yes 12 86 ?_ rfl rfl (by kernel_rfl) (by kernel_rfl) (by kernel_rfl) (fun _ _ _ h => h) (by kernel_rfl) ?_ (by assumption) ?_; rotate_left; (focus (intro w hSw; (try dsimp only at hSw); go_simp; all_goals first | with_reducible rfl)); simp only [Act.put, List.setIfInBounds_toArray, List.set_cons_zero, List.set_cons_succ]
      have hbl := belowA wn (.cells (inC (⟨20, (a : Int) * 1099511627776 - 5, 0, [], [], [74], []⟩ : InD)).toArray 98)
      have hDl := HDN.out.below hbl
      have HBL : Hid (Blk (wn.alloc (.cells (inC (⟨20, (a : Int) * 1099511627776 - 5, 0, [], [], [74], []⟩ : InD)).toArray 98)) wn.heap.size 98 (inC (⟨20, (a : Int) * 1099511627776 - 5, 0, [], [], [74], []⟩ : InD)).toArray) := Lib.hid (Blk.new _ _ _)
      have hSl : (wn.alloc (.cells (inC (⟨20, (a : Int) * 1099511627776 - 5, 0, [], [], [74], []⟩ : InD)).toArray 98)).cell? ⟨x.g, 0, none⟩ = some (.pointer (some ⟨x.tp, 0, none⟩)) := hDl.blk.cell 0
      have c1l : (wn.alloc (.cells #[.int .u8 20, .int .i64 ((a : Int) * 1099511627776 - 5), .int .i64 0, .string ⟨#[]⟩, .string ⟨#[]⟩, .string ⟨#[74]⟩, .string ⟨#[]⟩] 98)).cell? ⟨x.g, 1, none⟩ = some (.slice Cd ncd ccd) := hDl.blk.cell 1
      have hb0l := hDl.b0
      obtain ⟨A3, c3, w3, hrun, hG, hg, hr⟩ := run_append_rows (S := Empty) inC_len inC_one (by decide) 37 98 _ 88 Tryz.underlying37 Tryz.infoIn (by simp [Value.cells]) (by decide) 37 x.b0 Cd ncd ccd ((s).nx x.xs).code hDl.code ⟨wn.heap.size, 0, none⟩ 1 1 [(⟨20, (a : Int) * 1099511627776 - 5, 0, [], [], [74], []⟩ : InD)] (RowSl.of_blk inC_len HBL.out rfl (Nat.le_refl _) (by unfold maxLen; omega) (fun j _ => by simp) (fun h => h)) (by omega) hb0l
      have hgo := ne_own hDl.code hDl.blk (show 98 ≠ 166 by decide)
      have s1 : w3.cell? ⟨x.g, 1, none⟩ = some (.slice Cd ncd ccd) := ((only_grown hg hr).cell (p := ⟨x.g, 1, none⟩) hDl.blk.lt hgo).trans (hDl.blk.cell 1)
      have s0 : w3.cell? ⟨x.g, 0, none⟩ = some (.pointer (some ⟨x.tp, 0, none⟩)) := ((only_grown hg hr).cell (p := ⟨x.g, 0, none⟩) hDl.blk.lt hgo).trans hSl
      have s2 : w3.frozen? ⟨x.g, 1, none⟩ = false := ((only_grown hg hr).blk hDl.blk hgo).frozen 1
      obtain ⟨hP, hF⟩ := hDl.push hG hg hr
      obtain ⟨w2, hwe⟩ : ∃ W, w3.setCell ⟨x.g, 1, none⟩ (.slice A3 (ncd + 1) c3) = W := ⟨_, rfl⟩
      rw [hwe] at hP hF
      have hSe : w2.cell? ⟨x.g, 0, none⟩ = some (.pointer (some ⟨x.tp, 0, none⟩)) := hP.blk.cell 0
      have h : WrS x w2 D (((((s).nx x.xs).nx x.xs)).push ⟨20, (a : Int) * 1099511627776 - 5, 0, [], [], [74], []⟩) := ⟨A3, ncd + 1, c3, Td, ntd, ctd, Md, nmd, cmd, lmd, hP⟩
      have ho : Fr x w1 w2 := (HFN.out.trans (Fr.of_below hbl)).trans hF
      have HWE := Lib.hid hwe
      have HWX := Lib.hid h
      have HOX := Lib.hid ho
      simp only [inC] at hSl hrun
      clear hbl hDl hG hg hr hgo hP hF hwe h ho
      refine wpAnyH_ready (rs := [13]) (by kernel_rfl) (by simp) ?_
      refine AllReadyH.cons rfl (fun K hK => ?_) AllReadyH.nil
      go_simp
      refine hK.out _ _ (hSl) (fun _ => ?_)
      clear hK K
      try simp only [Act.put, List.setIfInBounds_toArray, List.set_cons_zero, List.set_cons_succ]
      refine wpAnyH_ready (rs := [14]) (by kernel_rfl) (by simp) ?_
      refine AllReadyH.cons rfl (fun K hK => ?_) AllReadyH.nil
      refine step_append_eq (ts := 37) rfl (.tmp 78) (.tmp 87) rfl rfl rfl rfl hrun ?_
      show K (Act.put _ (some 88) _) _
      refine hK.out _ _ (s0) (fun _ => ?_)
      clear hK K
      try simp only [Act.put, List.setIfInBounds_toArray, List.set_cons_zero, List.set_cons_succ]
      refine take_yes 15 89 ?_ rfl rfl (by kernel_rfl) (by kernel_rfl) (by kernel_rfl) (fun _ _ _ h => h) (by kernel_rfl) ?_ (by assumption) ?_; rotate_left; (focus (intro w hSw; (try dsimp only at hSw); go_simp; all_goals first | with_reducible rfl)); simp only [Act.put, List.setIfInBounds_toArray, List.set_cons_zero, List.set_cons_succ]
      refine take_yes 16 90 ?_ rfl rfl (by kernel_rfl) (by kernel_rfl) (by kernel_rfl) (fun _ _ _ h => h) (by kernel_rfl) ?_ (by assumption) ?_; rotate_left; (focus (intro w hSw; (try dsimp only at hSw); go_simp; all_goals first | with_reducible rfl)); simp only [Act.put, List.setIfInBounds_toArray, List.set_cons_zero, List.set_cons_succ]
      refine wpAnyH_ready (rs := [17]) (by kernel_rfl) (by simp) ?_
      refine AllReadyH.cons rfl (fun K hK => ?_) AllReadyH.nil
      go_simp
      rw [HWE.out]
      refine hK.out _ _ (hSe) (fun _ => ?_)
      clear hK K
      try simp only [Act.put, List.setIfInBounds_toArray, List.set_cons_zero, List.set_cons_succ]
      refine wpAnyH_done (by kernel_rfl) ?_ _
      clear hSe s0 s1 s2 hSn c1n c1l hSl hrun hHeld0
      have h := HWX.out
      have ho := HOX.out
      have HW2 := Lib.hid h
      have HO2 : Hid (Fr x w0 w2) := Lib.hid (HO1.out.trans ho)
      have HZ2 : Hid (((((s).nx x.xs).nx x.xs).push ⟨20, (a : Int) * 1099511627776 - 5, 0, [], [], [74], []⟩).sz (N + 1)) := Lib.hid ((Ws.sz_push _ (Ws.sz_nx x.xs HZ1.out)).more (by omega))
      clear h ho
      have HE : Hid (FS = (((s).nx x.xs).nx x.xs).push ⟨20, (a : Int) * 1099511627776 - 5, 0, [], [], [74], []⟩) := Lib.hid (by rw [← HFS.out]; unfold stepL; simp [HVv.out, HVa.out])
      go_wp2
      go_end0
      rw [HE.out]
      exact ⟨rfl, HW2.out, HO2.out⟩
    · go_simp
      go_at_call 57; (refine CN.out.mono ?_); rintro e wn ⟨rfl, hDn, hFn⟩
      have HDN := Lib.hid hDn
      have HFN := Lib.hid (HFD.out.trans hFn)
      have hSn : wn.cell? ⟨x.g, 0, none⟩ = some (.pointer (some ⟨x.tp, 0, none⟩)) := hDn.blk.cell 0
      have c1n : wn.cell? ⟨x.g, 1, none⟩ = some (.slice Cd ncd ccd) := hDn.blk.cell 1
      clear hDn hFn
      go_wp2_with fail
      refine hK.out _ _ (hSn) (fun _ => ?_)
      clear hK K
      try simp only [Act.put, List.setIfInBounds_toArray, List.set_cons_zero, List.set_cons_succ]
      have hq1 : IntKind.i64.wrap ((a : Int) * 1099511627776) = (a : Int) * 1099511627776 := by rw [IntKind.wrap_i64]; omega
      have hq2 : IntKind.i64.wrap ((a : Int) * 1099511627776 - 5) = (a : Int) * 1099511627776 - 5 := by rw [IntKind.wrap_i64]; omega
      refine take_yes 10 84 (.int .i64 ((a : Int) * 1099511627776)) rfl rfl (by kernel_rfl) (by kernel_rfl) (by kernel_rfl) (fun _ _ _ h => h) (by kernel_rfl) ?_ (by assumption) ?_; (focus (intro w hSw; (try dsimp only at hSw); go_simp; all_goals first | with_reducible rfl | simp [hq1])); simp only [Act.put, List.setIfInBounds_toArray, List.set_cons_zero, List.set_cons_succ]
      refine take_yes 11 85 (.int .i64 ((a : Int) * 1099511627776 - 5)) rfl rfl (by kernel_rfl) (by kernel_rfl) (by kernel_rfl) (fun _ _ _ h => h) (by kernel_rfl) ?_ (by assumption) ?_; (focus (intro w hSw; (try dsimp only at hSw); go_simp; all_goals first | with_reducible rfl | simp [hq2])); simp only [Act.put, List.setIfInBounds_toArray, List.set_cons_zero, List.set_cons_succ]
      refine take_yes 12 86 ?_ rfl rfl (by kernel_rfl) (by kernel_rfl) (by kernel_rfl) (fun _ _ _ h => h) (by kernel_rfl) ?_ (by assumption) ?_; rotate_left; (focus (intro w hSw; (try dsimp only at hSw); go_simp; all_goals first | with_reducible rfl)); simp only [Act.put, List.setIfInBounds_toArray, List.set_cons_zero, List.set_cons_succ]
      have hbl := belowA wn (.cells (inC (⟨20, (a : Int) * 1099511627776 - 5, 0, [], [], [74], []⟩ : InD)).toArray 98)
      have hDl := HDN.out.below hbl
      have HBL : Hid (Blk (wn.alloc (.cells (inC (⟨20, (a : Int) * 1099511627776 - 5, 0, [], [], [74], []⟩ : InD)).toArray 98)) wn.heap.size 98 (inC (⟨20, (a : Int) * 1099511627776 - 5, 0, [], [], [74], []⟩ : InD)).toArray) := Lib.hid (Blk.new _ _ _)
      have hSl : (wn.alloc (.cells (inC (⟨20, (a : Int) * 1099511627776 - 5, 0, [], [], [74], []⟩ : InD)).toArray 98)).cell? ⟨x.g, 0, none⟩ = some (.pointer (some ⟨x.tp, 0, none⟩)) := hDl.blk.cell 0
      have c1l : (wn.alloc (.cells #[.int .u8 20, .int .i64 ((a : Int) * 1099511627776 - 5), .int .i64 0, .string ⟨#[]⟩, .string ⟨#[]⟩, .string ⟨#[74]⟩, .string ⟨#[]⟩] 98)).cell? ⟨x.g, 1, none⟩ = some (.slice Cd ncd ccd) := hDl.blk.cell 1
      have hb0l := hDl.b0
      obtain ⟨A3, c3, w3, hrun, hG, hg, hr⟩ := run_append_rows (S := Empty) inC_len inC_one (by decide) 37 98 _ 88 Tryz.underlying37 Tryz.infoIn (by simp [Value.cells]) (by decide) 37 x.b0 Cd ncd ccd ((s).nx x.xs).code hDl.code ⟨wn.heap.size, 0, none⟩ 1 1 [(⟨20, (a : Int) * 1099511627776 - 5, 0, [], [], [74], []⟩ : InD)] (RowSl.of_blk inC_len HBL.out rfl (Nat.le_refl _) (by unfold maxLen; omega) (fun j _ => by simp) (fun h => h)) (by omega) hb0l
      have hgo := ne_own hDl.code hDl.blk (show 98 ≠ 166 by decide)
      have s1 : w3.cell? ⟨x.g, 1, none⟩ = some (.slice Cd ncd ccd) := ((only_grown hg hr).cell (p := ⟨x.g, 1, none⟩) hDl.blk.lt hgo).trans (hDl.blk.cell 1)
      have s0 : w3.cell? ⟨x.g, 0, none⟩ = some (.pointer (some ⟨x.tp, 0, none⟩)) := ((only_grown hg hr).cell (p := ⟨x.g, 0, none⟩) hDl.blk.lt hgo).trans hSl
      have s2 : w3.frozen? ⟨x.g, 1, none⟩ = false := ((only_grown hg hr).blk hDl.blk hgo).frozen 1
      obtain ⟨hP, hF⟩ := hDl.push hG hg hr
      obtain ⟨w2, hwe⟩ : ∃ W, w3.setCell ⟨x.g, 1, none⟩ (.slice A3 (ncd + 1) c3) = W := ⟨_, rfl⟩
      rw [hwe] at hP hF
      have hSe : w2.cell? ⟨x.g, 0, none⟩ = some (.pointer (some ⟨x.tp, 0, none⟩)) := hP.blk.cell 0
      have h : WrS x w2 D (((((s).nx x.xs).nx x.xs)).push ⟨20, (a : Int) * 1099511627776 - 5, 0, [], [], [74], []⟩) := ⟨A3, ncd + 1, c3, Td, ntd, ctd, Md, nmd, cmd, lmd, hP⟩
      have ho : Fr x w1 w2 := (HFN.out.trans (Fr.of_below hbl)).trans hF
      have HWE := Lib.hid hwe
      have HWX := Lib.hid h
      have HOX := Lib.hid ho
      simp only [inC] at hSl hrun
      clear hbl hDl hG hg hr hgo hP hF hwe h ho
      refine wpAnyH_ready (rs := [4, 13]) (by kernel_rfl) (by simp) ?_
      refine AllReadyH.cons rfl (fun K hK => ?_) (AllReadyH.cons rfl (fun K hK => ?_) AllReadyH.nil)
      · go_simp
        refine hK.out _ _ (hSn) (fun _ => ?_)
        clear hK K
        try simp only [Act.put, List.setIfInBounds_toArray, List.set_cons_zero, List.set_cons_succ]
        refine wpAnyH_ready (rs := [13]) (by kernel_rfl) (by simp) ?_
        refine AllReadyH.cons rfl (fun K hK => ?_) AllReadyH.nil
        go_simp
        refine hK.out _ _ (hSl) (fun _ => ?_)
        clear hK K
        try simp only [Act.put, List.setIfInBounds_toArray, List.set_cons_zero, List.set_cons_succ]
        refine wpAnyH_ready (rs := [14]) (by kernel_rfl) (by simp) ?_
        refine AllReadyH.cons rfl (fun K hK => ?_) AllReadyH.nil
        refine step_append_eq (ts := 37) rfl (.tmp 78) (.tmp 87) rfl rfl rfl rfl hrun ?_
        show K (Act.put _ (some 88) _) _
        refine hK.out _ _ (s0) (fun _ => ?_)
        clear hK K
        try simp only [Act.put, List.setIfInBounds_toArray, List.set_cons_zero, List.set_cons_succ]
        refine take_yes 15 89 ?_ rfl rfl (by kernel_rfl) (by kernel_rfl) (by kernel_rfl) (fun _ _ _ h => h) (by kernel_rfl) ?_ (by assumption) ?_; rotate_left; (focus (intro w hSw; (try dsimp only at hSw); go_simp; all_goals first | with_reducible rfl)); simp only [Act.put, List.setIfInBounds_toArray, List.set_cons_zero, List.set_cons_succ]
        refine take_yes 16 90 ?_ rfl rfl (by kernel_rfl) (by kernel_rfl) (by kernel_rfl) (fun _ _ _ h => h) (by kernel_rfl) ?_ (by assumption) ?_; rotate_left; (focus (intro w hSw; (try dsimp only at hSw); go_simp; all_goals first | with_reducible rfl)); simp only [Act.put, List.setIfInBounds_toArray, List.set_cons_zero, List.set_cons_succ]
        refine wpAnyH_ready (rs := [17]) (by kernel_rfl) (by simp) ?_
        refine AllReadyH.cons rfl (fun K hK => ?_) AllReadyH.nil
        go_simp
        rw [HWE.out]
        refine hK.out _ _ (hSe) (fun _ => ?_)
        clear hK K
        try simp only [Act.put, List.setIfInBounds_toArray, List.set_cons_zero, List.set_cons_succ]
        refine wpAnyH_done (by kernel_rfl) ?_ _
        clear hSe s0 s1 s2 hSn c1n c1l hSl hrun hHeld0
        have h := HWX.out
        have ho := HOX.out
        have HW2 := Lib.hid h
        have HO2 : Hid (Fr x w0 w2) := Lib.hid (HO1.out.trans ho)
        have HZ2 : Hid (((((s).nx x.xs).nx x.xs).push ⟨20, (a : Int) * 1099511627776 - 5, 0, [], [], [74], []⟩).sz (N + 1)) := Lib.hid ((Ws.sz_push _ (Ws.sz_nx x.xs HZ1.out)).more (by omega))
        clear h ho
        have HE : Hid (FS = (((s).nx x.xs).nx x.xs).push ⟨20, (a : Int) * 1099511627776 - 5, 0, [], [], [74], []⟩) := Lib.hid (by rw [← HFS.out]; unfold stepL; simp [HVv.out, HVa.out])
        go_wp2
        go_end0
        rw [HE.out]
        exact ⟨rfl, HW2.out, HO2.out⟩
      · go_simp
        refine hK.out _ _ (hSl) (fun _ => ?_)
        clear hK K
        try simp only [Act.put, List.setIfInBounds_toArray, List.set_cons_zero, List.set_cons_succ]
        refine wpAnyH_ready (rs := [4]) (by kernel_rfl) (by simp) ?_
        refine AllReadyH.cons rfl (fun K hK => ?_) AllReadyH.nil
        go_simp
        refine hK.out _ _ (hSl) (fun _ => ?_)
        clear hK K
        try simp only [Act.put, List.setIfInBounds_toArray, List.set_cons_zero, List.set_cons_succ]
        refine wpAnyH_ready (rs := [14]) (by kernel_rfl) (by simp) ?_
        refine AllReadyH.cons rfl (fun K hK => ?_) AllReadyH.nil
        refine step_append_eq (ts := 37) rfl (.tmp 78) (.tmp 87) rfl rfl rfl rfl hrun ?_
        show K (Act.put _ (some 88) _) _
        refine hK.out _ _ (s0) (fun _ => ?_)
        clear hK K
        try simp only [Act.put, List.setIfInBounds_toArray, List.set_cons_zero, List.set_cons_succ]
        refine take_yes 15 89 ?_ rfl rfl (by kernel_rfl) (by kernel_rfl) (by kernel_rfl) (fun _ _ _ h => h) (by kernel_rfl) ?_ (by assumption) ?_; rotate_left; (focus (intro w hSw; (try dsimp only at hSw); go_simp; all_goals first | with_reducible rfl)); simp only [Act.put, List.setIfInBounds_toArray, List.set_cons_zero, List.set_cons_succ]
        refine take_yes 16 90 ?_ rfl rfl (by kernel_rfl) (by kernel_rfl) (by kernel_rfl) (fun _ _ _ h => h) (by kernel_rfl) ?_ (by assumption) ?_; rotate_left; (focus (intro w hSw; (try dsimp only at hSw); go_simp; all_goals first | with_reducible rfl)); simp only [Act.put, List.setIfInBounds_toArray, List.set_cons_zero, List.set_cons_succ]
        refine wpAnyH_ready (rs := [17]) (by kernel_rfl) (by simp) ?_
        refine AllReadyH.cons rfl (fun K hK => ?_) AllReadyH.nil
        go_simp
        rw [HWE.out]
        refine hK.out _ _ (hSe) (fun _ => ?_)
        clear hK K
        try simp only [Act.put, List.setIfInBounds_toArray, List.set_cons_zero, List.set_cons_succ]
        refine wpAnyH_done (by kernel_rfl) ?_ _
        clear hSe s0 s1 s2 hSn c1n c1l hSl hrun hHeld0
        have h := HWX.out
        have ho := HOX.out
        have HW2 := Lib.hid h
        have HO2 : Hid (Fr x w0 w2) := Lib.hid (HO1.out.trans ho)
        have HZ2 : Hid (((((s).nx x.xs).nx x.xs).push ⟨20, (a : Int) * 1099511627776 - 5, 0, [], [], [74], []⟩).sz (N + 1)) := Lib.hid ((Ws.sz_push _ (Ws.sz_nx x.xs HZ1.out)).more (by omega))
        clear h ho
        have HE : Hid (FS = (((s).nx x.xs).nx x.xs).push ⟨20, (a : Int) * 1099511627776 - 5, 0, [], [], [74], []⟩) := Lib.hid (by rw [← HFS.out]; unfold stepL; simp [HVv.out, HVa.out])
        go_wp2
        go_end0
        rw [HE.out]
        exact ⟨rfl, HW2.out, HO2.out⟩
  · go_wp2_with fail
    refine (HI.out _ _ _ N HW1.out HZ1.out (by omega)).mono ?_
    rintro e w2 ⟨rfl, h, ho⟩
    have HW2 := Lib.hid h
    have HO2 : Hid (Fr x w0 w2) := Lib.hid (HO1.out.trans ho)
    have HZ2 : Hid ((I ((s).nx x.xs)).sz (N + 1 * c + 0)) := Lib.hid ((HIa.out _ _ HZ1.out).more (by omega))
    clear h ho
    go_wp2_with fail
    refine (op_v x _ _ _ (N + 1 * c + 0) 133 _ _ (by first | rfl | decide | assumption) HW2.out HZ2.out (by omega)).mono ?_
    rintro e w3 ⟨rfl, h, ho⟩
    have HW3 := Lib.hid h
    have HO3 : Hid (Fr x w0 w3) := Lib.hid (HO2.out.trans ho)
    have HZ3 : Hid (((I ((s).nx x.xs)).op 133 0).sz (N + 1 * c + 1)) := Lib.hid ((Ws.sz_op _ _ HZ2.out).more (by omega))
    clear h ho
    have HE : Hid (FS = (I ((s).nx x.xs)).op 133 0) := Lib.hid (by rw [← HFS.out]; unfold stepL; simp [HVv.out])
    go_wp2
    go_end0
    rw [HE.out]
    exact ⟨rfl, HW3.out, HO3.out⟩

theorem ct_int0 (x : Wx) (v : Int) (hv : v ≤ 0) (hv1 : -10 ≤ v) : CtW x 125 v (intW x.xs 0) 15900000 := fun W D t M h hz hM => int_leaf x W D t M id id v hv hv1 h hz hM
theorem ct_long0 (x : Wx) : CtW x 174 0 (longW x.xs 0) 15800000 := fun W D t M h hz hM => long_leaf x W D t M (intW x.xs 0) id 0 (by decide) (by decide) 3 15900000 (by decide) (ct_int0 x _ (by decide) (by decide)) (adds_il0 x.xs).1 h hz (by omega) (by decide)
theorem ct_int1 (x : Wx) : CtW x 125 1 (intW x.xs 1) 15700000 := fun W D t M h hz hM => int_deep x W D t M (intW x.xs 0) (longW x.xs 0) 1 (by decide) (by decide) 3 15800000 (by decide) (fun W D t M h hz hM => ct_int0 x 0 (by decide) (by decide) W D t M h hz (by omega)) (ct_long0 x) (adds_il0 x.xs).1 (adds_il0 x.xs).2 h hz (by omega) (by decide)
theorem ct_long1 (x : Wx) : CtW x 174 1 (longW x.xs 1) 15700000 := fun W D t M h hz hM => long_deep x W D t M (intW x.xs 0) (longW x.xs 0) 1 (by decide) (by decide) 3 15800000 (by decide) (fun W D t M h hz hM => ct_int0 x 0 (by decide) (by decide) W D t M h hz (by omega)) (adds_il0 x.xs).1 (ct_long0 x) (adds_il0 x.xs).2 h hz (by omega) (by decide)
theorem ct_int2 (x : Wx) : CtW x 125 2 (intW x.xs 2) 15600000 := fun W D t M h hz hM => int_deep x W D t M (intW x.xs 1) (longW x.xs 1) 2 (by decide) (by decide) 8 15700000 (by decide) (ct_int1 x) (ct_long1 x) (adds_il1 x.xs).1 (adds_il1 x.xs).2 h hz (by omega) (by decide)
theorem ct_long2 (x : Wx) : CtW x 174 2 (longW x.xs 2) 15600000 := fun W D t M h hz hM => long_deep x W D t M (intW x.xs 1) (longW x.xs 1) 2 (by decide) (by decide) 8 15700000 (by decide) (ct_int1 x) (adds_il1 x.xs).1 (ct_long1 x) (adds_il1 x.xs).2 h hz (by omega) (by decide)

end Go.Proofs.YtdkkpcbebhgbiaaGreatDoor

/- The walk over carpetbagmake's records; printed by gen/gen_wg.py. -/
namespace Go.Proofs.YtdkkpcbebhgbiaaGreatDoor
set_option maxRecDepth 100000
open Go.RowKit Go.Maps

set_option maxHeartbeats 4000000 in
theorem records_s (x : Wx) (w : World) (D : Int) (s : Ws) (N : Nat) (h : WrS x w D s) (hz : s.sz N) (hN : N ≤ 15000000) :
    Calls Tryz.prog 179 #[.pointer (some ⟨x.g, 0, none⟩)] w fun e w' => e = .returned (.tuple #[]) ∧ WrS x w' D (recW x.xs s) ∧ Fr x w w' := by
  obtain ⟨w0, rfl⟩ : ∃ w0, w0 = w := ⟨_, rfl⟩
  have HW0 := Lib.hid h
  have HO0 : Hid (Fr x w0 w0) := Lib.hid (Fr.refl x w0)
  have HZ0 := Lib.hid hz
  obtain ⟨FS, hFS⟩ : ∃ FS, recW x.xs s = FS := ⟨_, rfl⟩
  have HFS := Lib.hid hFS
  rw [hFS]
  clear h hz hFS
  have HI1 := Lib.hid (ct_int1 x)
  go_enter Tryz.func179, Tryz.ntmps179
  have t0 := HW0.out.t
  go_wp2_with fail
  refine (next_s x _ _ _ 4 _ HW0.out (by omega) (by omega) rfl).mono ?_
  rintro e w1 ⟨rfl, h, ho⟩
  have HW1 := Lib.hid h
  have HO1 : Hid (Fr x w0 w1) := Lib.hid (HO0.out.trans ho)
  have HZ1 : Hid (((s).nx x.xs).sz N) := Lib.hid ((Ws.sz_nx x.xs HZ0.out).more (by omega))
  clear h ho
  obtain ⟨v, hv⟩ : ∃ v, nxV x.xs 4 (s).at_ = v := ⟨_, rfl⟩
  have bv : v < 4 := by rw [← hv]; exact nxV_lt (by omega)
  rw [hv]
  have HVv := Lib.hid hv
  clear hv t0
  have hcs : v = 0 ∨ v = 1 ∨ v = 2 ∨ v = 3 := by omega
  clear bv
  rcases hcs with rfl | rfl | rfl | rfl
  · go_wp2_with fail
    refine (op_v x _ _ _ N 25 _ _ (by first | rfl | decide | assumption) HW1.out HZ1.out (by omega)).mono ?_
    rintro e w2 ⟨rfl, h, ho⟩
    have HW2 := Lib.hid h
    have HO2 : Hid (Fr x w0 w2) := Lib.hid (HO1.out.trans ho)
    have HZ2 : Hid ((((s).nx x.xs).op 25 7).sz (N + 1)) := Lib.hid ((Ws.sz_op _ _ HZ1.out).more (by omega))
    clear h ho
    go_wp2_with fail
    refine (name_v x _ _ _ (N + 1) 184 _ sysS [97, 100, 100] [40, 91, 66, 41, 73] _ _ _ rfl rfl rfl rfl HW2.out HZ2.out (by omega)).mono ?_
    rintro e w3 ⟨rfl, h, ho⟩
    have HW3 := Lib.hid h
    have HO3 : Hid (Fr x w0 w3) := Lib.hid (HO2.out.trans ho)
    have HZ3 : Hid (((((s).nx x.xs).op 25 7).name 184 sysS [97, 100, 100] [40, 91, 66, 41, 73]).sz (N + 2)) := Lib.hid ((Ws.sz_name _ _ _ _ HZ2.out).more (by omega))
    clear h ho
    go_wp2_with fail
    refine (op_v x _ _ _ (N + 2) 54 _ _ (by first | rfl | decide | assumption) HW3.out HZ3.out (by omega)).mono ?_
    rintro e w4 ⟨rfl, h, ho⟩
    have HW4 := Lib.hid h
    have HO4 : Hid (Fr x w0 w4) := Lib.hid (HO3.out.trans ho)
    have HZ4 : Hid ((((((s).nx x.xs).op 25 7).name 184 sysS [97, 100, 100] [40, 91, 66, 41, 73]).op 54 1).sz (N + 3)) := Lib.hid ((Ws.sz_op _ _ HZ3.out).more (by omega))
    clear h ho
    have HE : Hid (FS = ((((s).nx x.xs).op 25 7).name 184 sysS [97, 100, 100] [40, 91, 66, 41, 73]).op 54 1) := Lib.hid (by rw [← HFS.out]; unfold recW; simp [HVv.out])
    go_wp2
    go_end0
    rw [HE.out]
    exact ⟨rfl, HW4.out, HO4.out⟩
  · go_wp2_with fail
    refine (HI1.out _ _ _ N HW1.out HZ1.out (by omega)).mono ?_
    rintro e w2 ⟨rfl, h, ho⟩
    have HW2 := Lib.hid h
    have HO2 : Hid (Fr x w0 w2) := Lib.hid (HO1.out.trans ho)
    have HZ2 : Hid ((intW x.xs 1 ((s).nx x.xs)).sz (N + 8)) := Lib.hid (((adds_il1 x.xs).1 _ _ HZ1.out).more (by omega))
    clear h ho
    go_wp2_with fail
    refine (name_v x _ _ _ (N + 8) 184 _ sysS [103, 101, 116] [40, 73, 41, 91, 66] _ _ _ rfl rfl rfl rfl HW2.out HZ2.out (by omega)).mono ?_
    rintro e w3 ⟨rfl, h, ho⟩
    have HW3 := Lib.hid h
    have HO3 : Hid (Fr x w0 w3) := Lib.hid (HO2.out.trans ho)
    have HZ3 : Hid (((intW x.xs 1 ((s).nx x.xs)).name 184 sysS [103, 101, 116] [40, 73, 41, 91, 66]).sz (N + 9)) := Lib.hid ((Ws.sz_name _ _ _ _ HZ2.out).more (by omega))
    clear h ho
    go_wp2_with fail
    refine (op_v x _ _ _ (N + 9) 58 _ _ (by first | rfl | decide | assumption) HW3.out HZ3.out (by omega)).mono ?_
    rintro e w4 ⟨rfl, h, ho⟩
    have HW4 := Lib.hid h
    have HO4 : Hid (Fr x w0 w4) := Lib.hid (HO3.out.trans ho)
    have HZ4 : Hid ((((intW x.xs 1 ((s).nx x.xs)).name 184 sysS [103, 101, 116] [40, 73, 41, 91, 66]).op 58 7).sz (N + 10)) := Lib.hid ((Ws.sz_op _ _ HZ3.out).more (by omega))
    clear h ho
    have HE : Hid (FS = ((intW x.xs 1 ((s).nx x.xs)).name 184 sysS [103, 101, 116] [40, 73, 41, 91, 66]).op 58 7) := Lib.hid (by rw [← HFS.out]; unfold recW; simp [HVv.out])
    go_wp2
    go_end0
    rw [HE.out]
    exact ⟨rfl, HW4.out, HO4.out⟩
  · go_wp2_with fail
    refine (HI1.out _ _ _ N HW1.out HZ1.out (by omega)).mono ?_
    rintro e w2 ⟨rfl, h, ho⟩
    have HW2 := Lib.hid h
    have HO2 : Hid (Fr x w0 w2) := Lib.hid (HO1.out.trans ho)
    have HZ2 : Hid ((intW x.xs 1 ((s).nx x.xs)).sz (N + 8)) := Lib.hid (((adds_il1 x.xs).1 _ _ HZ1.out).more (by omega))
    clear h ho
    go_wp2_with fail
    refine (op_v x _ _ _ (N + 8) 25 _ _ (by first | rfl | decide | assumption) HW2.out HZ2.out (by omega)).mono ?_
    rintro e w3 ⟨rfl, h, ho⟩
    have HW3 := Lib.hid h
    have HO3 : Hid (Fr x w0 w3) := Lib.hid (HO2.out.trans ho)
    have HZ3 : Hid (((intW x.xs 1 ((s).nx x.xs)).op 25 7).sz (N + 9)) := Lib.hid ((Ws.sz_op _ _ HZ2.out).more (by omega))
    clear h ho
    go_wp2_with fail
    refine (name_v x _ _ _ (N + 9) 184 _ sysS [115, 101, 116] [40, 73, 91, 66, 41, 86] _ _ _ rfl rfl rfl rfl HW3.out HZ3.out (by omega)).mono ?_
    rintro e w4 ⟨rfl, h, ho⟩
    have HW4 := Lib.hid h
    have HO4 : Hid (Fr x w0 w4) := Lib.hid (HO3.out.trans ho)
    have HZ4 : Hid ((((intW x.xs 1 ((s).nx x.xs)).op 25 7).name 184 sysS [115, 101, 116] [40, 73, 91, 66, 41, 86]).sz (N + 10)) := Lib.hid ((Ws.sz_name _ _ _ _ HZ3.out).more (by omega))
    clear h ho
    have HE : Hid (FS = ((intW x.xs 1 ((s).nx x.xs)).op 25 7).name 184 sysS [115, 101, 116] [40, 73, 91, 66, 41, 86]) := Lib.hid (by rw [← HFS.out]; unfold recW; simp [HVv.out])
    go_wp2
    go_end0
    rw [HE.out]
    exact ⟨rfl, HW4.out, HO4.out⟩
  · go_wp2_with fail
    refine (name_v x _ _ _ N 184 _ sysS [99, 111, 117, 110, 116] [40, 41, 73] _ _ _ rfl rfl rfl rfl HW1.out HZ1.out (by omega)).mono ?_
    rintro e w2 ⟨rfl, h, ho⟩
    have HW2 := Lib.hid h
    have HO2 : Hid (Fr x w0 w2) := Lib.hid (HO1.out.trans ho)
    have HZ2 : Hid ((((s).nx x.xs).name 184 sysS [99, 111, 117, 110, 116] [40, 41, 73]).sz (N + 1)) := Lib.hid ((Ws.sz_name _ _ _ _ HZ1.out).more (by omega))
    clear h ho
    go_wp2_with fail
    refine (op_v x _ _ _ (N + 1) 54 _ _ (by first | rfl | decide | assumption) HW2.out HZ2.out (by omega)).mono ?_
    rintro e w3 ⟨rfl, h, ho⟩
    have HW3 := Lib.hid h
    have HO3 : Hid (Fr x w0 w3) := Lib.hid (HO2.out.trans ho)
    have HZ3 : Hid (((((s).nx x.xs).name 184 sysS [99, 111, 117, 110, 116] [40, 41, 73]).op 54 1).sz (N + 2)) := Lib.hid ((Ws.sz_op _ _ HZ2.out).more (by omega))
    clear h ho
    have HE : Hid (FS = (((s).nx x.xs).name 184 sysS [99, 111, 117, 110, 116] [40, 41, 73]).op 54 1) := Lib.hid (by rw [← HFS.out]; unfold recW; simp [HVv.out])
    go_wp2
    go_end0
    rw [HE.out]
    exact ⟨rfl, HW3.out, HO3.out⟩

end Go.Proofs.YtdkkpcbebhgbiaaGreatDoor

/- The walk over carpetbagmake's label; printed by gen/gen_wh.py. -/
namespace Go.Proofs.YtdkkpcbebhgbiaaGreatDoor
set_option maxRecDepth 100000
open Go.RowKit Go.Maps

/-- A writer whose code lies there. -/
def WrC (x : Wx) (w : World) (D : Int) (s : Ws) (C : Option Addr) (nc cc : Nat) : Prop := ∃ T nt ct M nm cm lm, WrD x w D s C nc cc T nt ct M nm cm lm
/-- A label's texts as they come in. -/
theorem StrB.below {w w' : World} {A : Option Addr} {n c : Nat} {l : List Bs} (h : StrB w A n c l) (q : Below w.heap.size w w') : StrB w' A n c l := h.keep (Keep.of_empty (Only.of_below q))
theorem label_keep {s : Ws} {st : List Bs} {m : MpD} (h : s.maps.getLast? = some m) (e : m.at_ = (s.code.length : Int)) : s.label st = s := by
  unfold Ws.label
  rw [h]
  exact if_pos e
theorem label_more {s : Ws} {st : List Bs} (h : ∀ m, s.maps.getLast? = some m → m.at_ ≠ (s.code.length : Int)) : s.label st = { s with maps := s.maps ++ [⟨(s.code.length : Int), localsL, st⟩] } := by
  unfold Ws.label
  cases hm : s.maps.getLast? with
  | none => rfl
  | some m => exact if_neg (h m hm)
set_option maxHeartbeats 4000000 in
theorem label_d (x : Wx) (w : World) (D : Int) (s : Ws) (N : Nat) (A : Option Addr) (n c : Nat) (st : List Bs) (C : Option Addr) (nc cc : Nat) (hA : StrB w A n c st) (h : WrC x w D s C nc cc) (hz : s.sz N) (hN : N ≤ 15900000) :
    Calls Tryz.prog 216 #[.pointer (some ⟨x.g, 0, none⟩), .slice A n c] w fun e w' => e = .returned (.int .i64 (s.code.length : Int)) ∧ WrC x w' D (s.label st) C nc cc ∧ Fr x w w' := by
  obtain ⟨T, nt, ct, M, nm, cm, lm, hD⟩ := h
  have hl : s.code.length = nc := hD.code.row.1
  have hncN : nc ≤ N := by rw [← hl]; exact hz.1
  have hnmN : nm ≤ N := by have h1 : lm.length = nm := hD.maps.row.1; rw [← h1, hD.mps.1]; exact hz.2.2
  have c1 : w.cell? ⟨x.g, 1, none⟩ = some (.slice C nc cc) := hD.blk.cell 1
  have c3 : w.cell? ⟨x.g, 3, none⟩ = some (.slice M nm cm) := hD.blk.cell 3
  have hgl := hD.blk.lt
  have hcm := hD.maps.row.2.1
  have hcm2 := hD.maps.row.2.2.1
  unfold maxLen at hcm2
  have HL := Lib.hid hl
  have HD := Lib.hid hD
  have HA := Lib.hid hA
  have HX : Hid (s.maps.length = nm) := Lib.hid (by rw [← hD.mps.1]; exact hD.maps.row.1)
  rcases Nat.eq_zero_or_pos nm with h0 | h0
  · subst h0
    have HS : Hid (s.label st = { s with maps := s.maps ++ [⟨(s.code.length : Int), localsL, st⟩] }) := Lib.hid (label_more (fun m hm => by
      have : s.maps = [] := List.eq_nil_of_length_eq_zero HX.out
      rw [this] at hm
      cases hm))
    clear hl hD hA hz
    go_enter Tryz.func216, Tryz.ntmps216
    go_wp2_with fail
    have hdr : Below w.heap.size w w.drew := ((Only.refl Empty w).drew).below (Nat.le_refl _) (fun _ _ h => h)
    have hD0 := HD.out.below hdr
    have hbl := belowA w.drew (.cells (localsL.map SV).toArray 9)
    have kl : Blk (w.drew.alloc (.cells (localsL.map SV).toArray 9)) w.heap.size 9 (localsL.map SV).toArray := Blk.new w.drew _ _
    have hD1 := hD0.below hbl
    have hbm := belowA (w.drew.alloc (.cells (localsL.map SV).toArray 9)) (.cells #[.int .i64 (nc : Int), .slice (some ⟨w.heap.size, 0, none⟩) 7 7, .slice A n c] 44)
    have hD2 := hD1.below hbm
    have km : Blk ((w.drew.alloc (.cells (localsL.map SV).toArray 9)).alloc (.cells #[.int .i64 (nc : Int), .slice (some ⟨w.heap.size, 0, none⟩) 7 7, .slice A n c] 44)) (w.drew.alloc (.cells (localsL.map SV).toArray 9)).heap.size 44 (mpC (⟨(nc : Int), some ⟨w.heap.size, 0, none⟩, 7, 7, A, n, c⟩ : MpR)).toArray := Blk.new _ _ _
    have hSw : w.cell? ⟨x.g, 0, none⟩ = some (.pointer (some ⟨x.tp, 0, none⟩)) := HD.out.blk.cell 0
    have hS0 : w.drew.cell? ⟨x.g, 0, none⟩ = some (.pointer (some ⟨x.tp, 0, none⟩)) := hD0.blk.cell 0
    have hSl : (w.drew.alloc (.cells (localsL.map SV).toArray 9)).cell? ⟨x.g, 0, none⟩ = some (.pointer (some ⟨x.tp, 0, none⟩)) := hD1.blk.cell 0
    have hSm : ((w.drew.alloc (.cells (localsL.map SV).toArray 9)).alloc (.cells #[.int .i64 (nc : Int), .slice (some ⟨w.heap.size, 0, none⟩) 7 7, .slice A n c] 44)).cell? ⟨x.g, 0, none⟩ = some (.pointer (some ⟨x.tp, 0, none⟩)) := hD2.blk.cell 0
    have c3d : w.drew.cell? ⟨x.g, 3, none⟩ = some (.slice M 0 cm) := hD0.blk.cell 3
    have c3w : (w.drew.alloc (.cells (localsL.map SV).toArray 9)).cell? ⟨x.g, 3, none⟩ = some (.slice M 0 cm) := hD1.blk.cell 3
    have c3l : ((w.drew.alloc (.cells (localsL.map SV).toArray 9)).alloc (.cells #[.int .i64 (nc : Int), .slice (some ⟨w.heap.size, 0, none⟩) 7 7, .slice A n c] 44)).cell? ⟨x.g, 3, none⟩ = some (.slice M 0 cm) := hD2.blk.cell 3
    have hb0l := hD2.b0
    obtain ⟨A3, c3n, w3, hrun, hG, hg, hr⟩ := run_append_rows (S := Empty) mpC_len mpC_one (by decide) 39 44 _ 56 Tryz.underlying39 Tryz.infoMp (by simp [Value.cells]) (by decide) 39 x.b0 M 0 cm lm hD2.maps ⟨(w.drew.alloc (.cells (localsL.map SV).toArray 9)).heap.size, 0, none⟩ 1 1 [(⟨(nc : Int), some ⟨w.heap.size, 0, none⟩, 7, 7, A, n, c⟩ : MpR)] (RowSl.of_blk mpC_len km rfl (Nat.le_refl _) (by unfold maxLen; omega) (fun j _ => by simp) (fun h => h)) (by omega) hb0l
    have hsz2 : (w.drew.alloc (.cells (localsL.map SV).toArray 9)).heap.size = w.heap.size + 1 := by simp
    rw [hsz2] at hrun
    have hrun2 : (Builtin.append_ #[39, 39] 39 #[.slice M 0 cm, .slice (some ⟨w.heap.size + 1, 0, none⟩) 1 1]).run Tryz.prog ((w.alloc (.cells (localsL.map SV).toArray 9)).alloc (.cells #[.int .i64 (nc : Int), .slice (some ⟨w.heap.size, 0, none⟩) 7 7, .slice A n c] 44)).drew = .ok (.slice A3 (0 + 1) c3n) w3 := hrun
    clear hrun hsz2
    have hrun := hrun2
    clear hrun2
    have hgo := ne_own hD2.maps hD2.blk (show 44 ≠ 166 by decide)
    have s1 : w3.cell? ⟨x.g, 3, none⟩ = some (.slice M 0 cm) := ((only_grown hg hr).cell (p := ⟨x.g, 3, none⟩) hD2.blk.lt hgo).trans (hD2.blk.cell 3)
    have s0 : w3.cell? ⟨x.g, 0, none⟩ = some (.pointer (some ⟨x.tp, 0, none⟩)) := ((only_grown hg hr).cell (p := ⟨x.g, 0, none⟩) hD2.blk.lt hgo).trans hSm
    have s2 : w3.frozen? ⟨x.g, 3, none⟩ = false := ((only_grown hg hr).blk hD2.blk hgo).frozen 3
    obtain ⟨hP, hF⟩ := hD2.map_ (d := ⟨(nc : Int), localsL, st⟩) hG hg hr ⟨rfl, Or.inr ⟨w.heap.size, rfl, rfl, rfl, kl.of (hbm.block _ kl.lt)⟩, ((HA.out.below hdr).below hbl).below hbm⟩
    obtain ⟨w4, hwe⟩ : ∃ W, w3.setCell ⟨x.g, 3, none⟩ (.slice A3 (0 + 1) c3n) = W := ⟨_, rfl⟩
    rw [hwe] at hP hF
    have hSe : w4.cell? ⟨x.g, 0, none⟩ = some (.pointer (some ⟨x.tp, 0, none⟩)) := hP.blk.cell 0
    have HWE := Lib.hid hwe
    have HWX : Hid (WrC x w4 D { s with maps := s.maps ++ [⟨(s.code.length : Int), localsL, st⟩] } C nc cc) := Lib.hid (by rw [HL.out]; exact ⟨T, nt, ct, A3, 0 + 1, c3n, lm ++ [(⟨(nc : Int), some ⟨w.heap.size, 0, none⟩, 7, 7, A, n, c⟩ : MpR)], hP⟩)
    have HOX : Hid (Fr x w w4) := Lib.hid ((((Fr.of_below hdr).trans (Fr.of_below hbl)).trans (Fr.of_below hbm)).trans hF)
    clear hdr hD0 hbl kl hD1 hbm hD2 km hG hg hr hgo hP hF hwe
    refine wp_region_held_drew (S := fun W => W.cell? ⟨x.g, 0, none⟩ = some (.pointer (some ⟨x.tp, 0, none⟩))) (by kernel_rfl) hSw (fun hHeld0 => ?_)
    refine take_yes 0 33 ?_ rfl rfl (by kernel_rfl) (by kernel_rfl) (by kernel_rfl) (fun _ _ _ h => h) (by kernel_rfl) ?_ (by assumption) ?_; rotate_left; (focus (intro w hSw; (try dsimp only at hSw); go_simp; all_goals first | with_reducible rfl)); simp only [Act.put, List.setIfInBounds_toArray, List.set_cons_zero, List.set_cons_succ]
    refine take_yes 1 34 ?_ rfl rfl (by kernel_rfl) (by kernel_rfl) (by kernel_rfl) (fun _ _ _ h => h) (by kernel_rfl) ?_ (by assumption) ?_; rotate_left; (focus (intro w hSw; (try dsimp only at hSw); go_simp; all_goals first | with_reducible rfl)); simp only [Act.put, List.setIfInBounds_toArray, List.set_cons_zero, List.set_cons_succ]
    refine take_yes 2 35 ?_ rfl rfl (by kernel_rfl) (by kernel_rfl) (by kernel_rfl) (fun _ _ _ h => h) (by kernel_rfl) ?_ (by assumption) ?_; rotate_left; (focus (intro w hSw; (try dsimp only at hSw); go_simp; all_goals first | with_reducible rfl)); simp only [Act.put, List.setIfInBounds_toArray, List.set_cons_zero, List.set_cons_succ]
    refine take_yes 3 36 ?_ rfl rfl (by kernel_rfl) (by kernel_rfl) (by kernel_rfl) (fun _ _ _ h => h) (by kernel_rfl) ?_ (by assumption) ?_; rotate_left; (focus (intro w hSw; (try dsimp only at hSw); go_simp; all_goals first | with_reducible rfl)); simp only [Act.put, List.setIfInBounds_toArray, List.set_cons_zero, List.set_cons_succ]
    refine take_yes 5 38 ?_ rfl rfl (by kernel_rfl) (by kernel_rfl) (by kernel_rfl) (fun _ _ _ h => h) (by kernel_rfl) ?_ (by assumption) ?_; rotate_left; (focus (intro w hSw; (try dsimp only at hSw); go_simp; all_goals first | with_reducible rfl)); simp only [Act.put, List.setIfInBounds_toArray, List.set_cons_zero, List.set_cons_succ]
    refine take_yes 7 40 ?_ rfl rfl (by kernel_rfl) (by kernel_rfl) (by kernel_rfl) (fun _ _ _ h => h) (by kernel_rfl) ?_ (by assumption) ?_; rotate_left; (focus (intro w hSw; (try dsimp only at hSw); go_simp; all_goals first | with_reducible rfl)); simp only [Act.put, List.setIfInBounds_toArray, List.set_cons_zero, List.set_cons_succ]
    refine wpAnyH_ready (rs := [4, 6]) (by kernel_rfl) (by simp) ?_
    refine AllReadyH.cons rfl (fun K hK => ?_) (AllReadyH.cons rfl (fun K hK => ?_) AllReadyH.nil)
    · go_simp
      refine hK.out _ _ (hS0) (fun _ => ?_)
      clear hK K
      try simp only [Act.put, List.setIfInBounds_toArray, List.set_cons_zero, List.set_cons_succ]
      refine wpAnyH_ready (rs := [6]) (by kernel_rfl) (by simp) ?_
      refine AllReadyH.cons rfl (fun K hK => ?_) AllReadyH.nil
      go_simp
      go_at_call 233; (refine (locals_any _).mono ?_); rintro e wn ⟨rfl, rfl⟩
      go_wp2_with fail
      refine hK.out _ _ (hSl) (fun _ => ?_)
      clear hK K
      try simp only [Act.put, List.setIfInBounds_toArray, List.set_cons_zero, List.set_cons_succ]
      refine take_yes 8 41 ?_ rfl rfl (by kernel_rfl) (by kernel_rfl) (by kernel_rfl) (fun _ _ _ h => h) (by kernel_rfl) ?_ (by assumption) ?_; rotate_left; (focus (intro w hSw; (try dsimp only at hSw); go_simp; all_goals first | with_reducible rfl)); simp only [Act.put, List.setIfInBounds_toArray, List.set_cons_zero, List.set_cons_succ]
      refine wpAnyH_ready (rs := [9]) (by kernel_rfl) (by simp) ?_
      refine AllReadyH.cons rfl (fun K hK => ?_) AllReadyH.nil
      go_simp
      refine hK.out _ _ (hSm) (fun _ => ?_)
      clear hK K
      try simp only [Act.put, List.setIfInBounds_toArray, List.set_cons_zero, List.set_cons_succ]
      refine wpAnyH_ready (rs := [10]) (by kernel_rfl) (by simp) ?_
      refine AllReadyH.cons rfl (fun K hK => ?_) AllReadyH.nil
      refine step_append_eq (ts := 39) rfl (.tmp 37) (.tmp 42) rfl rfl rfl rfl hrun ?_
      show K (Act.put _ (some 43) _) _
      refine hK.out _ _ (s0) (fun _ => ?_)
      clear hK K
      try simp only [Act.put, List.setIfInBounds_toArray, List.set_cons_zero, List.set_cons_succ]
      refine take_yes 11 44 ?_ rfl rfl (by kernel_rfl) (by kernel_rfl) (by kernel_rfl) (fun _ _ _ h => h) (by kernel_rfl) ?_ (by assumption) ?_; rotate_left; (focus (intro w hSw; (try dsimp only at hSw); go_simp; all_goals first | with_reducible rfl)); simp only [Act.put, List.setIfInBounds_toArray, List.set_cons_zero, List.set_cons_succ]
      refine take_yes 12 45 ?_ rfl rfl (by kernel_rfl) (by kernel_rfl) (by kernel_rfl) (fun _ _ _ h => h) (by kernel_rfl) ?_ (by assumption) ?_; rotate_left; (focus (intro w hSw; (try dsimp only at hSw); go_simp; all_goals first | with_reducible rfl)); simp only [Act.put, List.setIfInBounds_toArray, List.set_cons_zero, List.set_cons_succ]
      refine wpAnyH_ready (rs := [13]) (by kernel_rfl) (by simp) ?_
      refine AllReadyH.cons rfl (fun K hK => ?_) AllReadyH.nil
      go_simp
      rw [HWE.out]
      refine hK.out _ _ (hSe) (fun _ => ?_)
      clear hK K
      try simp only [Act.put, List.setIfInBounds_toArray, List.set_cons_zero, List.set_cons_succ]
      refine wpAnyH_done (by kernel_rfl) ?_ _
      clear hSe s0 s1 s2 hSl hS0 hSw hrun hHeld0 c3l c3d c3w
      go_wp2
      go_ret
      exact ⟨by rw [HL.out]; rfl, by rw [HS.out]; exact HWX.out, HOX.out⟩
    · go_simp
      go_at_call 233; (refine (locals_any _).mono ?_); rintro e wn ⟨rfl, rfl⟩
      go_wp2_with fail
      refine hK.out _ _ (hSl) (fun _ => ?_)
      clear hK K
      try simp only [Act.put, List.setIfInBounds_toArray, List.set_cons_zero, List.set_cons_succ]
      refine take_yes 8 41 ?_ rfl rfl (by kernel_rfl) (by kernel_rfl) (by kernel_rfl) (fun _ _ _ h => h) (by kernel_rfl) ?_ (by assumption) ?_; rotate_left; (focus (intro w hSw; (try dsimp only at hSw); go_simp; all_goals first | with_reducible rfl)); simp only [Act.put, List.setIfInBounds_toArray, List.set_cons_zero, List.set_cons_succ]
      refine wpAnyH_ready (rs := [4, 9]) (by kernel_rfl) (by simp) ?_
      refine AllReadyH.cons rfl (fun K hK => ?_) (AllReadyH.cons rfl (fun K hK => ?_) AllReadyH.nil)
      · go_simp
        refine hK.out _ _ (hSl) (fun _ => ?_)
        clear hK K
        try simp only [Act.put, List.setIfInBounds_toArray, List.set_cons_zero, List.set_cons_succ]
        refine wpAnyH_ready (rs := [9]) (by kernel_rfl) (by simp) ?_
        refine AllReadyH.cons rfl (fun K hK => ?_) AllReadyH.nil
        go_simp
        refine hK.out _ _ (hSm) (fun _ => ?_)
        clear hK K
        try simp only [Act.put, List.setIfInBounds_toArray, List.set_cons_zero, List.set_cons_succ]
        refine wpAnyH_ready (rs := [10]) (by kernel_rfl) (by simp) ?_
        refine AllReadyH.cons rfl (fun K hK => ?_) AllReadyH.nil
        refine step_append_eq (ts := 39) rfl (.tmp 37) (.tmp 42) rfl rfl rfl rfl hrun ?_
        show K (Act.put _ (some 43) _) _
        refine hK.out _ _ (s0) (fun _ => ?_)
        clear hK K
        try simp only [Act.put, List.setIfInBounds_toArray, List.set_cons_zero, List.set_cons_succ]
        refine take_yes 11 44 ?_ rfl rfl (by kernel_rfl) (by kernel_rfl) (by kernel_rfl) (fun _ _ _ h => h) (by kernel_rfl) ?_ (by assumption) ?_; rotate_left; (focus (intro w hSw; (try dsimp only at hSw); go_simp; all_goals first | with_reducible rfl)); simp only [Act.put, List.setIfInBounds_toArray, List.set_cons_zero, List.set_cons_succ]
        refine take_yes 12 45 ?_ rfl rfl (by kernel_rfl) (by kernel_rfl) (by kernel_rfl) (fun _ _ _ h => h) (by kernel_rfl) ?_ (by assumption) ?_; rotate_left; (focus (intro w hSw; (try dsimp only at hSw); go_simp; all_goals first | with_reducible rfl)); simp only [Act.put, List.setIfInBounds_toArray, List.set_cons_zero, List.set_cons_succ]
        refine wpAnyH_ready (rs := [13]) (by kernel_rfl) (by simp) ?_
        refine AllReadyH.cons rfl (fun K hK => ?_) AllReadyH.nil
        go_simp
        rw [HWE.out]
        refine hK.out _ _ (hSe) (fun _ => ?_)
        clear hK K
        try simp only [Act.put, List.setIfInBounds_toArray, List.set_cons_zero, List.set_cons_succ]
        refine wpAnyH_done (by kernel_rfl) ?_ _
        clear hSe s0 s1 s2 hSl hS0 hSw hrun hHeld0 c3l c3d c3w
        go_wp2
        go_ret
        exact ⟨by rw [HL.out]; rfl, by rw [HS.out]; exact HWX.out, HOX.out⟩
      · go_simp
        refine hK.out _ _ (hSm) (fun _ => ?_)
        clear hK K
        try simp only [Act.put, List.setIfInBounds_toArray, List.set_cons_zero, List.set_cons_succ]
        refine wpAnyH_ready (rs := [4]) (by kernel_rfl) (by simp) ?_
        refine AllReadyH.cons rfl (fun K hK => ?_) AllReadyH.nil
        go_simp
        refine hK.out _ _ (hSm) (fun _ => ?_)
        clear hK K
        try simp only [Act.put, List.setIfInBounds_toArray, List.set_cons_zero, List.set_cons_succ]
        refine wpAnyH_ready (rs := [10]) (by kernel_rfl) (by simp) ?_
        refine AllReadyH.cons rfl (fun K hK => ?_) AllReadyH.nil
        refine step_append_eq (ts := 39) rfl (.tmp 37) (.tmp 42) rfl rfl rfl rfl hrun ?_
        show K (Act.put _ (some 43) _) _
        refine hK.out _ _ (s0) (fun _ => ?_)
        clear hK K
        try simp only [Act.put, List.setIfInBounds_toArray, List.set_cons_zero, List.set_cons_succ]
        refine take_yes 11 44 ?_ rfl rfl (by kernel_rfl) (by kernel_rfl) (by kernel_rfl) (fun _ _ _ h => h) (by kernel_rfl) ?_ (by assumption) ?_; rotate_left; (focus (intro w hSw; (try dsimp only at hSw); go_simp; all_goals first | with_reducible rfl)); simp only [Act.put, List.setIfInBounds_toArray, List.set_cons_zero, List.set_cons_succ]
        refine take_yes 12 45 ?_ rfl rfl (by kernel_rfl) (by kernel_rfl) (by kernel_rfl) (fun _ _ _ h => h) (by kernel_rfl) ?_ (by assumption) ?_; rotate_left; (focus (intro w hSw; (try dsimp only at hSw); go_simp; all_goals first | with_reducible rfl)); simp only [Act.put, List.setIfInBounds_toArray, List.set_cons_zero, List.set_cons_succ]
        refine wpAnyH_ready (rs := [13]) (by kernel_rfl) (by simp) ?_
        refine AllReadyH.cons rfl (fun K hK => ?_) AllReadyH.nil
        go_simp
        rw [HWE.out]
        refine hK.out _ _ (hSe) (fun _ => ?_)
        clear hK K
        try simp only [Act.put, List.setIfInBounds_toArray, List.set_cons_zero, List.set_cons_succ]
        refine wpAnyH_done (by kernel_rfl) ?_ _
        clear hSe s0 s1 s2 hSl hS0 hSw hrun hHeld0 c3l c3d c3w
        go_wp2
        go_ret
        exact ⟨by rw [HL.out]; rfl, by rw [HS.out]; exact HWX.out, HOX.out⟩
  · obtain ⟨k, rfl⟩ : ∃ k, nm = k + 1 := ⟨nm - 1, by omega⟩
    obtain ⟨b, o, r, rfl, hb, -, hr, hcr⟩ := hD.maps.row.at_ (i := k) (by omega)
    have hk : k < s.maps.length := by rw [HX.out]; omega
    have hrd := (hD.mps.2 k r s.maps[k] hr (List.getElem?_eq_getElem hk)).1
    have hlast : s.maps.getLast? = some s.maps[k] := by
      rw [List.getLast?_eq_getElem?, HX.out, show k + 1 - 1 = k by omega]
      exact List.getElem?_eq_getElem hk
    have d0 : w.cell? ⟨b, o + k * 3, none⟩ = some (.int .i64 r.at_) := by have := hcr 0 (by decide); simpa [mpC] using this
    by_cases he : r.at_ = (nc : Int)
    · have HS : Hid (s.label st = s) := Lib.hid (label_keep hlast (by rw [← hrd, he, HL.out]))
      rw [he] at d0
      clear hl hD hA hz hr hcr hrd hlast he hk
      go_enter Tryz.func216, Tryz.ntmps216
      go_wp2
      go_ret
      rw [HS.out]
      exact ⟨by rw [HL.out]; rfl, ⟨T, nt, ct, _, k + 1, cm, lm, HD.out⟩, Fr.refl _ _⟩
    · have HS : Hid (s.label st = { s with maps := s.maps ++ [⟨(s.code.length : Int), localsL, st⟩] }) := Lib.hid (label_more (fun m hm => by
        rw [hlast] at hm
        cases hm
        rw [← hrd, HL.out]
        exact he))
      have hne : (r.at_ == (nc : Int)) = false := by simpa using he
      clear hl hD hA hz hr hcr hrd hlast he hk
      go_enter Tryz.func216, Tryz.ntmps216
      go_wp2_with fail
      clear d0 hne
      have hdr : Below w.heap.size w w.drew := ((Only.refl Empty w).drew).below (Nat.le_refl _) (fun _ _ h => h)
      have hD0 := HD.out.below hdr
      have hbl := belowA w.drew (.cells (localsL.map SV).toArray 9)
      have kl : Blk (w.drew.alloc (.cells (localsL.map SV).toArray 9)) w.heap.size 9 (localsL.map SV).toArray := Blk.new w.drew _ _
      have hD1 := hD0.below hbl
      have hbm := belowA (w.drew.alloc (.cells (localsL.map SV).toArray 9)) (.cells #[.int .i64 (nc : Int), .slice (some ⟨w.heap.size, 0, none⟩) 7 7, .slice A n c] 44)
      have hD2 := hD1.below hbm
      have km : Blk ((w.drew.alloc (.cells (localsL.map SV).toArray 9)).alloc (.cells #[.int .i64 (nc : Int), .slice (some ⟨w.heap.size, 0, none⟩) 7 7, .slice A n c] 44)) (w.drew.alloc (.cells (localsL.map SV).toArray 9)).heap.size 44 (mpC (⟨(nc : Int), some ⟨w.heap.size, 0, none⟩, 7, 7, A, n, c⟩ : MpR)).toArray := Blk.new _ _ _
      have hSw : w.cell? ⟨x.g, 0, none⟩ = some (.pointer (some ⟨x.tp, 0, none⟩)) := HD.out.blk.cell 0
      have hS0 : w.drew.cell? ⟨x.g, 0, none⟩ = some (.pointer (some ⟨x.tp, 0, none⟩)) := hD0.blk.cell 0
      have hSl : (w.drew.alloc (.cells (localsL.map SV).toArray 9)).cell? ⟨x.g, 0, none⟩ = some (.pointer (some ⟨x.tp, 0, none⟩)) := hD1.blk.cell 0
      have hSm : ((w.drew.alloc (.cells (localsL.map SV).toArray 9)).alloc (.cells #[.int .i64 (nc : Int), .slice (some ⟨w.heap.size, 0, none⟩) 7 7, .slice A n c] 44)).cell? ⟨x.g, 0, none⟩ = some (.pointer (some ⟨x.tp, 0, none⟩)) := hD2.blk.cell 0
      have c3d : w.drew.cell? ⟨x.g, 3, none⟩ = some (.slice (some ⟨b, o, none⟩) (k + 1) cm) := hD0.blk.cell 3
      have c3w : (w.drew.alloc (.cells (localsL.map SV).toArray 9)).cell? ⟨x.g, 3, none⟩ = some (.slice (some ⟨b, o, none⟩) (k + 1) cm) := hD1.blk.cell 3
      have c3l : ((w.drew.alloc (.cells (localsL.map SV).toArray 9)).alloc (.cells #[.int .i64 (nc : Int), .slice (some ⟨w.heap.size, 0, none⟩) 7 7, .slice A n c] 44)).cell? ⟨x.g, 3, none⟩ = some (.slice (some ⟨b, o, none⟩) (k + 1) cm) := hD2.blk.cell 3
      have hb0l := hD2.b0
      obtain ⟨A3, c3n, w3, hrun, hG, hg, hr⟩ := run_append_rows (S := Empty) mpC_len mpC_one (by decide) 39 44 _ 56 Tryz.underlying39 Tryz.infoMp (by simp [Value.cells]) (by decide) 39 x.b0 (some ⟨b, o, none⟩) (k + 1) cm lm hD2.maps ⟨(w.drew.alloc (.cells (localsL.map SV).toArray 9)).heap.size, 0, none⟩ 1 1 [(⟨(nc : Int), some ⟨w.heap.size, 0, none⟩, 7, 7, A, n, c⟩ : MpR)] (RowSl.of_blk mpC_len km rfl (Nat.le_refl _) (by unfold maxLen; omega) (fun j _ => by simp) (fun h => h)) (by omega) hb0l
      have hsz2 : (w.drew.alloc (.cells (localsL.map SV).toArray 9)).heap.size = w.heap.size + 1 := by simp
      rw [hsz2] at hrun
      have hrun2 : (Builtin.append_ #[39, 39] 39 #[.slice (some ⟨b, o, none⟩) (k + 1) cm, .slice (some ⟨w.heap.size + 1, 0, none⟩) 1 1]).run Tryz.prog ((w.alloc (.cells (localsL.map SV).toArray 9)).alloc (.cells #[.int .i64 (nc : Int), .slice (some ⟨w.heap.size, 0, none⟩) 7 7, .slice A n c] 44)).drew = .ok (.slice A3 ((k + 1) + 1) c3n) w3 := hrun
      clear hrun hsz2
      have hrun := hrun2
      clear hrun2
      have hgo := ne_own hD2.maps hD2.blk (show 44 ≠ 166 by decide)
      have s1 : w3.cell? ⟨x.g, 3, none⟩ = some (.slice (some ⟨b, o, none⟩) (k + 1) cm) := ((only_grown hg hr).cell (p := ⟨x.g, 3, none⟩) hD2.blk.lt hgo).trans (hD2.blk.cell 3)
      have s0 : w3.cell? ⟨x.g, 0, none⟩ = some (.pointer (some ⟨x.tp, 0, none⟩)) := ((only_grown hg hr).cell (p := ⟨x.g, 0, none⟩) hD2.blk.lt hgo).trans hSm
      have s2 : w3.frozen? ⟨x.g, 3, none⟩ = false := ((only_grown hg hr).blk hD2.blk hgo).frozen 3
      obtain ⟨hP, hF⟩ := hD2.map_ (d := ⟨(nc : Int), localsL, st⟩) hG hg hr ⟨rfl, Or.inr ⟨w.heap.size, rfl, rfl, rfl, kl.of (hbm.block _ kl.lt)⟩, ((HA.out.below hdr).below hbl).below hbm⟩
      obtain ⟨w4, hwe⟩ : ∃ W, w3.setCell ⟨x.g, 3, none⟩ (.slice A3 ((k + 1) + 1) c3n) = W := ⟨_, rfl⟩
      rw [hwe] at hP hF
      have hSe : w4.cell? ⟨x.g, 0, none⟩ = some (.pointer (some ⟨x.tp, 0, none⟩)) := hP.blk.cell 0
      have HWE := Lib.hid hwe
      have HWX : Hid (WrC x w4 D { s with maps := s.maps ++ [⟨(s.code.length : Int), localsL, st⟩] } C nc cc) := Lib.hid (by rw [HL.out]; exact ⟨T, nt, ct, A3, (k + 1) + 1, c3n, lm ++ [(⟨(nc : Int), some ⟨w.heap.size, 0, none⟩, 7, 7, A, n, c⟩ : MpR)], hP⟩)
      have HOX : Hid (Fr x w w4) := Lib.hid ((((Fr.of_below hdr).trans (Fr.of_below hbl)).trans (Fr.of_below hbm)).trans hF)
      clear hdr hD0 hbl kl hD1 hbm hD2 km hG hg hr hgo hP hF hwe
      refine wp_region_held_drew (S := fun W => W.cell? ⟨x.g, 0, none⟩ = some (.pointer (some ⟨x.tp, 0, none⟩))) (by kernel_rfl) hSw (fun hHeld0 => ?_)
      refine take_yes 0 33 ?_ rfl rfl (by kernel_rfl) (by kernel_rfl) (by kernel_rfl) (fun _ _ _ h => h) (by kernel_rfl) ?_ (by assumption) ?_; rotate_left; (focus (intro w hSw; (try dsimp only at hSw); go_simp; all_goals first | with_reducible rfl)); simp only [Act.put, List.setIfInBounds_toArray, List.set_cons_zero, List.set_cons_succ]
      refine take_yes 1 34 ?_ rfl rfl (by kernel_rfl) (by kernel_rfl) (by kernel_rfl) (fun _ _ _ h => h) (by kernel_rfl) ?_ (by assumption) ?_; rotate_left; (focus (intro w hSw; (try dsimp only at hSw); go_simp; all_goals first | with_reducible rfl)); simp only [Act.put, List.setIfInBounds_toArray, List.set_cons_zero, List.set_cons_succ]
      refine take_yes 2 35 ?_ rfl rfl (by kernel_rfl) (by kernel_rfl) (by kernel_rfl) (fun _ _ _ h => h) (by kernel_rfl) ?_ (by assumption) ?_; rotate_left; (focus (intro w hSw; (try dsimp only at hSw); go_simp; all_goals first | with_reducible rfl)); simp only [Act.put, List.setIfInBounds_toArray, List.set_cons_zero, List.set_cons_succ]
      refine take_yes 3 36 ?_ rfl rfl (by kernel_rfl) (by kernel_rfl) (by kernel_rfl) (fun _ _ _ h => h) (by kernel_rfl) ?_ (by assumption) ?_; rotate_left; (focus (intro w hSw; (try dsimp only at hSw); go_simp; all_goals first | with_reducible rfl)); simp only [Act.put, List.setIfInBounds_toArray, List.set_cons_zero, List.set_cons_succ]
      refine take_yes 5 38 ?_ rfl rfl (by kernel_rfl) (by kernel_rfl) (by kernel_rfl) (fun _ _ _ h => h) (by kernel_rfl) ?_ (by assumption) ?_; rotate_left; (focus (intro w hSw; (try dsimp only at hSw); go_simp; all_goals first | with_reducible rfl)); simp only [Act.put, List.setIfInBounds_toArray, List.set_cons_zero, List.set_cons_succ]
      refine take_yes 7 40 ?_ rfl rfl (by kernel_rfl) (by kernel_rfl) (by kernel_rfl) (fun _ _ _ h => h) (by kernel_rfl) ?_ (by assumption) ?_; rotate_left; (focus (intro w hSw; (try dsimp only at hSw); go_simp; all_goals first | with_reducible rfl)); simp only [Act.put, List.setIfInBounds_toArray, List.set_cons_zero, List.set_cons_succ]
      refine wpAnyH_ready (rs := [4, 6]) (by kernel_rfl) (by simp) ?_
      refine AllReadyH.cons rfl (fun K hK => ?_) (AllReadyH.cons rfl (fun K hK => ?_) AllReadyH.nil)
      · go_simp
        refine hK.out _ _ (hS0) (fun _ => ?_)
        clear hK K
        try simp only [Act.put, List.setIfInBounds_toArray, List.set_cons_zero, List.set_cons_succ]
        refine wpAnyH_ready (rs := [6]) (by kernel_rfl) (by simp) ?_
        refine AllReadyH.cons rfl (fun K hK => ?_) AllReadyH.nil
        go_simp
        go_at_call 233; (refine (locals_any _).mono ?_); rintro e wn ⟨rfl, rfl⟩
        go_wp2_with fail
        refine hK.out _ _ (hSl) (fun _ => ?_)
        clear hK K
        try simp only [Act.put, List.setIfInBounds_toArray, List.set_cons_zero, List.set_cons_succ]
        refine take_yes 8 41 ?_ rfl rfl (by kernel_rfl) (by kernel_rfl) (by kernel_rfl) (fun _ _ _ h => h) (by kernel_rfl) ?_ (by assumption) ?_; rotate_left; (focus (intro w hSw; (try dsimp only at hSw); go_simp; all_goals first | with_reducible rfl)); simp only [Act.put, List.setIfInBounds_toArray, List.set_cons_zero, List.set_cons_succ]
        refine wpAnyH_ready (rs := [9]) (by kernel_rfl) (by simp) ?_
        refine AllReadyH.cons rfl (fun K hK => ?_) AllReadyH.nil
        go_simp
        refine hK.out _ _ (hSm) (fun _ => ?_)
        clear hK K
        try simp only [Act.put, List.setIfInBounds_toArray, List.set_cons_zero, List.set_cons_succ]
        refine wpAnyH_ready (rs := [10]) (by kernel_rfl) (by simp) ?_
        refine AllReadyH.cons rfl (fun K hK => ?_) AllReadyH.nil
        refine step_append_eq (ts := 39) rfl (.tmp 37) (.tmp 42) rfl rfl rfl rfl hrun ?_
        show K (Act.put _ (some 43) _) _
        refine hK.out _ _ (s0) (fun _ => ?_)
        clear hK K
        try simp only [Act.put, List.setIfInBounds_toArray, List.set_cons_zero, List.set_cons_succ]
        refine take_yes 11 44 ?_ rfl rfl (by kernel_rfl) (by kernel_rfl) (by kernel_rfl) (fun _ _ _ h => h) (by kernel_rfl) ?_ (by assumption) ?_; rotate_left; (focus (intro w hSw; (try dsimp only at hSw); go_simp; all_goals first | with_reducible rfl)); simp only [Act.put, List.setIfInBounds_toArray, List.set_cons_zero, List.set_cons_succ]
        refine take_yes 12 45 ?_ rfl rfl (by kernel_rfl) (by kernel_rfl) (by kernel_rfl) (fun _ _ _ h => h) (by kernel_rfl) ?_ (by assumption) ?_; rotate_left; (focus (intro w hSw; (try dsimp only at hSw); go_simp; all_goals first | with_reducible rfl)); simp only [Act.put, List.setIfInBounds_toArray, List.set_cons_zero, List.set_cons_succ]
        refine wpAnyH_ready (rs := [13]) (by kernel_rfl) (by simp) ?_
        refine AllReadyH.cons rfl (fun K hK => ?_) AllReadyH.nil
        go_simp
        rw [HWE.out]
        refine hK.out _ _ (hSe) (fun _ => ?_)
        clear hK K
        try simp only [Act.put, List.setIfInBounds_toArray, List.set_cons_zero, List.set_cons_succ]
        refine wpAnyH_done (by kernel_rfl) ?_ _
        clear hSe s0 s1 s2 hSl hS0 hSw hrun hHeld0 c3l c3d c3w
        go_wp2
        go_ret
        exact ⟨by rw [HL.out]; rfl, by rw [HS.out]; exact HWX.out, HOX.out⟩
      · go_simp
        go_at_call 233; (refine (locals_any _).mono ?_); rintro e wn ⟨rfl, rfl⟩
        go_wp2_with fail
        refine hK.out _ _ (hSl) (fun _ => ?_)
        clear hK K
        try simp only [Act.put, List.setIfInBounds_toArray, List.set_cons_zero, List.set_cons_succ]
        refine take_yes 8 41 ?_ rfl rfl (by kernel_rfl) (by kernel_rfl) (by kernel_rfl) (fun _ _ _ h => h) (by kernel_rfl) ?_ (by assumption) ?_; rotate_left; (focus (intro w hSw; (try dsimp only at hSw); go_simp; all_goals first | with_reducible rfl)); simp only [Act.put, List.setIfInBounds_toArray, List.set_cons_zero, List.set_cons_succ]
        refine wpAnyH_ready (rs := [4, 9]) (by kernel_rfl) (by simp) ?_
        refine AllReadyH.cons rfl (fun K hK => ?_) (AllReadyH.cons rfl (fun K hK => ?_) AllReadyH.nil)
        · go_simp
          refine hK.out _ _ (hSl) (fun _ => ?_)
          clear hK K
          try simp only [Act.put, List.setIfInBounds_toArray, List.set_cons_zero, List.set_cons_succ]
          refine wpAnyH_ready (rs := [9]) (by kernel_rfl) (by simp) ?_
          refine AllReadyH.cons rfl (fun K hK => ?_) AllReadyH.nil
          go_simp
          refine hK.out _ _ (hSm) (fun _ => ?_)
          clear hK K
          try simp only [Act.put, List.setIfInBounds_toArray, List.set_cons_zero, List.set_cons_succ]
          refine wpAnyH_ready (rs := [10]) (by kernel_rfl) (by simp) ?_
          refine AllReadyH.cons rfl (fun K hK => ?_) AllReadyH.nil
          refine step_append_eq (ts := 39) rfl (.tmp 37) (.tmp 42) rfl rfl rfl rfl hrun ?_
          show K (Act.put _ (some 43) _) _
          refine hK.out _ _ (s0) (fun _ => ?_)
          clear hK K
          try simp only [Act.put, List.setIfInBounds_toArray, List.set_cons_zero, List.set_cons_succ]
          refine take_yes 11 44 ?_ rfl rfl (by kernel_rfl) (by kernel_rfl) (by kernel_rfl) (fun _ _ _ h => h) (by kernel_rfl) ?_ (by assumption) ?_; rotate_left; (focus (intro w hSw; (try dsimp only at hSw); go_simp; all_goals first | with_reducible rfl)); simp only [Act.put, List.setIfInBounds_toArray, List.set_cons_zero, List.set_cons_succ]
          refine take_yes 12 45 ?_ rfl rfl (by kernel_rfl) (by kernel_rfl) (by kernel_rfl) (fun _ _ _ h => h) (by kernel_rfl) ?_ (by assumption) ?_; rotate_left; (focus (intro w hSw; (try dsimp only at hSw); go_simp; all_goals first | with_reducible rfl)); simp only [Act.put, List.setIfInBounds_toArray, List.set_cons_zero, List.set_cons_succ]
          refine wpAnyH_ready (rs := [13]) (by kernel_rfl) (by simp) ?_
          refine AllReadyH.cons rfl (fun K hK => ?_) AllReadyH.nil
          go_simp
          rw [HWE.out]
          refine hK.out _ _ (hSe) (fun _ => ?_)
          clear hK K
          try simp only [Act.put, List.setIfInBounds_toArray, List.set_cons_zero, List.set_cons_succ]
          refine wpAnyH_done (by kernel_rfl) ?_ _
          clear hSe s0 s1 s2 hSl hS0 hSw hrun hHeld0 c3l c3d c3w
          go_wp2
          go_ret
          exact ⟨by rw [HL.out]; rfl, by rw [HS.out]; exact HWX.out, HOX.out⟩
        · go_simp
          refine hK.out _ _ (hSm) (fun _ => ?_)
          clear hK K
          try simp only [Act.put, List.setIfInBounds_toArray, List.set_cons_zero, List.set_cons_succ]
          refine wpAnyH_ready (rs := [4]) (by kernel_rfl) (by simp) ?_
          refine AllReadyH.cons rfl (fun K hK => ?_) AllReadyH.nil
          go_simp
          refine hK.out _ _ (hSm) (fun _ => ?_)
          clear hK K
          try simp only [Act.put, List.setIfInBounds_toArray, List.set_cons_zero, List.set_cons_succ]
          refine wpAnyH_ready (rs := [10]) (by kernel_rfl) (by simp) ?_
          refine AllReadyH.cons rfl (fun K hK => ?_) AllReadyH.nil
          refine step_append_eq (ts := 39) rfl (.tmp 37) (.tmp 42) rfl rfl rfl rfl hrun ?_
          show K (Act.put _ (some 43) _) _
          refine hK.out _ _ (s0) (fun _ => ?_)
          clear hK K
          try simp only [Act.put, List.setIfInBounds_toArray, List.set_cons_zero, List.set_cons_succ]
          refine take_yes 11 44 ?_ rfl rfl (by kernel_rfl) (by kernel_rfl) (by kernel_rfl) (fun _ _ _ h => h) (by kernel_rfl) ?_ (by assumption) ?_; rotate_left; (focus (intro w hSw; (try dsimp only at hSw); go_simp; all_goals first | with_reducible rfl)); simp only [Act.put, List.setIfInBounds_toArray, List.set_cons_zero, List.set_cons_succ]
          refine take_yes 12 45 ?_ rfl rfl (by kernel_rfl) (by kernel_rfl) (by kernel_rfl) (fun _ _ _ h => h) (by kernel_rfl) ?_ (by assumption) ?_; rotate_left; (focus (intro w hSw; (try dsimp only at hSw); go_simp; all_goals first | with_reducible rfl)); simp only [Act.put, List.setIfInBounds_toArray, List.set_cons_zero, List.set_cons_succ]
          refine wpAnyH_ready (rs := [13]) (by kernel_rfl) (by simp) ?_
          refine AllReadyH.cons rfl (fun K hK => ?_) AllReadyH.nil
          go_simp
          rw [HWE.out]
          refine hK.out _ _ (hSe) (fun _ => ?_)
          clear hK K
          try simp only [Act.put, List.setIfInBounds_toArray, List.set_cons_zero, List.set_cons_succ]
          refine wpAnyH_done (by kernel_rfl) ?_ _
          clear hSe s0 s1 s2 hSl hS0 hSw hrun hHeld0 c3l c3d c3w
          go_wp2
          go_ret
          exact ⟨by rw [HL.out]; rfl, by rw [HS.out]; exact HWX.out, HOX.out⟩
theorem label_s (x : Wx) (w : World) (D : Int) (s : Ws) (N : Nat) (A : Option Addr) (n c : Nat) (st : List Bs) (hA : StrB w A n c st) (h : WrS x w D s) (hz : s.sz N) (hN : N ≤ 15900000) :
    Calls Tryz.prog 216 #[.pointer (some ⟨x.g, 0, none⟩), .slice A n c] w fun e w' => e = .returned (.int .i64 (s.code.length : Int)) ∧ WrS x w' D (s.label st) ∧ Fr x w w' := by
  obtain ⟨C, nc, cc, h⟩ := h
  refine (label_d x w D s N A n c st C nc cc hA h hz hN).mono ?_
  rintro e w' ⟨rfl, h2, h3⟩
  exact ⟨rfl, ⟨C, nc, cc, h2⟩, h3⟩

end Go.Proofs.YtdkkpcbebhgbiaaGreatDoor

/- The number of an instruction that was laid is told: a cell of a row turned. -/
namespace Go.Proofs.YtdkkpcbebhgbiaaGreatDoor
set_option maxRecDepth 100000
open Go.RowKit Go.Maps

def aimI (n : Int) (i : InD) : InD := { i with n := n }
theorem flat_aim (l : List InD) (i : Nat) (n : Int) (hi : i < l.length) : (l.flatMap inC).set (i * 7 + 1) (.int .i64 n) = (l.modify i (aimI n)).flatMap inC := by
  apply List.ext_getElem?
  intro q
  have hlen := rows_len inC_len l
  have hlen2 := rows_len inC_len (l.modify i (aimI n))
  rw [List.length_modify] at hlen2
  rcases Nat.lt_or_ge q (l.length * 7) with hq | hq
  · have hqd : q / 7 < l.length := Nat.div_lt_of_lt_mul (by omega)
    have hqm : q % 7 < 7 := Nat.mod_lt _ (by decide)
    have hqe : q / 7 * 7 + q % 7 = q := by omega
    have h1 := rows_at inC_len l (q / 7) (q % 7) l[q / 7] (List.getElem?_eq_getElem hqd) hqm
    have h2 := rows_at inC_len (l.modify i (aimI n)) (q / 7) (q % 7) ((l.modify i (aimI n))[q / 7]'(by rw [List.length_modify]; exact hqd)) (List.getElem?_eq_getElem _) hqm
    rw [hqe] at h1 h2
    rw [h2, List.getElem_modify, List.getElem?_set]
    by_cases e : i * 7 + 1 = q
    · have e1 : i = q / 7 := by omega
      have e2 : q % 7 = 1 := by omega
      rw [if_pos e, if_pos (by rw [hlen]; omega), if_pos e1, e2]
      rfl
    · rw [if_neg e, h1]
      by_cases e1 : i = q / 7
      · rw [if_pos e1]
        have e2 : q % 7 ≠ 1 := fun e2 => e (by omega)
        generalize q % 7 = b at hqm e2
        have : b = 0 ∨ b = 2 ∨ b = 3 ∨ b = 4 ∨ b = 5 ∨ b = 6 := by omega
        rcases this with rfl | rfl | rfl | rfl | rfl | rfl <;> rfl
      · rw [if_neg e1]
  · rw [List.getElem?_eq_none (by rw [List.length_set, hlen]; exact hq), List.getElem?_eq_none (by rw [hlen2]; exact hq)]
theorem GotR.aim {base : Nat} {w : World} {g nc cc : Nat} {l : List InD} (h : GotR inC 7 98 base w (some ⟨g, 0, none⟩) nc cc l) {i : Nat} (hi : i < nc) (n : Int) : GotR inC 7 98 base (w.setCell ⟨g, i * 7 + 1, none⟩ (.int .i64 n)) (some ⟨g, 0, none⟩) nc cc (l.modify i (aimI n)) := by
  have hl : l.length = nc := h.row.1
  have own' : (w.setCell ⟨g, i * 7 + 1, none⟩ (.int .i64 n)).ownsRow base 98 7 (.slice (some ⟨g, 0, none⟩) nc cc) nc ((l.modify i (aimI n)).flatMap inC) := by
    have h1 := h.own.1
    rcases h.own.2 with ⟨e, _⟩ | ⟨g', cap', cur, e, hg', hh, r1, r2, r3, r4⟩
    · cases e
    · cases e
      have hb : Blk w g 98 cur := hh
      refine ⟨by rw [rows_len inC_len, List.length_modify, hl], Or.inr ⟨g, cc, cur.setIfInBounds (i * 7 + 1) (.int .i64 n), rfl, hg', hb.set_ _ _, r1, r2, by rw [Array.size_setIfInBounds]; exact r3, ?_⟩⟩
      rw [Array.toList_setIfInBounds, List.take_set, r4, flat_aim l i n (by omega)]
  obtain ⟨A', c', e, h'⟩ := GotR.of_own inC_len own' (by rw [List.length_modify]; exact hl)
  cases e
  exact h'
/-- The writer's. -/
theorem WrD.aim_ {x : Wx} {w : World} {D : Int} {s : Ws} {g nc cc : Nat} {T M : Option Addr} {nt ct nm cm : Nat} {lm : List MpR} (h : WrD x w D s (some ⟨g, 0, none⟩) nc cc T nt ct M nm cm lm) {i : Nat} (hi : i < nc) (n : Int) :
    WrD x (w.setCell ⟨g, i * 7 + 1, none⟩ (.int .i64 n)) D (s.aim i n) (some ⟨g, 0, none⟩) nc cc T nt ct M nm cm lm ∧ Fr x w (w.setCell ⟨g, i * 7 + 1, none⟩ (.int .i64 n)) := by
  have o2 : Only (· = g) w (w.setCell ⟨g, i * 7 + 1, none⟩ (.int .i64 n)) := (Only.refl (· = g) w).setCell (p := ⟨g, i * 7 + 1, none⟩) (Or.inl rfl) _
  obtain ⟨cur, hb, hg0⟩ := gotR_block h.code (show (Value.slice (some ⟨g, 0, none⟩) nc cc).ownBlock = some g from rfl)
  have hk : Keep WE w (w.setCell ⟨g, i * 7 + 1, none⟩ (.int .i64 n)) := Keep.of_block hb (Or.inr (Or.inr (Or.inl rfl))) o2
  have hgx : x.g ≠ g := Blk.ne_ h.blk hb (by decide)
  exact ⟨⟨o2.blk h.blk hgx, h.bud, h.tape.only o2 (fun e => by have := h.tp0; omega) (fun i e => by have := h.tp0; have := h.tape.new; omega), h.code.aim hi n, h.traps.near trC_len hb (by decide) o2, h.maps.near mpC_len hb (by decide) o2, h.mps.keep hk, h.g0, h.tp0, Nat.le_trans h.b0 o2.size⟩, o2.mono (fun i _ e => Or.inr (by omega)), hk⟩

end Go.Proofs.YtdkkpcbebhgbiaaGreatDoor

/- The walk over carpetbagmake's some; printed by gen/gen_wj.py. -/
namespace Go.Proofs.YtdkkpcbebhgbiaaGreatDoor
set_option maxRecDepth 100000
open Go.RowKit Go.Maps

/-- What a call without a number does, at a depth. -/
def CtS (x : Wx) (f : FuncId) (D : Int) (F : Ws → Ws) (B : Nat) : Prop := ∀ (W : World) (t : Ws) (M : Nat), WrS x W D t → t.sz M → M ≤ B →
  Calls Tryz.prog f #[.pointer (some ⟨x.g, 0, none⟩)] W fun e w' => e = .returned (.tuple #[]) ∧ WrS x w' D (F t) ∧ Fr x W w'
theorem times_snoc (F : Ws → Ws) : ∀ (n : Nat) (s : Ws), timesW F (n + 1) s = F (timesW F n s)
  | 0, s => rfl
  | n + 1, s => by
    show timesW F (n + 1) (F s) = F (timesW F n (F s))
    exact times_snoc F n (F s)
theorem adds_times {F : Ws → Ws} {c : Nat} (h : AddsW F c) : ∀ n, AddsW (timesW F n) (n * c)
  | 0, s, N, hs => hs.more (by omega)
  | n + 1, s, N, hs => by
    have := adds_times h n (F s) (N + c) (h s N hs)
    exact this.more (by rw [Nat.add_mul]; omega)
theorem adds_some (xs : Bs) {F : Ws → Ws} {c : Nat} (h : AddsW F c) : AddsW (someW xs F) (3 * c) := fun s N hs => by
  have h2 : (s.nx xs).sz N := hs
  have h3 := adds_times h (1 + nxV xs 3 s.at_) (s.nx xs) N h2
  have h4 : nxV xs 3 s.at_ < 3 := nxV_lt (by decide)
  exact h3.more (by have := Nat.mul_le_mul_right c (show 1 + nxV xs 3 s.at_ ≤ 3 by omega); omega)
/-- Where its loop stands. -/
def RelT (x : Wx) (D : Int) (F : Ws → Ws) (s0 : Ws) (n : Nat) (w : World) (i : Value) (wr : World) : Prop := ∃ k : Nat, k ≤ n ∧ i = .int .i64 ((n - k : Nat) : Int) ∧ WrS x wr D (timesW F k s0) ∧ Fr x w wr
set_option maxHeartbeats 2000000 in
theorem some_s (x : Wx) (w : World) (D : Int) (s : Ws) (N : Nat) (F : Ws → Ws) (c B : Nat) (hD : -10 ≤ D ∧ D ≤ 10) (hF : CtS x 124 (D + 1) F B) (hFa : AddsW F c) (h : WrS x w D s) (hz : s.sz N) (hN : N + 3 * c ≤ B) :
    Calls Tryz.prog 215 #[.pointer (some ⟨x.g, 0, none⟩)] w fun e w' => e = .returned (.tuple #[]) ∧ WrS x w' D (someW x.xs F s) ∧ Fr x w w' := by
  obtain ⟨hD1, hD2⟩ := hD
  obtain ⟨C, nc, cc, T, nt, ct, M, nm, cm, lm, hd⟩ := h
  have c4 : w.cell? ⟨x.g, 4, none⟩ = some (.int .i64 D) := hd.blk.cell 4
  have c0 : w.cell? ⟨x.g, 0, none⟩ = some (.pointer (some ⟨x.tp, 0, none⟩)) := hd.blk.cell 0
  have f4 := hd.blk.frozen 4
  have hgl := hd.blk.lt
  obtain ⟨hP, hFr⟩ := hd.depth_ (D + 1)
  obtain ⟨w1, hw1⟩ : ∃ W, w.setCell ⟨x.g, 4, none⟩ (.int .i64 (D + 1)) = W := ⟨_, rfl⟩
  rw [hw1] at hP hFr
  have HW1 : Hid (WrS x w1 (D + 1) s) := Lib.hid ⟨C, nc, cc, T, nt, ct, M, nm, cm, lm, hP⟩
  have HO1 := Lib.hid hFr
  have HWW := Lib.hid hw1
  have HF := Lib.hid hF
  have HFA := Lib.hid hFa
  have HZ := Lib.hid hz
  have CN := Lib.hid (next_s x w1 (D + 1) s 3 3 HW1.out (by omega) (by omega) rfl)
  clear hd hP hFr hw1 hF hFa hz
  go_enter Tryz.func215, Tryz.ntmps215
  go_wp2_with fail
  rw [HWW.out]
  refine CN.out.mono ?_
  rintro e w2 ⟨rfl, h, ho⟩
  have HW2 := Lib.hid h
  have HO2 := Lib.hid (HO1.out.trans ho)
  obtain ⟨v, hv⟩ : ∃ v, nxV x.xs 3 s.at_ = v := ⟨_, rfl⟩
  have bv : v < 3 := by rw [← hv]; exact nxV_lt (by omega)
  rw [hv]
  have HV := Lib.hid hv
  obtain ⟨n, hn⟩ : ∃ n, n = 1 + v := ⟨_, rfl⟩
  have HREL : Hid (RelT x (D + 1) F (s.nx x.xs) n w2 (.int .i64 (1 + (v : Int))) w2) := Lib.hid ⟨0, Nat.zero_le _, by rw [hn]; simp, HW2.out, Fr.refl _ _⟩
  clear c4 c0 f4 h ho hv
  go_wp2_with fail
  go_loopw [2] (fun i wr => RelT x (D + 1) F (s.nx x.xs) n w2 i wr) (fun i _ => (intOf i).toNat)
  case atStart => exact HREL.out
  case round =>
    clear HREL
    obtain ⟨k, hk, rfl, hW, hFw⟩ := hrel
    have HW := Lib.hid hW
    have HFW := Lib.hid hFw
    by_cases hlt : k < n
    · have hsz : (timesW F k (s.nx x.xs)).sz (N + k * c) := adds_times HFA.out k _ _ (show (s.nx x.xs).sz N from HZ.out)
      have hkc : k * c ≤ 3 * c := Nat.mul_le_mul_right c (by omega)
      have CF := Lib.hid (HF.out wr _ (N + k * c) hW hsz (by omega))
      have hpos : decide (0 < ((n - k : Nat) : Int)) = true := by simp; omega
      obtain ⟨j, hj⟩ : ∃ j, n - k = j + 1 := ⟨n - k - 1, by omega⟩
      rw [hj] at hpos ⊢
      clear hW hFw hsz hkc
      go_wp2_with fail
      refine CF.out.mono ?_
      rintro e w3 ⟨rfl, h, ho⟩
      have HR : Hid (RelT x (D + 1) F (s.nx x.xs) n w2 (.int .i64 (j : Int)) w3) := Lib.hid ⟨k + 1, hlt, by rw [show n - (k + 1) = j by omega], by rw [times_snoc]; exact h, HFW.out.trans ho⟩
      clear h ho
      go_wp2
      go_roundw
      case rel => exact HR.out
      case measure => simp [intOf]
    · have hkn : k = n := by omega
      subst hkn
      obtain ⟨C, nc, cc, T, nt, ct, M, nm, cm, lm, hd⟩ := hW
      have c4 : wr.cell? ⟨x.g, 4, none⟩ = some (.int .i64 (D + 1)) := hd.blk.cell 4
      have f4 := hd.blk.frozen 4
      have hgl2 := hd.blk.lt
      obtain ⟨hP, hFr⟩ := hd.depth_ D
      obtain ⟨w4, hw4⟩ : ∃ W, wr.setCell ⟨x.g, 4, none⟩ (.int .i64 D) = W := ⟨_, rfl⟩
      rw [hw4] at hP hFr
      have HE : Hid (WrS x w4 D (someW x.xs F s) ∧ Fr x w w4) := Lib.hid ⟨by
        unfold someW
        rw [HV.out, ← hn]
        exact ⟨C, nc, cc, T, nt, ct, M, nm, cm, lm, hP⟩, HO2.out.trans (HFW.out.trans hFr)⟩
      have HWW4 := Lib.hid hw4
      have hdd : D + 1 - 1 = D := by omega
      clear hd hP hFr hw4 hFw
      go_wp2
      rw [HWW4.out]
      go_end0
      exact ⟨rfl, HE.out.1, HE.out.2⟩

end Go.Proofs.YtdkkpcbebhgbiaaGreatDoor
