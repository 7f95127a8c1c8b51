/- The walk over carpetbagmake's statement; printed by gen/gen_wq.py. -/
import Derived.Test.YtdkkpcbebhgbiaaGreatDoorZao
import Derived.Test.YtdkkpcbebhgbiaaGreatDoorZab
namespace Go.Proofs.YtdkkpcbebhgbiaaGreatDoor
set_option maxRecDepth 100000
open Go.RowKit Go.Maps

set_option maxHeartbeats 4000000 in
theorem stm_flat (x : Wx) (w : World) (D : Int) (s : Ws) (N : Nat) (F : Ws → Ws) (hD : 3 ≤ D ∧ D ≤ 10) (h : WrS x w D s) (hz : s.sz N) (hN : N ≤ 14000000) :
    Calls Tryz.prog 124 #[.pointer (some ⟨x.g, 0, none⟩)] w fun e w' => e = .returned (.tuple #[]) ∧ WrS x w' D (stepS x.xs false F s) ∧ Fr x w w' := by
  obtain ⟨w0, rfl⟩ : ∃ w0, w0 = w := ⟨_, rfl⟩
  have HW0 := Lib.hid h
  have HO0 : Hid (Fr x w0 w0) := Lib.hid (Fr.refl x w0)
  have HZ0 := Lib.hid hz
  obtain ⟨FS, hFS⟩ : ∃ FS, stepS x.xs false F s = FS := ⟨_, rfl⟩
  have HFS := Lib.hid hFS
  rw [hFS]
  clear h hz hFS
  have HI1 := Lib.hid (ct_int1 x)
  have HI2 := Lib.hid (ct_int2 x)
  have HL2 := Lib.hid (ct_long2 x)
  have HOB := Lib.hid (fun (W : World) (D : Int) (t : Ws) (M : Nat) h hz hM => object_s x W D t M h hz hM)
  have HRE := Lib.hid (fun (W : World) (D : Int) (t : Ws) (M : Nat) h hz hM => records_s x W D t M h hz hM)
  obtain ⟨hD1, hD2⟩ := hD
  obtain ⟨Cp, ncp, ccp, Tp, ntp, ctp, Mp, nmp, cmp, lmp, hD⟩ := HW0.out
  have c5 : w0.cell? ⟨x.g, 5, none⟩ = some (.int .i64 s.bud) := hD.blk.cell 5
  have c0 : w0.cell? ⟨x.g, 0, none⟩ = some (.pointer (some ⟨x.tp, 0, none⟩)) := hD.blk.cell 0
  have f5 := hD.blk.frozen 5
  have hgl := hD.blk.lt
  obtain ⟨hP, hF⟩ := hD.paid_
  obtain ⟨w1, hw1⟩ : ∃ W, w0.setCell ⟨x.g, 5, none⟩ (.int .i64 (wrap64 (s.bud - 1))) = W := ⟨_, rfl⟩
  rw [hw1] at hP hF
  have HW1 : Hid (WrS x w1 D s.paid) := Lib.hid ⟨Cp, ncp, ccp, Tp, ntp, ctp, Mp, nmp, cmp, lmp, hP⟩
  have HO1 := Lib.hid hF
  have HZ1 : Hid (s.paid.sz N) := Lib.hid (Ws.sz_paid HZ0.out)
  have HWW := Lib.hid hw1
  clear hD hP hF hw1
  go_enter Tryz.func124, Tryz.ntmps124
  go_wp2_with fail
  rw [HWW.out]
  clear c5 c0 f5
  refine (next_s x _ _ _ 16 _ HW1.out (by omega) (by omega) rfl).mono ?_
  rintro e w2 ⟨rfl, h, ho⟩
  have HW2 := Lib.hid h
  have HO2 : Hid (Fr x w0 w2) := Lib.hid (HO1.out.trans ho)
  have HZ2 : Hid ((s.paid.nx x.xs).sz N) := Lib.hid (Ws.sz_nx x.xs HZ1.out)
  clear h ho
  obtain ⟨v, hv⟩ : ∃ v, nxV x.xs 16 s.paid.at_ = v := ⟨_, rfl⟩
  have bv : v < 16 := by rw [← hv]; exact nxV_lt (by omega)
  rw [hv]
  have HVv : Hid (nxV x.xs 16 s.at_ = v) := Lib.hid hv
  clear hv
  have c5 : w2.cell? ⟨x.g, 5, none⟩ = some (.int .i64 s.paid.bud) := by
    obtain ⟨C, nc, cc, T, nt, ct, M, nm, cm, lm, hD⟩ := HW2.out
    exact hD.blk.cell 5
  have c4 : w2.cell? ⟨x.g, 4, none⟩ = some (.int .i64 D) := HW2.out.depth
  have hgl2 := HW2.out.lt
  by_cases hbd : s.paid.bud ≤ 0
  · have HBD := Lib.hid hbd
    clear bv
    go_wp2_with fail
    refine (HI2.out _ _ _ N HW2.out HZ2.out (by omega)).mono ?_
    rintro e w3 ⟨rfl, h, ho⟩
    have HW3 := Lib.hid h
    have HO3 : Hid (Fr x w0 w3) := Lib.hid (HO2.out.trans ho)
    have HZ3 : Hid ((intW x.xs 2 ((s.paid.nx x.xs))).sz (N + 18)) := Lib.hid (((adds_il2 x.xs).1 _ _ HZ2.out).more (by omega))
    clear h ho
    have t3 := HW3.out.t
    go_wp2_with fail
    refine (next_s x _ _ _ 2 _ HW3.out (by omega) (by omega) rfl).mono ?_
    rintro e w4 ⟨rfl, h, ho⟩
    have HW4 := Lib.hid h
    have HO4 : Hid (Fr x w0 w4) := Lib.hid (HO3.out.trans ho)
    have HZ4 : Hid (((intW x.xs 2 ((s.paid.nx x.xs))).nx x.xs).sz (N + 18)) := Lib.hid ((Ws.sz_nx x.xs HZ3.out).more (by omega))
    clear h ho
    obtain ⟨a, ha⟩ : ∃ a, nxV x.xs 2 (intW x.xs 2 ((s.paid.nx x.xs))).at_ = a := ⟨_, rfl⟩
    have ba : a < 2 := by rw [← ha]; exact nxV_lt (by omega)
    rw [ha]
    have HVa := Lib.hid ha
    clear ha t3
    go_wp2_with fail
    refine (op_v x _ _ _ (N + 18) 54 _ _ (by first | rfl | decide | assumption) HW4.out HZ4.out (by omega)).mono ?_
    rintro e w5 ⟨rfl, h, ho⟩
    have HW5 := Lib.hid h
    have HO5 : Hid (Fr x w0 w5) := Lib.hid (HO4.out.trans ho)
    have HZ5 : Hid ((((intW x.xs 2 ((s.paid.nx x.xs))).nx x.xs).op 54 (1 + (a : Int))).sz (N + 19)) := Lib.hid ((Ws.sz_op _ _ HZ4.out).more (by omega))
    clear h ho
    have HE : Hid (FS = ((intW x.xs 2 ((s.paid.nx x.xs))).nx x.xs).op 54 (1 + (a : Int))) := Lib.hid (by rw [← HFS.out]; unfold stepS; simp [HVv.out, HBD.out, HVa.out])
    go_wp2
    go_end0
    rw [HE.out]
    exact ⟨rfl, HW5.out, HO5.out⟩
  · have HBD : Hid ((s.paid.bud ≤ 0) = False) := Lib.hid (eq_false hbd)
    have hcs : v = 0 ∨ v = 1 ∨ v = 2 ∨ v = 3 ∨ v = 4 ∨ v = 5 ∨ v = 6 ∨ v = 7 ∨ v = 8 ∨ v = 9 ∨ v = 10 ∨ v = 11 ∨ v = 12 ∨ v = 13 ∨ v = 14 ∨ v = 15 := by omega
    clear bv
    rcases hcs with rfl | rfl | rfl | rfl | rfl | rfl | rfl | rfl | rfl | rfl | rfl | rfl | rfl | rfl | rfl | rfl
    · go_wp2_with fail
      refine (HI2.out _ _ _ N HW2.out HZ2.out (by omega)).mono ?_
      rintro e w3 ⟨rfl, h, ho⟩
      have HW3 := Lib.hid h
      have HO3 : Hid (Fr x w0 w3) := Lib.hid (HO2.out.trans ho)
      have HZ3 : Hid ((intW x.xs 2 ((s.paid.nx x.xs))).sz (N + 18)) := Lib.hid (((adds_il2 x.xs).1 _ _ HZ2.out).more (by omega))
      clear h ho
      have t3 := HW3.out.t
      go_wp2_with fail
      refine (next_s x _ _ _ 2 _ HW3.out (by omega) (by omega) rfl).mono ?_
      rintro e w4 ⟨rfl, h, ho⟩
      have HW4 := Lib.hid h
      have HO4 : Hid (Fr x w0 w4) := Lib.hid (HO3.out.trans ho)
      have HZ4 : Hid (((intW x.xs 2 ((s.paid.nx x.xs))).nx x.xs).sz (N + 18)) := Lib.hid ((Ws.sz_nx x.xs HZ3.out).more (by omega))
      clear h ho
      obtain ⟨a, ha⟩ : ∃ a, nxV x.xs 2 (intW x.xs 2 ((s.paid.nx x.xs))).at_ = a := ⟨_, rfl⟩
      have ba : a < 2 := by rw [← ha]; exact nxV_lt (by omega)
      rw [ha]
      have HVa := Lib.hid ha
      clear ha t3
      go_wp2_with fail
      refine (op_v x _ _ _ (N + 18) 54 _ _ (by first | rfl | decide | assumption) HW4.out HZ4.out (by omega)).mono ?_
      rintro e w5 ⟨rfl, h, ho⟩
      have HW5 := Lib.hid h
      have HO5 : Hid (Fr x w0 w5) := Lib.hid (HO4.out.trans ho)
      have HZ5 : Hid ((((intW x.xs 2 ((s.paid.nx x.xs))).nx x.xs).op 54 (1 + (a : Int))).sz (N + 19)) := Lib.hid ((Ws.sz_op _ _ HZ4.out).more (by omega))
      clear h ho
      have HE : Hid (FS = ((intW x.xs 2 ((s.paid.nx x.xs))).nx x.xs).op 54 (1 + (a : Int))) := Lib.hid (by rw [← HFS.out]; unfold stepS; simp [HVv.out, HBD.out, HVa.out])
      go_wp2
      go_end0
      rw [HE.out]
      exact ⟨rfl, HW5.out, HO5.out⟩
    · go_wp2_with fail
      refine (HI2.out _ _ _ N HW2.out HZ2.out (by omega)).mono ?_
      rintro e w3 ⟨rfl, h, ho⟩
      have HW3 := Lib.hid h
      have HO3 : Hid (Fr x w0 w3) := Lib.hid (HO2.out.trans ho)
      have HZ3 : Hid ((intW x.xs 2 ((s.paid.nx x.xs))).sz (N + 18)) := Lib.hid (((adds_il2 x.xs).1 _ _ HZ2.out).more (by omega))
      clear h ho
      have t3 := HW3.out.t
      go_wp2_with fail
      refine (next_s x _ _ _ 2 _ HW3.out (by omega) (by omega) rfl).mono ?_
      rintro e w4 ⟨rfl, h, ho⟩
      have HW4 := Lib.hid h
      have HO4 : Hid (Fr x w0 w4) := Lib.hid (HO3.out.trans ho)
      have HZ4 : Hid (((intW x.xs 2 ((s.paid.nx x.xs))).nx x.xs).sz (N + 18)) := Lib.hid ((Ws.sz_nx x.xs HZ3.out).more (by omega))
      clear h ho
      obtain ⟨a, ha⟩ : ∃ a, nxV x.xs 2 (intW x.xs 2 ((s.paid.nx x.xs))).at_ = a := ⟨_, rfl⟩
      have ba : a < 2 := by rw [← ha]; exact nxV_lt (by omega)
      rw [ha]
      have HVa := Lib.hid ha
      clear ha t3
      go_wp2_with fail
      refine (op_v x _ _ _ (N + 18) 54 _ _ (by first | rfl | decide | assumption) HW4.out HZ4.out (by omega)).mono ?_
      rintro e w5 ⟨rfl, h, ho⟩
      have HW5 := Lib.hid h
      have HO5 : Hid (Fr x w0 w5) := Lib.hid (HO4.out.trans ho)
      have HZ5 : Hid ((((intW x.xs 2 ((s.paid.nx x.xs))).nx x.xs).op 54 (1 + (a : Int))).sz (N + 19)) := Lib.hid ((Ws.sz_op _ _ HZ4.out).more (by omega))
      clear h ho
      have HE : Hid (FS = ((intW x.xs 2 ((s.paid.nx x.xs))).nx x.xs).op 54 (1 + (a : Int))) := Lib.hid (by rw [← HFS.out]; unfold stepS; simp [HVv.out, HBD.out, HVa.out])
      go_wp2
      go_end0
      rw [HE.out]
      exact ⟨rfl, HW5.out, HO5.out⟩
    · go_wp2_with fail
      refine (HI2.out _ _ _ N HW2.out HZ2.out (by omega)).mono ?_
      rintro e w3 ⟨rfl, h, ho⟩
      have HW3 := Lib.hid h
      have HO3 : Hid (Fr x w0 w3) := Lib.hid (HO2.out.trans ho)
      have HZ3 : Hid ((intW x.xs 2 ((s.paid.nx x.xs))).sz (N + 18)) := Lib.hid (((adds_il2 x.xs).1 _ _ HZ2.out).more (by omega))
      clear h ho
      go_wp2_with fail
      refine (name_v x _ _ _ (N + 18) 184 _ sysS [112, 114, 105, 110, 116] [40, 73, 41, 86] _ _ _ rfl rfl rfl rfl HW3.out HZ3.out (by omega)).mono ?_
      rintro e w4 ⟨rfl, h, ho⟩
      have HW4 := Lib.hid h
      have HO4 : Hid (Fr x w0 w4) := Lib.hid (HO3.out.trans ho)
      have HZ4 : Hid (((intW x.xs 2 ((s.paid.nx x.xs))).name 184 sysS [112, 114, 105, 110, 116] [40, 73, 41, 86]).sz (N + 19)) := Lib.hid ((Ws.sz_name _ _ _ _ HZ3.out).more (by omega))
      clear h ho
      have HE : Hid (FS = (intW x.xs 2 ((s.paid.nx x.xs))).name 184 sysS [112, 114, 105, 110, 116] [40, 73, 41, 86]) := Lib.hid (by rw [← HFS.out]; unfold stepS; simp [HVv.out, HBD.out])
      go_wp2
      go_end0
      rw [HE.out]
      exact ⟨rfl, HW4.out, HO4.out⟩
    · go_wp2_with fail
      refine (HL2.out _ _ _ N HW2.out HZ2.out (by omega)).mono ?_
      rintro e w3 ⟨rfl, h, ho⟩
      have HW3 := Lib.hid h
      have HO3 : Hid (Fr x w0 w3) := Lib.hid (HO2.out.trans ho)
      have HZ3 : Hid ((longW x.xs 2 ((s.paid.nx x.xs))).sz (N + 18)) := Lib.hid (((adds_il2 x.xs).2 _ _ HZ2.out).more (by omega))
      clear h ho
      go_wp2_with fail
      refine (op_v x _ _ _ (N + 18) 55 _ _ (by first | rfl | decide | assumption) HW3.out HZ3.out (by omega)).mono ?_
      rintro e w4 ⟨rfl, h, ho⟩
      have HW4 := Lib.hid h
      have HO4 : Hid (Fr x w0 w4) := Lib.hid (HO3.out.trans ho)
      have HZ4 : Hid (((longW x.xs 2 ((s.paid.nx x.xs))).op 55 3).sz (N + 19)) := Lib.hid ((Ws.sz_op _ _ HZ3.out).more (by omega))
      clear h ho
      have HE : Hid (FS = (longW x.xs 2 ((s.paid.nx x.xs))).op 55 3) := Lib.hid (by rw [← HFS.out]; unfold stepS; simp [HVv.out, HBD.out])
      go_wp2
      go_end0
      rw [HE.out]
      exact ⟨rfl, HW4.out, HO4.out⟩
    · go_wp2_with fail
      refine (HOB.out _ _ _ N HW2.out HZ2.out (by omega)).mono ?_
      rintro e w3 ⟨rfl, h, ho⟩
      have HW3 := Lib.hid h
      have HO3 : Hid (Fr x w0 w3) := Lib.hid (HO2.out.trans ho)
      have HZ3 : Hid ((objW x.xs ((s.paid.nx x.xs))).sz (N + 2)) := Lib.hid ((adds_obj x.xs _ _ HZ2.out).more (by omega))
      clear h ho
      go_wp2_with fail
      refine (op_v x _ _ _ (N + 2) 58 _ _ (by first | rfl | decide | assumption) HW3.out HZ3.out (by omega)).mono ?_
      rintro e w4 ⟨rfl, h, ho⟩
      have HW4 := Lib.hid h
      have HO4 : Hid (Fr x w0 w4) := Lib.hid (HO3.out.trans ho)
      have HZ4 : Hid (((objW x.xs ((s.paid.nx x.xs))).op 58 5).sz (N + 3)) := Lib.hid ((Ws.sz_op _ _ HZ3.out).more (by omega))
      clear h ho
      have HE : Hid (FS = (objW x.xs ((s.paid.nx x.xs))).op 58 5) := Lib.hid (by rw [← HFS.out]; unfold stepS; simp [HVv.out, HBD.out])
      go_wp2
      go_end0
      rw [HE.out]
      exact ⟨rfl, HW4.out, HO4.out⟩
    · go_wp2_with fail
      refine (op_v x _ _ _ N 25 _ _ (by first | rfl | decide | assumption) HW2.out HZ2.out (by omega)).mono ?_
      rintro e w3 ⟨rfl, h, ho⟩
      have HW3 := Lib.hid h
      have HO3 : Hid (Fr x w0 w3) := Lib.hid (HO2.out.trans ho)
      have HZ3 : Hid ((((s.paid.nx x.xs)).op 25 5).sz (N + 1)) := Lib.hid ((Ws.sz_op _ _ HZ2.out).more (by omega))
      clear h ho
      go_wp2_with fail
      refine (HI1.out _ _ _ (N + 1) HW3.out HZ3.out (by omega)).mono ?_
      rintro e w4 ⟨rfl, h, ho⟩
      have HW4 := Lib.hid h
      have HO4 : Hid (Fr x w0 w4) := Lib.hid (HO3.out.trans ho)
      have HZ4 : Hid ((intW x.xs 1 (((s.paid.nx x.xs)).op 25 5)).sz (N + 9)) := Lib.hid (((adds_il1 x.xs).1 _ _ HZ3.out).more (by omega))
      clear h ho
      go_wp2_with fail
      refine (name_v x _ _ _ (N + 9) 181 _ [65] [102] [73] _ _ _ rfl rfl rfl rfl HW4.out HZ4.out (by omega)).mono ?_
      rintro e w5 ⟨rfl, h, ho⟩
      have HW5 := Lib.hid h
      have HO5 : Hid (Fr x w0 w5) := Lib.hid (HO4.out.trans ho)
      have HZ5 : Hid (((intW x.xs 1 (((s.paid.nx x.xs)).op 25 5)).name 181 [65] [102] [73]).sz (N + 10)) := Lib.hid ((Ws.sz_name _ _ _ _ HZ4.out).more (by omega))
      clear h ho
      have HE : Hid (FS = (intW x.xs 1 (((s.paid.nx x.xs)).op 25 5)).name 181 [65] [102] [73]) := Lib.hid (by rw [← HFS.out]; unfold stepS; simp [HVv.out, HBD.out])
      go_wp2
      go_end0
      rw [HE.out]
      exact ⟨rfl, HW5.out, HO5.out⟩
    · go_wp2_with fail
      refine (HI1.out _ _ _ N HW2.out HZ2.out (by omega)).mono ?_
      rintro e w3 ⟨rfl, h, ho⟩
      have HW3 := Lib.hid h
      have HO3 : Hid (Fr x w0 w3) := Lib.hid (HO2.out.trans ho)
      have HZ3 : Hid ((intW x.xs 1 ((s.paid.nx x.xs))).sz (N + 8)) := Lib.hid (((adds_il1 x.xs).1 _ _ HZ2.out).more (by omega))
      clear h ho
      go_wp2_with fail
      refine (name_v x _ _ _ (N + 8) 179 _ sMain [115] [73] _ _ _ rfl rfl rfl rfl HW3.out HZ3.out (by omega)).mono ?_
      rintro e w4 ⟨rfl, h, ho⟩
      have HW4 := Lib.hid h
      have HO4 : Hid (Fr x w0 w4) := Lib.hid (HO3.out.trans ho)
      have HZ4 : Hid (((intW x.xs 1 ((s.paid.nx x.xs))).name 179 sMain [115] [73]).sz (N + 9)) := Lib.hid ((Ws.sz_name _ _ _ _ HZ3.out).more (by omega))
      clear h ho
      have HE : Hid (FS = (intW x.xs 1 ((s.paid.nx x.xs))).name 179 sMain [115] [73]) := Lib.hid (by rw [← HFS.out]; unfold stepS; simp [HVv.out, HBD.out])
      go_wp2
      go_end0
      rw [HE.out]
      exact ⟨rfl, HW4.out, HO4.out⟩
    · go_wp2_with fail
      refine (HI1.out _ _ _ N HW2.out HZ2.out (by omega)).mono ?_
      rintro e w3 ⟨rfl, h, ho⟩
      have HW3 := Lib.hid h
      have HO3 : Hid (Fr x w0 w3) := Lib.hid (HO2.out.trans ho)
      have HZ3 : Hid ((intW x.xs 1 ((s.paid.nx x.xs))).sz (N + 8)) := Lib.hid (((adds_il1 x.xs).1 _ _ HZ2.out).more (by omega))
      clear h ho
      have t3 := HW3.out.t
      go_wp2_with fail
      refine (next_s x _ _ _ 2 _ HW3.out (by omega) (by omega) rfl).mono ?_
      rintro e w4 ⟨rfl, h, ho⟩
      have HW4 := Lib.hid h
      have HO4 : Hid (Fr x w0 w4) := Lib.hid (HO3.out.trans ho)
      have HZ4 : Hid (((intW x.xs 1 ((s.paid.nx x.xs))).nx x.xs).sz (N + 8)) := Lib.hid ((Ws.sz_nx x.xs HZ3.out).more (by omega))
      clear h ho
      obtain ⟨a, ha⟩ : ∃ a, nxV x.xs 2 (intW x.xs 1 ((s.paid.nx x.xs))).at_ = a := ⟨_, rfl⟩
      have ba : a < 2 := by rw [← ha]; exact nxV_lt (by omega)
      rw [ha]
      have HVa := Lib.hid ha
      clear ha t3
      go_wp2_with fail
      refine (op_v x _ _ _ (N + 8) 188 _ _ (by first | rfl | decide | assumption) HW4.out HZ4.out (by omega)).mono ?_
      rintro e w5 ⟨rfl, h, ho⟩
      have HW5 := Lib.hid h
      have HO5 : Hid (Fr x w0 w5) := Lib.hid (HO4.out.trans ho)
      have HZ5 : Hid ((((intW x.xs 1 ((s.paid.nx x.xs))).nx x.xs).op 188 (10 - 2 * (a : Int))).sz (N + 9)) := Lib.hid ((Ws.sz_op _ _ HZ4.out).more (by omega))
      clear h ho
      go_wp2_with fail
      refine (op_v x _ _ _ (N + 9) 58 _ _ (by first | rfl | decide | assumption) HW5.out HZ5.out (by omega)).mono ?_
      rintro e w6 ⟨rfl, h, ho⟩
      have HW6 := Lib.hid h
      have HO6 : Hid (Fr x w0 w6) := Lib.hid (HO5.out.trans ho)
      have HZ6 : Hid (((((intW x.xs 1 ((s.paid.nx x.xs))).nx x.xs).op 188 (10 - 2 * (a : Int))).op 58 (6 + (a : Int))).sz (N + 10)) := Lib.hid ((Ws.sz_op _ _ HZ5.out).more (by omega))
      clear h ho
      have HE : Hid (FS = (((intW x.xs 1 ((s.paid.nx x.xs))).nx x.xs).op 188 (10 - 2 * (a : Int))).op 58 (6 + (a : Int))) := Lib.hid (by rw [← HFS.out]; unfold stepS; simp [HVv.out, HBD.out, HVa.out])
      go_wp2
      go_end0
      rw [HE.out]
      exact ⟨rfl, HW6.out, HO6.out⟩
    · go_wp2_with fail
      refine (op_v x _ _ _ N 25 _ _ (by first | rfl | decide | assumption) HW2.out HZ2.out (by omega)).mono ?_
      rintro e w3 ⟨rfl, h, ho⟩
      have HW3 := Lib.hid h
      have HO3 : Hid (Fr x w0 w3) := Lib.hid (HO2.out.trans ho)
      have HZ3 : Hid ((((s.paid.nx x.xs)).op 25 6).sz (N + 1)) := Lib.hid ((Ws.sz_op _ _ HZ2.out).more (by omega))
      clear h ho
      go_wp2_with fail
      refine (HI1.out _ _ _ (N + 1) HW3.out HZ3.out (by omega)).mono ?_
      rintro e w4 ⟨rfl, h, ho⟩
      have HW4 := Lib.hid h
      have HO4 : Hid (Fr x w0 w4) := Lib.hid (HO3.out.trans ho)
      have HZ4 : Hid ((intW x.xs 1 (((s.paid.nx x.xs)).op 25 6)).sz (N + 9)) := Lib.hid (((adds_il1 x.xs).1 _ _ HZ3.out).more (by omega))
      clear h ho
      go_wp2_with fail
      refine (HI1.out _ _ _ (N + 9) HW4.out HZ4.out (by omega)).mono ?_
      rintro e w5 ⟨rfl, h, ho⟩
      have HW5 := Lib.hid h
      have HO5 : Hid (Fr x w0 w5) := Lib.hid (HO4.out.trans ho)
      have HZ5 : Hid ((intW x.xs 1 (intW x.xs 1 (((s.paid.nx x.xs)).op 25 6))).sz (N + 17)) := Lib.hid (((adds_il1 x.xs).1 _ _ HZ4.out).more (by omega))
      clear h ho
      go_wp2_with fail
      refine (op_v x _ _ _ (N + 17) 79 _ _ (by first | rfl | decide | assumption) HW5.out HZ5.out (by omega)).mono ?_
      rintro e w6 ⟨rfl, h, ho⟩
      have HW6 := Lib.hid h
      have HO6 : Hid (Fr x w0 w6) := Lib.hid (HO5.out.trans ho)
      have HZ6 : Hid (((intW x.xs 1 (intW x.xs 1 (((s.paid.nx x.xs)).op 25 6))).op 79 0).sz (N + 18)) := Lib.hid ((Ws.sz_op _ _ HZ5.out).more (by omega))
      clear h ho
      have HE : Hid (FS = (intW x.xs 1 (intW x.xs 1 (((s.paid.nx x.xs)).op 25 6))).op 79 0) := Lib.hid (by rw [← HFS.out]; unfold stepS; simp [HVv.out, HBD.out])
      go_wp2
      go_end0
      rw [HE.out]
      exact ⟨rfl, HW6.out, HO6.out⟩
    · obtain ⟨Cd, ncd, ccd, Td, ntd, ctd, Md, nmd, cmd, lmd, hD⟩ := HW2.out
      have hncd : ncd ≤ N := by rw [← hD.code.row.1]; exact HZ2.out.1
      have hc0 : w2.cell? ⟨x.g, 0, none⟩ = some (.pointer (some ⟨x.tp, 0, none⟩)) := hD.blk.cell 0
      have hdr : Below w2.heap.size w2 w2.drew := ((Only.refl Empty w2).drew).below (Nat.le_refl _) (fun _ _ h => h)
      have HDD := Lib.hid (hD.below hdr)
      have HFD := Lib.hid (Fr.of_below (x := x) hdr)
      have hgl := hD.blk.lt
      have c1d : w2.drew.cell? ⟨x.g, 1, none⟩ = some (.slice Cd ncd ccd) := HDD.out.blk.cell 1
      have hc0d : w2.drew.cell? ⟨x.g, 0, none⟩ = some (.pointer (some ⟨x.tp, 0, none⟩)) := HDD.out.blk.cell 0
      obtain ⟨a, ha⟩ : ∃ a, nxV x.xs 3 ((s.paid.nx x.xs)).at_ = a := ⟨_, rfl⟩
      have ba : a < 3 := by rw [← ha]; exact nxV_lt (by omega)
      have HVa := Lib.hid ha
      obtain ⟨b, hb⟩ : ∃ b, nxV x.xs 9 (((s.paid.nx x.xs)).nx x.xs).at_ = b := ⟨_, rfl⟩
      have bb : b < 9 := by rw [← hb]; exact nxV_lt (by omega)
      have HVb := Lib.hid hb
      have CN : Hid (Calls Tryz.prog 57 #[.pointer (some ⟨x.tp, 0, none⟩), .int .i64 3] w2.drew fun e w' => e = .returned (.int .i64 (a : Int)) ∧ WrD x w' D (((s.paid.nx x.xs)).nx x.xs) Cd ncd ccd Td ntd ctd Md nmd cmd lmd ∧ Fr x w2.drew w') := Lib.hid (by
        refine (next_ex x.B x.tp x.A x.n x.cap x.xs _ 3 _ HDD.out.tape (by omega) (by omega)).mono ?_
        rintro e w' ⟨rfl, ht, ho⟩
        exact ⟨by rw [HVa.out], HDD.out.tape_ ho ht, ho.mono (fun i _ e => ow_tape x i e), keep_tape HDD.out ho⟩)
      have CM : Hid (∀ W, WrD x W D (((s.paid.nx x.xs)).nx x.xs) Cd ncd ccd Td ntd ctd Md nmd cmd lmd → Calls Tryz.prog 57 #[.pointer (some ⟨x.tp, 0, none⟩), .int .i64 9] W fun e w' => e = .returned (.int .i64 (b : Int)) ∧ WrD x w' D ((((s.paid.nx x.xs)).nx x.xs).nx x.xs) Cd ncd ccd Td ntd ctd Md nmd cmd lmd ∧ Fr x W w') := Lib.hid (fun W hW => by
        refine (next_ex x.B x.tp x.A x.n x.cap x.xs _ 9 _ hW.tape (by omega) (by omega)).mono ?_
        rintro e w' ⟨rfl, ht, ho⟩
        exact ⟨by rw [HVb.out], hW.tape_ ho ht, ho.mono (fun i _ e => ow_tape x i e), keep_tape hW ho⟩)
      clear hD hdr ha hb
      go_wp2_with fail
      clear c4 c5 hgl2
      refine wp_region_held_drew (S := fun W => W.cell? ⟨x.g, 0, none⟩ = some (.pointer (some ⟨x.tp, 0, none⟩))) (by kernel_rfl) hc0 (fun hHeld0 => ?_)
      refine take_yes 0 17 ?_ rfl rfl (by kernel_rfl) (by kernel_rfl) (by kernel_rfl) (fun _ _ _ h => h) (by kernel_rfl) ?_ (by assumption) ?_; rotate_left; (focus (intro w hSw; (try dsimp only at hSw); go_simp; all_goals first | with_reducible rfl)); simp only [Act.put, List.setIfInBounds_toArray, List.set_cons_zero, List.set_cons_succ]
      refine take_yes 1 18 ?_ rfl rfl (by kernel_rfl) (by kernel_rfl) (by kernel_rfl) (fun _ _ _ h => h) (by kernel_rfl) ?_ (by assumption) ?_; rotate_left; (focus (intro w hSw; (try dsimp only at hSw); go_simp; all_goals first | with_reducible rfl)); simp only [Act.put, List.setIfInBounds_toArray, List.set_cons_zero, List.set_cons_succ]
      refine take_yes 2 19 ?_ rfl rfl (by kernel_rfl) (by kernel_rfl) (by kernel_rfl) (fun _ _ _ h => h) (by kernel_rfl) ?_ (by assumption) ?_; rotate_left; (focus (intro w hSw; (try dsimp only at hSw); go_simp; all_goals first | with_reducible rfl)); simp only [Act.put, List.setIfInBounds_toArray, List.set_cons_zero, List.set_cons_succ]
      refine take_yes 3 20 ?_ rfl rfl (by kernel_rfl) (by kernel_rfl) (by kernel_rfl) (fun _ _ _ h => h) (by kernel_rfl) ?_ (by assumption) ?_; rotate_left; (focus (intro w hSw; (try dsimp only at hSw); go_simp; all_goals first | with_reducible rfl)); simp only [Act.put, List.setIfInBounds_toArray, List.set_cons_zero, List.set_cons_succ]
      refine take_yes 5 22 ?_ rfl rfl (by kernel_rfl) (by kernel_rfl) (by kernel_rfl) (fun _ _ _ h => h) (by kernel_rfl) ?_ (by assumption) ?_; rotate_left; (focus (intro w hSw; (try dsimp only at hSw); go_simp; all_goals first | with_reducible rfl)); simp only [Act.put, List.setIfInBounds_toArray, List.set_cons_zero, List.set_cons_succ]
      refine take_yes 6 23 ?_ rfl rfl (by kernel_rfl) (by kernel_rfl) (by kernel_rfl) (fun _ _ _ h => h) (by kernel_rfl) ?_ (by assumption) ?_; rotate_left; (focus (intro w hSw; (try dsimp only at hSw); go_simp; all_goals first | with_reducible rfl)); simp only [Act.put, List.setIfInBounds_toArray, List.set_cons_zero, List.set_cons_succ]
      refine take_yes 7 24 ?_ rfl rfl (by kernel_rfl) (by kernel_rfl) (by kernel_rfl) (fun _ _ _ h => h) (by kernel_rfl) ?_ (by assumption) ?_; rotate_left; (focus (intro w hSw; (try dsimp only at hSw); go_simp; all_goals first | with_reducible rfl)); simp only [Act.put, List.setIfInBounds_toArray, List.set_cons_zero, List.set_cons_succ]
      refine take_yes 8 25 ?_ rfl rfl (by kernel_rfl) (by kernel_rfl) (by kernel_rfl) (fun _ _ _ h => h) (by kernel_rfl) ?_ (by assumption) ?_; rotate_left; (focus (intro w hSw; (try dsimp only at hSw); go_simp; all_goals first | with_reducible rfl)); simp only [Act.put, List.setIfInBounds_toArray, List.set_cons_zero, List.set_cons_succ]
      refine take_yes 10 27 ?_ rfl rfl (by kernel_rfl) (by kernel_rfl) (by kernel_rfl) (fun _ _ _ h => h) (by kernel_rfl) ?_ (by assumption) ?_; rotate_left; (focus (intro w hSw; (try dsimp only at hSw); go_simp; all_goals first | with_reducible rfl)); simp only [Act.put, List.setIfInBounds_toArray, List.set_cons_zero, List.set_cons_succ]
      refine take_yes 11 28 ?_ rfl rfl (by kernel_rfl) (by kernel_rfl) (by kernel_rfl) (fun _ _ _ h => h) (by kernel_rfl) ?_ (by assumption) ?_; rotate_left; (focus (intro w hSw; (try dsimp only at hSw); go_simp; all_goals first | with_reducible rfl)); simp only [Act.put, List.setIfInBounds_toArray, List.set_cons_zero, List.set_cons_succ]
      refine take_yes 12 29 ?_ rfl rfl (by kernel_rfl) (by kernel_rfl) (by kernel_rfl) (fun _ _ _ h => h) (by kernel_rfl) ?_ (by assumption) ?_; rotate_left; (focus (intro w hSw; (try dsimp only at hSw); go_simp; all_goals first | with_reducible rfl)); simp only [Act.put, List.setIfInBounds_toArray, List.set_cons_zero, List.set_cons_succ]
      refine take_yes 13 30 ?_ rfl rfl (by kernel_rfl) (by kernel_rfl) (by kernel_rfl) (fun _ _ _ h => h) (by kernel_rfl) ?_ (by assumption) ?_; rotate_left; (focus (intro w hSw; (try dsimp only at hSw); go_simp; all_goals first | with_reducible rfl)); simp only [Act.put, List.setIfInBounds_toArray, List.set_cons_zero, List.set_cons_succ]
      refine wpAnyH_ready (rs := [4, 9]) (by kernel_rfl) (by simp) ?_
      refine AllReadyH.cons rfl (fun K hK => ?_) (AllReadyH.cons rfl (fun K hK => ?_) AllReadyH.nil)
      · go_simp
        refine hK.out _ _ (hc0d) (fun _ => ?_)
        clear hK K
        try simp only [Act.put, List.setIfInBounds_toArray, List.set_cons_zero, List.set_cons_succ]
        refine wpAnyH_ready (rs := [9]) (by kernel_rfl) (by simp) ?_
        refine AllReadyH.cons rfl (fun K hK => ?_) AllReadyH.nil
        go_simp
        go_at_call 57; (refine CN.out.mono ?_); rintro e wn ⟨rfl, hDn, hFn⟩
        have HDN := Lib.hid hDn
        have HFN := Lib.hid (HFD.out.trans hFn)
        have hSn : wn.cell? ⟨x.g, 0, none⟩ = some (.pointer (some ⟨x.tp, 0, none⟩)) := hDn.blk.cell 0
        have c1n : wn.cell? ⟨x.g, 1, none⟩ = some (.slice Cd ncd ccd) := hDn.blk.cell 1
        clear hDn hFn
        go_wp2_with fail
        refine hK.out _ _ (hSn) (fun _ => ?_)
        clear hK K
        try simp only [Act.put, List.setIfInBounds_toArray, List.set_cons_zero, List.set_cons_succ]
        refine wpAnyH_ready (rs := [14]) (by kernel_rfl) (by simp) ?_
        refine AllReadyH.cons rfl (fun K hK => ?_) AllReadyH.nil
        go_simp
        go_at_call 57; (refine (CM.out _ HDN.out).mono ?_); rintro e wm ⟨rfl, hDm, hFm⟩
        have HDM := Lib.hid hDm
        have HFM := Lib.hid (HFN.out.trans hFm)
        have hSm : wm.cell? ⟨x.g, 0, none⟩ = some (.pointer (some ⟨x.tp, 0, none⟩)) := hDm.blk.cell 0
        have c1m : wm.cell? ⟨x.g, 1, none⟩ = some (.slice Cd ncd ccd) := hDm.blk.cell 1
        clear hDm hFm
        go_wp2_with fail
        refine hK.out _ _ (hSm) (fun _ => ?_)
        clear hK K
        try simp only [Act.put, List.setIfInBounds_toArray, List.set_cons_zero, List.set_cons_succ]
        have hq2 : IntKind.i64.wrap ((b : Int) - 4) = (b : Int) - 4 := by rw [IntKind.wrap_i64]; omega
        refine take_yes 15 32 (.int .i64 ((b : Int) - 4)) rfl rfl (by kernel_rfl) (by kernel_rfl) (by kernel_rfl) (fun _ _ _ h => h) (by kernel_rfl) ?_ (by assumption) ?_; (focus (intro w hSw; (try dsimp only at hSw); go_simp; all_goals first | with_reducible rfl | simp [hq2])); simp only [Act.put, List.setIfInBounds_toArray, List.set_cons_zero, List.set_cons_succ]
        refine take_yes 16 33 ?_ rfl rfl (by kernel_rfl) (by kernel_rfl) (by kernel_rfl) (fun _ _ _ h => h) (by kernel_rfl) ?_ (by assumption) ?_; rotate_left; (focus (intro w hSw; (try dsimp only at hSw); go_simp; all_goals first | with_reducible rfl)); simp only [Act.put, List.setIfInBounds_toArray, List.set_cons_zero, List.set_cons_succ]
        have hbl := belowA wm (.cells (inC (⟨132, (a : Int), (b : Int) - 4, [], [], [], []⟩ : InD)).toArray 98)
        have hDl := HDM.out.below hbl
        have HBL : Hid (Blk (wm.alloc (.cells (inC (⟨132, (a : Int), (b : Int) - 4, [], [], [], []⟩ : InD)).toArray 98)) wm.heap.size 98 (inC (⟨132, (a : Int), (b : Int) - 4, [], [], [], []⟩ : InD)).toArray) := Lib.hid (Blk.new _ _ _)
        have hSl : (wm.alloc (.cells (inC (⟨132, (a : Int), (b : Int) - 4, [], [], [], []⟩ : InD)).toArray 98)).cell? ⟨x.g, 0, none⟩ = some (.pointer (some ⟨x.tp, 0, none⟩)) := hDl.blk.cell 0
        have c1l : (wm.alloc (.cells #[.int .u8 132, .int .i64 (a : Int), .int .i64 ((b : Int) - 4), .string ⟨#[]⟩, .string ⟨#[]⟩, .string ⟨#[]⟩, .string ⟨#[]⟩] 98)).cell? ⟨x.g, 1, none⟩ = some (.slice Cd ncd ccd) := hDl.blk.cell 1
        have hb0l := hDl.b0
        obtain ⟨A3, c3, w3, hrun, hG, hg, hr⟩ := run_append_rows (S := Empty) inC_len inC_one (by decide) 37 98 _ 88 Tryz.underlying37 Tryz.infoIn (by simp [Value.cells]) (by decide) 37 x.b0 Cd ncd ccd ((s.paid.nx x.xs)).code hDl.code ⟨wm.heap.size, 0, none⟩ 1 1 [(⟨132, (a : Int), (b : Int) - 4, [], [], [], []⟩ : InD)] (RowSl.of_blk inC_len HBL.out rfl (Nat.le_refl _) (by unfold maxLen; omega) (fun j _ => by simp) (fun h => h)) (by omega) hb0l
        have hgo := ne_own hDl.code hDl.blk (show 98 ≠ 166 by decide)
        have s1 : w3.cell? ⟨x.g, 1, none⟩ = some (.slice Cd ncd ccd) := ((only_grown hg hr).cell (p := ⟨x.g, 1, none⟩) hDl.blk.lt hgo).trans (hDl.blk.cell 1)
        have s0 : w3.cell? ⟨x.g, 0, none⟩ = some (.pointer (some ⟨x.tp, 0, none⟩)) := ((only_grown hg hr).cell (p := ⟨x.g, 0, none⟩) hDl.blk.lt hgo).trans hSl
        have s2 : w3.frozen? ⟨x.g, 1, none⟩ = false := ((only_grown hg hr).blk hDl.blk hgo).frozen 1
        obtain ⟨hP, hF⟩ := hDl.push hG hg hr
        obtain ⟨w3, hwe⟩ : ∃ W, w3.setCell ⟨x.g, 1, none⟩ (.slice A3 (ncd + 1) c3) = W := ⟨_, rfl⟩
        rw [hwe] at hP hF
        have hSe : w3.cell? ⟨x.g, 0, none⟩ = some (.pointer (some ⟨x.tp, 0, none⟩)) := hP.blk.cell 0
        have h : WrS x w3 D (((((s.paid.nx x.xs)).nx x.xs).nx x.xs).push ⟨132, (a : Int), (b : Int) - 4, [], [], [], []⟩) := ⟨A3, ncd + 1, c3, Td, ntd, ctd, Md, nmd, cmd, lmd, hP⟩
        have ho : Fr x w2 w3 := (HFM.out.trans (Fr.of_below hbl)).trans hF
        have HWE := Lib.hid hwe
        have HWX := Lib.hid h
        have HOX := Lib.hid ho
        simp only [inC] at hSl hrun
        clear hbl hDl hG hg hr hgo hP hF hwe h ho
        refine wpAnyH_ready (rs := [17]) (by kernel_rfl) (by simp) ?_
        refine AllReadyH.cons rfl (fun K hK => ?_) AllReadyH.nil
        go_simp
        refine hK.out _ _ (hSl) (fun _ => ?_)
        clear hK K
        try simp only [Act.put, List.setIfInBounds_toArray, List.set_cons_zero, List.set_cons_succ]
        refine wpAnyH_ready (rs := [18]) (by kernel_rfl) (by simp) ?_
        refine AllReadyH.cons rfl (fun K hK => ?_) AllReadyH.nil
        refine step_append_eq (ts := 37) rfl (.tmp 21) (.tmp 34) rfl rfl rfl rfl hrun ?_
        show K (Act.put _ (some 35) _) _
        refine hK.out _ _ (s0) (fun _ => ?_)
        clear hK K
        try simp only [Act.put, List.setIfInBounds_toArray, List.set_cons_zero, List.set_cons_succ]
        refine take_yes 19 36 ?_ rfl rfl (by kernel_rfl) (by kernel_rfl) (by kernel_rfl) (fun _ _ _ h => h) (by kernel_rfl) ?_ (by assumption) ?_; rotate_left; (focus (intro w hSw; (try dsimp only at hSw); go_simp; all_goals first | with_reducible rfl)); simp only [Act.put, List.setIfInBounds_toArray, List.set_cons_zero, List.set_cons_succ]
        refine take_yes 20 37 ?_ rfl rfl (by kernel_rfl) (by kernel_rfl) (by kernel_rfl) (fun _ _ _ h => h) (by kernel_rfl) ?_ (by assumption) ?_; rotate_left; (focus (intro w hSw; (try dsimp only at hSw); go_simp; all_goals first | with_reducible rfl)); simp only [Act.put, List.setIfInBounds_toArray, List.set_cons_zero, List.set_cons_succ]
        refine wpAnyH_ready (rs := [21]) (by kernel_rfl) (by simp) ?_
        refine AllReadyH.cons rfl (fun K hK => ?_) AllReadyH.nil
        go_simp
        rw [HWE.out]
        refine hK.out _ _ (hSe) (fun _ => ?_)
        clear hK K
        try simp only [Act.put, List.setIfInBounds_toArray, List.set_cons_zero, List.set_cons_succ]
        refine wpAnyH_done (by kernel_rfl) ?_ _
        clear hSe s0 s1 s2 hSn c1n hSm c1m c1l hSl hrun hHeld0
        have h := HWX.out
        have ho := HOX.out
        have HW3 := Lib.hid h
        have HO3 : Hid (Fr x w0 w3) := Lib.hid (HO2.out.trans ho)
        have HZ3 : Hid ((((((s.paid.nx x.xs)).nx x.xs).nx x.xs).push ⟨132, (a : Int), (b : Int) - 4, [], [], [], []⟩).sz (N + 1)) := Lib.hid ((Ws.sz_push _ (Ws.sz_nx x.xs (Ws.sz_nx x.xs HZ2.out))).more (by omega))
        clear h ho
        have HE : Hid (FS = ((((s.paid.nx x.xs)).nx x.xs).nx x.xs).push ⟨132, (a : Int), (b : Int) - 4, [], [], [], []⟩) := Lib.hid (by rw [← HFS.out]; unfold stepS; simp [HVv.out, HBD.out, HVa.out, HVb.out])
        go_wp2
        go_end0
        rw [HE.out]
        exact ⟨rfl, HW3.out, HO3.out⟩
      · go_simp
        go_at_call 57; (refine CN.out.mono ?_); rintro e wn ⟨rfl, hDn, hFn⟩
        have HDN := Lib.hid hDn
        have HFN := Lib.hid (HFD.out.trans hFn)
        have hSn : wn.cell? ⟨x.g, 0, none⟩ = some (.pointer (some ⟨x.tp, 0, none⟩)) := hDn.blk.cell 0
        have c1n : wn.cell? ⟨x.g, 1, none⟩ = some (.slice Cd ncd ccd) := hDn.blk.cell 1
        clear hDn hFn
        go_wp2_with fail
        refine hK.out _ _ (hSn) (fun _ => ?_)
        clear hK K
        try simp only [Act.put, List.setIfInBounds_toArray, List.set_cons_zero, List.set_cons_succ]
        refine wpAnyH_ready (rs := [4, 14]) (by kernel_rfl) (by simp) ?_
        refine AllReadyH.cons rfl (fun K hK => ?_) (AllReadyH.cons rfl (fun K hK => ?_) AllReadyH.nil)
        · go_simp
          refine hK.out _ _ (hSn) (fun _ => ?_)
          clear hK K
          try simp only [Act.put, List.setIfInBounds_toArray, List.set_cons_zero, List.set_cons_succ]
          refine wpAnyH_ready (rs := [14]) (by kernel_rfl) (by simp) ?_
          refine AllReadyH.cons rfl (fun K hK => ?_) AllReadyH.nil
          go_simp
          go_at_call 57; (refine (CM.out _ HDN.out).mono ?_); rintro e wm ⟨rfl, hDm, hFm⟩
          have HDM := Lib.hid hDm
          have HFM := Lib.hid (HFN.out.trans hFm)
          have hSm : wm.cell? ⟨x.g, 0, none⟩ = some (.pointer (some ⟨x.tp, 0, none⟩)) := hDm.blk.cell 0
          have c1m : wm.cell? ⟨x.g, 1, none⟩ = some (.slice Cd ncd ccd) := hDm.blk.cell 1
          clear hDm hFm
          go_wp2_with fail
          refine hK.out _ _ (hSm) (fun _ => ?_)
          clear hK K
          try simp only [Act.put, List.setIfInBounds_toArray, List.set_cons_zero, List.set_cons_succ]
          have hq2 : IntKind.i64.wrap ((b : Int) - 4) = (b : Int) - 4 := by rw [IntKind.wrap_i64]; omega
          refine take_yes 15 32 (.int .i64 ((b : Int) - 4)) rfl rfl (by kernel_rfl) (by kernel_rfl) (by kernel_rfl) (fun _ _ _ h => h) (by kernel_rfl) ?_ (by assumption) ?_; (focus (intro w hSw; (try dsimp only at hSw); go_simp; all_goals first | with_reducible rfl | simp [hq2])); simp only [Act.put, List.setIfInBounds_toArray, List.set_cons_zero, List.set_cons_succ]
          refine take_yes 16 33 ?_ rfl rfl (by kernel_rfl) (by kernel_rfl) (by kernel_rfl) (fun _ _ _ h => h) (by kernel_rfl) ?_ (by assumption) ?_; rotate_left; (focus (intro w hSw; (try dsimp only at hSw); go_simp; all_goals first | with_reducible rfl)); simp only [Act.put, List.setIfInBounds_toArray, List.set_cons_zero, List.set_cons_succ]
          have hbl := belowA wm (.cells (inC (⟨132, (a : Int), (b : Int) - 4, [], [], [], []⟩ : InD)).toArray 98)
          have hDl := HDM.out.below hbl
          have HBL : Hid (Blk (wm.alloc (.cells (inC (⟨132, (a : Int), (b : Int) - 4, [], [], [], []⟩ : InD)).toArray 98)) wm.heap.size 98 (inC (⟨132, (a : Int), (b : Int) - 4, [], [], [], []⟩ : InD)).toArray) := Lib.hid (Blk.new _ _ _)
          have hSl : (wm.alloc (.cells (inC (⟨132, (a : Int), (b : Int) - 4, [], [], [], []⟩ : InD)).toArray 98)).cell? ⟨x.g, 0, none⟩ = some (.pointer (some ⟨x.tp, 0, none⟩)) := hDl.blk.cell 0
          have c1l : (wm.alloc (.cells #[.int .u8 132, .int .i64 (a : Int), .int .i64 ((b : Int) - 4), .string ⟨#[]⟩, .string ⟨#[]⟩, .string ⟨#[]⟩, .string ⟨#[]⟩] 98)).cell? ⟨x.g, 1, none⟩ = some (.slice Cd ncd ccd) := hDl.blk.cell 1
          have hb0l := hDl.b0
          obtain ⟨A3, c3, w3, hrun, hG, hg, hr⟩ := run_append_rows (S := Empty) inC_len inC_one (by decide) 37 98 _ 88 Tryz.underlying37 Tryz.infoIn (by simp [Value.cells]) (by decide) 37 x.b0 Cd ncd ccd ((s.paid.nx x.xs)).code hDl.code ⟨wm.heap.size, 0, none⟩ 1 1 [(⟨132, (a : Int), (b : Int) - 4, [], [], [], []⟩ : InD)] (RowSl.of_blk inC_len HBL.out rfl (Nat.le_refl _) (by unfold maxLen; omega) (fun j _ => by simp) (fun h => h)) (by omega) hb0l
          have hgo := ne_own hDl.code hDl.blk (show 98 ≠ 166 by decide)
          have s1 : w3.cell? ⟨x.g, 1, none⟩ = some (.slice Cd ncd ccd) := ((only_grown hg hr).cell (p := ⟨x.g, 1, none⟩) hDl.blk.lt hgo).trans (hDl.blk.cell 1)
          have s0 : w3.cell? ⟨x.g, 0, none⟩ = some (.pointer (some ⟨x.tp, 0, none⟩)) := ((only_grown hg hr).cell (p := ⟨x.g, 0, none⟩) hDl.blk.lt hgo).trans hSl
          have s2 : w3.frozen? ⟨x.g, 1, none⟩ = false := ((only_grown hg hr).blk hDl.blk hgo).frozen 1
          obtain ⟨hP, hF⟩ := hDl.push hG hg hr
          obtain ⟨w3, hwe⟩ : ∃ W, w3.setCell ⟨x.g, 1, none⟩ (.slice A3 (ncd + 1) c3) = W := ⟨_, rfl⟩
          rw [hwe] at hP hF
          have hSe : w3.cell? ⟨x.g, 0, none⟩ = some (.pointer (some ⟨x.tp, 0, none⟩)) := hP.blk.cell 0
          have h : WrS x w3 D (((((s.paid.nx x.xs)).nx x.xs).nx x.xs).push ⟨132, (a : Int), (b : Int) - 4, [], [], [], []⟩) := ⟨A3, ncd + 1, c3, Td, ntd, ctd, Md, nmd, cmd, lmd, hP⟩
          have ho : Fr x w2 w3 := (HFM.out.trans (Fr.of_below hbl)).trans hF
          have HWE := Lib.hid hwe
          have HWX := Lib.hid h
          have HOX := Lib.hid ho
          simp only [inC] at hSl hrun
          clear hbl hDl hG hg hr hgo hP hF hwe h ho
          refine wpAnyH_ready (rs := [17]) (by kernel_rfl) (by simp) ?_
          refine AllReadyH.cons rfl (fun K hK => ?_) AllReadyH.nil
          go_simp
          refine hK.out _ _ (hSl) (fun _ => ?_)
          clear hK K
          try simp only [Act.put, List.setIfInBounds_toArray, List.set_cons_zero, List.set_cons_succ]
          refine wpAnyH_ready (rs := [18]) (by kernel_rfl) (by simp) ?_
          refine AllReadyH.cons rfl (fun K hK => ?_) AllReadyH.nil
          refine step_append_eq (ts := 37) rfl (.tmp 21) (.tmp 34) rfl rfl rfl rfl hrun ?_
          show K (Act.put _ (some 35) _) _
          refine hK.out _ _ (s0) (fun _ => ?_)
          clear hK K
          try simp only [Act.put, List.setIfInBounds_toArray, List.set_cons_zero, List.set_cons_succ]
          refine take_yes 19 36 ?_ rfl rfl (by kernel_rfl) (by kernel_rfl) (by kernel_rfl) (fun _ _ _ h => h) (by kernel_rfl) ?_ (by assumption) ?_; rotate_left; (focus (intro w hSw; (try dsimp only at hSw); go_simp; all_goals first | with_reducible rfl)); simp only [Act.put, List.setIfInBounds_toArray, List.set_cons_zero, List.set_cons_succ]
          refine take_yes 20 37 ?_ rfl rfl (by kernel_rfl) (by kernel_rfl) (by kernel_rfl) (fun _ _ _ h => h) (by kernel_rfl) ?_ (by assumption) ?_; rotate_left; (focus (intro w hSw; (try dsimp only at hSw); go_simp; all_goals first | with_reducible rfl)); simp only [Act.put, List.setIfInBounds_toArray, List.set_cons_zero, List.set_cons_succ]
          refine wpAnyH_ready (rs := [21]) (by kernel_rfl) (by simp) ?_
          refine AllReadyH.cons rfl (fun K hK => ?_) AllReadyH.nil
          go_simp
          rw [HWE.out]
          refine hK.out _ _ (hSe) (fun _ => ?_)
          clear hK K
          try simp only [Act.put, List.setIfInBounds_toArray, List.set_cons_zero, List.set_cons_succ]
          refine wpAnyH_done (by kernel_rfl) ?_ _
          clear hSe s0 s1 s2 hSn c1n hSm c1m c1l hSl hrun hHeld0
          have h := HWX.out
          have ho := HOX.out
          have HW3 := Lib.hid h
          have HO3 : Hid (Fr x w0 w3) := Lib.hid (HO2.out.trans ho)
          have HZ3 : Hid ((((((s.paid.nx x.xs)).nx x.xs).nx x.xs).push ⟨132, (a : Int), (b : Int) - 4, [], [], [], []⟩).sz (N + 1)) := Lib.hid ((Ws.sz_push _ (Ws.sz_nx x.xs (Ws.sz_nx x.xs HZ2.out))).more (by omega))
          clear h ho
          have HE : Hid (FS = ((((s.paid.nx x.xs)).nx x.xs).nx x.xs).push ⟨132, (a : Int), (b : Int) - 4, [], [], [], []⟩) := Lib.hid (by rw [← HFS.out]; unfold stepS; simp [HVv.out, HBD.out, HVa.out, HVb.out])
          go_wp2
          go_end0
          rw [HE.out]
          exact ⟨rfl, HW3.out, HO3.out⟩
        · go_simp
          go_at_call 57; (refine (CM.out _ HDN.out).mono ?_); rintro e wm ⟨rfl, hDm, hFm⟩
          have HDM := Lib.hid hDm
          have HFM := Lib.hid (HFN.out.trans hFm)
          have hSm : wm.cell? ⟨x.g, 0, none⟩ = some (.pointer (some ⟨x.tp, 0, none⟩)) := hDm.blk.cell 0
          have c1m : wm.cell? ⟨x.g, 1, none⟩ = some (.slice Cd ncd ccd) := hDm.blk.cell 1
          clear hDm hFm
          go_wp2_with fail
          refine hK.out _ _ (hSm) (fun _ => ?_)
          clear hK K
          try simp only [Act.put, List.setIfInBounds_toArray, List.set_cons_zero, List.set_cons_succ]
          have hq2 : IntKind.i64.wrap ((b : Int) - 4) = (b : Int) - 4 := by rw [IntKind.wrap_i64]; omega
          refine take_yes 15 32 (.int .i64 ((b : Int) - 4)) rfl rfl (by kernel_rfl) (by kernel_rfl) (by kernel_rfl) (fun _ _ _ h => h) (by kernel_rfl) ?_ (by assumption) ?_; (focus (intro w hSw; (try dsimp only at hSw); go_simp; all_goals first | with_reducible rfl | simp [hq2])); simp only [Act.put, List.setIfInBounds_toArray, List.set_cons_zero, List.set_cons_succ]
          refine take_yes 16 33 ?_ rfl rfl (by kernel_rfl) (by kernel_rfl) (by kernel_rfl) (fun _ _ _ h => h) (by kernel_rfl) ?_ (by assumption) ?_; rotate_left; (focus (intro w hSw; (try dsimp only at hSw); go_simp; all_goals first | with_reducible rfl)); simp only [Act.put, List.setIfInBounds_toArray, List.set_cons_zero, List.set_cons_succ]
          have hbl := belowA wm (.cells (inC (⟨132, (a : Int), (b : Int) - 4, [], [], [], []⟩ : InD)).toArray 98)
          have hDl := HDM.out.below hbl
          have HBL : Hid (Blk (wm.alloc (.cells (inC (⟨132, (a : Int), (b : Int) - 4, [], [], [], []⟩ : InD)).toArray 98)) wm.heap.size 98 (inC (⟨132, (a : Int), (b : Int) - 4, [], [], [], []⟩ : InD)).toArray) := Lib.hid (Blk.new _ _ _)
          have hSl : (wm.alloc (.cells (inC (⟨132, (a : Int), (b : Int) - 4, [], [], [], []⟩ : InD)).toArray 98)).cell? ⟨x.g, 0, none⟩ = some (.pointer (some ⟨x.tp, 0, none⟩)) := hDl.blk.cell 0
          have c1l : (wm.alloc (.cells #[.int .u8 132, .int .i64 (a : Int), .int .i64 ((b : Int) - 4), .string ⟨#[]⟩, .string ⟨#[]⟩, .string ⟨#[]⟩, .string ⟨#[]⟩] 98)).cell? ⟨x.g, 1, none⟩ = some (.slice Cd ncd ccd) := hDl.blk.cell 1
          have hb0l := hDl.b0
          obtain ⟨A3, c3, w3, hrun, hG, hg, hr⟩ := run_append_rows (S := Empty) inC_len inC_one (by decide) 37 98 _ 88 Tryz.underlying37 Tryz.infoIn (by simp [Value.cells]) (by decide) 37 x.b0 Cd ncd ccd ((s.paid.nx x.xs)).code hDl.code ⟨wm.heap.size, 0, none⟩ 1 1 [(⟨132, (a : Int), (b : Int) - 4, [], [], [], []⟩ : InD)] (RowSl.of_blk inC_len HBL.out rfl (Nat.le_refl _) (by unfold maxLen; omega) (fun j _ => by simp) (fun h => h)) (by omega) hb0l
          have hgo := ne_own hDl.code hDl.blk (show 98 ≠ 166 by decide)
          have s1 : w3.cell? ⟨x.g, 1, none⟩ = some (.slice Cd ncd ccd) := ((only_grown hg hr).cell (p := ⟨x.g, 1, none⟩) hDl.blk.lt hgo).trans (hDl.blk.cell 1)
          have s0 : w3.cell? ⟨x.g, 0, none⟩ = some (.pointer (some ⟨x.tp, 0, none⟩)) := ((only_grown hg hr).cell (p := ⟨x.g, 0, none⟩) hDl.blk.lt hgo).trans hSl
          have s2 : w3.frozen? ⟨x.g, 1, none⟩ = false := ((only_grown hg hr).blk hDl.blk hgo).frozen 1
          obtain ⟨hP, hF⟩ := hDl.push hG hg hr
          obtain ⟨w3, hwe⟩ : ∃ W, w3.setCell ⟨x.g, 1, none⟩ (.slice A3 (ncd + 1) c3) = W := ⟨_, rfl⟩
          rw [hwe] at hP hF
          have hSe : w3.cell? ⟨x.g, 0, none⟩ = some (.pointer (some ⟨x.tp, 0, none⟩)) := hP.blk.cell 0
          have h : WrS x w3 D (((((s.paid.nx x.xs)).nx x.xs).nx x.xs).push ⟨132, (a : Int), (b : Int) - 4, [], [], [], []⟩) := ⟨A3, ncd + 1, c3, Td, ntd, ctd, Md, nmd, cmd, lmd, hP⟩
          have ho : Fr x w2 w3 := (HFM.out.trans (Fr.of_below hbl)).trans hF
          have HWE := Lib.hid hwe
          have HWX := Lib.hid h
          have HOX := Lib.hid ho
          simp only [inC] at hSl hrun
          clear hbl hDl hG hg hr hgo hP hF hwe h ho
          refine wpAnyH_ready (rs := [4, 17]) (by kernel_rfl) (by simp) ?_
          refine AllReadyH.cons rfl (fun K hK => ?_) (AllReadyH.cons rfl (fun K hK => ?_) AllReadyH.nil)
          · go_simp
            refine hK.out _ _ (hSm) (fun _ => ?_)
            clear hK K
            try simp only [Act.put, List.setIfInBounds_toArray, List.set_cons_zero, List.set_cons_succ]
            refine wpAnyH_ready (rs := [17]) (by kernel_rfl) (by simp) ?_
            refine AllReadyH.cons rfl (fun K hK => ?_) AllReadyH.nil
            go_simp
            refine hK.out _ _ (hSl) (fun _ => ?_)
            clear hK K
            try simp only [Act.put, List.setIfInBounds_toArray, List.set_cons_zero, List.set_cons_succ]
            refine wpAnyH_ready (rs := [18]) (by kernel_rfl) (by simp) ?_
            refine AllReadyH.cons rfl (fun K hK => ?_) AllReadyH.nil
            refine step_append_eq (ts := 37) rfl (.tmp 21) (.tmp 34) rfl rfl rfl rfl hrun ?_
            show K (Act.put _ (some 35) _) _
            refine hK.out _ _ (s0) (fun _ => ?_)
            clear hK K
            try simp only [Act.put, List.setIfInBounds_toArray, List.set_cons_zero, List.set_cons_succ]
            refine take_yes 19 36 ?_ rfl rfl (by kernel_rfl) (by kernel_rfl) (by kernel_rfl) (fun _ _ _ h => h) (by kernel_rfl) ?_ (by assumption) ?_; rotate_left; (focus (intro w hSw; (try dsimp only at hSw); go_simp; all_goals first | with_reducible rfl)); simp only [Act.put, List.setIfInBounds_toArray, List.set_cons_zero, List.set_cons_succ]
            refine take_yes 20 37 ?_ rfl rfl (by kernel_rfl) (by kernel_rfl) (by kernel_rfl) (fun _ _ _ h => h) (by kernel_rfl) ?_ (by assumption) ?_; rotate_left; (focus (intro w hSw; (try dsimp only at hSw); go_simp; all_goals first | with_reducible rfl)); simp only [Act.put, List.setIfInBounds_toArray, List.set_cons_zero, List.set_cons_succ]
            refine wpAnyH_ready (rs := [21]) (by kernel_rfl) (by simp) ?_
            refine AllReadyH.cons rfl (fun K hK => ?_) AllReadyH.nil
            go_simp
            rw [HWE.out]
            refine hK.out _ _ (hSe) (fun _ => ?_)
            clear hK K
            try simp only [Act.put, List.setIfInBounds_toArray, List.set_cons_zero, List.set_cons_succ]
            refine wpAnyH_done (by kernel_rfl) ?_ _
            clear hSe s0 s1 s2 hSn c1n hSm c1m c1l hSl hrun hHeld0
            have h := HWX.out
            have ho := HOX.out
            have HW3 := Lib.hid h
            have HO3 : Hid (Fr x w0 w3) := Lib.hid (HO2.out.trans ho)
            have HZ3 : Hid ((((((s.paid.nx x.xs)).nx x.xs).nx x.xs).push ⟨132, (a : Int), (b : Int) - 4, [], [], [], []⟩).sz (N + 1)) := Lib.hid ((Ws.sz_push _ (Ws.sz_nx x.xs (Ws.sz_nx x.xs HZ2.out))).more (by omega))
            clear h ho
            have HE : Hid (FS = ((((s.paid.nx x.xs)).nx x.xs).nx x.xs).push ⟨132, (a : Int), (b : Int) - 4, [], [], [], []⟩) := Lib.hid (by rw [← HFS.out]; unfold stepS; simp [HVv.out, HBD.out, HVa.out, HVb.out])
            go_wp2
            go_end0
            rw [HE.out]
            exact ⟨rfl, HW3.out, HO3.out⟩
          · go_simp
            refine hK.out _ _ (hSl) (fun _ => ?_)
            clear hK K
            try simp only [Act.put, List.setIfInBounds_toArray, List.set_cons_zero, List.set_cons_succ]
            refine wpAnyH_ready (rs := [4]) (by kernel_rfl) (by simp) ?_
            refine AllReadyH.cons rfl (fun K hK => ?_) AllReadyH.nil
            go_simp
            refine hK.out _ _ (hSl) (fun _ => ?_)
            clear hK K
            try simp only [Act.put, List.setIfInBounds_toArray, List.set_cons_zero, List.set_cons_succ]
            refine wpAnyH_ready (rs := [18]) (by kernel_rfl) (by simp) ?_
            refine AllReadyH.cons rfl (fun K hK => ?_) AllReadyH.nil
            refine step_append_eq (ts := 37) rfl (.tmp 21) (.tmp 34) rfl rfl rfl rfl hrun ?_
            show K (Act.put _ (some 35) _) _
            refine hK.out _ _ (s0) (fun _ => ?_)
            clear hK K
            try simp only [Act.put, List.setIfInBounds_toArray, List.set_cons_zero, List.set_cons_succ]
            refine take_yes 19 36 ?_ rfl rfl (by kernel_rfl) (by kernel_rfl) (by kernel_rfl) (fun _ _ _ h => h) (by kernel_rfl) ?_ (by assumption) ?_; rotate_left; (focus (intro w hSw; (try dsimp only at hSw); go_simp; all_goals first | with_reducible rfl)); simp only [Act.put, List.setIfInBounds_toArray, List.set_cons_zero, List.set_cons_succ]
            refine take_yes 20 37 ?_ rfl rfl (by kernel_rfl) (by kernel_rfl) (by kernel_rfl) (fun _ _ _ h => h) (by kernel_rfl) ?_ (by assumption) ?_; rotate_left; (focus (intro w hSw; (try dsimp only at hSw); go_simp; all_goals first | with_reducible rfl)); simp only [Act.put, List.setIfInBounds_toArray, List.set_cons_zero, List.set_cons_succ]
            refine wpAnyH_ready (rs := [21]) (by kernel_rfl) (by simp) ?_
            refine AllReadyH.cons rfl (fun K hK => ?_) AllReadyH.nil
            go_simp
            rw [HWE.out]
            refine hK.out _ _ (hSe) (fun _ => ?_)
            clear hK K
            try simp only [Act.put, List.setIfInBounds_toArray, List.set_cons_zero, List.set_cons_succ]
            refine wpAnyH_done (by kernel_rfl) ?_ _
            clear hSe s0 s1 s2 hSn c1n hSm c1m c1l hSl hrun hHeld0
            have h := HWX.out
            have ho := HOX.out
            have HW3 := Lib.hid h
            have HO3 : Hid (Fr x w0 w3) := Lib.hid (HO2.out.trans ho)
            have HZ3 : Hid ((((((s.paid.nx x.xs)).nx x.xs).nx x.xs).push ⟨132, (a : Int), (b : Int) - 4, [], [], [], []⟩).sz (N + 1)) := Lib.hid ((Ws.sz_push _ (Ws.sz_nx x.xs (Ws.sz_nx x.xs HZ2.out))).more (by omega))
            clear h ho
            have HE : Hid (FS = ((((s.paid.nx x.xs)).nx x.xs).nx x.xs).push ⟨132, (a : Int), (b : Int) - 4, [], [], [], []⟩) := Lib.hid (by rw [← HFS.out]; unfold stepS; simp [HVv.out, HBD.out, HVa.out, HVb.out])
            go_wp2
            go_end0
            rw [HE.out]
            exact ⟨rfl, HW3.out, HO3.out⟩
    · obtain ⟨Cd, ncd, ccd, Td, ntd, ctd, Md, nmd, cmd, lmd, hD⟩ := HW2.out
      have hncd : ncd ≤ N := by rw [← hD.code.row.1]; exact HZ2.out.1
      have hc0 : w2.cell? ⟨x.g, 0, none⟩ = some (.pointer (some ⟨x.tp, 0, none⟩)) := hD.blk.cell 0
      have hdr : Below w2.heap.size w2 w2.drew := ((Only.refl Empty w2).drew).below (Nat.le_refl _) (fun _ _ h => h)
      have HDD := Lib.hid (hD.below hdr)
      have HFD := Lib.hid (Fr.of_below (x := x) hdr)
      have hgl := hD.blk.lt
      have c1d : w2.drew.cell? ⟨x.g, 1, none⟩ = some (.slice Cd ncd ccd) := HDD.out.blk.cell 1
      have hc0d : w2.drew.cell? ⟨x.g, 0, none⟩ = some (.pointer (some ⟨x.tp, 0, none⟩)) := HDD.out.blk.cell 0
      obtain ⟨a, ha⟩ : ∃ a, nxV x.xs 3 ((s.paid.nx x.xs)).at_ = a := ⟨_, rfl⟩
      have ba : a < 3 := by rw [← ha]; exact nxV_lt (by omega)
      have HVa := Lib.hid ha
      obtain ⟨b, hb⟩ : ∃ b, nxV x.xs 9 (((s.paid.nx x.xs)).nx x.xs).at_ = b := ⟨_, rfl⟩
      have bb : b < 9 := by rw [← hb]; exact nxV_lt (by omega)
      have HVb := Lib.hid hb
      have CN : Hid (Calls Tryz.prog 57 #[.pointer (some ⟨x.tp, 0, none⟩), .int .i64 3] w2.drew fun e w' => e = .returned (.int .i64 (a : Int)) ∧ WrD x w' D (((s.paid.nx x.xs)).nx x.xs) Cd ncd ccd Td ntd ctd Md nmd cmd lmd ∧ Fr x w2.drew w') := Lib.hid (by
        refine (next_ex x.B x.tp x.A x.n x.cap x.xs _ 3 _ HDD.out.tape (by omega) (by omega)).mono ?_
        rintro e w' ⟨rfl, ht, ho⟩
        exact ⟨by rw [HVa.out], HDD.out.tape_ ho ht, ho.mono (fun i _ e => ow_tape x i e), keep_tape HDD.out ho⟩)
      have CM : Hid (∀ W, WrD x W D (((s.paid.nx x.xs)).nx x.xs) Cd ncd ccd Td ntd ctd Md nmd cmd lmd → Calls Tryz.prog 57 #[.pointer (some ⟨x.tp, 0, none⟩), .int .i64 9] W fun e w' => e = .returned (.int .i64 (b : Int)) ∧ WrD x w' D ((((s.paid.nx x.xs)).nx x.xs).nx x.xs) Cd ncd ccd Td ntd ctd Md nmd cmd lmd ∧ Fr x W w') := Lib.hid (fun W hW => by
        refine (next_ex x.B x.tp x.A x.n x.cap x.xs _ 9 _ hW.tape (by omega) (by omega)).mono ?_
        rintro e w' ⟨rfl, ht, ho⟩
        exact ⟨by rw [HVb.out], hW.tape_ ho ht, ho.mono (fun i _ e => ow_tape x i e), keep_tape hW ho⟩)
      clear hD hdr ha hb
      go_wp2_with fail
      clear c4 c5 hgl2
      refine wp_region_held_drew (S := fun W => W.cell? ⟨x.g, 0, none⟩ = some (.pointer (some ⟨x.tp, 0, none⟩))) (by kernel_rfl) hc0 (fun hHeld0 => ?_)
      refine take_yes 0 17 ?_ rfl rfl (by kernel_rfl) (by kernel_rfl) (by kernel_rfl) (fun _ _ _ h => h) (by kernel_rfl) ?_ (by assumption) ?_; rotate_left; (focus (intro w hSw; (try dsimp only at hSw); go_simp; all_goals first | with_reducible rfl)); simp only [Act.put, List.setIfInBounds_toArray, List.set_cons_zero, List.set_cons_succ]
      refine take_yes 1 18 ?_ rfl rfl (by kernel_rfl) (by kernel_rfl) (by kernel_rfl) (fun _ _ _ h => h) (by kernel_rfl) ?_ (by assumption) ?_; rotate_left; (focus (intro w hSw; (try dsimp only at hSw); go_simp; all_goals first | with_reducible rfl)); simp only [Act.put, List.setIfInBounds_toArray, List.set_cons_zero, List.set_cons_succ]
      refine take_yes 2 19 ?_ rfl rfl (by kernel_rfl) (by kernel_rfl) (by kernel_rfl) (fun _ _ _ h => h) (by kernel_rfl) ?_ (by assumption) ?_; rotate_left; (focus (intro w hSw; (try dsimp only at hSw); go_simp; all_goals first | with_reducible rfl)); simp only [Act.put, List.setIfInBounds_toArray, List.set_cons_zero, List.set_cons_succ]
      refine take_yes 3 20 ?_ rfl rfl (by kernel_rfl) (by kernel_rfl) (by kernel_rfl) (fun _ _ _ h => h) (by kernel_rfl) ?_ (by assumption) ?_; rotate_left; (focus (intro w hSw; (try dsimp only at hSw); go_simp; all_goals first | with_reducible rfl)); simp only [Act.put, List.setIfInBounds_toArray, List.set_cons_zero, List.set_cons_succ]
      refine take_yes 5 22 ?_ rfl rfl (by kernel_rfl) (by kernel_rfl) (by kernel_rfl) (fun _ _ _ h => h) (by kernel_rfl) ?_ (by assumption) ?_; rotate_left; (focus (intro w hSw; (try dsimp only at hSw); go_simp; all_goals first | with_reducible rfl)); simp only [Act.put, List.setIfInBounds_toArray, List.set_cons_zero, List.set_cons_succ]
      refine take_yes 6 23 ?_ rfl rfl (by kernel_rfl) (by kernel_rfl) (by kernel_rfl) (fun _ _ _ h => h) (by kernel_rfl) ?_ (by assumption) ?_; rotate_left; (focus (intro w hSw; (try dsimp only at hSw); go_simp; all_goals first | with_reducible rfl)); simp only [Act.put, List.setIfInBounds_toArray, List.set_cons_zero, List.set_cons_succ]
      refine take_yes 7 24 ?_ rfl rfl (by kernel_rfl) (by kernel_rfl) (by kernel_rfl) (fun _ _ _ h => h) (by kernel_rfl) ?_ (by assumption) ?_; rotate_left; (focus (intro w hSw; (try dsimp only at hSw); go_simp; all_goals first | with_reducible rfl)); simp only [Act.put, List.setIfInBounds_toArray, List.set_cons_zero, List.set_cons_succ]
      refine take_yes 8 25 ?_ rfl rfl (by kernel_rfl) (by kernel_rfl) (by kernel_rfl) (fun _ _ _ h => h) (by kernel_rfl) ?_ (by assumption) ?_; rotate_left; (focus (intro w hSw; (try dsimp only at hSw); go_simp; all_goals first | with_reducible rfl)); simp only [Act.put, List.setIfInBounds_toArray, List.set_cons_zero, List.set_cons_succ]
      refine take_yes 10 27 ?_ rfl rfl (by kernel_rfl) (by kernel_rfl) (by kernel_rfl) (fun _ _ _ h => h) (by kernel_rfl) ?_ (by assumption) ?_; rotate_left; (focus (intro w hSw; (try dsimp only at hSw); go_simp; all_goals first | with_reducible rfl)); simp only [Act.put, List.setIfInBounds_toArray, List.set_cons_zero, List.set_cons_succ]
      refine take_yes 11 28 ?_ rfl rfl (by kernel_rfl) (by kernel_rfl) (by kernel_rfl) (fun _ _ _ h => h) (by kernel_rfl) ?_ (by assumption) ?_; rotate_left; (focus (intro w hSw; (try dsimp only at hSw); go_simp; all_goals first | with_reducible rfl)); simp only [Act.put, List.setIfInBounds_toArray, List.set_cons_zero, List.set_cons_succ]
      refine take_yes 12 29 ?_ rfl rfl (by kernel_rfl) (by kernel_rfl) (by kernel_rfl) (fun _ _ _ h => h) (by kernel_rfl) ?_ (by assumption) ?_; rotate_left; (focus (intro w hSw; (try dsimp only at hSw); go_simp; all_goals first | with_reducible rfl)); simp only [Act.put, List.setIfInBounds_toArray, List.set_cons_zero, List.set_cons_succ]
      refine take_yes 13 30 ?_ rfl rfl (by kernel_rfl) (by kernel_rfl) (by kernel_rfl) (fun _ _ _ h => h) (by kernel_rfl) ?_ (by assumption) ?_; rotate_left; (focus (intro w hSw; (try dsimp only at hSw); go_simp; all_goals first | with_reducible rfl)); simp only [Act.put, List.setIfInBounds_toArray, List.set_cons_zero, List.set_cons_succ]
      refine wpAnyH_ready (rs := [4, 9]) (by kernel_rfl) (by simp) ?_
      refine AllReadyH.cons rfl (fun K hK => ?_) (AllReadyH.cons rfl (fun K hK => ?_) AllReadyH.nil)
      · go_simp
        refine hK.out _ _ (hc0d) (fun _ => ?_)
        clear hK K
        try simp only [Act.put, List.setIfInBounds_toArray, List.set_cons_zero, List.set_cons_succ]
        refine wpAnyH_ready (rs := [9]) (by kernel_rfl) (by simp) ?_
        refine AllReadyH.cons rfl (fun K hK => ?_) AllReadyH.nil
        go_simp
        go_at_call 57; (refine CN.out.mono ?_); rintro e wn ⟨rfl, hDn, hFn⟩
        have HDN := Lib.hid hDn
        have HFN := Lib.hid (HFD.out.trans hFn)
        have hSn : wn.cell? ⟨x.g, 0, none⟩ = some (.pointer (some ⟨x.tp, 0, none⟩)) := hDn.blk.cell 0
        have c1n : wn.cell? ⟨x.g, 1, none⟩ = some (.slice Cd ncd ccd) := hDn.blk.cell 1
        clear hDn hFn
        go_wp2_with fail
        refine hK.out _ _ (hSn) (fun _ => ?_)
        clear hK K
        try simp only [Act.put, List.setIfInBounds_toArray, List.set_cons_zero, List.set_cons_succ]
        refine wpAnyH_ready (rs := [14]) (by kernel_rfl) (by simp) ?_
        refine AllReadyH.cons rfl (fun K hK => ?_) AllReadyH.nil
        go_simp
        go_at_call 57; (refine (CM.out _ HDN.out).mono ?_); rintro e wm ⟨rfl, hDm, hFm⟩
        have HDM := Lib.hid hDm
        have HFM := Lib.hid (HFN.out.trans hFm)
        have hSm : wm.cell? ⟨x.g, 0, none⟩ = some (.pointer (some ⟨x.tp, 0, none⟩)) := hDm.blk.cell 0
        have c1m : wm.cell? ⟨x.g, 1, none⟩ = some (.slice Cd ncd ccd) := hDm.blk.cell 1
        clear hDm hFm
        go_wp2_with fail
        refine hK.out _ _ (hSm) (fun _ => ?_)
        clear hK K
        try simp only [Act.put, List.setIfInBounds_toArray, List.set_cons_zero, List.set_cons_succ]
        have hq2 : IntKind.i64.wrap ((b : Int) - 4) = (b : Int) - 4 := by rw [IntKind.wrap_i64]; omega
        refine take_yes 15 32 (.int .i64 ((b : Int) - 4)) rfl rfl (by kernel_rfl) (by kernel_rfl) (by kernel_rfl) (fun _ _ _ h => h) (by kernel_rfl) ?_ (by assumption) ?_; (focus (intro w hSw; (try dsimp only at hSw); go_simp; all_goals first | with_reducible rfl | simp [hq2])); simp only [Act.put, List.setIfInBounds_toArray, List.set_cons_zero, List.set_cons_succ]
        refine take_yes 16 33 ?_ rfl rfl (by kernel_rfl) (by kernel_rfl) (by kernel_rfl) (fun _ _ _ h => h) (by kernel_rfl) ?_ (by assumption) ?_; rotate_left; (focus (intro w hSw; (try dsimp only at hSw); go_simp; all_goals first | with_reducible rfl)); simp only [Act.put, List.setIfInBounds_toArray, List.set_cons_zero, List.set_cons_succ]
        have hbl := belowA wm (.cells (inC (⟨132, (a : Int), (b : Int) - 4, [], [], [], []⟩ : InD)).toArray 98)
        have hDl := HDM.out.below hbl
        have HBL : Hid (Blk (wm.alloc (.cells (inC (⟨132, (a : Int), (b : Int) - 4, [], [], [], []⟩ : InD)).toArray 98)) wm.heap.size 98 (inC (⟨132, (a : Int), (b : Int) - 4, [], [], [], []⟩ : InD)).toArray) := Lib.hid (Blk.new _ _ _)
        have hSl : (wm.alloc (.cells (inC (⟨132, (a : Int), (b : Int) - 4, [], [], [], []⟩ : InD)).toArray 98)).cell? ⟨x.g, 0, none⟩ = some (.pointer (some ⟨x.tp, 0, none⟩)) := hDl.blk.cell 0
        have c1l : (wm.alloc (.cells #[.int .u8 132, .int .i64 (a : Int), .int .i64 ((b : Int) - 4), .string ⟨#[]⟩, .string ⟨#[]⟩, .string ⟨#[]⟩, .string ⟨#[]⟩] 98)).cell? ⟨x.g, 1, none⟩ = some (.slice Cd ncd ccd) := hDl.blk.cell 1
        have hb0l := hDl.b0
        obtain ⟨A3, c3, w3, hrun, hG, hg, hr⟩ := run_append_rows (S := Empty) inC_len inC_one (by decide) 37 98 _ 88 Tryz.underlying37 Tryz.infoIn (by simp [Value.cells]) (by decide) 37 x.b0 Cd ncd ccd ((s.paid.nx x.xs)).code hDl.code ⟨wm.heap.size, 0, none⟩ 1 1 [(⟨132, (a : Int), (b : Int) - 4, [], [], [], []⟩ : InD)] (RowSl.of_blk inC_len HBL.out rfl (Nat.le_refl _) (by unfold maxLen; omega) (fun j _ => by simp) (fun h => h)) (by omega) hb0l
        have hgo := ne_own hDl.code hDl.blk (show 98 ≠ 166 by decide)
        have s1 : w3.cell? ⟨x.g, 1, none⟩ = some (.slice Cd ncd ccd) := ((only_grown hg hr).cell (p := ⟨x.g, 1, none⟩) hDl.blk.lt hgo).trans (hDl.blk.cell 1)
        have s0 : w3.cell? ⟨x.g, 0, none⟩ = some (.pointer (some ⟨x.tp, 0, none⟩)) := ((only_grown hg hr).cell (p := ⟨x.g, 0, none⟩) hDl.blk.lt hgo).trans hSl
        have s2 : w3.frozen? ⟨x.g, 1, none⟩ = false := ((only_grown hg hr).blk hDl.blk hgo).frozen 1
        obtain ⟨hP, hF⟩ := hDl.push hG hg hr
        obtain ⟨w3, hwe⟩ : ∃ W, w3.setCell ⟨x.g, 1, none⟩ (.slice A3 (ncd + 1) c3) = W := ⟨_, rfl⟩
        rw [hwe] at hP hF
        have hSe : w3.cell? ⟨x.g, 0, none⟩ = some (.pointer (some ⟨x.tp, 0, none⟩)) := hP.blk.cell 0
        have h : WrS x w3 D (((((s.paid.nx x.xs)).nx x.xs).nx x.xs).push ⟨132, (a : Int), (b : Int) - 4, [], [], [], []⟩) := ⟨A3, ncd + 1, c3, Td, ntd, ctd, Md, nmd, cmd, lmd, hP⟩
        have ho : Fr x w2 w3 := (HFM.out.trans (Fr.of_below hbl)).trans hF
        have HWE := Lib.hid hwe
        have HWX := Lib.hid h
        have HOX := Lib.hid ho
        simp only [inC] at hSl hrun
        clear hbl hDl hG hg hr hgo hP hF hwe h ho
        refine wpAnyH_ready (rs := [17]) (by kernel_rfl) (by simp) ?_
        refine AllReadyH.cons rfl (fun K hK => ?_) AllReadyH.nil
        go_simp
        refine hK.out _ _ (hSl) (fun _ => ?_)
        clear hK K
        try simp only [Act.put, List.setIfInBounds_toArray, List.set_cons_zero, List.set_cons_succ]
        refine wpAnyH_ready (rs := [18]) (by kernel_rfl) (by simp) ?_
        refine AllReadyH.cons rfl (fun K hK => ?_) AllReadyH.nil
        refine step_append_eq (ts := 37) rfl (.tmp 21) (.tmp 34) rfl rfl rfl rfl hrun ?_
        show K (Act.put _ (some 35) _) _
        refine hK.out _ _ (s0) (fun _ => ?_)
        clear hK K
        try simp only [Act.put, List.setIfInBounds_toArray, List.set_cons_zero, List.set_cons_succ]
        refine take_yes 19 36 ?_ rfl rfl (by kernel_rfl) (by kernel_rfl) (by kernel_rfl) (fun _ _ _ h => h) (by kernel_rfl) ?_ (by assumption) ?_; rotate_left; (focus (intro w hSw; (try dsimp only at hSw); go_simp; all_goals first | with_reducible rfl)); simp only [Act.put, List.setIfInBounds_toArray, List.set_cons_zero, List.set_cons_succ]
        refine take_yes 20 37 ?_ rfl rfl (by kernel_rfl) (by kernel_rfl) (by kernel_rfl) (fun _ _ _ h => h) (by kernel_rfl) ?_ (by assumption) ?_; rotate_left; (focus (intro w hSw; (try dsimp only at hSw); go_simp; all_goals first | with_reducible rfl)); simp only [Act.put, List.setIfInBounds_toArray, List.set_cons_zero, List.set_cons_succ]
        refine wpAnyH_ready (rs := [21]) (by kernel_rfl) (by simp) ?_
        refine AllReadyH.cons rfl (fun K hK => ?_) AllReadyH.nil
        go_simp
        rw [HWE.out]
        refine hK.out _ _ (hSe) (fun _ => ?_)
        clear hK K
        try simp only [Act.put, List.setIfInBounds_toArray, List.set_cons_zero, List.set_cons_succ]
        refine wpAnyH_done (by kernel_rfl) ?_ _
        clear hSe s0 s1 s2 hSn c1n hSm c1m c1l hSl hrun hHeld0
        have h := HWX.out
        have ho := HOX.out
        have HW3 := Lib.hid h
        have HO3 : Hid (Fr x w0 w3) := Lib.hid (HO2.out.trans ho)
        have HZ3 : Hid ((((((s.paid.nx x.xs)).nx x.xs).nx x.xs).push ⟨132, (a : Int), (b : Int) - 4, [], [], [], []⟩).sz (N + 1)) := Lib.hid ((Ws.sz_push _ (Ws.sz_nx x.xs (Ws.sz_nx x.xs HZ2.out))).more (by omega))
        clear h ho
        have HE : Hid (FS = ((((s.paid.nx x.xs)).nx x.xs).nx x.xs).push ⟨132, (a : Int), (b : Int) - 4, [], [], [], []⟩) := Lib.hid (by rw [← HFS.out]; unfold stepS; simp [HVv.out, HBD.out, HVa.out, HVb.out])
        go_wp2
        go_end0
        rw [HE.out]
        exact ⟨rfl, HW3.out, HO3.out⟩
      · go_simp
        go_at_call 57; (refine CN.out.mono ?_); rintro e wn ⟨rfl, hDn, hFn⟩
        have HDN := Lib.hid hDn
        have HFN := Lib.hid (HFD.out.trans hFn)
        have hSn : wn.cell? ⟨x.g, 0, none⟩ = some (.pointer (some ⟨x.tp, 0, none⟩)) := hDn.blk.cell 0
        have c1n : wn.cell? ⟨x.g, 1, none⟩ = some (.slice Cd ncd ccd) := hDn.blk.cell 1
        clear hDn hFn
        go_wp2_with fail
        refine hK.out _ _ (hSn) (fun _ => ?_)
        clear hK K
        try simp only [Act.put, List.setIfInBounds_toArray, List.set_cons_zero, List.set_cons_succ]
        refine wpAnyH_ready (rs := [4, 14]) (by kernel_rfl) (by simp) ?_
        refine AllReadyH.cons rfl (fun K hK => ?_) (AllReadyH.cons rfl (fun K hK => ?_) AllReadyH.nil)
        · go_simp
          refine hK.out _ _ (hSn) (fun _ => ?_)
          clear hK K
          try simp only [Act.put, List.setIfInBounds_toArray, List.set_cons_zero, List.set_cons_succ]
          refine wpAnyH_ready (rs := [14]) (by kernel_rfl) (by simp) ?_
          refine AllReadyH.cons rfl (fun K hK => ?_) AllReadyH.nil
          go_simp
          go_at_call 57; (refine (CM.out _ HDN.out).mono ?_); rintro e wm ⟨rfl, hDm, hFm⟩
          have HDM := Lib.hid hDm
          have HFM := Lib.hid (HFN.out.trans hFm)
          have hSm : wm.cell? ⟨x.g, 0, none⟩ = some (.pointer (some ⟨x.tp, 0, none⟩)) := hDm.blk.cell 0
          have c1m : wm.cell? ⟨x.g, 1, none⟩ = some (.slice Cd ncd ccd) := hDm.blk.cell 1
          clear hDm hFm
          go_wp2_with fail
          refine hK.out _ _ (hSm) (fun _ => ?_)
          clear hK K
          try simp only [Act.put, List.setIfInBounds_toArray, List.set_cons_zero, List.set_cons_succ]
          have hq2 : IntKind.i64.wrap ((b : Int) - 4) = (b : Int) - 4 := by rw [IntKind.wrap_i64]; omega
          refine take_yes 15 32 (.int .i64 ((b : Int) - 4)) rfl rfl (by kernel_rfl) (by kernel_rfl) (by kernel_rfl) (fun _ _ _ h => h) (by kernel_rfl) ?_ (by assumption) ?_; (focus (intro w hSw; (try dsimp only at hSw); go_simp; all_goals first | with_reducible rfl | simp [hq2])); simp only [Act.put, List.setIfInBounds_toArray, List.set_cons_zero, List.set_cons_succ]
          refine take_yes 16 33 ?_ rfl rfl (by kernel_rfl) (by kernel_rfl) (by kernel_rfl) (fun _ _ _ h => h) (by kernel_rfl) ?_ (by assumption) ?_; rotate_left; (focus (intro w hSw; (try dsimp only at hSw); go_simp; all_goals first | with_reducible rfl)); simp only [Act.put, List.setIfInBounds_toArray, List.set_cons_zero, List.set_cons_succ]
          have hbl := belowA wm (.cells (inC (⟨132, (a : Int), (b : Int) - 4, [], [], [], []⟩ : InD)).toArray 98)
          have hDl := HDM.out.below hbl
          have HBL : Hid (Blk (wm.alloc (.cells (inC (⟨132, (a : Int), (b : Int) - 4, [], [], [], []⟩ : InD)).toArray 98)) wm.heap.size 98 (inC (⟨132, (a : Int), (b : Int) - 4, [], [], [], []⟩ : InD)).toArray) := Lib.hid (Blk.new _ _ _)
          have hSl : (wm.alloc (.cells (inC (⟨132, (a : Int), (b : Int) - 4, [], [], [], []⟩ : InD)).toArray 98)).cell? ⟨x.g, 0, none⟩ = some (.pointer (some ⟨x.tp, 0, none⟩)) := hDl.blk.cell 0
          have c1l : (wm.alloc (.cells #[.int .u8 132, .int .i64 (a : Int), .int .i64 ((b : Int) - 4), .string ⟨#[]⟩, .string ⟨#[]⟩, .string ⟨#[]⟩, .string ⟨#[]⟩] 98)).cell? ⟨x.g, 1, none⟩ = some (.slice Cd ncd ccd) := hDl.blk.cell 1
          have hb0l := hDl.b0
          obtain ⟨A3, c3, w3, hrun, hG, hg, hr⟩ := run_append_rows (S := Empty) inC_len inC_one (by decide) 37 98 _ 88 Tryz.underlying37 Tryz.infoIn (by simp [Value.cells]) (by decide) 37 x.b0 Cd ncd ccd ((s.paid.nx x.xs)).code hDl.code ⟨wm.heap.size, 0, none⟩ 1 1 [(⟨132, (a : Int), (b : Int) - 4, [], [], [], []⟩ : InD)] (RowSl.of_blk inC_len HBL.out rfl (Nat.le_refl _) (by unfold maxLen; omega) (fun j _ => by simp) (fun h => h)) (by omega) hb0l
          have hgo := ne_own hDl.code hDl.blk (show 98 ≠ 166 by decide)
          have s1 : w3.cell? ⟨x.g, 1, none⟩ = some (.slice Cd ncd ccd) := ((only_grown hg hr).cell (p := ⟨x.g, 1, none⟩) hDl.blk.lt hgo).trans (hDl.blk.cell 1)
          have s0 : w3.cell? ⟨x.g, 0, none⟩ = some (.pointer (some ⟨x.tp, 0, none⟩)) := ((only_grown hg hr).cell (p := ⟨x.g, 0, none⟩) hDl.blk.lt hgo).trans hSl
          have s2 : w3.frozen? ⟨x.g, 1, none⟩ = false := ((only_grown hg hr).blk hDl.blk hgo).frozen 1
          obtain ⟨hP, hF⟩ := hDl.push hG hg hr
          obtain ⟨w3, hwe⟩ : ∃ W, w3.setCell ⟨x.g, 1, none⟩ (.slice A3 (ncd + 1) c3) = W := ⟨_, rfl⟩
          rw [hwe] at hP hF
          have hSe : w3.cell? ⟨x.g, 0, none⟩ = some (.pointer (some ⟨x.tp, 0, none⟩)) := hP.blk.cell 0
          have h : WrS x w3 D (((((s.paid.nx x.xs)).nx x.xs).nx x.xs).push ⟨132, (a : Int), (b : Int) - 4, [], [], [], []⟩) := ⟨A3, ncd + 1, c3, Td, ntd, ctd, Md, nmd, cmd, lmd, hP⟩
          have ho : Fr x w2 w3 := (HFM.out.trans (Fr.of_below hbl)).trans hF
          have HWE := Lib.hid hwe
          have HWX := Lib.hid h
          have HOX := Lib.hid ho
          simp only [inC] at hSl hrun
          clear hbl hDl hG hg hr hgo hP hF hwe h ho
          refine wpAnyH_ready (rs := [17]) (by kernel_rfl) (by simp) ?_
          refine AllReadyH.cons rfl (fun K hK => ?_) AllReadyH.nil
          go_simp
          refine hK.out _ _ (hSl) (fun _ => ?_)
          clear hK K
          try simp only [Act.put, List.setIfInBounds_toArray, List.set_cons_zero, List.set_cons_succ]
          refine wpAnyH_ready (rs := [18]) (by kernel_rfl) (by simp) ?_
          refine AllReadyH.cons rfl (fun K hK => ?_) AllReadyH.nil
          refine step_append_eq (ts := 37) rfl (.tmp 21) (.tmp 34) rfl rfl rfl rfl hrun ?_
          show K (Act.put _ (some 35) _) _
          refine hK.out _ _ (s0) (fun _ => ?_)
          clear hK K
          try simp only [Act.put, List.setIfInBounds_toArray, List.set_cons_zero, List.set_cons_succ]
          refine take_yes 19 36 ?_ rfl rfl (by kernel_rfl) (by kernel_rfl) (by kernel_rfl) (fun _ _ _ h => h) (by kernel_rfl) ?_ (by assumption) ?_; rotate_left; (focus (intro w hSw; (try dsimp only at hSw); go_simp; all_goals first | with_reducible rfl)); simp only [Act.put, List.setIfInBounds_toArray, List.set_cons_zero, List.set_cons_succ]
          refine take_yes 20 37 ?_ rfl rfl (by kernel_rfl) (by kernel_rfl) (by kernel_rfl) (fun _ _ _ h => h) (by kernel_rfl) ?_ (by assumption) ?_; rotate_left; (focus (intro w hSw; (try dsimp only at hSw); go_simp; all_goals first | with_reducible rfl)); simp only [Act.put, List.setIfInBounds_toArray, List.set_cons_zero, List.set_cons_succ]
          refine wpAnyH_ready (rs := [21]) (by kernel_rfl) (by simp) ?_
          refine AllReadyH.cons rfl (fun K hK => ?_) AllReadyH.nil
          go_simp
          rw [HWE.out]
          refine hK.out _ _ (hSe) (fun _ => ?_)
          clear hK K
          try simp only [Act.put, List.setIfInBounds_toArray, List.set_cons_zero, List.set_cons_succ]
          refine wpAnyH_done (by kernel_rfl) ?_ _
          clear hSe s0 s1 s2 hSn c1n hSm c1m c1l hSl hrun hHeld0
          have h := HWX.out
          have ho := HOX.out
          have HW3 := Lib.hid h
          have HO3 : Hid (Fr x w0 w3) := Lib.hid (HO2.out.trans ho)
          have HZ3 : Hid ((((((s.paid.nx x.xs)).nx x.xs).nx x.xs).push ⟨132, (a : Int), (b : Int) - 4, [], [], [], []⟩).sz (N + 1)) := Lib.hid ((Ws.sz_push _ (Ws.sz_nx x.xs (Ws.sz_nx x.xs HZ2.out))).more (by omega))
          clear h ho
          have HE : Hid (FS = ((((s.paid.nx x.xs)).nx x.xs).nx x.xs).push ⟨132, (a : Int), (b : Int) - 4, [], [], [], []⟩) := Lib.hid (by rw [← HFS.out]; unfold stepS; simp [HVv.out, HBD.out, HVa.out, HVb.out])
          go_wp2
          go_end0
          rw [HE.out]
          exact ⟨rfl, HW3.out, HO3.out⟩
        · go_simp
          go_at_call 57; (refine (CM.out _ HDN.out).mono ?_); rintro e wm ⟨rfl, hDm, hFm⟩
          have HDM := Lib.hid hDm
          have HFM := Lib.hid (HFN.out.trans hFm)
          have hSm : wm.cell? ⟨x.g, 0, none⟩ = some (.pointer (some ⟨x.tp, 0, none⟩)) := hDm.blk.cell 0
          have c1m : wm.cell? ⟨x.g, 1, none⟩ = some (.slice Cd ncd ccd) := hDm.blk.cell 1
          clear hDm hFm
          go_wp2_with fail
          refine hK.out _ _ (hSm) (fun _ => ?_)
          clear hK K
          try simp only [Act.put, List.setIfInBounds_toArray, List.set_cons_zero, List.set_cons_succ]
          have hq2 : IntKind.i64.wrap ((b : Int) - 4) = (b : Int) - 4 := by rw [IntKind.wrap_i64]; omega
          refine take_yes 15 32 (.int .i64 ((b : Int) - 4)) rfl rfl (by kernel_rfl) (by kernel_rfl) (by kernel_rfl) (fun _ _ _ h => h) (by kernel_rfl) ?_ (by assumption) ?_; (focus (intro w hSw; (try dsimp only at hSw); go_simp; all_goals first | with_reducible rfl | simp [hq2])); simp only [Act.put, List.setIfInBounds_toArray, List.set_cons_zero, List.set_cons_succ]
          refine take_yes 16 33 ?_ rfl rfl (by kernel_rfl) (by kernel_rfl) (by kernel_rfl) (fun _ _ _ h => h) (by kernel_rfl) ?_ (by assumption) ?_; rotate_left; (focus (intro w hSw; (try dsimp only at hSw); go_simp; all_goals first | with_reducible rfl)); simp only [Act.put, List.setIfInBounds_toArray, List.set_cons_zero, List.set_cons_succ]
          have hbl := belowA wm (.cells (inC (⟨132, (a : Int), (b : Int) - 4, [], [], [], []⟩ : InD)).toArray 98)
          have hDl := HDM.out.below hbl
          have HBL : Hid (Blk (wm.alloc (.cells (inC (⟨132, (a : Int), (b : Int) - 4, [], [], [], []⟩ : InD)).toArray 98)) wm.heap.size 98 (inC (⟨132, (a : Int), (b : Int) - 4, [], [], [], []⟩ : InD)).toArray) := Lib.hid (Blk.new _ _ _)
          have hSl : (wm.alloc (.cells (inC (⟨132, (a : Int), (b : Int) - 4, [], [], [], []⟩ : InD)).toArray 98)).cell? ⟨x.g, 0, none⟩ = some (.pointer (some ⟨x.tp, 0, none⟩)) := hDl.blk.cell 0
          have c1l : (wm.alloc (.cells #[.int .u8 132, .int .i64 (a : Int), .int .i64 ((b : Int) - 4), .string ⟨#[]⟩, .string ⟨#[]⟩, .string ⟨#[]⟩, .string ⟨#[]⟩] 98)).cell? ⟨x.g, 1, none⟩ = some (.slice Cd ncd ccd) := hDl.blk.cell 1
          have hb0l := hDl.b0
          obtain ⟨A3, c3, w3, hrun, hG, hg, hr⟩ := run_append_rows (S := Empty) inC_len inC_one (by decide) 37 98 _ 88 Tryz.underlying37 Tryz.infoIn (by simp [Value.cells]) (by decide) 37 x.b0 Cd ncd ccd ((s.paid.nx x.xs)).code hDl.code ⟨wm.heap.size, 0, none⟩ 1 1 [(⟨132, (a : Int), (b : Int) - 4, [], [], [], []⟩ : InD)] (RowSl.of_blk inC_len HBL.out rfl (Nat.le_refl _) (by unfold maxLen; omega) (fun j _ => by simp) (fun h => h)) (by omega) hb0l
          have hgo := ne_own hDl.code hDl.blk (show 98 ≠ 166 by decide)
          have s1 : w3.cell? ⟨x.g, 1, none⟩ = some (.slice Cd ncd ccd) := ((only_grown hg hr).cell (p := ⟨x.g, 1, none⟩) hDl.blk.lt hgo).trans (hDl.blk.cell 1)
          have s0 : w3.cell? ⟨x.g, 0, none⟩ = some (.pointer (some ⟨x.tp, 0, none⟩)) := ((only_grown hg hr).cell (p := ⟨x.g, 0, none⟩) hDl.blk.lt hgo).trans hSl
          have s2 : w3.frozen? ⟨x.g, 1, none⟩ = false := ((only_grown hg hr).blk hDl.blk hgo).frozen 1
          obtain ⟨hP, hF⟩ := hDl.push hG hg hr
          obtain ⟨w3, hwe⟩ : ∃ W, w3.setCell ⟨x.g, 1, none⟩ (.slice A3 (ncd + 1) c3) = W := ⟨_, rfl⟩
          rw [hwe] at hP hF
          have hSe : w3.cell? ⟨x.g, 0, none⟩ = some (.pointer (some ⟨x.tp, 0, none⟩)) := hP.blk.cell 0
          have h : WrS x w3 D (((((s.paid.nx x.xs)).nx x.xs).nx x.xs).push ⟨132, (a : Int), (b : Int) - 4, [], [], [], []⟩) := ⟨A3, ncd + 1, c3, Td, ntd, ctd, Md, nmd, cmd, lmd, hP⟩
          have ho : Fr x w2 w3 := (HFM.out.trans (Fr.of_below hbl)).trans hF
          have HWE := Lib.hid hwe
          have HWX := Lib.hid h
          have HOX := Lib.hid ho
          simp only [inC] at hSl hrun
          clear hbl hDl hG hg hr hgo hP hF hwe h ho
          refine wpAnyH_ready (rs := [4, 17]) (by kernel_rfl) (by simp) ?_
          refine AllReadyH.cons rfl (fun K hK => ?_) (AllReadyH.cons rfl (fun K hK => ?_) AllReadyH.nil)
          · go_simp
            refine hK.out _ _ (hSm) (fun _ => ?_)
            clear hK K
            try simp only [Act.put, List.setIfInBounds_toArray, List.set_cons_zero, List.set_cons_succ]
            refine wpAnyH_ready (rs := [17]) (by kernel_rfl) (by simp) ?_
            refine AllReadyH.cons rfl (fun K hK => ?_) AllReadyH.nil
            go_simp
            refine hK.out _ _ (hSl) (fun _ => ?_)
            clear hK K
            try simp only [Act.put, List.setIfInBounds_toArray, List.set_cons_zero, List.set_cons_succ]
            refine wpAnyH_ready (rs := [18]) (by kernel_rfl) (by simp) ?_
            refine AllReadyH.cons rfl (fun K hK => ?_) AllReadyH.nil
            refine step_append_eq (ts := 37) rfl (.tmp 21) (.tmp 34) rfl rfl rfl rfl hrun ?_
            show K (Act.put _ (some 35) _) _
            refine hK.out _ _ (s0) (fun _ => ?_)
            clear hK K
            try simp only [Act.put, List.setIfInBounds_toArray, List.set_cons_zero, List.set_cons_succ]
            refine take_yes 19 36 ?_ rfl rfl (by kernel_rfl) (by kernel_rfl) (by kernel_rfl) (fun _ _ _ h => h) (by kernel_rfl) ?_ (by assumption) ?_; rotate_left; (focus (intro w hSw; (try dsimp only at hSw); go_simp; all_goals first | with_reducible rfl)); simp only [Act.put, List.setIfInBounds_toArray, List.set_cons_zero, List.set_cons_succ]
            refine take_yes 20 37 ?_ rfl rfl (by kernel_rfl) (by kernel_rfl) (by kernel_rfl) (fun _ _ _ h => h) (by kernel_rfl) ?_ (by assumption) ?_; rotate_left; (focus (intro w hSw; (try dsimp only at hSw); go_simp; all_goals first | with_reducible rfl)); simp only [Act.put, List.setIfInBounds_toArray, List.set_cons_zero, List.set_cons_succ]
            refine wpAnyH_ready (rs := [21]) (by kernel_rfl) (by simp) ?_
            refine AllReadyH.cons rfl (fun K hK => ?_) AllReadyH.nil
            go_simp
            rw [HWE.out]
            refine hK.out _ _ (hSe) (fun _ => ?_)
            clear hK K
            try simp only [Act.put, List.setIfInBounds_toArray, List.set_cons_zero, List.set_cons_succ]
            refine wpAnyH_done (by kernel_rfl) ?_ _
            clear hSe s0 s1 s2 hSn c1n hSm c1m c1l hSl hrun hHeld0
            have h := HWX.out
            have ho := HOX.out
            have HW3 := Lib.hid h
            have HO3 : Hid (Fr x w0 w3) := Lib.hid (HO2.out.trans ho)
            have HZ3 : Hid ((((((s.paid.nx x.xs)).nx x.xs).nx x.xs).push ⟨132, (a : Int), (b : Int) - 4, [], [], [], []⟩).sz (N + 1)) := Lib.hid ((Ws.sz_push _ (Ws.sz_nx x.xs (Ws.sz_nx x.xs HZ2.out))).more (by omega))
            clear h ho
            have HE : Hid (FS = ((((s.paid.nx x.xs)).nx x.xs).nx x.xs).push ⟨132, (a : Int), (b : Int) - 4, [], [], [], []⟩) := Lib.hid (by rw [← HFS.out]; unfold stepS; simp [HVv.out, HBD.out, HVa.out, HVb.out])
            go_wp2
            go_end0
            rw [HE.out]
            exact ⟨rfl, HW3.out, HO3.out⟩
          · go_simp
            refine hK.out _ _ (hSl) (fun _ => ?_)
            clear hK K
            try simp only [Act.put, List.setIfInBounds_toArray, List.set_cons_zero, List.set_cons_succ]
            refine wpAnyH_ready (rs := [4]) (by kernel_rfl) (by simp) ?_
            refine AllReadyH.cons rfl (fun K hK => ?_) AllReadyH.nil
            go_simp
            refine hK.out _ _ (hSl) (fun _ => ?_)
            clear hK K
            try simp only [Act.put, List.setIfInBounds_toArray, List.set_cons_zero, List.set_cons_succ]
            refine wpAnyH_ready (rs := [18]) (by kernel_rfl) (by simp) ?_
            refine AllReadyH.cons rfl (fun K hK => ?_) AllReadyH.nil
            refine step_append_eq (ts := 37) rfl (.tmp 21) (.tmp 34) rfl rfl rfl rfl hrun ?_
            show K (Act.put _ (some 35) _) _
            refine hK.out _ _ (s0) (fun _ => ?_)
            clear hK K
            try simp only [Act.put, List.setIfInBounds_toArray, List.set_cons_zero, List.set_cons_succ]
            refine take_yes 19 36 ?_ rfl rfl (by kernel_rfl) (by kernel_rfl) (by kernel_rfl) (fun _ _ _ h => h) (by kernel_rfl) ?_ (by assumption) ?_; rotate_left; (focus (intro w hSw; (try dsimp only at hSw); go_simp; all_goals first | with_reducible rfl)); simp only [Act.put, List.setIfInBounds_toArray, List.set_cons_zero, List.set_cons_succ]
            refine take_yes 20 37 ?_ rfl rfl (by kernel_rfl) (by kernel_rfl) (by kernel_rfl) (fun _ _ _ h => h) (by kernel_rfl) ?_ (by assumption) ?_; rotate_left; (focus (intro w hSw; (try dsimp only at hSw); go_simp; all_goals first | with_reducible rfl)); simp only [Act.put, List.setIfInBounds_toArray, List.set_cons_zero, List.set_cons_succ]
            refine wpAnyH_ready (rs := [21]) (by kernel_rfl) (by simp) ?_
            refine AllReadyH.cons rfl (fun K hK => ?_) AllReadyH.nil
            go_simp
            rw [HWE.out]
            refine hK.out _ _ (hSe) (fun _ => ?_)
            clear hK K
            try simp only [Act.put, List.setIfInBounds_toArray, List.set_cons_zero, List.set_cons_succ]
            refine wpAnyH_done (by kernel_rfl) ?_ _
            clear hSe s0 s1 s2 hSn c1n hSm c1m c1l hSl hrun hHeld0
            have h := HWX.out
            have ho := HOX.out
            have HW3 := Lib.hid h
            have HO3 : Hid (Fr x w0 w3) := Lib.hid (HO2.out.trans ho)
            have HZ3 : Hid ((((((s.paid.nx x.xs)).nx x.xs).nx x.xs).push ⟨132, (a : Int), (b : Int) - 4, [], [], [], []⟩).sz (N + 1)) := Lib.hid ((Ws.sz_push _ (Ws.sz_nx x.xs (Ws.sz_nx x.xs HZ2.out))).more (by omega))
            clear h ho
            have HE : Hid (FS = ((((s.paid.nx x.xs)).nx x.xs).nx x.xs).push ⟨132, (a : Int), (b : Int) - 4, [], [], [], []⟩) := Lib.hid (by rw [← HFS.out]; unfold stepS; simp [HVv.out, HBD.out, HVa.out, HVb.out])
            go_wp2
            go_end0
            rw [HE.out]
            exact ⟨rfl, HW3.out, HO3.out⟩
    · obtain ⟨Cd, ncd, ccd, Td, ntd, ctd, Md, nmd, cmd, lmd, hD⟩ := HW2.out
      have hncd : ncd ≤ N := by rw [← hD.code.row.1]; exact HZ2.out.1
      have hc0 : w2.cell? ⟨x.g, 0, none⟩ = some (.pointer (some ⟨x.tp, 0, none⟩)) := hD.blk.cell 0
      have hdr : Below w2.heap.size w2 w2.drew := ((Only.refl Empty w2).drew).below (Nat.le_refl _) (fun _ _ h => h)
      have HDD := Lib.hid (hD.below hdr)
      have HFD := Lib.hid (Fr.of_below (x := x) hdr)
      have hgl := hD.blk.lt
      have c1d : w2.drew.cell? ⟨x.g, 1, none⟩ = some (.slice Cd ncd ccd) := HDD.out.blk.cell 1
      have hc0d : w2.drew.cell? ⟨x.g, 0, none⟩ = some (.pointer (some ⟨x.tp, 0, none⟩)) := HDD.out.blk.cell 0
      obtain ⟨a, ha⟩ : ∃ a, nxV x.xs 3 ((s.paid.nx x.xs)).at_ = a := ⟨_, rfl⟩
      have ba : a < 3 := by rw [← ha]; exact nxV_lt (by omega)
      have HVa := Lib.hid ha
      obtain ⟨b, hb⟩ : ∃ b, nxV x.xs 9 (((s.paid.nx x.xs)).nx x.xs).at_ = b := ⟨_, rfl⟩
      have bb : b < 9 := by rw [← hb]; exact nxV_lt (by omega)
      have HVb := Lib.hid hb
      have CN : Hid (Calls Tryz.prog 57 #[.pointer (some ⟨x.tp, 0, none⟩), .int .i64 3] w2.drew fun e w' => e = .returned (.int .i64 (a : Int)) ∧ WrD x w' D (((s.paid.nx x.xs)).nx x.xs) Cd ncd ccd Td ntd ctd Md nmd cmd lmd ∧ Fr x w2.drew w') := Lib.hid (by
        refine (next_ex x.B x.tp x.A x.n x.cap x.xs _ 3 _ HDD.out.tape (by omega) (by omega)).mono ?_
        rintro e w' ⟨rfl, ht, ho⟩
        exact ⟨by rw [HVa.out], HDD.out.tape_ ho ht, ho.mono (fun i _ e => ow_tape x i e), keep_tape HDD.out ho⟩)
      have CM : Hid (∀ W, WrD x W D (((s.paid.nx x.xs)).nx x.xs) Cd ncd ccd Td ntd ctd Md nmd cmd lmd → Calls Tryz.prog 57 #[.pointer (some ⟨x.tp, 0, none⟩), .int .i64 9] W fun e w' => e = .returned (.int .i64 (b : Int)) ∧ WrD x w' D ((((s.paid.nx x.xs)).nx x.xs).nx x.xs) Cd ncd ccd Td ntd ctd Md nmd cmd lmd ∧ Fr x W w') := Lib.hid (fun W hW => by
        refine (next_ex x.B x.tp x.A x.n x.cap x.xs _ 9 _ hW.tape (by omega) (by omega)).mono ?_
        rintro e w' ⟨rfl, ht, ho⟩
        exact ⟨by rw [HVb.out], hW.tape_ ho ht, ho.mono (fun i _ e => ow_tape x i e), keep_tape hW ho⟩)
      clear hD hdr ha hb
      go_wp2_with fail
      clear c4 c5 hgl2
      refine wp_region_held_drew (S := fun W => W.cell? ⟨x.g, 0, none⟩ = some (.pointer (some ⟨x.tp, 0, none⟩))) (by kernel_rfl) hc0 (fun hHeld0 => ?_)
      refine take_yes 0 17 ?_ rfl rfl (by kernel_rfl) (by kernel_rfl) (by kernel_rfl) (fun _ _ _ h => h) (by kernel_rfl) ?_ (by assumption) ?_; rotate_left; (focus (intro w hSw; (try dsimp only at hSw); go_simp; all_goals first | with_reducible rfl)); simp only [Act.put, List.setIfInBounds_toArray, List.set_cons_zero, List.set_cons_succ]
      refine take_yes 1 18 ?_ rfl rfl (by kernel_rfl) (by kernel_rfl) (by kernel_rfl) (fun _ _ _ h => h) (by kernel_rfl) ?_ (by assumption) ?_; rotate_left; (focus (intro w hSw; (try dsimp only at hSw); go_simp; all_goals first | with_reducible rfl)); simp only [Act.put, List.setIfInBounds_toArray, List.set_cons_zero, List.set_cons_succ]
      refine take_yes 2 19 ?_ rfl rfl (by kernel_rfl) (by kernel_rfl) (by kernel_rfl) (fun _ _ _ h => h) (by kernel_rfl) ?_ (by assumption) ?_; rotate_left; (focus (intro w hSw; (try dsimp only at hSw); go_simp; all_goals first | with_reducible rfl)); simp only [Act.put, List.setIfInBounds_toArray, List.set_cons_zero, List.set_cons_succ]
      refine take_yes 3 20 ?_ rfl rfl (by kernel_rfl) (by kernel_rfl) (by kernel_rfl) (fun _ _ _ h => h) (by kernel_rfl) ?_ (by assumption) ?_; rotate_left; (focus (intro w hSw; (try dsimp only at hSw); go_simp; all_goals first | with_reducible rfl)); simp only [Act.put, List.setIfInBounds_toArray, List.set_cons_zero, List.set_cons_succ]
      refine take_yes 5 22 ?_ rfl rfl (by kernel_rfl) (by kernel_rfl) (by kernel_rfl) (fun _ _ _ h => h) (by kernel_rfl) ?_ (by assumption) ?_; rotate_left; (focus (intro w hSw; (try dsimp only at hSw); go_simp; all_goals first | with_reducible rfl)); simp only [Act.put, List.setIfInBounds_toArray, List.set_cons_zero, List.set_cons_succ]
      refine take_yes 6 23 ?_ rfl rfl (by kernel_rfl) (by kernel_rfl) (by kernel_rfl) (fun _ _ _ h => h) (by kernel_rfl) ?_ (by assumption) ?_; rotate_left; (focus (intro w hSw; (try dsimp only at hSw); go_simp; all_goals first | with_reducible rfl)); simp only [Act.put, List.setIfInBounds_toArray, List.set_cons_zero, List.set_cons_succ]
      refine take_yes 7 24 ?_ rfl rfl (by kernel_rfl) (by kernel_rfl) (by kernel_rfl) (fun _ _ _ h => h) (by kernel_rfl) ?_ (by assumption) ?_; rotate_left; (focus (intro w hSw; (try dsimp only at hSw); go_simp; all_goals first | with_reducible rfl)); simp only [Act.put, List.setIfInBounds_toArray, List.set_cons_zero, List.set_cons_succ]
      refine take_yes 8 25 ?_ rfl rfl (by kernel_rfl) (by kernel_rfl) (by kernel_rfl) (fun _ _ _ h => h) (by kernel_rfl) ?_ (by assumption) ?_; rotate_left; (focus (intro w hSw; (try dsimp only at hSw); go_simp; all_goals first | with_reducible rfl)); simp only [Act.put, List.setIfInBounds_toArray, List.set_cons_zero, List.set_cons_succ]
      refine take_yes 10 27 ?_ rfl rfl (by kernel_rfl) (by kernel_rfl) (by kernel_rfl) (fun _ _ _ h => h) (by kernel_rfl) ?_ (by assumption) ?_; rotate_left; (focus (intro w hSw; (try dsimp only at hSw); go_simp; all_goals first | with_reducible rfl)); simp only [Act.put, List.setIfInBounds_toArray, List.set_cons_zero, List.set_cons_succ]
      refine take_yes 11 28 ?_ rfl rfl (by kernel_rfl) (by kernel_rfl) (by kernel_rfl) (fun _ _ _ h => h) (by kernel_rfl) ?_ (by assumption) ?_; rotate_left; (focus (intro w hSw; (try dsimp only at hSw); go_simp; all_goals first | with_reducible rfl)); simp only [Act.put, List.setIfInBounds_toArray, List.set_cons_zero, List.set_cons_succ]
      refine take_yes 12 29 ?_ rfl rfl (by kernel_rfl) (by kernel_rfl) (by kernel_rfl) (fun _ _ _ h => h) (by kernel_rfl) ?_ (by assumption) ?_; rotate_left; (focus (intro w hSw; (try dsimp only at hSw); go_simp; all_goals first | with_reducible rfl)); simp only [Act.put, List.setIfInBounds_toArray, List.set_cons_zero, List.set_cons_succ]
      refine take_yes 13 30 ?_ rfl rfl (by kernel_rfl) (by kernel_rfl) (by kernel_rfl) (fun _ _ _ h => h) (by kernel_rfl) ?_ (by assumption) ?_; rotate_left; (focus (intro w hSw; (try dsimp only at hSw); go_simp; all_goals first | with_reducible rfl)); simp only [Act.put, List.setIfInBounds_toArray, List.set_cons_zero, List.set_cons_succ]
      refine wpAnyH_ready (rs := [4, 9]) (by kernel_rfl) (by simp) ?_
      refine AllReadyH.cons rfl (fun K hK => ?_) (AllReadyH.cons rfl (fun K hK => ?_) AllReadyH.nil)
      · go_simp
        refine hK.out _ _ (hc0d) (fun _ => ?_)
        clear hK K
        try simp only [Act.put, List.setIfInBounds_toArray, List.set_cons_zero, List.set_cons_succ]
        refine wpAnyH_ready (rs := [9]) (by kernel_rfl) (by simp) ?_
        refine AllReadyH.cons rfl (fun K hK => ?_) AllReadyH.nil
        go_simp
        go_at_call 57; (refine CN.out.mono ?_); rintro e wn ⟨rfl, hDn, hFn⟩
        have HDN := Lib.hid hDn
        have HFN := Lib.hid (HFD.out.trans hFn)
        have hSn : wn.cell? ⟨x.g, 0, none⟩ = some (.pointer (some ⟨x.tp, 0, none⟩)) := hDn.blk.cell 0
        have c1n : wn.cell? ⟨x.g, 1, none⟩ = some (.slice Cd ncd ccd) := hDn.blk.cell 1
        clear hDn hFn
        go_wp2_with fail
        refine hK.out _ _ (hSn) (fun _ => ?_)
        clear hK K
        try simp only [Act.put, List.setIfInBounds_toArray, List.set_cons_zero, List.set_cons_succ]
        refine wpAnyH_ready (rs := [14]) (by kernel_rfl) (by simp) ?_
        refine AllReadyH.cons rfl (fun K hK => ?_) AllReadyH.nil
        go_simp
        go_at_call 57; (refine (CM.out _ HDN.out).mono ?_); rintro e wm ⟨rfl, hDm, hFm⟩
        have HDM := Lib.hid hDm
        have HFM := Lib.hid (HFN.out.trans hFm)
        have hSm : wm.cell? ⟨x.g, 0, none⟩ = some (.pointer (some ⟨x.tp, 0, none⟩)) := hDm.blk.cell 0
        have c1m : wm.cell? ⟨x.g, 1, none⟩ = some (.slice Cd ncd ccd) := hDm.blk.cell 1
        clear hDm hFm
        go_wp2_with fail
        refine hK.out _ _ (hSm) (fun _ => ?_)
        clear hK K
        try simp only [Act.put, List.setIfInBounds_toArray, List.set_cons_zero, List.set_cons_succ]
        have hq2 : IntKind.i64.wrap ((b : Int) - 4) = (b : Int) - 4 := by rw [IntKind.wrap_i64]; omega
        refine take_yes 15 32 (.int .i64 ((b : Int) - 4)) rfl rfl (by kernel_rfl) (by kernel_rfl) (by kernel_rfl) (fun _ _ _ h => h) (by kernel_rfl) ?_ (by assumption) ?_; (focus (intro w hSw; (try dsimp only at hSw); go_simp; all_goals first | with_reducible rfl | simp [hq2])); simp only [Act.put, List.setIfInBounds_toArray, List.set_cons_zero, List.set_cons_succ]
        refine take_yes 16 33 ?_ rfl rfl (by kernel_rfl) (by kernel_rfl) (by kernel_rfl) (fun _ _ _ h => h) (by kernel_rfl) ?_ (by assumption) ?_; rotate_left; (focus (intro w hSw; (try dsimp only at hSw); go_simp; all_goals first | with_reducible rfl)); simp only [Act.put, List.setIfInBounds_toArray, List.set_cons_zero, List.set_cons_succ]
        have hbl := belowA wm (.cells (inC (⟨132, (a : Int), (b : Int) - 4, [], [], [], []⟩ : InD)).toArray 98)
        have hDl := HDM.out.below hbl
        have HBL : Hid (Blk (wm.alloc (.cells (inC (⟨132, (a : Int), (b : Int) - 4, [], [], [], []⟩ : InD)).toArray 98)) wm.heap.size 98 (inC (⟨132, (a : Int), (b : Int) - 4, [], [], [], []⟩ : InD)).toArray) := Lib.hid (Blk.new _ _ _)
        have hSl : (wm.alloc (.cells (inC (⟨132, (a : Int), (b : Int) - 4, [], [], [], []⟩ : InD)).toArray 98)).cell? ⟨x.g, 0, none⟩ = some (.pointer (some ⟨x.tp, 0, none⟩)) := hDl.blk.cell 0
        have c1l : (wm.alloc (.cells #[.int .u8 132, .int .i64 (a : Int), .int .i64 ((b : Int) - 4), .string ⟨#[]⟩, .string ⟨#[]⟩, .string ⟨#[]⟩, .string ⟨#[]⟩] 98)).cell? ⟨x.g, 1, none⟩ = some (.slice Cd ncd ccd) := hDl.blk.cell 1
        have hb0l := hDl.b0
        obtain ⟨A3, c3, w3, hrun, hG, hg, hr⟩ := run_append_rows (S := Empty) inC_len inC_one (by decide) 37 98 _ 88 Tryz.underlying37 Tryz.infoIn (by simp [Value.cells]) (by decide) 37 x.b0 Cd ncd ccd ((s.paid.nx x.xs)).code hDl.code ⟨wm.heap.size, 0, none⟩ 1 1 [(⟨132, (a : Int), (b : Int) - 4, [], [], [], []⟩ : InD)] (RowSl.of_blk inC_len HBL.out rfl (Nat.le_refl _) (by unfold maxLen; omega) (fun j _ => by simp) (fun h => h)) (by omega) hb0l
        have hgo := ne_own hDl.code hDl.blk (show 98 ≠ 166 by decide)
        have s1 : w3.cell? ⟨x.g, 1, none⟩ = some (.slice Cd ncd ccd) := ((only_grown hg hr).cell (p := ⟨x.g, 1, none⟩) hDl.blk.lt hgo).trans (hDl.blk.cell 1)
        have s0 : w3.cell? ⟨x.g, 0, none⟩ = some (.pointer (some ⟨x.tp, 0, none⟩)) := ((only_grown hg hr).cell (p := ⟨x.g, 0, none⟩) hDl.blk.lt hgo).trans hSl
        have s2 : w3.frozen? ⟨x.g, 1, none⟩ = false := ((only_grown hg hr).blk hDl.blk hgo).frozen 1
        obtain ⟨hP, hF⟩ := hDl.push hG hg hr
        obtain ⟨w3, hwe⟩ : ∃ W, w3.setCell ⟨x.g, 1, none⟩ (.slice A3 (ncd + 1) c3) = W := ⟨_, rfl⟩
        rw [hwe] at hP hF
        have hSe : w3.cell? ⟨x.g, 0, none⟩ = some (.pointer (some ⟨x.tp, 0, none⟩)) := hP.blk.cell 0
        have h : WrS x w3 D (((((s.paid.nx x.xs)).nx x.xs).nx x.xs).push ⟨132, (a : Int), (b : Int) - 4, [], [], [], []⟩) := ⟨A3, ncd + 1, c3, Td, ntd, ctd, Md, nmd, cmd, lmd, hP⟩
        have ho : Fr x w2 w3 := (HFM.out.trans (Fr.of_below hbl)).trans hF
        have HWE := Lib.hid hwe
        have HWX := Lib.hid h
        have HOX := Lib.hid ho
        simp only [inC] at hSl hrun
        clear hbl hDl hG hg hr hgo hP hF hwe h ho
        refine wpAnyH_ready (rs := [17]) (by kernel_rfl) (by simp) ?_
        refine AllReadyH.cons rfl (fun K hK => ?_) AllReadyH.nil
        go_simp
        refine hK.out _ _ (hSl) (fun _ => ?_)
        clear hK K
        try simp only [Act.put, List.setIfInBounds_toArray, List.set_cons_zero, List.set_cons_succ]
        refine wpAnyH_ready (rs := [18]) (by kernel_rfl) (by simp) ?_
        refine AllReadyH.cons rfl (fun K hK => ?_) AllReadyH.nil
        refine step_append_eq (ts := 37) rfl (.tmp 21) (.tmp 34) rfl rfl rfl rfl hrun ?_
        show K (Act.put _ (some 35) _) _
        refine hK.out _ _ (s0) (fun _ => ?_)
        clear hK K
        try simp only [Act.put, List.setIfInBounds_toArray, List.set_cons_zero, List.set_cons_succ]
        refine take_yes 19 36 ?_ rfl rfl (by kernel_rfl) (by kernel_rfl) (by kernel_rfl) (fun _ _ _ h => h) (by kernel_rfl) ?_ (by assumption) ?_; rotate_left; (focus (intro w hSw; (try dsimp only at hSw); go_simp; all_goals first | with_reducible rfl)); simp only [Act.put, List.setIfInBounds_toArray, List.set_cons_zero, List.set_cons_succ]
        refine take_yes 20 37 ?_ rfl rfl (by kernel_rfl) (by kernel_rfl) (by kernel_rfl) (fun _ _ _ h => h) (by kernel_rfl) ?_ (by assumption) ?_; rotate_left; (focus (intro w hSw; (try dsimp only at hSw); go_simp; all_goals first | with_reducible rfl)); simp only [Act.put, List.setIfInBounds_toArray, List.set_cons_zero, List.set_cons_succ]
        refine wpAnyH_ready (rs := [21]) (by kernel_rfl) (by simp) ?_
        refine AllReadyH.cons rfl (fun K hK => ?_) AllReadyH.nil
        go_simp
        rw [HWE.out]
        refine hK.out _ _ (hSe) (fun _ => ?_)
        clear hK K
        try simp only [Act.put, List.setIfInBounds_toArray, List.set_cons_zero, List.set_cons_succ]
        refine wpAnyH_done (by kernel_rfl) ?_ _
        clear hSe s0 s1 s2 hSn c1n hSm c1m c1l hSl hrun hHeld0
        have h := HWX.out
        have ho := HOX.out
        have HW3 := Lib.hid h
        have HO3 : Hid (Fr x w0 w3) := Lib.hid (HO2.out.trans ho)
        have HZ3 : Hid ((((((s.paid.nx x.xs)).nx x.xs).nx x.xs).push ⟨132, (a : Int), (b : Int) - 4, [], [], [], []⟩).sz (N + 1)) := Lib.hid ((Ws.sz_push _ (Ws.sz_nx x.xs (Ws.sz_nx x.xs HZ2.out))).more (by omega))
        clear h ho
        have HE : Hid (FS = ((((s.paid.nx x.xs)).nx x.xs).nx x.xs).push ⟨132, (a : Int), (b : Int) - 4, [], [], [], []⟩) := Lib.hid (by rw [← HFS.out]; unfold stepS; simp [HVv.out, HBD.out, HVa.out, HVb.out])
        go_wp2
        go_end0
        rw [HE.out]
        exact ⟨rfl, HW3.out, HO3.out⟩
      · go_simp
        go_at_call 57; (refine CN.out.mono ?_); rintro e wn ⟨rfl, hDn, hFn⟩
        have HDN := Lib.hid hDn
        have HFN := Lib.hid (HFD.out.trans hFn)
        have hSn : wn.cell? ⟨x.g, 0, none⟩ = some (.pointer (some ⟨x.tp, 0, none⟩)) := hDn.blk.cell 0
        have c1n : wn.cell? ⟨x.g, 1, none⟩ = some (.slice Cd ncd ccd) := hDn.blk.cell 1
        clear hDn hFn
        go_wp2_with fail
        refine hK.out _ _ (hSn) (fun _ => ?_)
        clear hK K
        try simp only [Act.put, List.setIfInBounds_toArray, List.set_cons_zero, List.set_cons_succ]
        refine wpAnyH_ready (rs := [4, 14]) (by kernel_rfl) (by simp) ?_
        refine AllReadyH.cons rfl (fun K hK => ?_) (AllReadyH.cons rfl (fun K hK => ?_) AllReadyH.nil)
        · go_simp
          refine hK.out _ _ (hSn) (fun _ => ?_)
          clear hK K
          try simp only [Act.put, List.setIfInBounds_toArray, List.set_cons_zero, List.set_cons_succ]
          refine wpAnyH_ready (rs := [14]) (by kernel_rfl) (by simp) ?_
          refine AllReadyH.cons rfl (fun K hK => ?_) AllReadyH.nil
          go_simp
          go_at_call 57; (refine (CM.out _ HDN.out).mono ?_); rintro e wm ⟨rfl, hDm, hFm⟩
          have HDM := Lib.hid hDm
          have HFM := Lib.hid (HFN.out.trans hFm)
          have hSm : wm.cell? ⟨x.g, 0, none⟩ = some (.pointer (some ⟨x.tp, 0, none⟩)) := hDm.blk.cell 0
          have c1m : wm.cell? ⟨x.g, 1, none⟩ = some (.slice Cd ncd ccd) := hDm.blk.cell 1
          clear hDm hFm
          go_wp2_with fail
          refine hK.out _ _ (hSm) (fun _ => ?_)
          clear hK K
          try simp only [Act.put, List.setIfInBounds_toArray, List.set_cons_zero, List.set_cons_succ]
          have hq2 : IntKind.i64.wrap ((b : Int) - 4) = (b : Int) - 4 := by rw [IntKind.wrap_i64]; omega
          refine take_yes 15 32 (.int .i64 ((b : Int) - 4)) rfl rfl (by kernel_rfl) (by kernel_rfl) (by kernel_rfl) (fun _ _ _ h => h) (by kernel_rfl) ?_ (by assumption) ?_; (focus (intro w hSw; (try dsimp only at hSw); go_simp; all_goals first | with_reducible rfl | simp [hq2])); simp only [Act.put, List.setIfInBounds_toArray, List.set_cons_zero, List.set_cons_succ]
          refine take_yes 16 33 ?_ rfl rfl (by kernel_rfl) (by kernel_rfl) (by kernel_rfl) (fun _ _ _ h => h) (by kernel_rfl) ?_ (by assumption) ?_; rotate_left; (focus (intro w hSw; (try dsimp only at hSw); go_simp; all_goals first | with_reducible rfl)); simp only [Act.put, List.setIfInBounds_toArray, List.set_cons_zero, List.set_cons_succ]
          have hbl := belowA wm (.cells (inC (⟨132, (a : Int), (b : Int) - 4, [], [], [], []⟩ : InD)).toArray 98)
          have hDl := HDM.out.below hbl
          have HBL : Hid (Blk (wm.alloc (.cells (inC (⟨132, (a : Int), (b : Int) - 4, [], [], [], []⟩ : InD)).toArray 98)) wm.heap.size 98 (inC (⟨132, (a : Int), (b : Int) - 4, [], [], [], []⟩ : InD)).toArray) := Lib.hid (Blk.new _ _ _)
          have hSl : (wm.alloc (.cells (inC (⟨132, (a : Int), (b : Int) - 4, [], [], [], []⟩ : InD)).toArray 98)).cell? ⟨x.g, 0, none⟩ = some (.pointer (some ⟨x.tp, 0, none⟩)) := hDl.blk.cell 0
          have c1l : (wm.alloc (.cells #[.int .u8 132, .int .i64 (a : Int), .int .i64 ((b : Int) - 4), .string ⟨#[]⟩, .string ⟨#[]⟩, .string ⟨#[]⟩, .string ⟨#[]⟩] 98)).cell? ⟨x.g, 1, none⟩ = some (.slice Cd ncd ccd) := hDl.blk.cell 1
          have hb0l := hDl.b0
          obtain ⟨A3, c3, w3, hrun, hG, hg, hr⟩ := run_append_rows (S := Empty) inC_len inC_one (by decide) 37 98 _ 88 Tryz.underlying37 Tryz.infoIn (by simp [Value.cells]) (by decide) 37 x.b0 Cd ncd ccd ((s.paid.nx x.xs)).code hDl.code ⟨wm.heap.size, 0, none⟩ 1 1 [(⟨132, (a : Int), (b : Int) - 4, [], [], [], []⟩ : InD)] (RowSl.of_blk inC_len HBL.out rfl (Nat.le_refl _) (by unfold maxLen; omega) (fun j _ => by simp) (fun h => h)) (by omega) hb0l
          have hgo := ne_own hDl.code hDl.blk (show 98 ≠ 166 by decide)
          have s1 : w3.cell? ⟨x.g, 1, none⟩ = some (.slice Cd ncd ccd) := ((only_grown hg hr).cell (p := ⟨x.g, 1, none⟩) hDl.blk.lt hgo).trans (hDl.blk.cell 1)
          have s0 : w3.cell? ⟨x.g, 0, none⟩ = some (.pointer (some ⟨x.tp, 0, none⟩)) := ((only_grown hg hr).cell (p := ⟨x.g, 0, none⟩) hDl.blk.lt hgo).trans hSl
          have s2 : w3.frozen? ⟨x.g, 1, none⟩ = false := ((only_grown hg hr).blk hDl.blk hgo).frozen 1
          obtain ⟨hP, hF⟩ := hDl.push hG hg hr
          obtain ⟨w3, hwe⟩ : ∃ W, w3.setCell ⟨x.g, 1, none⟩ (.slice A3 (ncd + 1) c3) = W := ⟨_, rfl⟩
          rw [hwe] at hP hF
          have hSe : w3.cell? ⟨x.g, 0, none⟩ = some (.pointer (some ⟨x.tp, 0, none⟩)) := hP.blk.cell 0
          have h : WrS x w3 D (((((s.paid.nx x.xs)).nx x.xs).nx x.xs).push ⟨132, (a : Int), (b : Int) - 4, [], [], [], []⟩) := ⟨A3, ncd + 1, c3, Td, ntd, ctd, Md, nmd, cmd, lmd, hP⟩
          have ho : Fr x w2 w3 := (HFM.out.trans (Fr.of_below hbl)).trans hF
          have HWE := Lib.hid hwe
          have HWX := Lib.hid h
          have HOX := Lib.hid ho
          simp only [inC] at hSl hrun
          clear hbl hDl hG hg hr hgo hP hF hwe h ho
          refine wpAnyH_ready (rs := [17]) (by kernel_rfl) (by simp) ?_
          refine AllReadyH.cons rfl (fun K hK => ?_) AllReadyH.nil
          go_simp
          refine hK.out _ _ (hSl) (fun _ => ?_)
          clear hK K
          try simp only [Act.put, List.setIfInBounds_toArray, List.set_cons_zero, List.set_cons_succ]
          refine wpAnyH_ready (rs := [18]) (by kernel_rfl) (by simp) ?_
          refine AllReadyH.cons rfl (fun K hK => ?_) AllReadyH.nil
          refine step_append_eq (ts := 37) rfl (.tmp 21) (.tmp 34) rfl rfl rfl rfl hrun ?_
          show K (Act.put _ (some 35) _) _
          refine hK.out _ _ (s0) (fun _ => ?_)
          clear hK K
          try simp only [Act.put, List.setIfInBounds_toArray, List.set_cons_zero, List.set_cons_succ]
          refine take_yes 19 36 ?_ rfl rfl (by kernel_rfl) (by kernel_rfl) (by kernel_rfl) (fun _ _ _ h => h) (by kernel_rfl) ?_ (by assumption) ?_; rotate_left; (focus (intro w hSw; (try dsimp only at hSw); go_simp; all_goals first | with_reducible rfl)); simp only [Act.put, List.setIfInBounds_toArray, List.set_cons_zero, List.set_cons_succ]
          refine take_yes 20 37 ?_ rfl rfl (by kernel_rfl) (by kernel_rfl) (by kernel_rfl) (fun _ _ _ h => h) (by kernel_rfl) ?_ (by assumption) ?_; rotate_left; (focus (intro w hSw; (try dsimp only at hSw); go_simp; all_goals first | with_reducible rfl)); simp only [Act.put, List.setIfInBounds_toArray, List.set_cons_zero, List.set_cons_succ]
          refine wpAnyH_ready (rs := [21]) (by kernel_rfl) (by simp) ?_
          refine AllReadyH.cons rfl (fun K hK => ?_) AllReadyH.nil
          go_simp
          rw [HWE.out]
          refine hK.out _ _ (hSe) (fun _ => ?_)
          clear hK K
          try simp only [Act.put, List.setIfInBounds_toArray, List.set_cons_zero, List.set_cons_succ]
          refine wpAnyH_done (by kernel_rfl) ?_ _
          clear hSe s0 s1 s2 hSn c1n hSm c1m c1l hSl hrun hHeld0
          have h := HWX.out
          have ho := HOX.out
          have HW3 := Lib.hid h
          have HO3 : Hid (Fr x w0 w3) := Lib.hid (HO2.out.trans ho)
          have HZ3 : Hid ((((((s.paid.nx x.xs)).nx x.xs).nx x.xs).push ⟨132, (a : Int), (b : Int) - 4, [], [], [], []⟩).sz (N + 1)) := Lib.hid ((Ws.sz_push _ (Ws.sz_nx x.xs (Ws.sz_nx x.xs HZ2.out))).more (by omega))
          clear h ho
          have HE : Hid (FS = ((((s.paid.nx x.xs)).nx x.xs).nx x.xs).push ⟨132, (a : Int), (b : Int) - 4, [], [], [], []⟩) := Lib.hid (by rw [← HFS.out]; unfold stepS; simp [HVv.out, HBD.out, HVa.out, HVb.out])
          go_wp2
          go_end0
          rw [HE.out]
          exact ⟨rfl, HW3.out, HO3.out⟩
        · go_simp
          go_at_call 57; (refine (CM.out _ HDN.out).mono ?_); rintro e wm ⟨rfl, hDm, hFm⟩
          have HDM := Lib.hid hDm
          have HFM := Lib.hid (HFN.out.trans hFm)
          have hSm : wm.cell? ⟨x.g, 0, none⟩ = some (.pointer (some ⟨x.tp, 0, none⟩)) := hDm.blk.cell 0
          have c1m : wm.cell? ⟨x.g, 1, none⟩ = some (.slice Cd ncd ccd) := hDm.blk.cell 1
          clear hDm hFm
          go_wp2_with fail
          refine hK.out _ _ (hSm) (fun _ => ?_)
          clear hK K
          try simp only [Act.put, List.setIfInBounds_toArray, List.set_cons_zero, List.set_cons_succ]
          have hq2 : IntKind.i64.wrap ((b : Int) - 4) = (b : Int) - 4 := by rw [IntKind.wrap_i64]; omega
          refine take_yes 15 32 (.int .i64 ((b : Int) - 4)) rfl rfl (by kernel_rfl) (by kernel_rfl) (by kernel_rfl) (fun _ _ _ h => h) (by kernel_rfl) ?_ (by assumption) ?_; (focus (intro w hSw; (try dsimp only at hSw); go_simp; all_goals first | with_reducible rfl | simp [hq2])); simp only [Act.put, List.setIfInBounds_toArray, List.set_cons_zero, List.set_cons_succ]
          refine take_yes 16 33 ?_ rfl rfl (by kernel_rfl) (by kernel_rfl) (by kernel_rfl) (fun _ _ _ h => h) (by kernel_rfl) ?_ (by assumption) ?_; rotate_left; (focus (intro w hSw; (try dsimp only at hSw); go_simp; all_goals first | with_reducible rfl)); simp only [Act.put, List.setIfInBounds_toArray, List.set_cons_zero, List.set_cons_succ]
          have hbl := belowA wm (.cells (inC (⟨132, (a : Int), (b : Int) - 4, [], [], [], []⟩ : InD)).toArray 98)
          have hDl := HDM.out.below hbl
          have HBL : Hid (Blk (wm.alloc (.cells (inC (⟨132, (a : Int), (b : Int) - 4, [], [], [], []⟩ : InD)).toArray 98)) wm.heap.size 98 (inC (⟨132, (a : Int), (b : Int) - 4, [], [], [], []⟩ : InD)).toArray) := Lib.hid (Blk.new _ _ _)
          have hSl : (wm.alloc (.cells (inC (⟨132, (a : Int), (b : Int) - 4, [], [], [], []⟩ : InD)).toArray 98)).cell? ⟨x.g, 0, none⟩ = some (.pointer (some ⟨x.tp, 0, none⟩)) := hDl.blk.cell 0
          have c1l : (wm.alloc (.cells #[.int .u8 132, .int .i64 (a : Int), .int .i64 ((b : Int) - 4), .string ⟨#[]⟩, .string ⟨#[]⟩, .string ⟨#[]⟩, .string ⟨#[]⟩] 98)).cell? ⟨x.g, 1, none⟩ = some (.slice Cd ncd ccd) := hDl.blk.cell 1
          have hb0l := hDl.b0
          obtain ⟨A3, c3, w3, hrun, hG, hg, hr⟩ := run_append_rows (S := Empty) inC_len inC_one (by decide) 37 98 _ 88 Tryz.underlying37 Tryz.infoIn (by simp [Value.cells]) (by decide) 37 x.b0 Cd ncd ccd ((s.paid.nx x.xs)).code hDl.code ⟨wm.heap.size, 0, none⟩ 1 1 [(⟨132, (a : Int), (b : Int) - 4, [], [], [], []⟩ : InD)] (RowSl.of_blk inC_len HBL.out rfl (Nat.le_refl _) (by unfold maxLen; omega) (fun j _ => by simp) (fun h => h)) (by omega) hb0l
          have hgo := ne_own hDl.code hDl.blk (show 98 ≠ 166 by decide)
          have s1 : w3.cell? ⟨x.g, 1, none⟩ = some (.slice Cd ncd ccd) := ((only_grown hg hr).cell (p := ⟨x.g, 1, none⟩) hDl.blk.lt hgo).trans (hDl.blk.cell 1)
          have s0 : w3.cell? ⟨x.g, 0, none⟩ = some (.pointer (some ⟨x.tp, 0, none⟩)) := ((only_grown hg hr).cell (p := ⟨x.g, 0, none⟩) hDl.blk.lt hgo).trans hSl
          have s2 : w3.frozen? ⟨x.g, 1, none⟩ = false := ((only_grown hg hr).blk hDl.blk hgo).frozen 1
          obtain ⟨hP, hF⟩ := hDl.push hG hg hr
          obtain ⟨w3, hwe⟩ : ∃ W, w3.setCell ⟨x.g, 1, none⟩ (.slice A3 (ncd + 1) c3) = W := ⟨_, rfl⟩
          rw [hwe] at hP hF
          have hSe : w3.cell? ⟨x.g, 0, none⟩ = some (.pointer (some ⟨x.tp, 0, none⟩)) := hP.blk.cell 0
          have h : WrS x w3 D (((((s.paid.nx x.xs)).nx x.xs).nx x.xs).push ⟨132, (a : Int), (b : Int) - 4, [], [], [], []⟩) := ⟨A3, ncd + 1, c3, Td, ntd, ctd, Md, nmd, cmd, lmd, hP⟩
          have ho : Fr x w2 w3 := (HFM.out.trans (Fr.of_below hbl)).trans hF
          have HWE := Lib.hid hwe
          have HWX := Lib.hid h
          have HOX := Lib.hid ho
          simp only [inC] at hSl hrun
          clear hbl hDl hG hg hr hgo hP hF hwe h ho
          refine wpAnyH_ready (rs := [4, 17]) (by kernel_rfl) (by simp) ?_
          refine AllReadyH.cons rfl (fun K hK => ?_) (AllReadyH.cons rfl (fun K hK => ?_) AllReadyH.nil)
          · go_simp
            refine hK.out _ _ (hSm) (fun _ => ?_)
            clear hK K
            try simp only [Act.put, List.setIfInBounds_toArray, List.set_cons_zero, List.set_cons_succ]
            refine wpAnyH_ready (rs := [17]) (by kernel_rfl) (by simp) ?_
            refine AllReadyH.cons rfl (fun K hK => ?_) AllReadyH.nil
            go_simp
            refine hK.out _ _ (hSl) (fun _ => ?_)
            clear hK K
            try simp only [Act.put, List.setIfInBounds_toArray, List.set_cons_zero, List.set_cons_succ]
            refine wpAnyH_ready (rs := [18]) (by kernel_rfl) (by simp) ?_
            refine AllReadyH.cons rfl (fun K hK => ?_) AllReadyH.nil
            refine step_append_eq (ts := 37) rfl (.tmp 21) (.tmp 34) rfl rfl rfl rfl hrun ?_
            show K (Act.put _ (some 35) _) _
            refine hK.out _ _ (s0) (fun _ => ?_)
            clear hK K
            try simp only [Act.put, List.setIfInBounds_toArray, List.set_cons_zero, List.set_cons_succ]
            refine take_yes 19 36 ?_ rfl rfl (by kernel_rfl) (by kernel_rfl) (by kernel_rfl) (fun _ _ _ h => h) (by kernel_rfl) ?_ (by assumption) ?_; rotate_left; (focus (intro w hSw; (try dsimp only at hSw); go_simp; all_goals first | with_reducible rfl)); simp only [Act.put, List.setIfInBounds_toArray, List.set_cons_zero, List.set_cons_succ]
            refine take_yes 20 37 ?_ rfl rfl (by kernel_rfl) (by kernel_rfl) (by kernel_rfl) (fun _ _ _ h => h) (by kernel_rfl) ?_ (by assumption) ?_; rotate_left; (focus (intro w hSw; (try dsimp only at hSw); go_simp; all_goals first | with_reducible rfl)); simp only [Act.put, List.setIfInBounds_toArray, List.set_cons_zero, List.set_cons_succ]
            refine wpAnyH_ready (rs := [21]) (by kernel_rfl) (by simp) ?_
            refine AllReadyH.cons rfl (fun K hK => ?_) AllReadyH.nil
            go_simp
            rw [HWE.out]
            refine hK.out _ _ (hSe) (fun _ => ?_)
            clear hK K
            try simp only [Act.put, List.setIfInBounds_toArray, List.set_cons_zero, List.set_cons_succ]
            refine wpAnyH_done (by kernel_rfl) ?_ _
            clear hSe s0 s1 s2 hSn c1n hSm c1m c1l hSl hrun hHeld0
            have h := HWX.out
            have ho := HOX.out
            have HW3 := Lib.hid h
            have HO3 : Hid (Fr x w0 w3) := Lib.hid (HO2.out.trans ho)
            have HZ3 : Hid ((((((s.paid.nx x.xs)).nx x.xs).nx x.xs).push ⟨132, (a : Int), (b : Int) - 4, [], [], [], []⟩).sz (N + 1)) := Lib.hid ((Ws.sz_push _ (Ws.sz_nx x.xs (Ws.sz_nx x.xs HZ2.out))).more (by omega))
            clear h ho
            have HE : Hid (FS = ((((s.paid.nx x.xs)).nx x.xs).nx x.xs).push ⟨132, (a : Int), (b : Int) - 4, [], [], [], []⟩) := Lib.hid (by rw [← HFS.out]; unfold stepS; simp [HVv.out, HBD.out, HVa.out, HVb.out])
            go_wp2
            go_end0
            rw [HE.out]
            exact ⟨rfl, HW3.out, HO3.out⟩
          · go_simp
            refine hK.out _ _ (hSl) (fun _ => ?_)
            clear hK K
            try simp only [Act.put, List.setIfInBounds_toArray, List.set_cons_zero, List.set_cons_succ]
            refine wpAnyH_ready (rs := [4]) (by kernel_rfl) (by simp) ?_
            refine AllReadyH.cons rfl (fun K hK => ?_) AllReadyH.nil
            go_simp
            refine hK.out _ _ (hSl) (fun _ => ?_)
            clear hK K
            try simp only [Act.put, List.setIfInBounds_toArray, List.set_cons_zero, List.set_cons_succ]
            refine wpAnyH_ready (rs := [18]) (by kernel_rfl) (by simp) ?_
            refine AllReadyH.cons rfl (fun K hK => ?_) AllReadyH.nil
            refine step_append_eq (ts := 37) rfl (.tmp 21) (.tmp 34) rfl rfl rfl rfl hrun ?_
            show K (Act.put _ (some 35) _) _
            refine hK.out _ _ (s0) (fun _ => ?_)
            clear hK K
            try simp only [Act.put, List.setIfInBounds_toArray, List.set_cons_zero, List.set_cons_succ]
            refine take_yes 19 36 ?_ rfl rfl (by kernel_rfl) (by kernel_rfl) (by kernel_rfl) (fun _ _ _ h => h) (by kernel_rfl) ?_ (by assumption) ?_; rotate_left; (focus (intro w hSw; (try dsimp only at hSw); go_simp; all_goals first | with_reducible rfl)); simp only [Act.put, List.setIfInBounds_toArray, List.set_cons_zero, List.set_cons_succ]
            refine take_yes 20 37 ?_ rfl rfl (by kernel_rfl) (by kernel_rfl) (by kernel_rfl) (fun _ _ _ h => h) (by kernel_rfl) ?_ (by assumption) ?_; rotate_left; (focus (intro w hSw; (try dsimp only at hSw); go_simp; all_goals first | with_reducible rfl)); simp only [Act.put, List.setIfInBounds_toArray, List.set_cons_zero, List.set_cons_succ]
            refine wpAnyH_ready (rs := [21]) (by kernel_rfl) (by simp) ?_
            refine AllReadyH.cons rfl (fun K hK => ?_) AllReadyH.nil
            go_simp
            rw [HWE.out]
            refine hK.out _ _ (hSe) (fun _ => ?_)
            clear hK K
            try simp only [Act.put, List.setIfInBounds_toArray, List.set_cons_zero, List.set_cons_succ]
            refine wpAnyH_done (by kernel_rfl) ?_ _
            clear hSe s0 s1 s2 hSn c1n hSm c1m c1l hSl hrun hHeld0
            have h := HWX.out
            have ho := HOX.out
            have HW3 := Lib.hid h
            have HO3 : Hid (Fr x w0 w3) := Lib.hid (HO2.out.trans ho)
            have HZ3 : Hid ((((((s.paid.nx x.xs)).nx x.xs).nx x.xs).push ⟨132, (a : Int), (b : Int) - 4, [], [], [], []⟩).sz (N + 1)) := Lib.hid ((Ws.sz_push _ (Ws.sz_nx x.xs (Ws.sz_nx x.xs HZ2.out))).more (by omega))
            clear h ho
            have HE : Hid (FS = ((((s.paid.nx x.xs)).nx x.xs).nx x.xs).push ⟨132, (a : Int), (b : Int) - 4, [], [], [], []⟩) := Lib.hid (by rw [← HFS.out]; unfold stepS; simp [HVv.out, HBD.out, HVa.out, HVb.out])
            go_wp2
            go_end0
            rw [HE.out]
            exact ⟨rfl, HW3.out, HO3.out⟩
    · go_wp2_with fail
      refine (HRE.out _ _ _ N HW2.out HZ2.out (by omega)).mono ?_
      rintro e w3 ⟨rfl, h, ho⟩
      have HW3 := Lib.hid h
      have HO3 : Hid (Fr x w0 w3) := Lib.hid (HO2.out.trans ho)
      have HZ3 : Hid ((recW x.xs ((s.paid.nx x.xs))).sz (N + 10)) := Lib.hid ((adds_rec x.xs _ _ HZ2.out).more (by omega))
      clear h ho
      have HE : Hid (FS = recW x.xs ((s.paid.nx x.xs))) := Lib.hid (by rw [← HFS.out]; unfold stepS; simp [HVv.out, HBD.out])
      go_wp2
      go_end0
      rw [HE.out]
      exact ⟨rfl, HW3.out, HO3.out⟩
    · obtain ⟨C2, nc2, cc2, T2, nt2, ct2, M2, nm2, cm2, lm2, hD⟩ := HW2.out
      have hnc2 : nc2 ≤ N := by rw [← hD.code.row.1]; exact HZ2.out.1
      have c12 : w2.cell? ⟨x.g, 1, none⟩ = some (.slice C2 nc2 cc2) := hD.blk.cell 1
      have hgl2 := hD.blk.lt
      have hb := belowA w2 (.cells (inC (⟨18, 0, 0, [], [], [83], [104, 105]⟩ : InD)).toArray 98)
      have hD1 := hD.below hb
      have f12 : w2.frozen? ⟨x.g, 1, none⟩ = false := hD.blk.frozen 1
      have HC2 : Hid (GotR inC 7 98 x.b0 (w2.alloc (.cells (inC (⟨18, 0, 0, [], [], [83], [104, 105]⟩ : InD)).toArray 98)) C2 nc2 cc2 ((s.paid.nx x.xs)).code) := Lib.hid hD1.code
      have HB2 : Hid (Blk (w2.alloc (.cells (inC (⟨18, 0, 0, [], [], [83], [104, 105]⟩ : InD)).toArray 98)) w2.heap.size 98 (inC (⟨18, 0, 0, [], [], [83], [104, 105]⟩ : InD)).toArray) := Lib.hid (Blk.new _ _ _)
      have hb02 := hD1.b0
      have HGO2 := Lib.hid (ne_own hD.code hD.blk (by decide))
      have HD12 := Lib.hid hD1
      have HBE2 := Lib.hid hb
      clear hD hD1 hb
      simp only [inC] at HC2 HB2 HBE2 HD12 hb02
      go_wp2_with (at_builtin; refine wpList_push rfl _ _ rfl x.b0 C2 nc2 cc2 ((s.paid.nx x.xs)).code rfl HC2.out w2.heap.size (⟨18, 0, 0, [], [], [83], [104, 105]⟩ : InD) rfl HB2.out (by omega) hb02 ?_; intro C22 c22 wx2 hG2 hg2 hr2; have s12 : wx2.cell? ⟨x.g, 1, none⟩ = some (.slice C2 nc2 cc2) := ((only_grown hg2 hr2).cell (p := ⟨x.g, 1, none⟩) (by simp; omega) HGO2.out).trans (cellA _ c12); have s22 : wx2.frozen? ⟨x.g, 1, none⟩ = false := (((only_grown hg2 hr2).blk HD12.out.blk HGO2.out)).frozen 1)
      obtain ⟨hP, hF⟩ := HD12.out.push hG2 hg2 hr2
      obtain ⟨w3, hwe⟩ : ∃ W, wx2.setCell ⟨x.g, 1, none⟩ (.slice C22 (nc2 + 1) c22) = W := ⟨_, rfl⟩
      rw [hwe] at hP hF ⊢
      have h : WrS x w3 _ (((s.paid.nx x.xs)).push ⟨18, 0, 0, [], [], [83], [104, 105]⟩) := ⟨C22, nc2 + 1, c22, T2, nt2, ct2, M2, nm2, cm2, lm2, hP⟩
      have ho : Fr x w2 w3 := (Fr.of_below HBE2.out).trans hF
      clear hwe hP hF hG2 hg2 hr2 s12 s22 c12 f12
      have HW3 := Lib.hid h
      have HO3 : Hid (Fr x w0 w3) := Lib.hid (HO2.out.trans ho)
      have HZ3 : Hid ((((s.paid.nx x.xs)).push ⟨18, 0, 0, [], [], [83], [104, 105]⟩).sz (N + 1)) := Lib.hid ((Ws.sz_push _ HZ2.out).more (by omega))
      clear h ho
      go_wp2_with fail
      refine (op_v x _ _ _ (N + 1) 58 _ _ (by first | rfl | decide | assumption) HW3.out HZ3.out (by omega)).mono ?_
      rintro e w4 ⟨rfl, h, ho⟩
      have HW4 := Lib.hid h
      have HO4 : Hid (Fr x w0 w4) := Lib.hid (HO3.out.trans ho)
      have HZ4 : Hid (((((s.paid.nx x.xs)).push ⟨18, 0, 0, [], [], [83], [104, 105]⟩).op 58 7).sz (N + 2)) := Lib.hid ((Ws.sz_op _ _ HZ3.out).more (by omega))
      clear h ho
      have HE : Hid (FS = (((s.paid.nx x.xs)).push ⟨18, 0, 0, [], [], [83], [104, 105]⟩).op 58 7) := Lib.hid (by rw [← HFS.out]; unfold stepS; simp [HVv.out, HBD.out])
      go_wp2
      go_end0
      rw [HE.out]
      exact ⟨rfl, HW4.out, HO4.out⟩
    · go_wp2_with fail
      refine (op_v x _ _ _ N 25 _ _ (by first | rfl | decide | assumption) HW2.out HZ2.out (by omega)).mono ?_
      rintro e w3 ⟨rfl, h, ho⟩
      have HW3 := Lib.hid h
      have HO3 : Hid (Fr x w0 w3) := Lib.hid (HO2.out.trans ho)
      have HZ3 : Hid ((((s.paid.nx x.xs)).op 25 7).sz (N + 1)) := Lib.hid ((Ws.sz_op _ _ HZ2.out).more (by omega))
      clear h ho
      go_wp2_with fail
      refine (name_v x _ _ _ (N + 1) 184 _ sysS [112, 114, 105, 110, 116, 84, 101, 120, 116] [40, 91, 66, 41, 86] _ _ _ rfl rfl rfl rfl HW3.out HZ3.out (by omega)).mono ?_
      rintro e w4 ⟨rfl, h, ho⟩
      have HW4 := Lib.hid h
      have HO4 : Hid (Fr x w0 w4) := Lib.hid (HO3.out.trans ho)
      have HZ4 : Hid (((((s.paid.nx x.xs)).op 25 7).name 184 sysS [112, 114, 105, 110, 116, 84, 101, 120, 116] [40, 91, 66, 41, 86]).sz (N + 2)) := Lib.hid ((Ws.sz_name _ _ _ _ HZ3.out).more (by omega))
      clear h ho
      have HE : Hid (FS = (((s.paid.nx x.xs)).op 25 7).name 184 sysS [112, 114, 105, 110, 116, 84, 101, 120, 116] [40, 91, 66, 41, 86]) := Lib.hid (by rw [← HFS.out]; unfold stepS; simp [HVv.out, HBD.out])
      go_wp2
      go_end0
      rw [HE.out]
      exact ⟨rfl, HW4.out, HO4.out⟩
    · obtain ⟨Cd, ncd, ccd, Td, ntd, ctd, Md, nmd, cmd, lmd, hD⟩ := HW2.out
      have hncd : ncd ≤ N := by rw [← hD.code.row.1]; exact HZ2.out.1
      have hc0 : w2.cell? ⟨x.g, 0, none⟩ = some (.pointer (some ⟨x.tp, 0, none⟩)) := hD.blk.cell 0
      have hdr : Below w2.heap.size w2 w2.drew := ((Only.refl Empty w2).drew).below (Nat.le_refl _) (fun _ _ h => h)
      have HDD := Lib.hid (hD.below hdr)
      have HFD := Lib.hid (Fr.of_below (x := x) hdr)
      have hgl := hD.blk.lt
      have c1d : w2.drew.cell? ⟨x.g, 1, none⟩ = some (.slice Cd ncd ccd) := HDD.out.blk.cell 1
      have hc0d : w2.drew.cell? ⟨x.g, 0, none⟩ = some (.pointer (some ⟨x.tp, 0, none⟩)) := HDD.out.blk.cell 0
      obtain ⟨a, ha⟩ : ∃ a, nxV x.xs 3 ((s.paid.nx x.xs)).at_ = a := ⟨_, rfl⟩
      have ba : a < 3 := by rw [← ha]; exact nxV_lt (by omega)
      have HVa := Lib.hid ha
      obtain ⟨b, hb⟩ : ∃ b, nxV x.xs 9 (((s.paid.nx x.xs)).nx x.xs).at_ = b := ⟨_, rfl⟩
      have bb : b < 9 := by rw [← hb]; exact nxV_lt (by omega)
      have HVb := Lib.hid hb
      have CN : Hid (Calls Tryz.prog 57 #[.pointer (some ⟨x.tp, 0, none⟩), .int .i64 3] w2.drew fun e w' => e = .returned (.int .i64 (a : Int)) ∧ WrD x w' D (((s.paid.nx x.xs)).nx x.xs) Cd ncd ccd Td ntd ctd Md nmd cmd lmd ∧ Fr x w2.drew w') := Lib.hid (by
        refine (next_ex x.B x.tp x.A x.n x.cap x.xs _ 3 _ HDD.out.tape (by omega) (by omega)).mono ?_
        rintro e w' ⟨rfl, ht, ho⟩
        exact ⟨by rw [HVa.out], HDD.out.tape_ ho ht, ho.mono (fun i _ e => ow_tape x i e), keep_tape HDD.out ho⟩)
      have CM : Hid (∀ W, WrD x W D (((s.paid.nx x.xs)).nx x.xs) Cd ncd ccd Td ntd ctd Md nmd cmd lmd → Calls Tryz.prog 57 #[.pointer (some ⟨x.tp, 0, none⟩), .int .i64 9] W fun e w' => e = .returned (.int .i64 (b : Int)) ∧ WrD x w' D ((((s.paid.nx x.xs)).nx x.xs).nx x.xs) Cd ncd ccd Td ntd ctd Md nmd cmd lmd ∧ Fr x W w') := Lib.hid (fun W hW => by
        refine (next_ex x.B x.tp x.A x.n x.cap x.xs _ 9 _ hW.tape (by omega) (by omega)).mono ?_
        rintro e w' ⟨rfl, ht, ho⟩
        exact ⟨by rw [HVb.out], hW.tape_ ho ht, ho.mono (fun i _ e => ow_tape x i e), keep_tape hW ho⟩)
      clear hD hdr ha hb
      go_wp2_with fail
      clear c4 c5 hgl2
      refine wp_region_held_drew (S := fun W => W.cell? ⟨x.g, 0, none⟩ = some (.pointer (some ⟨x.tp, 0, none⟩))) (by kernel_rfl) hc0 (fun hHeld0 => ?_)
      refine take_yes 0 17 ?_ rfl rfl (by kernel_rfl) (by kernel_rfl) (by kernel_rfl) (fun _ _ _ h => h) (by kernel_rfl) ?_ (by assumption) ?_; rotate_left; (focus (intro w hSw; (try dsimp only at hSw); go_simp; all_goals first | with_reducible rfl)); simp only [Act.put, List.setIfInBounds_toArray, List.set_cons_zero, List.set_cons_succ]
      refine take_yes 1 18 ?_ rfl rfl (by kernel_rfl) (by kernel_rfl) (by kernel_rfl) (fun _ _ _ h => h) (by kernel_rfl) ?_ (by assumption) ?_; rotate_left; (focus (intro w hSw; (try dsimp only at hSw); go_simp; all_goals first | with_reducible rfl)); simp only [Act.put, List.setIfInBounds_toArray, List.set_cons_zero, List.set_cons_succ]
      refine take_yes 2 19 ?_ rfl rfl (by kernel_rfl) (by kernel_rfl) (by kernel_rfl) (fun _ _ _ h => h) (by kernel_rfl) ?_ (by assumption) ?_; rotate_left; (focus (intro w hSw; (try dsimp only at hSw); go_simp; all_goals first | with_reducible rfl)); simp only [Act.put, List.setIfInBounds_toArray, List.set_cons_zero, List.set_cons_succ]
      refine take_yes 3 20 ?_ rfl rfl (by kernel_rfl) (by kernel_rfl) (by kernel_rfl) (fun _ _ _ h => h) (by kernel_rfl) ?_ (by assumption) ?_; rotate_left; (focus (intro w hSw; (try dsimp only at hSw); go_simp; all_goals first | with_reducible rfl)); simp only [Act.put, List.setIfInBounds_toArray, List.set_cons_zero, List.set_cons_succ]
      refine take_yes 5 22 ?_ rfl rfl (by kernel_rfl) (by kernel_rfl) (by kernel_rfl) (fun _ _ _ h => h) (by kernel_rfl) ?_ (by assumption) ?_; rotate_left; (focus (intro w hSw; (try dsimp only at hSw); go_simp; all_goals first | with_reducible rfl)); simp only [Act.put, List.setIfInBounds_toArray, List.set_cons_zero, List.set_cons_succ]
      refine take_yes 6 23 ?_ rfl rfl (by kernel_rfl) (by kernel_rfl) (by kernel_rfl) (fun _ _ _ h => h) (by kernel_rfl) ?_ (by assumption) ?_; rotate_left; (focus (intro w hSw; (try dsimp only at hSw); go_simp; all_goals first | with_reducible rfl)); simp only [Act.put, List.setIfInBounds_toArray, List.set_cons_zero, List.set_cons_succ]
      refine take_yes 7 24 ?_ rfl rfl (by kernel_rfl) (by kernel_rfl) (by kernel_rfl) (fun _ _ _ h => h) (by kernel_rfl) ?_ (by assumption) ?_; rotate_left; (focus (intro w hSw; (try dsimp only at hSw); go_simp; all_goals first | with_reducible rfl)); simp only [Act.put, List.setIfInBounds_toArray, List.set_cons_zero, List.set_cons_succ]
      refine take_yes 8 25 ?_ rfl rfl (by kernel_rfl) (by kernel_rfl) (by kernel_rfl) (fun _ _ _ h => h) (by kernel_rfl) ?_ (by assumption) ?_; rotate_left; (focus (intro w hSw; (try dsimp only at hSw); go_simp; all_goals first | with_reducible rfl)); simp only [Act.put, List.setIfInBounds_toArray, List.set_cons_zero, List.set_cons_succ]
      refine take_yes 10 27 ?_ rfl rfl (by kernel_rfl) (by kernel_rfl) (by kernel_rfl) (fun _ _ _ h => h) (by kernel_rfl) ?_ (by assumption) ?_; rotate_left; (focus (intro w hSw; (try dsimp only at hSw); go_simp; all_goals first | with_reducible rfl)); simp only [Act.put, List.setIfInBounds_toArray, List.set_cons_zero, List.set_cons_succ]
      refine take_yes 11 28 ?_ rfl rfl (by kernel_rfl) (by kernel_rfl) (by kernel_rfl) (fun _ _ _ h => h) (by kernel_rfl) ?_ (by assumption) ?_; rotate_left; (focus (intro w hSw; (try dsimp only at hSw); go_simp; all_goals first | with_reducible rfl)); simp only [Act.put, List.setIfInBounds_toArray, List.set_cons_zero, List.set_cons_succ]
      refine take_yes 12 29 ?_ rfl rfl (by kernel_rfl) (by kernel_rfl) (by kernel_rfl) (fun _ _ _ h => h) (by kernel_rfl) ?_ (by assumption) ?_; rotate_left; (focus (intro w hSw; (try dsimp only at hSw); go_simp; all_goals first | with_reducible rfl)); simp only [Act.put, List.setIfInBounds_toArray, List.set_cons_zero, List.set_cons_succ]
      refine take_yes 13 30 ?_ rfl rfl (by kernel_rfl) (by kernel_rfl) (by kernel_rfl) (fun _ _ _ h => h) (by kernel_rfl) ?_ (by assumption) ?_; rotate_left; (focus (intro w hSw; (try dsimp only at hSw); go_simp; all_goals first | with_reducible rfl)); simp only [Act.put, List.setIfInBounds_toArray, List.set_cons_zero, List.set_cons_succ]
      refine wpAnyH_ready (rs := [4, 9]) (by kernel_rfl) (by simp) ?_
      refine AllReadyH.cons rfl (fun K hK => ?_) (AllReadyH.cons rfl (fun K hK => ?_) AllReadyH.nil)
      · go_simp
        refine hK.out _ _ (hc0d) (fun _ => ?_)
        clear hK K
        try simp only [Act.put, List.setIfInBounds_toArray, List.set_cons_zero, List.set_cons_succ]
        refine wpAnyH_ready (rs := [9]) (by kernel_rfl) (by simp) ?_
        refine AllReadyH.cons rfl (fun K hK => ?_) AllReadyH.nil
        go_simp
        go_at_call 57; (refine CN.out.mono ?_); rintro e wn ⟨rfl, hDn, hFn⟩
        have HDN := Lib.hid hDn
        have HFN := Lib.hid (HFD.out.trans hFn)
        have hSn : wn.cell? ⟨x.g, 0, none⟩ = some (.pointer (some ⟨x.tp, 0, none⟩)) := hDn.blk.cell 0
        have c1n : wn.cell? ⟨x.g, 1, none⟩ = some (.slice Cd ncd ccd) := hDn.blk.cell 1
        clear hDn hFn
        go_wp2_with fail
        refine hK.out _ _ (hSn) (fun _ => ?_)
        clear hK K
        try simp only [Act.put, List.setIfInBounds_toArray, List.set_cons_zero, List.set_cons_succ]
        refine wpAnyH_ready (rs := [14]) (by kernel_rfl) (by simp) ?_
        refine AllReadyH.cons rfl (fun K hK => ?_) AllReadyH.nil
        go_simp
        go_at_call 57; (refine (CM.out _ HDN.out).mono ?_); rintro e wm ⟨rfl, hDm, hFm⟩
        have HDM := Lib.hid hDm
        have HFM := Lib.hid (HFN.out.trans hFm)
        have hSm : wm.cell? ⟨x.g, 0, none⟩ = some (.pointer (some ⟨x.tp, 0, none⟩)) := hDm.blk.cell 0
        have c1m : wm.cell? ⟨x.g, 1, none⟩ = some (.slice Cd ncd ccd) := hDm.blk.cell 1
        clear hDm hFm
        go_wp2_with fail
        refine hK.out _ _ (hSm) (fun _ => ?_)
        clear hK K
        try simp only [Act.put, List.setIfInBounds_toArray, List.set_cons_zero, List.set_cons_succ]
        have hq2 : IntKind.i64.wrap ((b : Int) - 4) = (b : Int) - 4 := by rw [IntKind.wrap_i64]; omega
        refine take_yes 15 32 (.int .i64 ((b : Int) - 4)) rfl rfl (by kernel_rfl) (by kernel_rfl) (by kernel_rfl) (fun _ _ _ h => h) (by kernel_rfl) ?_ (by assumption) ?_; (focus (intro w hSw; (try dsimp only at hSw); go_simp; all_goals first | with_reducible rfl | simp [hq2])); simp only [Act.put, List.setIfInBounds_toArray, List.set_cons_zero, List.set_cons_succ]
        refine take_yes 16 33 ?_ rfl rfl (by kernel_rfl) (by kernel_rfl) (by kernel_rfl) (fun _ _ _ h => h) (by kernel_rfl) ?_ (by assumption) ?_; rotate_left; (focus (intro w hSw; (try dsimp only at hSw); go_simp; all_goals first | with_reducible rfl)); simp only [Act.put, List.setIfInBounds_toArray, List.set_cons_zero, List.set_cons_succ]
        have hbl := belowA wm (.cells (inC (⟨132, (a : Int), (b : Int) - 4, [], [], [], []⟩ : InD)).toArray 98)
        have hDl := HDM.out.below hbl
        have HBL : Hid (Blk (wm.alloc (.cells (inC (⟨132, (a : Int), (b : Int) - 4, [], [], [], []⟩ : InD)).toArray 98)) wm.heap.size 98 (inC (⟨132, (a : Int), (b : Int) - 4, [], [], [], []⟩ : InD)).toArray) := Lib.hid (Blk.new _ _ _)
        have hSl : (wm.alloc (.cells (inC (⟨132, (a : Int), (b : Int) - 4, [], [], [], []⟩ : InD)).toArray 98)).cell? ⟨x.g, 0, none⟩ = some (.pointer (some ⟨x.tp, 0, none⟩)) := hDl.blk.cell 0
        have c1l : (wm.alloc (.cells #[.int .u8 132, .int .i64 (a : Int), .int .i64 ((b : Int) - 4), .string ⟨#[]⟩, .string ⟨#[]⟩, .string ⟨#[]⟩, .string ⟨#[]⟩] 98)).cell? ⟨x.g, 1, none⟩ = some (.slice Cd ncd ccd) := hDl.blk.cell 1
        have hb0l := hDl.b0
        obtain ⟨A3, c3, w3, hrun, hG, hg, hr⟩ := run_append_rows (S := Empty) inC_len inC_one (by decide) 37 98 _ 88 Tryz.underlying37 Tryz.infoIn (by simp [Value.cells]) (by decide) 37 x.b0 Cd ncd ccd ((s.paid.nx x.xs)).code hDl.code ⟨wm.heap.size, 0, none⟩ 1 1 [(⟨132, (a : Int), (b : Int) - 4, [], [], [], []⟩ : InD)] (RowSl.of_blk inC_len HBL.out rfl (Nat.le_refl _) (by unfold maxLen; omega) (fun j _ => by simp) (fun h => h)) (by omega) hb0l
        have hgo := ne_own hDl.code hDl.blk (show 98 ≠ 166 by decide)
        have s1 : w3.cell? ⟨x.g, 1, none⟩ = some (.slice Cd ncd ccd) := ((only_grown hg hr).cell (p := ⟨x.g, 1, none⟩) hDl.blk.lt hgo).trans (hDl.blk.cell 1)
        have s0 : w3.cell? ⟨x.g, 0, none⟩ = some (.pointer (some ⟨x.tp, 0, none⟩)) := ((only_grown hg hr).cell (p := ⟨x.g, 0, none⟩) hDl.blk.lt hgo).trans hSl
        have s2 : w3.frozen? ⟨x.g, 1, none⟩ = false := ((only_grown hg hr).blk hDl.blk hgo).frozen 1
        obtain ⟨hP, hF⟩ := hDl.push hG hg hr
        obtain ⟨w3, hwe⟩ : ∃ W, w3.setCell ⟨x.g, 1, none⟩ (.slice A3 (ncd + 1) c3) = W := ⟨_, rfl⟩
        rw [hwe] at hP hF
        have hSe : w3.cell? ⟨x.g, 0, none⟩ = some (.pointer (some ⟨x.tp, 0, none⟩)) := hP.blk.cell 0
        have h : WrS x w3 D (((((s.paid.nx x.xs)).nx x.xs).nx x.xs).push ⟨132, (a : Int), (b : Int) - 4, [], [], [], []⟩) := ⟨A3, ncd + 1, c3, Td, ntd, ctd, Md, nmd, cmd, lmd, hP⟩
        have ho : Fr x w2 w3 := (HFM.out.trans (Fr.of_below hbl)).trans hF
        have HWE := Lib.hid hwe
        have HWX := Lib.hid h
        have HOX := Lib.hid ho
        simp only [inC] at hSl hrun
        clear hbl hDl hG hg hr hgo hP hF hwe h ho
        refine wpAnyH_ready (rs := [17]) (by kernel_rfl) (by simp) ?_
        refine AllReadyH.cons rfl (fun K hK => ?_) AllReadyH.nil
        go_simp
        refine hK.out _ _ (hSl) (fun _ => ?_)
        clear hK K
        try simp only [Act.put, List.setIfInBounds_toArray, List.set_cons_zero, List.set_cons_succ]
        refine wpAnyH_ready (rs := [18]) (by kernel_rfl) (by simp) ?_
        refine AllReadyH.cons rfl (fun K hK => ?_) AllReadyH.nil
        refine step_append_eq (ts := 37) rfl (.tmp 21) (.tmp 34) rfl rfl rfl rfl hrun ?_
        show K (Act.put _ (some 35) _) _
        refine hK.out _ _ (s0) (fun _ => ?_)
        clear hK K
        try simp only [Act.put, List.setIfInBounds_toArray, List.set_cons_zero, List.set_cons_succ]
        refine take_yes 19 36 ?_ rfl rfl (by kernel_rfl) (by kernel_rfl) (by kernel_rfl) (fun _ _ _ h => h) (by kernel_rfl) ?_ (by assumption) ?_; rotate_left; (focus (intro w hSw; (try dsimp only at hSw); go_simp; all_goals first | with_reducible rfl)); simp only [Act.put, List.setIfInBounds_toArray, List.set_cons_zero, List.set_cons_succ]
        refine take_yes 20 37 ?_ rfl rfl (by kernel_rfl) (by kernel_rfl) (by kernel_rfl) (fun _ _ _ h => h) (by kernel_rfl) ?_ (by assumption) ?_; rotate_left; (focus (intro w hSw; (try dsimp only at hSw); go_simp; all_goals first | with_reducible rfl)); simp only [Act.put, List.setIfInBounds_toArray, List.set_cons_zero, List.set_cons_succ]
        refine wpAnyH_ready (rs := [21]) (by kernel_rfl) (by simp) ?_
        refine AllReadyH.cons rfl (fun K hK => ?_) AllReadyH.nil
        go_simp
        rw [HWE.out]
        refine hK.out _ _ (hSe) (fun _ => ?_)
        clear hK K
        try simp only [Act.put, List.setIfInBounds_toArray, List.set_cons_zero, List.set_cons_succ]
        refine wpAnyH_done (by kernel_rfl) ?_ _
        clear hSe s0 s1 s2 hSn c1n hSm c1m c1l hSl hrun hHeld0
        have h := HWX.out
        have ho := HOX.out
        have HW3 := Lib.hid h
        have HO3 : Hid (Fr x w0 w3) := Lib.hid (HO2.out.trans ho)
        have HZ3 : Hid ((((((s.paid.nx x.xs)).nx x.xs).nx x.xs).push ⟨132, (a : Int), (b : Int) - 4, [], [], [], []⟩).sz (N + 1)) := Lib.hid ((Ws.sz_push _ (Ws.sz_nx x.xs (Ws.sz_nx x.xs HZ2.out))).more (by omega))
        clear h ho
        have HE : Hid (FS = ((((s.paid.nx x.xs)).nx x.xs).nx x.xs).push ⟨132, (a : Int), (b : Int) - 4, [], [], [], []⟩) := Lib.hid (by rw [← HFS.out]; unfold stepS; simp [HVv.out, HBD.out, HVa.out, HVb.out])
        go_wp2
        go_end0
        rw [HE.out]
        exact ⟨rfl, HW3.out, HO3.out⟩
      · go_simp
        go_at_call 57; (refine CN.out.mono ?_); rintro e wn ⟨rfl, hDn, hFn⟩
        have HDN := Lib.hid hDn
        have HFN := Lib.hid (HFD.out.trans hFn)
        have hSn : wn.cell? ⟨x.g, 0, none⟩ = some (.pointer (some ⟨x.tp, 0, none⟩)) := hDn.blk.cell 0
        have c1n : wn.cell? ⟨x.g, 1, none⟩ = some (.slice Cd ncd ccd) := hDn.blk.cell 1
        clear hDn hFn
        go_wp2_with fail
        refine hK.out _ _ (hSn) (fun _ => ?_)
        clear hK K
        try simp only [Act.put, List.setIfInBounds_toArray, List.set_cons_zero, List.set_cons_succ]
        refine wpAnyH_ready (rs := [4, 14]) (by kernel_rfl) (by simp) ?_
        refine AllReadyH.cons rfl (fun K hK => ?_) (AllReadyH.cons rfl (fun K hK => ?_) AllReadyH.nil)
        · go_simp
          refine hK.out _ _ (hSn) (fun _ => ?_)
          clear hK K
          try simp only [Act.put, List.setIfInBounds_toArray, List.set_cons_zero, List.set_cons_succ]
          refine wpAnyH_ready (rs := [14]) (by kernel_rfl) (by simp) ?_
          refine AllReadyH.cons rfl (fun K hK => ?_) AllReadyH.nil
          go_simp
          go_at_call 57; (refine (CM.out _ HDN.out).mono ?_); rintro e wm ⟨rfl, hDm, hFm⟩
          have HDM := Lib.hid hDm
          have HFM := Lib.hid (HFN.out.trans hFm)
          have hSm : wm.cell? ⟨x.g, 0, none⟩ = some (.pointer (some ⟨x.tp, 0, none⟩)) := hDm.blk.cell 0
          have c1m : wm.cell? ⟨x.g, 1, none⟩ = some (.slice Cd ncd ccd) := hDm.blk.cell 1
          clear hDm hFm
          go_wp2_with fail
          refine hK.out _ _ (hSm) (fun _ => ?_)
          clear hK K
          try simp only [Act.put, List.setIfInBounds_toArray, List.set_cons_zero, List.set_cons_succ]
          have hq2 : IntKind.i64.wrap ((b : Int) - 4) = (b : Int) - 4 := by rw [IntKind.wrap_i64]; omega
          refine take_yes 15 32 (.int .i64 ((b : Int) - 4)) rfl rfl (by kernel_rfl) (by kernel_rfl) (by kernel_rfl) (fun _ _ _ h => h) (by kernel_rfl) ?_ (by assumption) ?_; (focus (intro w hSw; (try dsimp only at hSw); go_simp; all_goals first | with_reducible rfl | simp [hq2])); simp only [Act.put, List.setIfInBounds_toArray, List.set_cons_zero, List.set_cons_succ]
          refine take_yes 16 33 ?_ rfl rfl (by kernel_rfl) (by kernel_rfl) (by kernel_rfl) (fun _ _ _ h => h) (by kernel_rfl) ?_ (by assumption) ?_; rotate_left; (focus (intro w hSw; (try dsimp only at hSw); go_simp; all_goals first | with_reducible rfl)); simp only [Act.put, List.setIfInBounds_toArray, List.set_cons_zero, List.set_cons_succ]
          have hbl := belowA wm (.cells (inC (⟨132, (a : Int), (b : Int) - 4, [], [], [], []⟩ : InD)).toArray 98)
          have hDl := HDM.out.below hbl
          have HBL : Hid (Blk (wm.alloc (.cells (inC (⟨132, (a : Int), (b : Int) - 4, [], [], [], []⟩ : InD)).toArray 98)) wm.heap.size 98 (inC (⟨132, (a : Int), (b : Int) - 4, [], [], [], []⟩ : InD)).toArray) := Lib.hid (Blk.new _ _ _)
          have hSl : (wm.alloc (.cells (inC (⟨132, (a : Int), (b : Int) - 4, [], [], [], []⟩ : InD)).toArray 98)).cell? ⟨x.g, 0, none⟩ = some (.pointer (some ⟨x.tp, 0, none⟩)) := hDl.blk.cell 0
          have c1l : (wm.alloc (.cells #[.int .u8 132, .int .i64 (a : Int), .int .i64 ((b : Int) - 4), .string ⟨#[]⟩, .string ⟨#[]⟩, .string ⟨#[]⟩, .string ⟨#[]⟩] 98)).cell? ⟨x.g, 1, none⟩ = some (.slice Cd ncd ccd) := hDl.blk.cell 1
          have hb0l := hDl.b0
          obtain ⟨A3, c3, w3, hrun, hG, hg, hr⟩ := run_append_rows (S := Empty) inC_len inC_one (by decide) 37 98 _ 88 Tryz.underlying37 Tryz.infoIn (by simp [Value.cells]) (by decide) 37 x.b0 Cd ncd ccd ((s.paid.nx x.xs)).code hDl.code ⟨wm.heap.size, 0, none⟩ 1 1 [(⟨132, (a : Int), (b : Int) - 4, [], [], [], []⟩ : InD)] (RowSl.of_blk inC_len HBL.out rfl (Nat.le_refl _) (by unfold maxLen; omega) (fun j _ => by simp) (fun h => h)) (by omega) hb0l
          have hgo := ne_own hDl.code hDl.blk (show 98 ≠ 166 by decide)
          have s1 : w3.cell? ⟨x.g, 1, none⟩ = some (.slice Cd ncd ccd) := ((only_grown hg hr).cell (p := ⟨x.g, 1, none⟩) hDl.blk.lt hgo).trans (hDl.blk.cell 1)
          have s0 : w3.cell? ⟨x.g, 0, none⟩ = some (.pointer (some ⟨x.tp, 0, none⟩)) := ((only_grown hg hr).cell (p := ⟨x.g, 0, none⟩) hDl.blk.lt hgo).trans hSl
          have s2 : w3.frozen? ⟨x.g, 1, none⟩ = false := ((only_grown hg hr).blk hDl.blk hgo).frozen 1
          obtain ⟨hP, hF⟩ := hDl.push hG hg hr
          obtain ⟨w3, hwe⟩ : ∃ W, w3.setCell ⟨x.g, 1, none⟩ (.slice A3 (ncd + 1) c3) = W := ⟨_, rfl⟩
          rw [hwe] at hP hF
          have hSe : w3.cell? ⟨x.g, 0, none⟩ = some (.pointer (some ⟨x.tp, 0, none⟩)) := hP.blk.cell 0
          have h : WrS x w3 D (((((s.paid.nx x.xs)).nx x.xs).nx x.xs).push ⟨132, (a : Int), (b : Int) - 4, [], [], [], []⟩) := ⟨A3, ncd + 1, c3, Td, ntd, ctd, Md, nmd, cmd, lmd, hP⟩
          have ho : Fr x w2 w3 := (HFM.out.trans (Fr.of_below hbl)).trans hF
          have HWE := Lib.hid hwe
          have HWX := Lib.hid h
          have HOX := Lib.hid ho
          simp only [inC] at hSl hrun
          clear hbl hDl hG hg hr hgo hP hF hwe h ho
          refine wpAnyH_ready (rs := [17]) (by kernel_rfl) (by simp) ?_
          refine AllReadyH.cons rfl (fun K hK => ?_) AllReadyH.nil
          go_simp
          refine hK.out _ _ (hSl) (fun _ => ?_)
          clear hK K
          try simp only [Act.put, List.setIfInBounds_toArray, List.set_cons_zero, List.set_cons_succ]
          refine wpAnyH_ready (rs := [18]) (by kernel_rfl) (by simp) ?_
          refine AllReadyH.cons rfl (fun K hK => ?_) AllReadyH.nil
          refine step_append_eq (ts := 37) rfl (.tmp 21) (.tmp 34) rfl rfl rfl rfl hrun ?_
          show K (Act.put _ (some 35) _) _
          refine hK.out _ _ (s0) (fun _ => ?_)
          clear hK K
          try simp only [Act.put, List.setIfInBounds_toArray, List.set_cons_zero, List.set_cons_succ]
          refine take_yes 19 36 ?_ rfl rfl (by kernel_rfl) (by kernel_rfl) (by kernel_rfl) (fun _ _ _ h => h) (by kernel_rfl) ?_ (by assumption) ?_; rotate_left; (focus (intro w hSw; (try dsimp only at hSw); go_simp; all_goals first | with_reducible rfl)); simp only [Act.put, List.setIfInBounds_toArray, List.set_cons_zero, List.set_cons_succ]
          refine take_yes 20 37 ?_ rfl rfl (by kernel_rfl) (by kernel_rfl) (by kernel_rfl) (fun _ _ _ h => h) (by kernel_rfl) ?_ (by assumption) ?_; rotate_left; (focus (intro w hSw; (try dsimp only at hSw); go_simp; all_goals first | with_reducible rfl)); simp only [Act.put, List.setIfInBounds_toArray, List.set_cons_zero, List.set_cons_succ]
          refine wpAnyH_ready (rs := [21]) (by kernel_rfl) (by simp) ?_
          refine AllReadyH.cons rfl (fun K hK => ?_) AllReadyH.nil
          go_simp
          rw [HWE.out]
          refine hK.out _ _ (hSe) (fun _ => ?_)
          clear hK K
          try simp only [Act.put, List.setIfInBounds_toArray, List.set_cons_zero, List.set_cons_succ]
          refine wpAnyH_done (by kernel_rfl) ?_ _
          clear hSe s0 s1 s2 hSn c1n hSm c1m c1l hSl hrun hHeld0
          have h := HWX.out
          have ho := HOX.out
          have HW3 := Lib.hid h
          have HO3 : Hid (Fr x w0 w3) := Lib.hid (HO2.out.trans ho)
          have HZ3 : Hid ((((((s.paid.nx x.xs)).nx x.xs).nx x.xs).push ⟨132, (a : Int), (b : Int) - 4, [], [], [], []⟩).sz (N + 1)) := Lib.hid ((Ws.sz_push _ (Ws.sz_nx x.xs (Ws.sz_nx x.xs HZ2.out))).more (by omega))
          clear h ho
          have HE : Hid (FS = ((((s.paid.nx x.xs)).nx x.xs).nx x.xs).push ⟨132, (a : Int), (b : Int) - 4, [], [], [], []⟩) := Lib.hid (by rw [← HFS.out]; unfold stepS; simp [HVv.out, HBD.out, HVa.out, HVb.out])
          go_wp2
          go_end0
          rw [HE.out]
          exact ⟨rfl, HW3.out, HO3.out⟩
        · go_simp
          go_at_call 57; (refine (CM.out _ HDN.out).mono ?_); rintro e wm ⟨rfl, hDm, hFm⟩
          have HDM := Lib.hid hDm
          have HFM := Lib.hid (HFN.out.trans hFm)
          have hSm : wm.cell? ⟨x.g, 0, none⟩ = some (.pointer (some ⟨x.tp, 0, none⟩)) := hDm.blk.cell 0
          have c1m : wm.cell? ⟨x.g, 1, none⟩ = some (.slice Cd ncd ccd) := hDm.blk.cell 1
          clear hDm hFm
          go_wp2_with fail
          refine hK.out _ _ (hSm) (fun _ => ?_)
          clear hK K
          try simp only [Act.put, List.setIfInBounds_toArray, List.set_cons_zero, List.set_cons_succ]
          have hq2 : IntKind.i64.wrap ((b : Int) - 4) = (b : Int) - 4 := by rw [IntKind.wrap_i64]; omega
          refine take_yes 15 32 (.int .i64 ((b : Int) - 4)) rfl rfl (by kernel_rfl) (by kernel_rfl) (by kernel_rfl) (fun _ _ _ h => h) (by kernel_rfl) ?_ (by assumption) ?_; (focus (intro w hSw; (try dsimp only at hSw); go_simp; all_goals first | with_reducible rfl | simp [hq2])); simp only [Act.put, List.setIfInBounds_toArray, List.set_cons_zero, List.set_cons_succ]
          refine take_yes 16 33 ?_ rfl rfl (by kernel_rfl) (by kernel_rfl) (by kernel_rfl) (fun _ _ _ h => h) (by kernel_rfl) ?_ (by assumption) ?_; rotate_left; (focus (intro w hSw; (try dsimp only at hSw); go_simp; all_goals first | with_reducible rfl)); simp only [Act.put, List.setIfInBounds_toArray, List.set_cons_zero, List.set_cons_succ]
          have hbl := belowA wm (.cells (inC (⟨132, (a : Int), (b : Int) - 4, [], [], [], []⟩ : InD)).toArray 98)
          have hDl := HDM.out.below hbl
          have HBL : Hid (Blk (wm.alloc (.cells (inC (⟨132, (a : Int), (b : Int) - 4, [], [], [], []⟩ : InD)).toArray 98)) wm.heap.size 98 (inC (⟨132, (a : Int), (b : Int) - 4, [], [], [], []⟩ : InD)).toArray) := Lib.hid (Blk.new _ _ _)
          have hSl : (wm.alloc (.cells (inC (⟨132, (a : Int), (b : Int) - 4, [], [], [], []⟩ : InD)).toArray 98)).cell? ⟨x.g, 0, none⟩ = some (.pointer (some ⟨x.tp, 0, none⟩)) := hDl.blk.cell 0
          have c1l : (wm.alloc (.cells #[.int .u8 132, .int .i64 (a : Int), .int .i64 ((b : Int) - 4), .string ⟨#[]⟩, .string ⟨#[]⟩, .string ⟨#[]⟩, .string ⟨#[]⟩] 98)).cell? ⟨x.g, 1, none⟩ = some (.slice Cd ncd ccd) := hDl.blk.cell 1
          have hb0l := hDl.b0
          obtain ⟨A3, c3, w3, hrun, hG, hg, hr⟩ := run_append_rows (S := Empty) inC_len inC_one (by decide) 37 98 _ 88 Tryz.underlying37 Tryz.infoIn (by simp [Value.cells]) (by decide) 37 x.b0 Cd ncd ccd ((s.paid.nx x.xs)).code hDl.code ⟨wm.heap.size, 0, none⟩ 1 1 [(⟨132, (a : Int), (b : Int) - 4, [], [], [], []⟩ : InD)] (RowSl.of_blk inC_len HBL.out rfl (Nat.le_refl _) (by unfold maxLen; omega) (fun j _ => by simp) (fun h => h)) (by omega) hb0l
          have hgo := ne_own hDl.code hDl.blk (show 98 ≠ 166 by decide)
          have s1 : w3.cell? ⟨x.g, 1, none⟩ = some (.slice Cd ncd ccd) := ((only_grown hg hr).cell (p := ⟨x.g, 1, none⟩) hDl.blk.lt hgo).trans (hDl.blk.cell 1)
          have s0 : w3.cell? ⟨x.g, 0, none⟩ = some (.pointer (some ⟨x.tp, 0, none⟩)) := ((only_grown hg hr).cell (p := ⟨x.g, 0, none⟩) hDl.blk.lt hgo).trans hSl
          have s2 : w3.frozen? ⟨x.g, 1, none⟩ = false := ((only_grown hg hr).blk hDl.blk hgo).frozen 1
          obtain ⟨hP, hF⟩ := hDl.push hG hg hr
          obtain ⟨w3, hwe⟩ : ∃ W, w3.setCell ⟨x.g, 1, none⟩ (.slice A3 (ncd + 1) c3) = W := ⟨_, rfl⟩
          rw [hwe] at hP hF
          have hSe : w3.cell? ⟨x.g, 0, none⟩ = some (.pointer (some ⟨x.tp, 0, none⟩)) := hP.blk.cell 0
          have h : WrS x w3 D (((((s.paid.nx x.xs)).nx x.xs).nx x.xs).push ⟨132, (a : Int), (b : Int) - 4, [], [], [], []⟩) := ⟨A3, ncd + 1, c3, Td, ntd, ctd, Md, nmd, cmd, lmd, hP⟩
          have ho : Fr x w2 w3 := (HFM.out.trans (Fr.of_below hbl)).trans hF
          have HWE := Lib.hid hwe
          have HWX := Lib.hid h
          have HOX := Lib.hid ho
          simp only [inC] at hSl hrun
          clear hbl hDl hG hg hr hgo hP hF hwe h ho
          refine wpAnyH_ready (rs := [4, 17]) (by kernel_rfl) (by simp) ?_
          refine AllReadyH.cons rfl (fun K hK => ?_) (AllReadyH.cons rfl (fun K hK => ?_) AllReadyH.nil)
          · go_simp
            refine hK.out _ _ (hSm) (fun _ => ?_)
            clear hK K
            try simp only [Act.put, List.setIfInBounds_toArray, List.set_cons_zero, List.set_cons_succ]
            refine wpAnyH_ready (rs := [17]) (by kernel_rfl) (by simp) ?_
            refine AllReadyH.cons rfl (fun K hK => ?_) AllReadyH.nil
            go_simp
            refine hK.out _ _ (hSl) (fun _ => ?_)
            clear hK K
            try simp only [Act.put, List.setIfInBounds_toArray, List.set_cons_zero, List.set_cons_succ]
            refine wpAnyH_ready (rs := [18]) (by kernel_rfl) (by simp) ?_
            refine AllReadyH.cons rfl (fun K hK => ?_) AllReadyH.nil
            refine step_append_eq (ts := 37) rfl (.tmp 21) (.tmp 34) rfl rfl rfl rfl hrun ?_
            show K (Act.put _ (some 35) _) _
            refine hK.out _ _ (s0) (fun _ => ?_)
            clear hK K
            try simp only [Act.put, List.setIfInBounds_toArray, List.set_cons_zero, List.set_cons_succ]
            refine take_yes 19 36 ?_ rfl rfl (by kernel_rfl) (by kernel_rfl) (by kernel_rfl) (fun _ _ _ h => h) (by kernel_rfl) ?_ (by assumption) ?_; rotate_left; (focus (intro w hSw; (try dsimp only at hSw); go_simp; all_goals first | with_reducible rfl)); simp only [Act.put, List.setIfInBounds_toArray, List.set_cons_zero, List.set_cons_succ]
            refine take_yes 20 37 ?_ rfl rfl (by kernel_rfl) (by kernel_rfl) (by kernel_rfl) (fun _ _ _ h => h) (by kernel_rfl) ?_ (by assumption) ?_; rotate_left; (focus (intro w hSw; (try dsimp only at hSw); go_simp; all_goals first | with_reducible rfl)); simp only [Act.put, List.setIfInBounds_toArray, List.set_cons_zero, List.set_cons_succ]
            refine wpAnyH_ready (rs := [21]) (by kernel_rfl) (by simp) ?_
            refine AllReadyH.cons rfl (fun K hK => ?_) AllReadyH.nil
            go_simp
            rw [HWE.out]
            refine hK.out _ _ (hSe) (fun _ => ?_)
            clear hK K
            try simp only [Act.put, List.setIfInBounds_toArray, List.set_cons_zero, List.set_cons_succ]
            refine wpAnyH_done (by kernel_rfl) ?_ _
            clear hSe s0 s1 s2 hSn c1n hSm c1m c1l hSl hrun hHeld0
            have h := HWX.out
            have ho := HOX.out
            have HW3 := Lib.hid h
            have HO3 : Hid (Fr x w0 w3) := Lib.hid (HO2.out.trans ho)
            have HZ3 : Hid ((((((s.paid.nx x.xs)).nx x.xs).nx x.xs).push ⟨132, (a : Int), (b : Int) - 4, [], [], [], []⟩).sz (N + 1)) := Lib.hid ((Ws.sz_push _ (Ws.sz_nx x.xs (Ws.sz_nx x.xs HZ2.out))).more (by omega))
            clear h ho
            have HE : Hid (FS = ((((s.paid.nx x.xs)).nx x.xs).nx x.xs).push ⟨132, (a : Int), (b : Int) - 4, [], [], [], []⟩) := Lib.hid (by rw [← HFS.out]; unfold stepS; simp [HVv.out, HBD.out, HVa.out, HVb.out])
            go_wp2
            go_end0
            rw [HE.out]
            exact ⟨rfl, HW3.out, HO3.out⟩
          · go_simp
            refine hK.out _ _ (hSl) (fun _ => ?_)
            clear hK K
            try simp only [Act.put, List.setIfInBounds_toArray, List.set_cons_zero, List.set_cons_succ]
            refine wpAnyH_ready (rs := [4]) (by kernel_rfl) (by simp) ?_
            refine AllReadyH.cons rfl (fun K hK => ?_) AllReadyH.nil
            go_simp
            refine hK.out _ _ (hSl) (fun _ => ?_)
            clear hK K
            try simp only [Act.put, List.setIfInBounds_toArray, List.set_cons_zero, List.set_cons_succ]
            refine wpAnyH_ready (rs := [18]) (by kernel_rfl) (by simp) ?_
            refine AllReadyH.cons rfl (fun K hK => ?_) AllReadyH.nil
            refine step_append_eq (ts := 37) rfl (.tmp 21) (.tmp 34) rfl rfl rfl rfl hrun ?_
            show K (Act.put _ (some 35) _) _
            refine hK.out _ _ (s0) (fun _ => ?_)
            clear hK K
            try simp only [Act.put, List.setIfInBounds_toArray, List.set_cons_zero, List.set_cons_succ]
            refine take_yes 19 36 ?_ rfl rfl (by kernel_rfl) (by kernel_rfl) (by kernel_rfl) (fun _ _ _ h => h) (by kernel_rfl) ?_ (by assumption) ?_; rotate_left; (focus (intro w hSw; (try dsimp only at hSw); go_simp; all_goals first | with_reducible rfl)); simp only [Act.put, List.setIfInBounds_toArray, List.set_cons_zero, List.set_cons_succ]
            refine take_yes 20 37 ?_ rfl rfl (by kernel_rfl) (by kernel_rfl) (by kernel_rfl) (fun _ _ _ h => h) (by kernel_rfl) ?_ (by assumption) ?_; rotate_left; (focus (intro w hSw; (try dsimp only at hSw); go_simp; all_goals first | with_reducible rfl)); simp only [Act.put, List.setIfInBounds_toArray, List.set_cons_zero, List.set_cons_succ]
            refine wpAnyH_ready (rs := [21]) (by kernel_rfl) (by simp) ?_
            refine AllReadyH.cons rfl (fun K hK => ?_) AllReadyH.nil
            go_simp
            rw [HWE.out]
            refine hK.out _ _ (hSe) (fun _ => ?_)
            clear hK K
            try simp only [Act.put, List.setIfInBounds_toArray, List.set_cons_zero, List.set_cons_succ]
            refine wpAnyH_done (by kernel_rfl) ?_ _
            clear hSe s0 s1 s2 hSn c1n hSm c1m c1l hSl hrun hHeld0
            have h := HWX.out
            have ho := HOX.out
            have HW3 := Lib.hid h
            have HO3 : Hid (Fr x w0 w3) := Lib.hid (HO2.out.trans ho)
            have HZ3 : Hid ((((((s.paid.nx x.xs)).nx x.xs).nx x.xs).push ⟨132, (a : Int), (b : Int) - 4, [], [], [], []⟩).sz (N + 1)) := Lib.hid ((Ws.sz_push _ (Ws.sz_nx x.xs (Ws.sz_nx x.xs HZ2.out))).more (by omega))
            clear h ho
            have HE : Hid (FS = ((((s.paid.nx x.xs)).nx x.xs).nx x.xs).push ⟨132, (a : Int), (b : Int) - 4, [], [], [], []⟩) := Lib.hid (by rw [← HFS.out]; unfold stepS; simp [HVv.out, HBD.out, HVa.out, HVb.out])
            go_wp2
            go_end0
            rw [HE.out]
            exact ⟨rfl, HW3.out, HO3.out⟩

set_option maxHeartbeats 4000000 in
theorem stm_deep (x : Wx) (w : World) (D : Int) (s : Ws) (N : Nat) (F : Ws → Ws) (c B : Nat) (hD : -10 ≤ D ∧ D ≤ 10) (hD3 : D < 3) (hF : CtS x 124 (D + 1) F B) (hFa : AddsW F c) (hFg : GrowW F) (h : WrS x w D s) (hz : s.sz N) (hN : N + 6 * c + 40 ≤ B) (hB : B ≤ 14000000) :
    Calls Tryz.prog 124 #[.pointer (some ⟨x.g, 0, none⟩)] w fun e w' => e = .returned (.tuple #[]) ∧ WrS x w' D (stepS x.xs true F s) ∧ Fr x w w' := by
  obtain ⟨w0, rfl⟩ : ∃ w0, w0 = w := ⟨_, rfl⟩
  have HW0 := Lib.hid h
  have HO0 : Hid (Fr x w0 w0) := Lib.hid (Fr.refl x w0)
  have HZ0 := Lib.hid hz
  obtain ⟨FS, hFS⟩ : ∃ FS, stepS x.xs true F s = FS := ⟨_, rfl⟩
  have HFS := Lib.hid hFS
  rw [hFS]
  clear h hz hFS
  have HI1 := Lib.hid (ct_int1 x)
  have HI2 := Lib.hid (ct_int2 x)
  have HL2 := Lib.hid (ct_long2 x)
  have HOB := Lib.hid (fun (W : World) (D : Int) (t : Ws) (M : Nat) h hz hM => object_s x W D t M h hz hM)
  have HRE := Lib.hid (fun (W : World) (D : Int) (t : Ws) (M : Nat) h hz hM => records_s x W D t M h hz hM)
  have HCH := Lib.hid (fun (W : World) (t : Ws) (M : Nat) (h : WrS x W D t) (hz : t.sz M) (hM : M + 6 * c + 40 ≤ B) => choice_s x W D t M F c B hD hF hFa hFg h hz hM (by omega))
  have HLO := Lib.hid (fun (W : World) (t : Ws) (M : Nat) (h : WrS x W D t) (hz : t.sz M) (hM : M + 6 * c + 40 ≤ B) => loop_s x W D t M F c B hD hF hFa hFg h hz hM (by omega))
  have HGU := Lib.hid (fun (W : World) (t : Ws) (M : Nat) (h : WrS x W D t) (hz : t.sz M) (hM : M + 6 * c + 40 ≤ B) => guard_s x W D t M F c B hD hF hFa hFg h hz hM (by omega))
  clear hF hFa hFg
  obtain ⟨hD1, hD2⟩ := hD
  obtain ⟨Cp, ncp, ccp, Tp, ntp, ctp, Mp, nmp, cmp, lmp, hD⟩ := HW0.out
  have c5 : w0.cell? ⟨x.g, 5, none⟩ = some (.int .i64 s.bud) := hD.blk.cell 5
  have c0 : w0.cell? ⟨x.g, 0, none⟩ = some (.pointer (some ⟨x.tp, 0, none⟩)) := hD.blk.cell 0
  have f5 := hD.blk.frozen 5
  have hgl := hD.blk.lt
  obtain ⟨hP, hF⟩ := hD.paid_
  obtain ⟨w1, hw1⟩ : ∃ W, w0.setCell ⟨x.g, 5, none⟩ (.int .i64 (wrap64 (s.bud - 1))) = W := ⟨_, rfl⟩
  rw [hw1] at hP hF
  have HW1 : Hid (WrS x w1 D s.paid) := Lib.hid ⟨Cp, ncp, ccp, Tp, ntp, ctp, Mp, nmp, cmp, lmp, hP⟩
  have HO1 := Lib.hid hF
  have HZ1 : Hid (s.paid.sz N) := Lib.hid (Ws.sz_paid HZ0.out)
  have HWW := Lib.hid hw1
  clear hD hP hF hw1
  go_enter Tryz.func124, Tryz.ntmps124
  go_wp2_with fail
  rw [HWW.out]
  clear c5 c0 f5
  refine (next_s x _ _ _ 16 _ HW1.out (by omega) (by omega) rfl).mono ?_
  rintro e w2 ⟨rfl, h, ho⟩
  have HW2 := Lib.hid h
  have HO2 : Hid (Fr x w0 w2) := Lib.hid (HO1.out.trans ho)
  have HZ2 : Hid ((s.paid.nx x.xs).sz N) := Lib.hid (Ws.sz_nx x.xs HZ1.out)
  clear h ho
  obtain ⟨v, hv⟩ : ∃ v, nxV x.xs 16 s.paid.at_ = v := ⟨_, rfl⟩
  have bv : v < 16 := by rw [← hv]; exact nxV_lt (by omega)
  rw [hv]
  have HVv : Hid (nxV x.xs 16 s.at_ = v) := Lib.hid hv
  clear hv
  have c5 : w2.cell? ⟨x.g, 5, none⟩ = some (.int .i64 s.paid.bud) := by
    obtain ⟨C, nc, cc, T, nt, ct, M, nm, cm, lm, hD⟩ := HW2.out
    exact hD.blk.cell 5
  have c4 : w2.cell? ⟨x.g, 4, none⟩ = some (.int .i64 D) := HW2.out.depth
  have hgl2 := HW2.out.lt
  by_cases hbd : s.paid.bud ≤ 0
  · have HBD := Lib.hid hbd
    clear bv
    go_wp2_with fail
    refine (HI2.out _ _ _ N HW2.out HZ2.out (by omega)).mono ?_
    rintro e w3 ⟨rfl, h, ho⟩
    have HW3 := Lib.hid h
    have HO3 : Hid (Fr x w0 w3) := Lib.hid (HO2.out.trans ho)
    have HZ3 : Hid ((intW x.xs 2 ((s.paid.nx x.xs))).sz (N + 18)) := Lib.hid (((adds_il2 x.xs).1 _ _ HZ2.out).more (by omega))
    clear h ho
    have t3 := HW3.out.t
    go_wp2_with fail
    refine (next_s x _ _ _ 2 _ HW3.out (by omega) (by omega) rfl).mono ?_
    rintro e w4 ⟨rfl, h, ho⟩
    have HW4 := Lib.hid h
    have HO4 : Hid (Fr x w0 w4) := Lib.hid (HO3.out.trans ho)
    have HZ4 : Hid (((intW x.xs 2 ((s.paid.nx x.xs))).nx x.xs).sz (N + 18)) := Lib.hid ((Ws.sz_nx x.xs HZ3.out).more (by omega))
    clear h ho
    obtain ⟨a, ha⟩ : ∃ a, nxV x.xs 2 (intW x.xs 2 ((s.paid.nx x.xs))).at_ = a := ⟨_, rfl⟩
    have ba : a < 2 := by rw [← ha]; exact nxV_lt (by omega)
    rw [ha]
    have HVa := Lib.hid ha
    clear ha t3
    go_wp2_with fail
    refine (op_v x _ _ _ (N + 18) 54 _ _ (by first | rfl | decide | assumption) HW4.out HZ4.out (by omega)).mono ?_
    rintro e w5 ⟨rfl, h, ho⟩
    have HW5 := Lib.hid h
    have HO5 : Hid (Fr x w0 w5) := Lib.hid (HO4.out.trans ho)
    have HZ5 : Hid ((((intW x.xs 2 ((s.paid.nx x.xs))).nx x.xs).op 54 (1 + (a : Int))).sz (N + 19)) := Lib.hid ((Ws.sz_op _ _ HZ4.out).more (by omega))
    clear h ho
    have HE : Hid (FS = ((intW x.xs 2 ((s.paid.nx x.xs))).nx x.xs).op 54 (1 + (a : Int))) := Lib.hid (by rw [← HFS.out]; unfold stepS; simp [HVv.out, HBD.out, HVa.out])
    go_wp2
    go_end0
    rw [HE.out]
    exact ⟨rfl, HW5.out, HO5.out⟩
  · have HBD : Hid ((s.paid.bud ≤ 0) = False) := Lib.hid (eq_false hbd)
    have hcs : v = 0 ∨ v = 1 ∨ v = 2 ∨ v = 3 ∨ v = 4 ∨ v = 5 ∨ v = 6 ∨ v = 7 ∨ v = 8 ∨ v = 9 ∨ v = 10 ∨ v = 11 ∨ v = 12 ∨ v = 13 ∨ v = 14 ∨ v = 15 := by omega
    clear bv
    rcases hcs with rfl | rfl | rfl | rfl | rfl | rfl | rfl | rfl | rfl | rfl | rfl | rfl | rfl | rfl | rfl | rfl
    · go_wp2_with fail
      refine (HI2.out _ _ _ N HW2.out HZ2.out (by omega)).mono ?_
      rintro e w3 ⟨rfl, h, ho⟩
      have HW3 := Lib.hid h
      have HO3 : Hid (Fr x w0 w3) := Lib.hid (HO2.out.trans ho)
      have HZ3 : Hid ((intW x.xs 2 ((s.paid.nx x.xs))).sz (N + 18)) := Lib.hid (((adds_il2 x.xs).1 _ _ HZ2.out).more (by omega))
      clear h ho
      have t3 := HW3.out.t
      go_wp2_with fail
      refine (next_s x _ _ _ 2 _ HW3.out (by omega) (by omega) rfl).mono ?_
      rintro e w4 ⟨rfl, h, ho⟩
      have HW4 := Lib.hid h
      have HO4 : Hid (Fr x w0 w4) := Lib.hid (HO3.out.trans ho)
      have HZ4 : Hid (((intW x.xs 2 ((s.paid.nx x.xs))).nx x.xs).sz (N + 18)) := Lib.hid ((Ws.sz_nx x.xs HZ3.out).more (by omega))
      clear h ho
      obtain ⟨a, ha⟩ : ∃ a, nxV x.xs 2 (intW x.xs 2 ((s.paid.nx x.xs))).at_ = a := ⟨_, rfl⟩
      have ba : a < 2 := by rw [← ha]; exact nxV_lt (by omega)
      rw [ha]
      have HVa := Lib.hid ha
      clear ha t3
      go_wp2_with fail
      refine (op_v x _ _ _ (N + 18) 54 _ _ (by first | rfl | decide | assumption) HW4.out HZ4.out (by omega)).mono ?_
      rintro e w5 ⟨rfl, h, ho⟩
      have HW5 := Lib.hid h
      have HO5 : Hid (Fr x w0 w5) := Lib.hid (HO4.out.trans ho)
      have HZ5 : Hid ((((intW x.xs 2 ((s.paid.nx x.xs))).nx x.xs).op 54 (1 + (a : Int))).sz (N + 19)) := Lib.hid ((Ws.sz_op _ _ HZ4.out).more (by omega))
      clear h ho
      have HE : Hid (FS = ((intW x.xs 2 ((s.paid.nx x.xs))).nx x.xs).op 54 (1 + (a : Int))) := Lib.hid (by rw [← HFS.out]; unfold stepS; simp [HVv.out, HBD.out, HVa.out])
      go_wp2
      go_end0
      rw [HE.out]
      exact ⟨rfl, HW5.out, HO5.out⟩
    · go_wp2_with fail
      refine (HI2.out _ _ _ N HW2.out HZ2.out (by omega)).mono ?_
      rintro e w3 ⟨rfl, h, ho⟩
      have HW3 := Lib.hid h
      have HO3 : Hid (Fr x w0 w3) := Lib.hid (HO2.out.trans ho)
      have HZ3 : Hid ((intW x.xs 2 ((s.paid.nx x.xs))).sz (N + 18)) := Lib.hid (((adds_il2 x.xs).1 _ _ HZ2.out).more (by omega))
      clear h ho
      have t3 := HW3.out.t
      go_wp2_with fail
      refine (next_s x _ _ _ 2 _ HW3.out (by omega) (by omega) rfl).mono ?_
      rintro e w4 ⟨rfl, h, ho⟩
      have HW4 := Lib.hid h
      have HO4 : Hid (Fr x w0 w4) := Lib.hid (HO3.out.trans ho)
      have HZ4 : Hid (((intW x.xs 2 ((s.paid.nx x.xs))).nx x.xs).sz (N + 18)) := Lib.hid ((Ws.sz_nx x.xs HZ3.out).more (by omega))
      clear h ho
      obtain ⟨a, ha⟩ : ∃ a, nxV x.xs 2 (intW x.xs 2 ((s.paid.nx x.xs))).at_ = a := ⟨_, rfl⟩
      have ba : a < 2 := by rw [← ha]; exact nxV_lt (by omega)
      rw [ha]
      have HVa := Lib.hid ha
      clear ha t3
      go_wp2_with fail
      refine (op_v x _ _ _ (N + 18) 54 _ _ (by first | rfl | decide | assumption) HW4.out HZ4.out (by omega)).mono ?_
      rintro e w5 ⟨rfl, h, ho⟩
      have HW5 := Lib.hid h
      have HO5 : Hid (Fr x w0 w5) := Lib.hid (HO4.out.trans ho)
      have HZ5 : Hid ((((intW x.xs 2 ((s.paid.nx x.xs))).nx x.xs).op 54 (1 + (a : Int))).sz (N + 19)) := Lib.hid ((Ws.sz_op _ _ HZ4.out).more (by omega))
      clear h ho
      have HE : Hid (FS = ((intW x.xs 2 ((s.paid.nx x.xs))).nx x.xs).op 54 (1 + (a : Int))) := Lib.hid (by rw [← HFS.out]; unfold stepS; simp [HVv.out, HBD.out, HVa.out])
      go_wp2
      go_end0
      rw [HE.out]
      exact ⟨rfl, HW5.out, HO5.out⟩
    · go_wp2_with fail
      refine (HI2.out _ _ _ N HW2.out HZ2.out (by omega)).mono ?_
      rintro e w3 ⟨rfl, h, ho⟩
      have HW3 := Lib.hid h
      have HO3 : Hid (Fr x w0 w3) := Lib.hid (HO2.out.trans ho)
      have HZ3 : Hid ((intW x.xs 2 ((s.paid.nx x.xs))).sz (N + 18)) := Lib.hid (((adds_il2 x.xs).1 _ _ HZ2.out).more (by omega))
      clear h ho
      go_wp2_with fail
      refine (name_v x _ _ _ (N + 18) 184 _ sysS [112, 114, 105, 110, 116] [40, 73, 41, 86] _ _ _ rfl rfl rfl rfl HW3.out HZ3.out (by omega)).mono ?_
      rintro e w4 ⟨rfl, h, ho⟩
      have HW4 := Lib.hid h
      have HO4 : Hid (Fr x w0 w4) := Lib.hid (HO3.out.trans ho)
      have HZ4 : Hid (((intW x.xs 2 ((s.paid.nx x.xs))).name 184 sysS [112, 114, 105, 110, 116] [40, 73, 41, 86]).sz (N + 19)) := Lib.hid ((Ws.sz_name _ _ _ _ HZ3.out).more (by omega))
      clear h ho
      have HE : Hid (FS = (intW x.xs 2 ((s.paid.nx x.xs))).name 184 sysS [112, 114, 105, 110, 116] [40, 73, 41, 86]) := Lib.hid (by rw [← HFS.out]; unfold stepS; simp [HVv.out, HBD.out])
      go_wp2
      go_end0
      rw [HE.out]
      exact ⟨rfl, HW4.out, HO4.out⟩
    · go_wp2_with fail
      refine (HL2.out _ _ _ N HW2.out HZ2.out (by omega)).mono ?_
      rintro e w3 ⟨rfl, h, ho⟩
      have HW3 := Lib.hid h
      have HO3 : Hid (Fr x w0 w3) := Lib.hid (HO2.out.trans ho)
      have HZ3 : Hid ((longW x.xs 2 ((s.paid.nx x.xs))).sz (N + 18)) := Lib.hid (((adds_il2 x.xs).2 _ _ HZ2.out).more (by omega))
      clear h ho
      go_wp2_with fail
      refine (op_v x _ _ _ (N + 18) 55 _ _ (by first | rfl | decide | assumption) HW3.out HZ3.out (by omega)).mono ?_
      rintro e w4 ⟨rfl, h, ho⟩
      have HW4 := Lib.hid h
      have HO4 : Hid (Fr x w0 w4) := Lib.hid (HO3.out.trans ho)
      have HZ4 : Hid (((longW x.xs 2 ((s.paid.nx x.xs))).op 55 3).sz (N + 19)) := Lib.hid ((Ws.sz_op _ _ HZ3.out).more (by omega))
      clear h ho
      have HE : Hid (FS = (longW x.xs 2 ((s.paid.nx x.xs))).op 55 3) := Lib.hid (by rw [← HFS.out]; unfold stepS; simp [HVv.out, HBD.out])
      go_wp2
      go_end0
      rw [HE.out]
      exact ⟨rfl, HW4.out, HO4.out⟩
    · go_wp2_with fail
      refine (HOB.out _ _ _ N HW2.out HZ2.out (by omega)).mono ?_
      rintro e w3 ⟨rfl, h, ho⟩
      have HW3 := Lib.hid h
      have HO3 : Hid (Fr x w0 w3) := Lib.hid (HO2.out.trans ho)
      have HZ3 : Hid ((objW x.xs ((s.paid.nx x.xs))).sz (N + 2)) := Lib.hid ((adds_obj x.xs _ _ HZ2.out).more (by omega))
      clear h ho
      go_wp2_with fail
      refine (op_v x _ _ _ (N + 2) 58 _ _ (by first | rfl | decide | assumption) HW3.out HZ3.out (by omega)).mono ?_
      rintro e w4 ⟨rfl, h, ho⟩
      have HW4 := Lib.hid h
      have HO4 : Hid (Fr x w0 w4) := Lib.hid (HO3.out.trans ho)
      have HZ4 : Hid (((objW x.xs ((s.paid.nx x.xs))).op 58 5).sz (N + 3)) := Lib.hid ((Ws.sz_op _ _ HZ3.out).more (by omega))
      clear h ho
      have HE : Hid (FS = (objW x.xs ((s.paid.nx x.xs))).op 58 5) := Lib.hid (by rw [← HFS.out]; unfold stepS; simp [HVv.out, HBD.out])
      go_wp2
      go_end0
      rw [HE.out]
      exact ⟨rfl, HW4.out, HO4.out⟩
    · go_wp2_with fail
      refine (op_v x _ _ _ N 25 _ _ (by first | rfl | decide | assumption) HW2.out HZ2.out (by omega)).mono ?_
      rintro e w3 ⟨rfl, h, ho⟩
      have HW3 := Lib.hid h
      have HO3 : Hid (Fr x w0 w3) := Lib.hid (HO2.out.trans ho)
      have HZ3 : Hid ((((s.paid.nx x.xs)).op 25 5).sz (N + 1)) := Lib.hid ((Ws.sz_op _ _ HZ2.out).more (by omega))
      clear h ho
      go_wp2_with fail
      refine (HI1.out _ _ _ (N + 1) HW3.out HZ3.out (by omega)).mono ?_
      rintro e w4 ⟨rfl, h, ho⟩
      have HW4 := Lib.hid h
      have HO4 : Hid (Fr x w0 w4) := Lib.hid (HO3.out.trans ho)
      have HZ4 : Hid ((intW x.xs 1 (((s.paid.nx x.xs)).op 25 5)).sz (N + 9)) := Lib.hid (((adds_il1 x.xs).1 _ _ HZ3.out).more (by omega))
      clear h ho
      go_wp2_with fail
      refine (name_v x _ _ _ (N + 9) 181 _ [65] [102] [73] _ _ _ rfl rfl rfl rfl HW4.out HZ4.out (by omega)).mono ?_
      rintro e w5 ⟨rfl, h, ho⟩
      have HW5 := Lib.hid h
      have HO5 : Hid (Fr x w0 w5) := Lib.hid (HO4.out.trans ho)
      have HZ5 : Hid (((intW x.xs 1 (((s.paid.nx x.xs)).op 25 5)).name 181 [65] [102] [73]).sz (N + 10)) := Lib.hid ((Ws.sz_name _ _ _ _ HZ4.out).more (by omega))
      clear h ho
      have HE : Hid (FS = (intW x.xs 1 (((s.paid.nx x.xs)).op 25 5)).name 181 [65] [102] [73]) := Lib.hid (by rw [← HFS.out]; unfold stepS; simp [HVv.out, HBD.out])
      go_wp2
      go_end0
      rw [HE.out]
      exact ⟨rfl, HW5.out, HO5.out⟩
    · go_wp2_with fail
      refine (HI1.out _ _ _ N HW2.out HZ2.out (by omega)).mono ?_
      rintro e w3 ⟨rfl, h, ho⟩
      have HW3 := Lib.hid h
      have HO3 : Hid (Fr x w0 w3) := Lib.hid (HO2.out.trans ho)
      have HZ3 : Hid ((intW x.xs 1 ((s.paid.nx x.xs))).sz (N + 8)) := Lib.hid (((adds_il1 x.xs).1 _ _ HZ2.out).more (by omega))
      clear h ho
      go_wp2_with fail
      refine (name_v x _ _ _ (N + 8) 179 _ sMain [115] [73] _ _ _ rfl rfl rfl rfl HW3.out HZ3.out (by omega)).mono ?_
      rintro e w4 ⟨rfl, h, ho⟩
      have HW4 := Lib.hid h
      have HO4 : Hid (Fr x w0 w4) := Lib.hid (HO3.out.trans ho)
      have HZ4 : Hid (((intW x.xs 1 ((s.paid.nx x.xs))).name 179 sMain [115] [73]).sz (N + 9)) := Lib.hid ((Ws.sz_name _ _ _ _ HZ3.out).more (by omega))
      clear h ho
      have HE : Hid (FS = (intW x.xs 1 ((s.paid.nx x.xs))).name 179 sMain [115] [73]) := Lib.hid (by rw [← HFS.out]; unfold stepS; simp [HVv.out, HBD.out])
      go_wp2
      go_end0
      rw [HE.out]
      exact ⟨rfl, HW4.out, HO4.out⟩
    · go_wp2_with fail
      refine (HI1.out _ _ _ N HW2.out HZ2.out (by omega)).mono ?_
      rintro e w3 ⟨rfl, h, ho⟩
      have HW3 := Lib.hid h
      have HO3 : Hid (Fr x w0 w3) := Lib.hid (HO2.out.trans ho)
      have HZ3 : Hid ((intW x.xs 1 ((s.paid.nx x.xs))).sz (N + 8)) := Lib.hid (((adds_il1 x.xs).1 _ _ HZ2.out).more (by omega))
      clear h ho
      have t3 := HW3.out.t
      go_wp2_with fail
      refine (next_s x _ _ _ 2 _ HW3.out (by omega) (by omega) rfl).mono ?_
      rintro e w4 ⟨rfl, h, ho⟩
      have HW4 := Lib.hid h
      have HO4 : Hid (Fr x w0 w4) := Lib.hid (HO3.out.trans ho)
      have HZ4 : Hid (((intW x.xs 1 ((s.paid.nx x.xs))).nx x.xs).sz (N + 8)) := Lib.hid ((Ws.sz_nx x.xs HZ3.out).more (by omega))
      clear h ho
      obtain ⟨a, ha⟩ : ∃ a, nxV x.xs 2 (intW x.xs 1 ((s.paid.nx x.xs))).at_ = a := ⟨_, rfl⟩
      have ba : a < 2 := by rw [← ha]; exact nxV_lt (by omega)
      rw [ha]
      have HVa := Lib.hid ha
      clear ha t3
      go_wp2_with fail
      refine (op_v x _ _ _ (N + 8) 188 _ _ (by first | rfl | decide | assumption) HW4.out HZ4.out (by omega)).mono ?_
      rintro e w5 ⟨rfl, h, ho⟩
      have HW5 := Lib.hid h
      have HO5 : Hid (Fr x w0 w5) := Lib.hid (HO4.out.trans ho)
      have HZ5 : Hid ((((intW x.xs 1 ((s.paid.nx x.xs))).nx x.xs).op 188 (10 - 2 * (a : Int))).sz (N + 9)) := Lib.hid ((Ws.sz_op _ _ HZ4.out).more (by omega))
      clear h ho
      go_wp2_with fail
      refine (op_v x _ _ _ (N + 9) 58 _ _ (by first | rfl | decide | assumption) HW5.out HZ5.out (by omega)).mono ?_
      rintro e w6 ⟨rfl, h, ho⟩
      have HW6 := Lib.hid h
      have HO6 : Hid (Fr x w0 w6) := Lib.hid (HO5.out.trans ho)
      have HZ6 : Hid (((((intW x.xs 1 ((s.paid.nx x.xs))).nx x.xs).op 188 (10 - 2 * (a : Int))).op 58 (6 + (a : Int))).sz (N + 10)) := Lib.hid ((Ws.sz_op _ _ HZ5.out).more (by omega))
      clear h ho
      have HE : Hid (FS = (((intW x.xs 1 ((s.paid.nx x.xs))).nx x.xs).op 188 (10 - 2 * (a : Int))).op 58 (6 + (a : Int))) := Lib.hid (by rw [← HFS.out]; unfold stepS; simp [HVv.out, HBD.out, HVa.out])
      go_wp2
      go_end0
      rw [HE.out]
      exact ⟨rfl, HW6.out, HO6.out⟩
    · go_wp2_with fail
      refine (op_v x _ _ _ N 25 _ _ (by first | rfl | decide | assumption) HW2.out HZ2.out (by omega)).mono ?_
      rintro e w3 ⟨rfl, h, ho⟩
      have HW3 := Lib.hid h
      have HO3 : Hid (Fr x w0 w3) := Lib.hid (HO2.out.trans ho)
      have HZ3 : Hid ((((s.paid.nx x.xs)).op 25 6).sz (N + 1)) := Lib.hid ((Ws.sz_op _ _ HZ2.out).more (by omega))
      clear h ho
      go_wp2_with fail
      refine (HI1.out _ _ _ (N + 1) HW3.out HZ3.out (by omega)).mono ?_
      rintro e w4 ⟨rfl, h, ho⟩
      have HW4 := Lib.hid h
      have HO4 : Hid (Fr x w0 w4) := Lib.hid (HO3.out.trans ho)
      have HZ4 : Hid ((intW x.xs 1 (((s.paid.nx x.xs)).op 25 6)).sz (N + 9)) := Lib.hid (((adds_il1 x.xs).1 _ _ HZ3.out).more (by omega))
      clear h ho
      go_wp2_with fail
      refine (HI1.out _ _ _ (N + 9) HW4.out HZ4.out (by omega)).mono ?_
      rintro e w5 ⟨rfl, h, ho⟩
      have HW5 := Lib.hid h
      have HO5 : Hid (Fr x w0 w5) := Lib.hid (HO4.out.trans ho)
      have HZ5 : Hid ((intW x.xs 1 (intW x.xs 1 (((s.paid.nx x.xs)).op 25 6))).sz (N + 17)) := Lib.hid (((adds_il1 x.xs).1 _ _ HZ4.out).more (by omega))
      clear h ho
      go_wp2_with fail
      refine (op_v x _ _ _ (N + 17) 79 _ _ (by first | rfl | decide | assumption) HW5.out HZ5.out (by omega)).mono ?_
      rintro e w6 ⟨rfl, h, ho⟩
      have HW6 := Lib.hid h
      have HO6 : Hid (Fr x w0 w6) := Lib.hid (HO5.out.trans ho)
      have HZ6 : Hid (((intW x.xs 1 (intW x.xs 1 (((s.paid.nx x.xs)).op 25 6))).op 79 0).sz (N + 18)) := Lib.hid ((Ws.sz_op _ _ HZ5.out).more (by omega))
      clear h ho
      have HE : Hid (FS = (intW x.xs 1 (intW x.xs 1 (((s.paid.nx x.xs)).op 25 6))).op 79 0) := Lib.hid (by rw [← HFS.out]; unfold stepS; simp [HVv.out, HBD.out])
      go_wp2
      go_end0
      rw [HE.out]
      exact ⟨rfl, HW6.out, HO6.out⟩
    · go_wp2_with fail
      refine (HCH.out _ _ N HW2.out HZ2.out (by omega)).mono ?_
      rintro e w3 ⟨rfl, h, ho⟩
      have HW3 := Lib.hid h
      have HO3 : Hid (Fr x w0 w3) := Lib.hid (HO2.out.trans ho)
      clear h ho
      have HE : Hid (FS = choiceW x.xs F ((s.paid.nx x.xs))) := Lib.hid (by rw [← HFS.out]; unfold stepS; simp [HVv.out, HBD.out])
      go_wp2
      go_end0
      rw [HE.out]
      exact ⟨rfl, HW3.out, HO3.out⟩
    · go_wp2_with fail
      refine (HLO.out _ _ N HW2.out HZ2.out (by omega)).mono ?_
      rintro e w3 ⟨rfl, h, ho⟩
      have HW3 := Lib.hid h
      have HO3 : Hid (Fr x w0 w3) := Lib.hid (HO2.out.trans ho)
      clear h ho
      have HE : Hid (FS = loopW x.xs F ((s.paid.nx x.xs))) := Lib.hid (by rw [← HFS.out]; unfold stepS; simp [HVv.out, HBD.out])
      go_wp2
      go_end0
      rw [HE.out]
      exact ⟨rfl, HW3.out, HO3.out⟩
    · go_wp2_with fail
      refine (HGU.out _ _ N HW2.out HZ2.out (by omega)).mono ?_
      rintro e w3 ⟨rfl, h, ho⟩
      have HW3 := Lib.hid h
      have HO3 : Hid (Fr x w0 w3) := Lib.hid (HO2.out.trans ho)
      clear h ho
      have HE : Hid (FS = guardW x.xs F ((s.paid.nx x.xs))) := Lib.hid (by rw [← HFS.out]; unfold stepS; simp [HVv.out, HBD.out])
      go_wp2
      go_end0
      rw [HE.out]
      exact ⟨rfl, HW3.out, HO3.out⟩
    · go_wp2_with fail
      refine (HRE.out _ _ _ N HW2.out HZ2.out (by omega)).mono ?_
      rintro e w3 ⟨rfl, h, ho⟩
      have HW3 := Lib.hid h
      have HO3 : Hid (Fr x w0 w3) := Lib.hid (HO2.out.trans ho)
      have HZ3 : Hid ((recW x.xs ((s.paid.nx x.xs))).sz (N + 10)) := Lib.hid ((adds_rec x.xs _ _ HZ2.out).more (by omega))
      clear h ho
      have HE : Hid (FS = recW x.xs ((s.paid.nx x.xs))) := Lib.hid (by rw [← HFS.out]; unfold stepS; simp [HVv.out, HBD.out])
      go_wp2
      go_end0
      rw [HE.out]
      exact ⟨rfl, HW3.out, HO3.out⟩
    · obtain ⟨C2, nc2, cc2, T2, nt2, ct2, M2, nm2, cm2, lm2, hD⟩ := HW2.out
      have hnc2 : nc2 ≤ N := by rw [← hD.code.row.1]; exact HZ2.out.1
      have c12 : w2.cell? ⟨x.g, 1, none⟩ = some (.slice C2 nc2 cc2) := hD.blk.cell 1
      have hgl2 := hD.blk.lt
      have hb := belowA w2 (.cells (inC (⟨18, 0, 0, [], [], [83], [104, 105]⟩ : InD)).toArray 98)
      have hD1 := hD.below hb
      have f12 : w2.frozen? ⟨x.g, 1, none⟩ = false := hD.blk.frozen 1
      have HC2 : Hid (GotR inC 7 98 x.b0 (w2.alloc (.cells (inC (⟨18, 0, 0, [], [], [83], [104, 105]⟩ : InD)).toArray 98)) C2 nc2 cc2 ((s.paid.nx x.xs)).code) := Lib.hid hD1.code
      have HB2 : Hid (Blk (w2.alloc (.cells (inC (⟨18, 0, 0, [], [], [83], [104, 105]⟩ : InD)).toArray 98)) w2.heap.size 98 (inC (⟨18, 0, 0, [], [], [83], [104, 105]⟩ : InD)).toArray) := Lib.hid (Blk.new _ _ _)
      have hb02 := hD1.b0
      have HGO2 := Lib.hid (ne_own hD.code hD.blk (by decide))
      have HD12 := Lib.hid hD1
      have HBE2 := Lib.hid hb
      clear hD hD1 hb
      simp only [inC] at HC2 HB2 HBE2 HD12 hb02
      go_wp2_with (at_builtin; refine wpList_push rfl _ _ rfl x.b0 C2 nc2 cc2 ((s.paid.nx x.xs)).code rfl HC2.out w2.heap.size (⟨18, 0, 0, [], [], [83], [104, 105]⟩ : InD) rfl HB2.out (by omega) hb02 ?_; intro C22 c22 wx2 hG2 hg2 hr2; have s12 : wx2.cell? ⟨x.g, 1, none⟩ = some (.slice C2 nc2 cc2) := ((only_grown hg2 hr2).cell (p := ⟨x.g, 1, none⟩) (by simp; omega) HGO2.out).trans (cellA _ c12); have s22 : wx2.frozen? ⟨x.g, 1, none⟩ = false := (((only_grown hg2 hr2).blk HD12.out.blk HGO2.out)).frozen 1)
      obtain ⟨hP, hF⟩ := HD12.out.push hG2 hg2 hr2
      obtain ⟨w3, hwe⟩ : ∃ W, wx2.setCell ⟨x.g, 1, none⟩ (.slice C22 (nc2 + 1) c22) = W := ⟨_, rfl⟩
      rw [hwe] at hP hF ⊢
      have h : WrS x w3 _ (((s.paid.nx x.xs)).push ⟨18, 0, 0, [], [], [83], [104, 105]⟩) := ⟨C22, nc2 + 1, c22, T2, nt2, ct2, M2, nm2, cm2, lm2, hP⟩
      have ho : Fr x w2 w3 := (Fr.of_below HBE2.out).trans hF
      clear hwe hP hF hG2 hg2 hr2 s12 s22 c12 f12
      have HW3 := Lib.hid h
      have HO3 : Hid (Fr x w0 w3) := Lib.hid (HO2.out.trans ho)
      have HZ3 : Hid ((((s.paid.nx x.xs)).push ⟨18, 0, 0, [], [], [83], [104, 105]⟩).sz (N + 1)) := Lib.hid ((Ws.sz_push _ HZ2.out).more (by omega))
      clear h ho
      go_wp2_with fail
      refine (op_v x _ _ _ (N + 1) 58 _ _ (by first | rfl | decide | assumption) HW3.out HZ3.out (by omega)).mono ?_
      rintro e w4 ⟨rfl, h, ho⟩
      have HW4 := Lib.hid h
      have HO4 : Hid (Fr x w0 w4) := Lib.hid (HO3.out.trans ho)
      have HZ4 : Hid (((((s.paid.nx x.xs)).push ⟨18, 0, 0, [], [], [83], [104, 105]⟩).op 58 7).sz (N + 2)) := Lib.hid ((Ws.sz_op _ _ HZ3.out).more (by omega))
      clear h ho
      have HE : Hid (FS = (((s.paid.nx x.xs)).push ⟨18, 0, 0, [], [], [83], [104, 105]⟩).op 58 7) := Lib.hid (by rw [← HFS.out]; unfold stepS; simp [HVv.out, HBD.out])
      go_wp2
      go_end0
      rw [HE.out]
      exact ⟨rfl, HW4.out, HO4.out⟩
    · go_wp2_with fail
      refine (op_v x _ _ _ N 25 _ _ (by first | rfl | decide | assumption) HW2.out HZ2.out (by omega)).mono ?_
      rintro e w3 ⟨rfl, h, ho⟩
      have HW3 := Lib.hid h
      have HO3 : Hid (Fr x w0 w3) := Lib.hid (HO2.out.trans ho)
      have HZ3 : Hid ((((s.paid.nx x.xs)).op 25 7).sz (N + 1)) := Lib.hid ((Ws.sz_op _ _ HZ2.out).more (by omega))
      clear h ho
      go_wp2_with fail
      refine (name_v x _ _ _ (N + 1) 184 _ sysS [112, 114, 105, 110, 116, 84, 101, 120, 116] [40, 91, 66, 41, 86] _ _ _ rfl rfl rfl rfl HW3.out HZ3.out (by omega)).mono ?_
      rintro e w4 ⟨rfl, h, ho⟩
      have HW4 := Lib.hid h
      have HO4 : Hid (Fr x w0 w4) := Lib.hid (HO3.out.trans ho)
      have HZ4 : Hid (((((s.paid.nx x.xs)).op 25 7).name 184 sysS [112, 114, 105, 110, 116, 84, 101, 120, 116] [40, 91, 66, 41, 86]).sz (N + 2)) := Lib.hid ((Ws.sz_name _ _ _ _ HZ3.out).more (by omega))
      clear h ho
      have HE : Hid (FS = (((s.paid.nx x.xs)).op 25 7).name 184 sysS [112, 114, 105, 110, 116, 84, 101, 120, 116] [40, 91, 66, 41, 86]) := Lib.hid (by rw [← HFS.out]; unfold stepS; simp [HVv.out, HBD.out])
      go_wp2
      go_end0
      rw [HE.out]
      exact ⟨rfl, HW4.out, HO4.out⟩
    · obtain ⟨Cd, ncd, ccd, Td, ntd, ctd, Md, nmd, cmd, lmd, hD⟩ := HW2.out
      have hncd : ncd ≤ N := by rw [← hD.code.row.1]; exact HZ2.out.1
      have hc0 : w2.cell? ⟨x.g, 0, none⟩ = some (.pointer (some ⟨x.tp, 0, none⟩)) := hD.blk.cell 0
      have hdr : Below w2.heap.size w2 w2.drew := ((Only.refl Empty w2).drew).below (Nat.le_refl _) (fun _ _ h => h)
      have HDD := Lib.hid (hD.below hdr)
      have HFD := Lib.hid (Fr.of_below (x := x) hdr)
      have hgl := hD.blk.lt
      have c1d : w2.drew.cell? ⟨x.g, 1, none⟩ = some (.slice Cd ncd ccd) := HDD.out.blk.cell 1
      have hc0d : w2.drew.cell? ⟨x.g, 0, none⟩ = some (.pointer (some ⟨x.tp, 0, none⟩)) := HDD.out.blk.cell 0
      obtain ⟨a, ha⟩ : ∃ a, nxV x.xs 3 ((s.paid.nx x.xs)).at_ = a := ⟨_, rfl⟩
      have ba : a < 3 := by rw [← ha]; exact nxV_lt (by omega)
      have HVa := Lib.hid ha
      obtain ⟨b, hb⟩ : ∃ b, nxV x.xs 9 (((s.paid.nx x.xs)).nx x.xs).at_ = b := ⟨_, rfl⟩
      have bb : b < 9 := by rw [← hb]; exact nxV_lt (by omega)
      have HVb := Lib.hid hb
      have CN : Hid (Calls Tryz.prog 57 #[.pointer (some ⟨x.tp, 0, none⟩), .int .i64 3] w2.drew fun e w' => e = .returned (.int .i64 (a : Int)) ∧ WrD x w' D (((s.paid.nx x.xs)).nx x.xs) Cd ncd ccd Td ntd ctd Md nmd cmd lmd ∧ Fr x w2.drew w') := Lib.hid (by
        refine (next_ex x.B x.tp x.A x.n x.cap x.xs _ 3 _ HDD.out.tape (by omega) (by omega)).mono ?_
        rintro e w' ⟨rfl, ht, ho⟩
        exact ⟨by rw [HVa.out], HDD.out.tape_ ho ht, ho.mono (fun i _ e => ow_tape x i e), keep_tape HDD.out ho⟩)
      have CM : Hid (∀ W, WrD x W D (((s.paid.nx x.xs)).nx x.xs) Cd ncd ccd Td ntd ctd Md nmd cmd lmd → Calls Tryz.prog 57 #[.pointer (some ⟨x.tp, 0, none⟩), .int .i64 9] W fun e w' => e = .returned (.int .i64 (b : Int)) ∧ WrD x w' D ((((s.paid.nx x.xs)).nx x.xs).nx x.xs) Cd ncd ccd Td ntd ctd Md nmd cmd lmd ∧ Fr x W w') := Lib.hid (fun W hW => by
        refine (next_ex x.B x.tp x.A x.n x.cap x.xs _ 9 _ hW.tape (by omega) (by omega)).mono ?_
        rintro e w' ⟨rfl, ht, ho⟩
        exact ⟨by rw [HVb.out], hW.tape_ ho ht, ho.mono (fun i _ e => ow_tape x i e), keep_tape hW ho⟩)
      clear hD hdr ha hb
      go_wp2_with fail
      clear c4 c5 hgl2
      refine wp_region_held_drew (S := fun W => W.cell? ⟨x.g, 0, none⟩ = some (.pointer (some ⟨x.tp, 0, none⟩))) (by kernel_rfl) hc0 (fun hHeld0 => ?_)
      refine take_yes 0 17 ?_ rfl rfl (by kernel_rfl) (by kernel_rfl) (by kernel_rfl) (fun _ _ _ h => h) (by kernel_rfl) ?_ (by assumption) ?_; rotate_left; (focus (intro w hSw; (try dsimp only at hSw); go_simp; all_goals first | with_reducible rfl)); simp only [Act.put, List.setIfInBounds_toArray, List.set_cons_zero, List.set_cons_succ]
      refine take_yes 1 18 ?_ rfl rfl (by kernel_rfl) (by kernel_rfl) (by kernel_rfl) (fun _ _ _ h => h) (by kernel_rfl) ?_ (by assumption) ?_; rotate_left; (focus (intro w hSw; (try dsimp only at hSw); go_simp; all_goals first | with_reducible rfl)); simp only [Act.put, List.setIfInBounds_toArray, List.set_cons_zero, List.set_cons_succ]
      refine take_yes 2 19 ?_ rfl rfl (by kernel_rfl) (by kernel_rfl) (by kernel_rfl) (fun _ _ _ h => h) (by kernel_rfl) ?_ (by assumption) ?_; rotate_left; (focus (intro w hSw; (try dsimp only at hSw); go_simp; all_goals first | with_reducible rfl)); simp only [Act.put, List.setIfInBounds_toArray, List.set_cons_zero, List.set_cons_succ]
      refine take_yes 3 20 ?_ rfl rfl (by kernel_rfl) (by kernel_rfl) (by kernel_rfl) (fun _ _ _ h => h) (by kernel_rfl) ?_ (by assumption) ?_; rotate_left; (focus (intro w hSw; (try dsimp only at hSw); go_simp; all_goals first | with_reducible rfl)); simp only [Act.put, List.setIfInBounds_toArray, List.set_cons_zero, List.set_cons_succ]
      refine take_yes 5 22 ?_ rfl rfl (by kernel_rfl) (by kernel_rfl) (by kernel_rfl) (fun _ _ _ h => h) (by kernel_rfl) ?_ (by assumption) ?_; rotate_left; (focus (intro w hSw; (try dsimp only at hSw); go_simp; all_goals first | with_reducible rfl)); simp only [Act.put, List.setIfInBounds_toArray, List.set_cons_zero, List.set_cons_succ]
      refine take_yes 6 23 ?_ rfl rfl (by kernel_rfl) (by kernel_rfl) (by kernel_rfl) (fun _ _ _ h => h) (by kernel_rfl) ?_ (by assumption) ?_; rotate_left; (focus (intro w hSw; (try dsimp only at hSw); go_simp; all_goals first | with_reducible rfl)); simp only [Act.put, List.setIfInBounds_toArray, List.set_cons_zero, List.set_cons_succ]
      refine take_yes 7 24 ?_ rfl rfl (by kernel_rfl) (by kernel_rfl) (by kernel_rfl) (fun _ _ _ h => h) (by kernel_rfl) ?_ (by assumption) ?_; rotate_left; (focus (intro w hSw; (try dsimp only at hSw); go_simp; all_goals first | with_reducible rfl)); simp only [Act.put, List.setIfInBounds_toArray, List.set_cons_zero, List.set_cons_succ]
      refine take_yes 8 25 ?_ rfl rfl (by kernel_rfl) (by kernel_rfl) (by kernel_rfl) (fun _ _ _ h => h) (by kernel_rfl) ?_ (by assumption) ?_; rotate_left; (focus (intro w hSw; (try dsimp only at hSw); go_simp; all_goals first | with_reducible rfl)); simp only [Act.put, List.setIfInBounds_toArray, List.set_cons_zero, List.set_cons_succ]
      refine take_yes 10 27 ?_ rfl rfl (by kernel_rfl) (by kernel_rfl) (by kernel_rfl) (fun _ _ _ h => h) (by kernel_rfl) ?_ (by assumption) ?_; rotate_left; (focus (intro w hSw; (try dsimp only at hSw); go_simp; all_goals first | with_reducible rfl)); simp only [Act.put, List.setIfInBounds_toArray, List.set_cons_zero, List.set_cons_succ]
      refine take_yes 11 28 ?_ rfl rfl (by kernel_rfl) (by kernel_rfl) (by kernel_rfl) (fun _ _ _ h => h) (by kernel_rfl) ?_ (by assumption) ?_; rotate_left; (focus (intro w hSw; (try dsimp only at hSw); go_simp; all_goals first | with_reducible rfl)); simp only [Act.put, List.setIfInBounds_toArray, List.set_cons_zero, List.set_cons_succ]
      refine take_yes 12 29 ?_ rfl rfl (by kernel_rfl) (by kernel_rfl) (by kernel_rfl) (fun _ _ _ h => h) (by kernel_rfl) ?_ (by assumption) ?_; rotate_left; (focus (intro w hSw; (try dsimp only at hSw); go_simp; all_goals first | with_reducible rfl)); simp only [Act.put, List.setIfInBounds_toArray, List.set_cons_zero, List.set_cons_succ]
      refine take_yes 13 30 ?_ rfl rfl (by kernel_rfl) (by kernel_rfl) (by kernel_rfl) (fun _ _ _ h => h) (by kernel_rfl) ?_ (by assumption) ?_; rotate_left; (focus (intro w hSw; (try dsimp only at hSw); go_simp; all_goals first | with_reducible rfl)); simp only [Act.put, List.setIfInBounds_toArray, List.set_cons_zero, List.set_cons_succ]
      refine wpAnyH_ready (rs := [4, 9]) (by kernel_rfl) (by simp) ?_
      refine AllReadyH.cons rfl (fun K hK => ?_) (AllReadyH.cons rfl (fun K hK => ?_) AllReadyH.nil)
      · go_simp
        refine hK.out _ _ (hc0d) (fun _ => ?_)
        clear hK K
        try simp only [Act.put, List.setIfInBounds_toArray, List.set_cons_zero, List.set_cons_succ]
        refine wpAnyH_ready (rs := [9]) (by kernel_rfl) (by simp) ?_
        refine AllReadyH.cons rfl (fun K hK => ?_) AllReadyH.nil
        go_simp
        go_at_call 57; (refine CN.out.mono ?_); rintro e wn ⟨rfl, hDn, hFn⟩
        have HDN := Lib.hid hDn
        have HFN := Lib.hid (HFD.out.trans hFn)
        have hSn : wn.cell? ⟨x.g, 0, none⟩ = some (.pointer (some ⟨x.tp, 0, none⟩)) := hDn.blk.cell 0
        have c1n : wn.cell? ⟨x.g, 1, none⟩ = some (.slice Cd ncd ccd) := hDn.blk.cell 1
        clear hDn hFn
        go_wp2_with fail
        refine hK.out _ _ (hSn) (fun _ => ?_)
        clear hK K
        try simp only [Act.put, List.setIfInBounds_toArray, List.set_cons_zero, List.set_cons_succ]
        refine wpAnyH_ready (rs := [14]) (by kernel_rfl) (by simp) ?_
        refine AllReadyH.cons rfl (fun K hK => ?_) AllReadyH.nil
        go_simp
        go_at_call 57; (refine (CM.out _ HDN.out).mono ?_); rintro e wm ⟨rfl, hDm, hFm⟩
        have HDM := Lib.hid hDm
        have HFM := Lib.hid (HFN.out.trans hFm)
        have hSm : wm.cell? ⟨x.g, 0, none⟩ = some (.pointer (some ⟨x.tp, 0, none⟩)) := hDm.blk.cell 0
        have c1m : wm.cell? ⟨x.g, 1, none⟩ = some (.slice Cd ncd ccd) := hDm.blk.cell 1
        clear hDm hFm
        go_wp2_with fail
        refine hK.out _ _ (hSm) (fun _ => ?_)
        clear hK K
        try simp only [Act.put, List.setIfInBounds_toArray, List.set_cons_zero, List.set_cons_succ]
        have hq2 : IntKind.i64.wrap ((b : Int) - 4) = (b : Int) - 4 := by rw [IntKind.wrap_i64]; omega
        refine take_yes 15 32 (.int .i64 ((b : Int) - 4)) rfl rfl (by kernel_rfl) (by kernel_rfl) (by kernel_rfl) (fun _ _ _ h => h) (by kernel_rfl) ?_ (by assumption) ?_; (focus (intro w hSw; (try dsimp only at hSw); go_simp; all_goals first | with_reducible rfl | simp [hq2])); simp only [Act.put, List.setIfInBounds_toArray, List.set_cons_zero, List.set_cons_succ]
        refine take_yes 16 33 ?_ rfl rfl (by kernel_rfl) (by kernel_rfl) (by kernel_rfl) (fun _ _ _ h => h) (by kernel_rfl) ?_ (by assumption) ?_; rotate_left; (focus (intro w hSw; (try dsimp only at hSw); go_simp; all_goals first | with_reducible rfl)); simp only [Act.put, List.setIfInBounds_toArray, List.set_cons_zero, List.set_cons_succ]
        have hbl := belowA wm (.cells (inC (⟨132, (a : Int), (b : Int) - 4, [], [], [], []⟩ : InD)).toArray 98)
        have hDl := HDM.out.below hbl
        have HBL : Hid (Blk (wm.alloc (.cells (inC (⟨132, (a : Int), (b : Int) - 4, [], [], [], []⟩ : InD)).toArray 98)) wm.heap.size 98 (inC (⟨132, (a : Int), (b : Int) - 4, [], [], [], []⟩ : InD)).toArray) := Lib.hid (Blk.new _ _ _)
        have hSl : (wm.alloc (.cells (inC (⟨132, (a : Int), (b : Int) - 4, [], [], [], []⟩ : InD)).toArray 98)).cell? ⟨x.g, 0, none⟩ = some (.pointer (some ⟨x.tp, 0, none⟩)) := hDl.blk.cell 0
        have c1l : (wm.alloc (.cells #[.int .u8 132, .int .i64 (a : Int), .int .i64 ((b : Int) - 4), .string ⟨#[]⟩, .string ⟨#[]⟩, .string ⟨#[]⟩, .string ⟨#[]⟩] 98)).cell? ⟨x.g, 1, none⟩ = some (.slice Cd ncd ccd) := hDl.blk.cell 1
        have hb0l := hDl.b0
        obtain ⟨A3, c3, w3, hrun, hG, hg, hr⟩ := run_append_rows (S := Empty) inC_len inC_one (by decide) 37 98 _ 88 Tryz.underlying37 Tryz.infoIn (by simp [Value.cells]) (by decide) 37 x.b0 Cd ncd ccd ((s.paid.nx x.xs)).code hDl.code ⟨wm.heap.size, 0, none⟩ 1 1 [(⟨132, (a : Int), (b : Int) - 4, [], [], [], []⟩ : InD)] (RowSl.of_blk inC_len HBL.out rfl (Nat.le_refl _) (by unfold maxLen; omega) (fun j _ => by simp) (fun h => h)) (by omega) hb0l
        have hgo := ne_own hDl.code hDl.blk (show 98 ≠ 166 by decide)
        have s1 : w3.cell? ⟨x.g, 1, none⟩ = some (.slice Cd ncd ccd) := ((only_grown hg hr).cell (p := ⟨x.g, 1, none⟩) hDl.blk.lt hgo).trans (hDl.blk.cell 1)
        have s0 : w3.cell? ⟨x.g, 0, none⟩ = some (.pointer (some ⟨x.tp, 0, none⟩)) := ((only_grown hg hr).cell (p := ⟨x.g, 0, none⟩) hDl.blk.lt hgo).trans hSl
        have s2 : w3.frozen? ⟨x.g, 1, none⟩ = false := ((only_grown hg hr).blk hDl.blk hgo).frozen 1
        obtain ⟨hP, hF⟩ := hDl.push hG hg hr
        obtain ⟨w3, hwe⟩ : ∃ W, w3.setCell ⟨x.g, 1, none⟩ (.slice A3 (ncd + 1) c3) = W := ⟨_, rfl⟩
        rw [hwe] at hP hF
        have hSe : w3.cell? ⟨x.g, 0, none⟩ = some (.pointer (some ⟨x.tp, 0, none⟩)) := hP.blk.cell 0
        have h : WrS x w3 D (((((s.paid.nx x.xs)).nx x.xs).nx x.xs).push ⟨132, (a : Int), (b : Int) - 4, [], [], [], []⟩) := ⟨A3, ncd + 1, c3, Td, ntd, ctd, Md, nmd, cmd, lmd, hP⟩
        have ho : Fr x w2 w3 := (HFM.out.trans (Fr.of_below hbl)).trans hF
        have HWE := Lib.hid hwe
        have HWX := Lib.hid h
        have HOX := Lib.hid ho
        simp only [inC] at hSl hrun
        clear hbl hDl hG hg hr hgo hP hF hwe h ho
        refine wpAnyH_ready (rs := [17]) (by kernel_rfl) (by simp) ?_
        refine AllReadyH.cons rfl (fun K hK => ?_) AllReadyH.nil
        go_simp
        refine hK.out _ _ (hSl) (fun _ => ?_)
        clear hK K
        try simp only [Act.put, List.setIfInBounds_toArray, List.set_cons_zero, List.set_cons_succ]
        refine wpAnyH_ready (rs := [18]) (by kernel_rfl) (by simp) ?_
        refine AllReadyH.cons rfl (fun K hK => ?_) AllReadyH.nil
        refine step_append_eq (ts := 37) rfl (.tmp 21) (.tmp 34) rfl rfl rfl rfl hrun ?_
        show K (Act.put _ (some 35) _) _
        refine hK.out _ _ (s0) (fun _ => ?_)
        clear hK K
        try simp only [Act.put, List.setIfInBounds_toArray, List.set_cons_zero, List.set_cons_succ]
        refine take_yes 19 36 ?_ rfl rfl (by kernel_rfl) (by kernel_rfl) (by kernel_rfl) (fun _ _ _ h => h) (by kernel_rfl) ?_ (by assumption) ?_; rotate_left; (focus (intro w hSw; (try dsimp only at hSw); go_simp; all_goals first | with_reducible rfl)); simp only [Act.put, List.setIfInBounds_toArray, List.set_cons_zero, List.set_cons_succ]
        refine take_yes 20 37 ?_ rfl rfl (by kernel_rfl) (by kernel_rfl) (by kernel_rfl) (fun _ _ _ h => h) (by kernel_rfl) ?_ (by assumption) ?_; rotate_left; (focus (intro w hSw; (try dsimp only at hSw); go_simp; all_goals first | with_reducible rfl)); simp only [Act.put, List.setIfInBounds_toArray, List.set_cons_zero, List.set_cons_succ]
        refine wpAnyH_ready (rs := [21]) (by kernel_rfl) (by simp) ?_
        refine AllReadyH.cons rfl (fun K hK => ?_) AllReadyH.nil
        go_simp
        rw [HWE.out]
        refine hK.out _ _ (hSe) (fun _ => ?_)
        clear hK K
        try simp only [Act.put, List.setIfInBounds_toArray, List.set_cons_zero, List.set_cons_succ]
        refine wpAnyH_done (by kernel_rfl) ?_ _
        clear hSe s0 s1 s2 hSn c1n hSm c1m c1l hSl hrun hHeld0
        have h := HWX.out
        have ho := HOX.out
        have HW3 := Lib.hid h
        have HO3 : Hid (Fr x w0 w3) := Lib.hid (HO2.out.trans ho)
        have HZ3 : Hid ((((((s.paid.nx x.xs)).nx x.xs).nx x.xs).push ⟨132, (a : Int), (b : Int) - 4, [], [], [], []⟩).sz (N + 1)) := Lib.hid ((Ws.sz_push _ (Ws.sz_nx x.xs (Ws.sz_nx x.xs HZ2.out))).more (by omega))
        clear h ho
        have HE : Hid (FS = ((((s.paid.nx x.xs)).nx x.xs).nx x.xs).push ⟨132, (a : Int), (b : Int) - 4, [], [], [], []⟩) := Lib.hid (by rw [← HFS.out]; unfold stepS; simp [HVv.out, HBD.out, HVa.out, HVb.out])
        go_wp2
        go_end0
        rw [HE.out]
        exact ⟨rfl, HW3.out, HO3.out⟩
      · go_simp
        go_at_call 57; (refine CN.out.mono ?_); rintro e wn ⟨rfl, hDn, hFn⟩
        have HDN := Lib.hid hDn
        have HFN := Lib.hid (HFD.out.trans hFn)
        have hSn : wn.cell? ⟨x.g, 0, none⟩ = some (.pointer (some ⟨x.tp, 0, none⟩)) := hDn.blk.cell 0
        have c1n : wn.cell? ⟨x.g, 1, none⟩ = some (.slice Cd ncd ccd) := hDn.blk.cell 1
        clear hDn hFn
        go_wp2_with fail
        refine hK.out _ _ (hSn) (fun _ => ?_)
        clear hK K
        try simp only [Act.put, List.setIfInBounds_toArray, List.set_cons_zero, List.set_cons_succ]
        refine wpAnyH_ready (rs := [4, 14]) (by kernel_rfl) (by simp) ?_
        refine AllReadyH.cons rfl (fun K hK => ?_) (AllReadyH.cons rfl (fun K hK => ?_) AllReadyH.nil)
        · go_simp
          refine hK.out _ _ (hSn) (fun _ => ?_)
          clear hK K
          try simp only [Act.put, List.setIfInBounds_toArray, List.set_cons_zero, List.set_cons_succ]
          refine wpAnyH_ready (rs := [14]) (by kernel_rfl) (by simp) ?_
          refine AllReadyH.cons rfl (fun K hK => ?_) AllReadyH.nil
          go_simp
          go_at_call 57; (refine (CM.out _ HDN.out).mono ?_); rintro e wm ⟨rfl, hDm, hFm⟩
          have HDM := Lib.hid hDm
          have HFM := Lib.hid (HFN.out.trans hFm)
          have hSm : wm.cell? ⟨x.g, 0, none⟩ = some (.pointer (some ⟨x.tp, 0, none⟩)) := hDm.blk.cell 0
          have c1m : wm.cell? ⟨x.g, 1, none⟩ = some (.slice Cd ncd ccd) := hDm.blk.cell 1
          clear hDm hFm
          go_wp2_with fail
          refine hK.out _ _ (hSm) (fun _ => ?_)
          clear hK K
          try simp only [Act.put, List.setIfInBounds_toArray, List.set_cons_zero, List.set_cons_succ]
          have hq2 : IntKind.i64.wrap ((b : Int) - 4) = (b : Int) - 4 := by rw [IntKind.wrap_i64]; omega
          refine take_yes 15 32 (.int .i64 ((b : Int) - 4)) rfl rfl (by kernel_rfl) (by kernel_rfl) (by kernel_rfl) (fun _ _ _ h => h) (by kernel_rfl) ?_ (by assumption) ?_; (focus (intro w hSw; (try dsimp only at hSw); go_simp; all_goals first | with_reducible rfl | simp [hq2])); simp only [Act.put, List.setIfInBounds_toArray, List.set_cons_zero, List.set_cons_succ]
          refine take_yes 16 33 ?_ rfl rfl (by kernel_rfl) (by kernel_rfl) (by kernel_rfl) (fun _ _ _ h => h) (by kernel_rfl) ?_ (by assumption) ?_; rotate_left; (focus (intro w hSw; (try dsimp only at hSw); go_simp; all_goals first | with_reducible rfl)); simp only [Act.put, List.setIfInBounds_toArray, List.set_cons_zero, List.set_cons_succ]
          have hbl := belowA wm (.cells (inC (⟨132, (a : Int), (b : Int) - 4, [], [], [], []⟩ : InD)).toArray 98)
          have hDl := HDM.out.below hbl
          have HBL : Hid (Blk (wm.alloc (.cells (inC (⟨132, (a : Int), (b : Int) - 4, [], [], [], []⟩ : InD)).toArray 98)) wm.heap.size 98 (inC (⟨132, (a : Int), (b : Int) - 4, [], [], [], []⟩ : InD)).toArray) := Lib.hid (Blk.new _ _ _)
          have hSl : (wm.alloc (.cells (inC (⟨132, (a : Int), (b : Int) - 4, [], [], [], []⟩ : InD)).toArray 98)).cell? ⟨x.g, 0, none⟩ = some (.pointer (some ⟨x.tp, 0, none⟩)) := hDl.blk.cell 0
          have c1l : (wm.alloc (.cells #[.int .u8 132, .int .i64 (a : Int), .int .i64 ((b : Int) - 4), .string ⟨#[]⟩, .string ⟨#[]⟩, .string ⟨#[]⟩, .string ⟨#[]⟩] 98)).cell? ⟨x.g, 1, none⟩ = some (.slice Cd ncd ccd) := hDl.blk.cell 1
          have hb0l := hDl.b0
          obtain ⟨A3, c3, w3, hrun, hG, hg, hr⟩ := run_append_rows (S := Empty) inC_len inC_one (by decide) 37 98 _ 88 Tryz.underlying37 Tryz.infoIn (by simp [Value.cells]) (by decide) 37 x.b0 Cd ncd ccd ((s.paid.nx x.xs)).code hDl.code ⟨wm.heap.size, 0, none⟩ 1 1 [(⟨132, (a : Int), (b : Int) - 4, [], [], [], []⟩ : InD)] (RowSl.of_blk inC_len HBL.out rfl (Nat.le_refl _) (by unfold maxLen; omega) (fun j _ => by simp) (fun h => h)) (by omega) hb0l
          have hgo := ne_own hDl.code hDl.blk (show 98 ≠ 166 by decide)
          have s1 : w3.cell? ⟨x.g, 1, none⟩ = some (.slice Cd ncd ccd) := ((only_grown hg hr).cell (p := ⟨x.g, 1, none⟩) hDl.blk.lt hgo).trans (hDl.blk.cell 1)
          have s0 : w3.cell? ⟨x.g, 0, none⟩ = some (.pointer (some ⟨x.tp, 0, none⟩)) := ((only_grown hg hr).cell (p := ⟨x.g, 0, none⟩) hDl.blk.lt hgo).trans hSl
          have s2 : w3.frozen? ⟨x.g, 1, none⟩ = false := ((only_grown hg hr).blk hDl.blk hgo).frozen 1
          obtain ⟨hP, hF⟩ := hDl.push hG hg hr
          obtain ⟨w3, hwe⟩ : ∃ W, w3.setCell ⟨x.g, 1, none⟩ (.slice A3 (ncd + 1) c3) = W := ⟨_, rfl⟩
          rw [hwe] at hP hF
          have hSe : w3.cell? ⟨x.g, 0, none⟩ = some (.pointer (some ⟨x.tp, 0, none⟩)) := hP.blk.cell 0
          have h : WrS x w3 D (((((s.paid.nx x.xs)).nx x.xs).nx x.xs).push ⟨132, (a : Int), (b : Int) - 4, [], [], [], []⟩) := ⟨A3, ncd + 1, c3, Td, ntd, ctd, Md, nmd, cmd, lmd, hP⟩
          have ho : Fr x w2 w3 := (HFM.out.trans (Fr.of_below hbl)).trans hF
          have HWE := Lib.hid hwe
          have HWX := Lib.hid h
          have HOX := Lib.hid ho
          simp only [inC] at hSl hrun
          clear hbl hDl hG hg hr hgo hP hF hwe h ho
          refine wpAnyH_ready (rs := [17]) (by kernel_rfl) (by simp) ?_
          refine AllReadyH.cons rfl (fun K hK => ?_) AllReadyH.nil
          go_simp
          refine hK.out _ _ (hSl) (fun _ => ?_)
          clear hK K
          try simp only [Act.put, List.setIfInBounds_toArray, List.set_cons_zero, List.set_cons_succ]
          refine wpAnyH_ready (rs := [18]) (by kernel_rfl) (by simp) ?_
          refine AllReadyH.cons rfl (fun K hK => ?_) AllReadyH.nil
          refine step_append_eq (ts := 37) rfl (.tmp 21) (.tmp 34) rfl rfl rfl rfl hrun ?_
          show K (Act.put _ (some 35) _) _
          refine hK.out _ _ (s0) (fun _ => ?_)
          clear hK K
          try simp only [Act.put, List.setIfInBounds_toArray, List.set_cons_zero, List.set_cons_succ]
          refine take_yes 19 36 ?_ rfl rfl (by kernel_rfl) (by kernel_rfl) (by kernel_rfl) (fun _ _ _ h => h) (by kernel_rfl) ?_ (by assumption) ?_; rotate_left; (focus (intro w hSw; (try dsimp only at hSw); go_simp; all_goals first | with_reducible rfl)); simp only [Act.put, List.setIfInBounds_toArray, List.set_cons_zero, List.set_cons_succ]
          refine take_yes 20 37 ?_ rfl rfl (by kernel_rfl) (by kernel_rfl) (by kernel_rfl) (fun _ _ _ h => h) (by kernel_rfl) ?_ (by assumption) ?_; rotate_left; (focus (intro w hSw; (try dsimp only at hSw); go_simp; all_goals first | with_reducible rfl)); simp only [Act.put, List.setIfInBounds_toArray, List.set_cons_zero, List.set_cons_succ]
          refine wpAnyH_ready (rs := [21]) (by kernel_rfl) (by simp) ?_
          refine AllReadyH.cons rfl (fun K hK => ?_) AllReadyH.nil
          go_simp
          rw [HWE.out]
          refine hK.out _ _ (hSe) (fun _ => ?_)
          clear hK K
          try simp only [Act.put, List.setIfInBounds_toArray, List.set_cons_zero, List.set_cons_succ]
          refine wpAnyH_done (by kernel_rfl) ?_ _
          clear hSe s0 s1 s2 hSn c1n hSm c1m c1l hSl hrun hHeld0
          have h := HWX.out
          have ho := HOX.out
          have HW3 := Lib.hid h
          have HO3 : Hid (Fr x w0 w3) := Lib.hid (HO2.out.trans ho)
          have HZ3 : Hid ((((((s.paid.nx x.xs)).nx x.xs).nx x.xs).push ⟨132, (a : Int), (b : Int) - 4, [], [], [], []⟩).sz (N + 1)) := Lib.hid ((Ws.sz_push _ (Ws.sz_nx x.xs (Ws.sz_nx x.xs HZ2.out))).more (by omega))
          clear h ho
          have HE : Hid (FS = ((((s.paid.nx x.xs)).nx x.xs).nx x.xs).push ⟨132, (a : Int), (b : Int) - 4, [], [], [], []⟩) := Lib.hid (by rw [← HFS.out]; unfold stepS; simp [HVv.out, HBD.out, HVa.out, HVb.out])
          go_wp2
          go_end0
          rw [HE.out]
          exact ⟨rfl, HW3.out, HO3.out⟩
        · go_simp
          go_at_call 57; (refine (CM.out _ HDN.out).mono ?_); rintro e wm ⟨rfl, hDm, hFm⟩
          have HDM := Lib.hid hDm
          have HFM := Lib.hid (HFN.out.trans hFm)
          have hSm : wm.cell? ⟨x.g, 0, none⟩ = some (.pointer (some ⟨x.tp, 0, none⟩)) := hDm.blk.cell 0
          have c1m : wm.cell? ⟨x.g, 1, none⟩ = some (.slice Cd ncd ccd) := hDm.blk.cell 1
          clear hDm hFm
          go_wp2_with fail
          refine hK.out _ _ (hSm) (fun _ => ?_)
          clear hK K
          try simp only [Act.put, List.setIfInBounds_toArray, List.set_cons_zero, List.set_cons_succ]
          have hq2 : IntKind.i64.wrap ((b : Int) - 4) = (b : Int) - 4 := by rw [IntKind.wrap_i64]; omega
          refine take_yes 15 32 (.int .i64 ((b : Int) - 4)) rfl rfl (by kernel_rfl) (by kernel_rfl) (by kernel_rfl) (fun _ _ _ h => h) (by kernel_rfl) ?_ (by assumption) ?_; (focus (intro w hSw; (try dsimp only at hSw); go_simp; all_goals first | with_reducible rfl | simp [hq2])); simp only [Act.put, List.setIfInBounds_toArray, List.set_cons_zero, List.set_cons_succ]
          refine take_yes 16 33 ?_ rfl rfl (by kernel_rfl) (by kernel_rfl) (by kernel_rfl) (fun _ _ _ h => h) (by kernel_rfl) ?_ (by assumption) ?_; rotate_left; (focus (intro w hSw; (try dsimp only at hSw); go_simp; all_goals first | with_reducible rfl)); simp only [Act.put, List.setIfInBounds_toArray, List.set_cons_zero, List.set_cons_succ]
          have hbl := belowA wm (.cells (inC (⟨132, (a : Int), (b : Int) - 4, [], [], [], []⟩ : InD)).toArray 98)
          have hDl := HDM.out.below hbl
          have HBL : Hid (Blk (wm.alloc (.cells (inC (⟨132, (a : Int), (b : Int) - 4, [], [], [], []⟩ : InD)).toArray 98)) wm.heap.size 98 (inC (⟨132, (a : Int), (b : Int) - 4, [], [], [], []⟩ : InD)).toArray) := Lib.hid (Blk.new _ _ _)
          have hSl : (wm.alloc (.cells (inC (⟨132, (a : Int), (b : Int) - 4, [], [], [], []⟩ : InD)).toArray 98)).cell? ⟨x.g, 0, none⟩ = some (.pointer (some ⟨x.tp, 0, none⟩)) := hDl.blk.cell 0
          have c1l : (wm.alloc (.cells #[.int .u8 132, .int .i64 (a : Int), .int .i64 ((b : Int) - 4), .string ⟨#[]⟩, .string ⟨#[]⟩, .string ⟨#[]⟩, .string ⟨#[]⟩] 98)).cell? ⟨x.g, 1, none⟩ = some (.slice Cd ncd ccd) := hDl.blk.cell 1
          have hb0l := hDl.b0
          obtain ⟨A3, c3, w3, hrun, hG, hg, hr⟩ := run_append_rows (S := Empty) inC_len inC_one (by decide) 37 98 _ 88 Tryz.underlying37 Tryz.infoIn (by simp [Value.cells]) (by decide) 37 x.b0 Cd ncd ccd ((s.paid.nx x.xs)).code hDl.code ⟨wm.heap.size, 0, none⟩ 1 1 [(⟨132, (a : Int), (b : Int) - 4, [], [], [], []⟩ : InD)] (RowSl.of_blk inC_len HBL.out rfl (Nat.le_refl _) (by unfold maxLen; omega) (fun j _ => by simp) (fun h => h)) (by omega) hb0l
          have hgo := ne_own hDl.code hDl.blk (show 98 ≠ 166 by decide)
          have s1 : w3.cell? ⟨x.g, 1, none⟩ = some (.slice Cd ncd ccd) := ((only_grown hg hr).cell (p := ⟨x.g, 1, none⟩) hDl.blk.lt hgo).trans (hDl.blk.cell 1)
          have s0 : w3.cell? ⟨x.g, 0, none⟩ = some (.pointer (some ⟨x.tp, 0, none⟩)) := ((only_grown hg hr).cell (p := ⟨x.g, 0, none⟩) hDl.blk.lt hgo).trans hSl
          have s2 : w3.frozen? ⟨x.g, 1, none⟩ = false := ((only_grown hg hr).blk hDl.blk hgo).frozen 1
          obtain ⟨hP, hF⟩ := hDl.push hG hg hr
          obtain ⟨w3, hwe⟩ : ∃ W, w3.setCell ⟨x.g, 1, none⟩ (.slice A3 (ncd + 1) c3) = W := ⟨_, rfl⟩
          rw [hwe] at hP hF
          have hSe : w3.cell? ⟨x.g, 0, none⟩ = some (.pointer (some ⟨x.tp, 0, none⟩)) := hP.blk.cell 0
          have h : WrS x w3 D (((((s.paid.nx x.xs)).nx x.xs).nx x.xs).push ⟨132, (a : Int), (b : Int) - 4, [], [], [], []⟩) := ⟨A3, ncd + 1, c3, Td, ntd, ctd, Md, nmd, cmd, lmd, hP⟩
          have ho : Fr x w2 w3 := (HFM.out.trans (Fr.of_below hbl)).trans hF
          have HWE := Lib.hid hwe
          have HWX := Lib.hid h
          have HOX := Lib.hid ho
          simp only [inC] at hSl hrun
          clear hbl hDl hG hg hr hgo hP hF hwe h ho
          refine wpAnyH_ready (rs := [4, 17]) (by kernel_rfl) (by simp) ?_
          refine AllReadyH.cons rfl (fun K hK => ?_) (AllReadyH.cons rfl (fun K hK => ?_) AllReadyH.nil)
          · go_simp
            refine hK.out _ _ (hSm) (fun _ => ?_)
            clear hK K
            try simp only [Act.put, List.setIfInBounds_toArray, List.set_cons_zero, List.set_cons_succ]
            refine wpAnyH_ready (rs := [17]) (by kernel_rfl) (by simp) ?_
            refine AllReadyH.cons rfl (fun K hK => ?_) AllReadyH.nil
            go_simp
            refine hK.out _ _ (hSl) (fun _ => ?_)
            clear hK K
            try simp only [Act.put, List.setIfInBounds_toArray, List.set_cons_zero, List.set_cons_succ]
            refine wpAnyH_ready (rs := [18]) (by kernel_rfl) (by simp) ?_
            refine AllReadyH.cons rfl (fun K hK => ?_) AllReadyH.nil
            refine step_append_eq (ts := 37) rfl (.tmp 21) (.tmp 34) rfl rfl rfl rfl hrun ?_
            show K (Act.put _ (some 35) _) _
            refine hK.out _ _ (s0) (fun _ => ?_)
            clear hK K
            try simp only [Act.put, List.setIfInBounds_toArray, List.set_cons_zero, List.set_cons_succ]
            refine take_yes 19 36 ?_ rfl rfl (by kernel_rfl) (by kernel_rfl) (by kernel_rfl) (fun _ _ _ h => h) (by kernel_rfl) ?_ (by assumption) ?_; rotate_left; (focus (intro w hSw; (try dsimp only at hSw); go_simp; all_goals first | with_reducible rfl)); simp only [Act.put, List.setIfInBounds_toArray, List.set_cons_zero, List.set_cons_succ]
            refine take_yes 20 37 ?_ rfl rfl (by kernel_rfl) (by kernel_rfl) (by kernel_rfl) (fun _ _ _ h => h) (by kernel_rfl) ?_ (by assumption) ?_; rotate_left; (focus (intro w hSw; (try dsimp only at hSw); go_simp; all_goals first | with_reducible rfl)); simp only [Act.put, List.setIfInBounds_toArray, List.set_cons_zero, List.set_cons_succ]
            refine wpAnyH_ready (rs := [21]) (by kernel_rfl) (by simp) ?_
            refine AllReadyH.cons rfl (fun K hK => ?_) AllReadyH.nil
            go_simp
            rw [HWE.out]
            refine hK.out _ _ (hSe) (fun _ => ?_)
            clear hK K
            try simp only [Act.put, List.setIfInBounds_toArray, List.set_cons_zero, List.set_cons_succ]
            refine wpAnyH_done (by kernel_rfl) ?_ _
            clear hSe s0 s1 s2 hSn c1n hSm c1m c1l hSl hrun hHeld0
            have h := HWX.out
            have ho := HOX.out
            have HW3 := Lib.hid h
            have HO3 : Hid (Fr x w0 w3) := Lib.hid (HO2.out.trans ho)
            have HZ3 : Hid ((((((s.paid.nx x.xs)).nx x.xs).nx x.xs).push ⟨132, (a : Int), (b : Int) - 4, [], [], [], []⟩).sz (N + 1)) := Lib.hid ((Ws.sz_push _ (Ws.sz_nx x.xs (Ws.sz_nx x.xs HZ2.out))).more (by omega))
            clear h ho
            have HE : Hid (FS = ((((s.paid.nx x.xs)).nx x.xs).nx x.xs).push ⟨132, (a : Int), (b : Int) - 4, [], [], [], []⟩) := Lib.hid (by rw [← HFS.out]; unfold stepS; simp [HVv.out, HBD.out, HVa.out, HVb.out])
            go_wp2
            go_end0
            rw [HE.out]
            exact ⟨rfl, HW3.out, HO3.out⟩
          · go_simp
            refine hK.out _ _ (hSl) (fun _ => ?_)
            clear hK K
            try simp only [Act.put, List.setIfInBounds_toArray, List.set_cons_zero, List.set_cons_succ]
            refine wpAnyH_ready (rs := [4]) (by kernel_rfl) (by simp) ?_
            refine AllReadyH.cons rfl (fun K hK => ?_) AllReadyH.nil
            go_simp
            refine hK.out _ _ (hSl) (fun _ => ?_)
            clear hK K
            try simp only [Act.put, List.setIfInBounds_toArray, List.set_cons_zero, List.set_cons_succ]
            refine wpAnyH_ready (rs := [18]) (by kernel_rfl) (by simp) ?_
            refine AllReadyH.cons rfl (fun K hK => ?_) AllReadyH.nil
            refine step_append_eq (ts := 37) rfl (.tmp 21) (.tmp 34) rfl rfl rfl rfl hrun ?_
            show K (Act.put _ (some 35) _) _
            refine hK.out _ _ (s0) (fun _ => ?_)
            clear hK K
            try simp only [Act.put, List.setIfInBounds_toArray, List.set_cons_zero, List.set_cons_succ]
            refine take_yes 19 36 ?_ rfl rfl (by kernel_rfl) (by kernel_rfl) (by kernel_rfl) (fun _ _ _ h => h) (by kernel_rfl) ?_ (by assumption) ?_; rotate_left; (focus (intro w hSw; (try dsimp only at hSw); go_simp; all_goals first | with_reducible rfl)); simp only [Act.put, List.setIfInBounds_toArray, List.set_cons_zero, List.set_cons_succ]
            refine take_yes 20 37 ?_ rfl rfl (by kernel_rfl) (by kernel_rfl) (by kernel_rfl) (fun _ _ _ h => h) (by kernel_rfl) ?_ (by assumption) ?_; rotate_left; (focus (intro w hSw; (try dsimp only at hSw); go_simp; all_goals first | with_reducible rfl)); simp only [Act.put, List.setIfInBounds_toArray, List.set_cons_zero, List.set_cons_succ]
            refine wpAnyH_ready (rs := [21]) (by kernel_rfl) (by simp) ?_
            refine AllReadyH.cons rfl (fun K hK => ?_) AllReadyH.nil
            go_simp
            rw [HWE.out]
            refine hK.out _ _ (hSe) (fun _ => ?_)
            clear hK K
            try simp only [Act.put, List.setIfInBounds_toArray, List.set_cons_zero, List.set_cons_succ]
            refine wpAnyH_done (by kernel_rfl) ?_ _
            clear hSe s0 s1 s2 hSn c1n hSm c1m c1l hSl hrun hHeld0
            have h := HWX.out
            have ho := HOX.out
            have HW3 := Lib.hid h
            have HO3 : Hid (Fr x w0 w3) := Lib.hid (HO2.out.trans ho)
            have HZ3 : Hid ((((((s.paid.nx x.xs)).nx x.xs).nx x.xs).push ⟨132, (a : Int), (b : Int) - 4, [], [], [], []⟩).sz (N + 1)) := Lib.hid ((Ws.sz_push _ (Ws.sz_nx x.xs (Ws.sz_nx x.xs HZ2.out))).more (by omega))
            clear h ho
            have HE : Hid (FS = ((((s.paid.nx x.xs)).nx x.xs).nx x.xs).push ⟨132, (a : Int), (b : Int) - 4, [], [], [], []⟩) := Lib.hid (by rw [← HFS.out]; unfold stepS; simp [HVv.out, HBD.out, HVa.out, HVb.out])
            go_wp2
            go_end0
            rw [HE.out]
            exact ⟨rfl, HW3.out, HO3.out⟩

theorem ct_stm0 (x : Wx) : CtS x 124 3 (stmW x.xs 0) 14000000 := fun W t M h hz hM => stm_flat x W 3 t M id (by decide) h hz hM
theorem ct_stm1 (x : Wx) : CtS x 124 2 (stmW x.xs 1) 13000000 := fun W t M h hz hM => stm_deep x W 2 t M (stmW x.xs 0) 40 14000000 (by decide) (by decide) (ct_stm0 x) (adds_stm x.xs).1 (grow_stm x.xs 0) h hz (by omega) (by decide)
theorem ct_stm2 (x : Wx) : CtS x 124 1 (stmW x.xs 2) 12000000 := fun W t M h hz hM => stm_deep x W 1 t M (stmW x.xs 1) 280 13000000 (by decide) (by decide) (ct_stm1 x) (adds_stm x.xs).2.1 (grow_stm x.xs 1) h hz (by omega) (by decide)
theorem ct_stm3 (x : Wx) : CtS x 124 0 (stmW x.xs 3) 11000000 := fun W t M h hz hM => stm_deep x W 0 t M (stmW x.xs 2) 1720 12000000 (by decide) (by decide) (ct_stm2 x) (adds_stm x.xs).2.2.1 (grow_stm x.xs 2) h hz (by omega) (by decide)

end Go.Proofs.YtdkkpcbebhgbiaaGreatDoor
