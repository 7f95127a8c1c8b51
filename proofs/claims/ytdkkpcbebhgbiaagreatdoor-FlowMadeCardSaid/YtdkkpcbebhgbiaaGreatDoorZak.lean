/- The walks over carpetbagmake's int, long; printed by gen/gen_we.py. -/
import Derived.Test.YtdkkpcbebhgbiaaGreatDoorZaj
namespace Go.Proofs.YtdkkpcbebhgbiaaGreatDoor
set_option maxRecDepth 100000
open Go.RowKit Go.Maps

/-- What a call with a number does. -/
def CtW (x : Wx) (f : FuncId) (v : Int) (F : Ws → Ws) (B : Nat) : Prop := ∀ (W : World) (D : Int) (t : Ws) (M : Nat), WrS x W D t → t.sz M → M ≤ B →
  Calls Tryz.prog f #[.pointer (some ⟨x.g, 0, none⟩), .int .i64 v] W fun e w' => e = .returned (.tuple #[]) ∧ WrS x w' D (F t) ∧ Fr x W w'
theorem u8_of_tab (l : List UInt8) (k : Nat) (h : k < l.length) : (l.map B8).toArray[k]? = some (B8 (l.getD k 0)) := by
  simp [List.getD_eq_getElem?_getD, List.getElem?_eq_getElem h]

set_option maxHeartbeats 4000000 in
theorem int_leaf (x : Wx) (w : World) (D : Int) (s : Ws) (N : Nat) (I L : Ws → Ws) (v0 : Int) (hv0 : v0 ≤ 0) (hv1 : -10 ≤ v0) (h : WrS x w D s) (hz : s.sz N) (hN : N ≤ 15900000) :
    Calls Tryz.prog 125 #[.pointer (some ⟨x.g, 0, none⟩), .int .i64 v0] w fun e w' => e = .returned (.tuple #[]) ∧ WrS x w' D (stepI x.xs false I L s) ∧ Fr x w w' := by
  obtain ⟨w0, rfl⟩ : ∃ w0, w0 = w := ⟨_, rfl⟩
  have HW0 := Lib.hid h
  have HO0 : Hid (Fr x w0 w0) := Lib.hid (Fr.refl x w0)
  have HZ0 := Lib.hid hz
  obtain ⟨FS, hFS⟩ : ∃ FS, stepI x.xs false I L s = FS := ⟨_, rfl⟩
  have HFS := Lib.hid hFS
  rw [hFS]
  clear h hz hFS
  obtain ⟨Cp, ncp, ccp, Tp, ntp, ctp, Mp, nmp, cmp, lmp, hD⟩ := HW0.out
  have c5 : w0.cell? ⟨x.g, 5, none⟩ = some (.int .i64 s.bud) := hD.blk.cell 5
  have c0 : w0.cell? ⟨x.g, 0, none⟩ = some (.pointer (some ⟨x.tp, 0, none⟩)) := hD.blk.cell 0
  have f5 := hD.blk.frozen 5
  have hgl := hD.blk.lt
  obtain ⟨hP, hF⟩ := hD.paid_
  obtain ⟨w1, hw1⟩ : ∃ W, w0.setCell ⟨x.g, 5, none⟩ (.int .i64 (wrap64 (s.bud - 1))) = W := ⟨_, rfl⟩
  rw [hw1] at hP hF
  have HW1 : Hid (WrS x w1 D s.paid) := Lib.hid ⟨Cp, ncp, ccp, Tp, ntp, ctp, Mp, nmp, cmp, lmp, hP⟩
  have HO1 := Lib.hid hF
  have HZ1 : Hid (s.paid.sz N) := Lib.hid (Ws.sz_paid HZ0.out)
  have HWW := Lib.hid hw1
  clear hD hP hF hw1
  go_enter Tryz.func125, Tryz.ntmps125
  go_wp2_with fail
  rw [HWW.out]
  clear c5 c0 f5
  refine (next_s x _ _ _ 16 _ HW1.out (by omega) (by omega) rfl).mono ?_
  rintro e w2 ⟨rfl, h, ho⟩
  have HW2 := Lib.hid h
  have HO2 : Hid (Fr x w0 w2) := Lib.hid (HO1.out.trans ho)
  have HZ2 : Hid ((s.paid.nx x.xs).sz N) := Lib.hid (Ws.sz_nx x.xs HZ1.out)
  clear h ho
  obtain ⟨v, hv⟩ : ∃ v, nxV x.xs 16 s.paid.at_ = v := ⟨_, rfl⟩
  have bv : v < 16 := by rw [← hv]; exact nxV_lt (by omega)
  rw [hv]
  have HVv : Hid (nxV x.xs 16 s.at_ = v) := Lib.hid hv
  clear hv
  have c5 : w2.cell? ⟨x.g, 5, none⟩ = some (.int .i64 s.paid.bud) := by
    obtain ⟨C, nc, cc, T, nt, ct, M, nm, cm, lm, hD⟩ := HW2.out
    exact hD.blk.cell 5
  have hcs : v = 0 ∨ v = 1 ∨ v = 2 ∨ v = 3 ∨ v = 4 ∨ v = 5 ∨ v = 6 ∨ v = 7 ∨ v = 8 ∨ v = 9 ∨ v = 10 ∨ v = 11 ∨ v = 12 ∨ v = 13 ∨ v = 14 ∨ v = 15 := by omega
  clear bv
  rcases hcs with rfl | rfl | rfl | rfl | rfl | rfl | rfl | rfl | rfl | rfl | rfl | rfl | rfl | rfl | rfl | rfl
  · have t2 := HW2.out.t
    go_wp2_with fail
    refine (next_s x _ _ _ 3 _ HW2.out (by omega) (by omega) rfl).mono ?_
    rintro e w3 ⟨rfl, h, ho⟩
    have HW3 := Lib.hid h
    have HO3 : Hid (Fr x w0 w3) := Lib.hid (HO2.out.trans ho)
    have HZ3 : Hid ((((s.paid.nx x.xs)).nx x.xs).sz N) := Lib.hid ((Ws.sz_nx x.xs HZ2.out).more (by omega))
    clear h ho
    obtain ⟨a, ha⟩ : ∃ a, nxV x.xs 3 ((s.paid.nx x.xs)).at_ = a := ⟨_, rfl⟩
    have ba : a < 3 := by rw [← ha]; exact nxV_lt (by omega)
    rw [ha]
    have HVa := Lib.hid ha
    clear ha t2
    go_wp2_with fail
    refine (op_v x _ _ _ N 21 _ _ (by first | rfl | decide | assumption) HW3.out HZ3.out (by omega)).mono ?_
    rintro e w4 ⟨rfl, h, ho⟩
    have HW4 := Lib.hid h
    have HO4 : Hid (Fr x w0 w4) := Lib.hid (HO3.out.trans ho)
    have HZ4 : Hid (((((s.paid.nx x.xs)).nx x.xs).op 21 a).sz (N + 1)) := Lib.hid ((Ws.sz_op _ _ HZ3.out).more (by omega))
    clear h ho
    have HE : Hid (FS = (((s.paid.nx x.xs)).nx x.xs).op 21 a) := Lib.hid (by rw [← HFS.out]; unfold stepI; simp [HVv.out, leafI, HVa.out])
    go_wp2
    go_end0
    rw [HE.out]
    exact ⟨rfl, HW4.out, HO4.out⟩
  · have t2 := HW2.out.t
    go_wp2_with fail
    refine (next_s x _ _ _ 3 _ HW2.out (by omega) (by omega) rfl).mono ?_
    rintro e w3 ⟨rfl, h, ho⟩
    have HW3 := Lib.hid h
    have HO3 : Hid (Fr x w0 w3) := Lib.hid (HO2.out.trans ho)
    have HZ3 : Hid ((((s.paid.nx x.xs)).nx x.xs).sz N) := Lib.hid ((Ws.sz_nx x.xs HZ2.out).more (by omega))
    clear h ho
    obtain ⟨a, ha⟩ : ∃ a, nxV x.xs 3 ((s.paid.nx x.xs)).at_ = a := ⟨_, rfl⟩
    have ba : a < 3 := by rw [← ha]; exact nxV_lt (by omega)
    rw [ha]
    have HVa := Lib.hid ha
    clear ha t2
    go_wp2_with fail
    refine (op_v x _ _ _ N 21 _ _ (by first | rfl | decide | assumption) HW3.out HZ3.out (by omega)).mono ?_
    rintro e w4 ⟨rfl, h, ho⟩
    have HW4 := Lib.hid h
    have HO4 : Hid (Fr x w0 w4) := Lib.hid (HO3.out.trans ho)
    have HZ4 : Hid (((((s.paid.nx x.xs)).nx x.xs).op 21 a).sz (N + 1)) := Lib.hid ((Ws.sz_op _ _ HZ3.out).more (by omega))
    clear h ho
    have HE : Hid (FS = (((s.paid.nx x.xs)).nx x.xs).op 21 a) := Lib.hid (by rw [← HFS.out]; unfold stepI; simp [HVv.out, leafI, HVa.out])
    go_wp2
    go_end0
    rw [HE.out]
    exact ⟨rfl, HW4.out, HO4.out⟩
  · have t2 := HW2.out.t
    go_wp2_with fail
    refine (next_s x _ _ _ 256 _ HW2.out (by omega) (by omega) rfl).mono ?_
    rintro e w3 ⟨rfl, h, ho⟩
    have HW3 := Lib.hid h
    have HO3 : Hid (Fr x w0 w3) := Lib.hid (HO2.out.trans ho)
    have HZ3 : Hid ((((s.paid.nx x.xs)).nx x.xs).sz N) := Lib.hid ((Ws.sz_nx x.xs HZ2.out).more (by omega))
    clear h ho
    obtain ⟨a, ha⟩ : ∃ a, nxV x.xs 256 ((s.paid.nx x.xs)).at_ = a := ⟨_, rfl⟩
    have ba : a < 256 := by rw [← ha]; exact nxV_lt (by omega)
    rw [ha]
    have HVa := Lib.hid ha
    clear ha t2
    go_wp2_with fail
    refine (number_s x _ _ _ N ((a : Int) - 100) (by omega) HW3.out HZ3.out (by omega)).mono ?_
    rintro e w4 ⟨rfl, h, ho⟩
    have HW4 := Lib.hid h
    have HO4 : Hid (Fr x w0 w4) := Lib.hid (HO3.out.trans ho)
    have HZ4 : Hid (((((s.paid.nx x.xs)).nx x.xs).push (numI ((a : Int) - 100))).sz (N + 1)) := Lib.hid ((Ws.sz_push _ HZ3.out).more (by omega))
    clear h ho
    have HE : Hid (FS = (((s.paid.nx x.xs)).nx x.xs).push (numI ((a : Int) - 100))) := Lib.hid (by rw [← HFS.out]; unfold stepI; simp [HVv.out, leafI, HVa.out])
    go_wp2
    go_end0
    rw [HE.out]
    exact ⟨rfl, HW4.out, HO4.out⟩
  · go_wp2_with fail
    refine (name_v x _ _ _ N 178 _ sMain [115] [73] _ _ _ rfl rfl rfl rfl HW2.out HZ2.out (by omega)).mono ?_
    rintro e w3 ⟨rfl, h, ho⟩
    have HW3 := Lib.hid h
    have HO3 : Hid (Fr x w0 w3) := Lib.hid (HO2.out.trans ho)
    have HZ3 : Hid ((((s.paid.nx x.xs)).name 178 sMain [115] [73]).sz (N + 1)) := Lib.hid ((Ws.sz_name _ _ _ _ HZ2.out).more (by omega))
    clear h ho
    have HE : Hid (FS = ((s.paid.nx x.xs)).name 178 sMain [115] [73]) := Lib.hid (by rw [← HFS.out]; unfold stepI; simp [HVv.out, leafI])
    go_wp2
    go_end0
    rw [HE.out]
    exact ⟨rfl, HW3.out, HO3.out⟩
  · have t2 := HW2.out.t
    go_wp2_with fail
    refine (next_s x _ _ _ 3 _ HW2.out (by omega) (by omega) rfl).mono ?_
    rintro e w3 ⟨rfl, h, ho⟩
    have HW3 := Lib.hid h
    have HO3 : Hid (Fr x w0 w3) := Lib.hid (HO2.out.trans ho)
    have HZ3 : Hid ((((s.paid.nx x.xs)).nx x.xs).sz N) := Lib.hid ((Ws.sz_nx x.xs HZ2.out).more (by omega))
    clear h ho
    obtain ⟨a, ha⟩ : ∃ a, nxV x.xs 3 ((s.paid.nx x.xs)).at_ = a := ⟨_, rfl⟩
    have ba : a < 3 := by rw [← ha]; exact nxV_lt (by omega)
    rw [ha]
    have HVa := Lib.hid ha
    clear ha t2
    go_wp2_with fail
    refine (op_v x _ _ _ N 21 _ _ (by first | rfl | decide | assumption) HW3.out HZ3.out (by omega)).mono ?_
    rintro e w4 ⟨rfl, h, ho⟩
    have HW4 := Lib.hid h
    have HO4 : Hid (Fr x w0 w4) := Lib.hid (HO3.out.trans ho)
    have HZ4 : Hid (((((s.paid.nx x.xs)).nx x.xs).op 21 a).sz (N + 1)) := Lib.hid ((Ws.sz_op _ _ HZ3.out).more (by omega))
    clear h ho
    have HE : Hid (FS = (((s.paid.nx x.xs)).nx x.xs).op 21 a) := Lib.hid (by rw [← HFS.out]; unfold stepI; simp [HVv.out, leafI, HVa.out])
    go_wp2
    go_end0
    rw [HE.out]
    exact ⟨rfl, HW4.out, HO4.out⟩
  · have t2 := HW2.out.t
    go_wp2_with fail
    refine (next_s x _ _ _ 3 _ HW2.out (by omega) (by omega) rfl).mono ?_
    rintro e w3 ⟨rfl, h, ho⟩
    have HW3 := Lib.hid h
    have HO3 : Hid (Fr x w0 w3) := Lib.hid (HO2.out.trans ho)
    have HZ3 : Hid ((((s.paid.nx x.xs)).nx x.xs).sz N) := Lib.hid ((Ws.sz_nx x.xs HZ2.out).more (by omega))
    clear h ho
    obtain ⟨a, ha⟩ : ∃ a, nxV x.xs 3 ((s.paid.nx x.xs)).at_ = a := ⟨_, rfl⟩
    have ba : a < 3 := by rw [← ha]; exact nxV_lt (by omega)
    rw [ha]
    have HVa := Lib.hid ha
    clear ha t2
    go_wp2_with fail
    refine (op_v x _ _ _ N 21 _ _ (by first | rfl | decide | assumption) HW3.out HZ3.out (by omega)).mono ?_
    rintro e w4 ⟨rfl, h, ho⟩
    have HW4 := Lib.hid h
    have HO4 : Hid (Fr x w0 w4) := Lib.hid (HO3.out.trans ho)
    have HZ4 : Hid (((((s.paid.nx x.xs)).nx x.xs).op 21 a).sz (N + 1)) := Lib.hid ((Ws.sz_op _ _ HZ3.out).more (by omega))
    clear h ho
    have HE : Hid (FS = (((s.paid.nx x.xs)).nx x.xs).op 21 a) := Lib.hid (by rw [← HFS.out]; unfold stepI; simp [HVv.out, leafI, HVa.out])
    go_wp2
    go_end0
    rw [HE.out]
    exact ⟨rfl, HW4.out, HO4.out⟩
  · have t2 := HW2.out.t
    go_wp2_with fail
    refine (next_s x _ _ _ 256 _ HW2.out (by omega) (by omega) rfl).mono ?_
    rintro e w3 ⟨rfl, h, ho⟩
    have HW3 := Lib.hid h
    have HO3 : Hid (Fr x w0 w3) := Lib.hid (HO2.out.trans ho)
    have HZ3 : Hid ((((s.paid.nx x.xs)).nx x.xs).sz N) := Lib.hid ((Ws.sz_nx x.xs HZ2.out).more (by omega))
    clear h ho
    obtain ⟨a, ha⟩ : ∃ a, nxV x.xs 256 ((s.paid.nx x.xs)).at_ = a := ⟨_, rfl⟩
    have ba : a < 256 := by rw [← ha]; exact nxV_lt (by omega)
    rw [ha]
    have HVa := Lib.hid ha
    clear ha t2
    go_wp2_with fail
    refine (number_s x _ _ _ N ((a : Int) - 100) (by omega) HW3.out HZ3.out (by omega)).mono ?_
    rintro e w4 ⟨rfl, h, ho⟩
    have HW4 := Lib.hid h
    have HO4 : Hid (Fr x w0 w4) := Lib.hid (HO3.out.trans ho)
    have HZ4 : Hid (((((s.paid.nx x.xs)).nx x.xs).push (numI ((a : Int) - 100))).sz (N + 1)) := Lib.hid ((Ws.sz_push _ HZ3.out).more (by omega))
    clear h ho
    have HE : Hid (FS = (((s.paid.nx x.xs)).nx x.xs).push (numI ((a : Int) - 100))) := Lib.hid (by rw [← HFS.out]; unfold stepI; simp [HVv.out, leafI, HVa.out])
    go_wp2
    go_end0
    rw [HE.out]
    exact ⟨rfl, HW4.out, HO4.out⟩
  · go_wp2_with fail
    refine (name_v x _ _ _ N 178 _ sMain [115] [73] _ _ _ rfl rfl rfl rfl HW2.out HZ2.out (by omega)).mono ?_
    rintro e w3 ⟨rfl, h, ho⟩
    have HW3 := Lib.hid h
    have HO3 : Hid (Fr x w0 w3) := Lib.hid (HO2.out.trans ho)
    have HZ3 : Hid ((((s.paid.nx x.xs)).name 178 sMain [115] [73]).sz (N + 1)) := Lib.hid ((Ws.sz_name _ _ _ _ HZ2.out).more (by omega))
    clear h ho
    have HE : Hid (FS = ((s.paid.nx x.xs)).name 178 sMain [115] [73]) := Lib.hid (by rw [← HFS.out]; unfold stepI; simp [HVv.out, leafI])
    go_wp2
    go_end0
    rw [HE.out]
    exact ⟨rfl, HW3.out, HO3.out⟩
  · have t2 := HW2.out.t
    go_wp2_with fail
    refine (next_s x _ _ _ 3 _ HW2.out (by omega) (by omega) rfl).mono ?_
    rintro e w3 ⟨rfl, h, ho⟩
    have HW3 := Lib.hid h
    have HO3 : Hid (Fr x w0 w3) := Lib.hid (HO2.out.trans ho)
    have HZ3 : Hid ((((s.paid.nx x.xs)).nx x.xs).sz N) := Lib.hid ((Ws.sz_nx x.xs HZ2.out).more (by omega))
    clear h ho
    obtain ⟨a, ha⟩ : ∃ a, nxV x.xs 3 ((s.paid.nx x.xs)).at_ = a := ⟨_, rfl⟩
    have ba : a < 3 := by rw [← ha]; exact nxV_lt (by omega)
    rw [ha]
    have HVa := Lib.hid ha
    clear ha t2
    go_wp2_with fail
    refine (op_v x _ _ _ N 21 _ _ (by first | rfl | decide | assumption) HW3.out HZ3.out (by omega)).mono ?_
    rintro e w4 ⟨rfl, h, ho⟩
    have HW4 := Lib.hid h
    have HO4 : Hid (Fr x w0 w4) := Lib.hid (HO3.out.trans ho)
    have HZ4 : Hid (((((s.paid.nx x.xs)).nx x.xs).op 21 a).sz (N + 1)) := Lib.hid ((Ws.sz_op _ _ HZ3.out).more (by omega))
    clear h ho
    have HE : Hid (FS = (((s.paid.nx x.xs)).nx x.xs).op 21 a) := Lib.hid (by rw [← HFS.out]; unfold stepI; simp [HVv.out, leafI, HVa.out])
    go_wp2
    go_end0
    rw [HE.out]
    exact ⟨rfl, HW4.out, HO4.out⟩
  · have t2 := HW2.out.t
    go_wp2_with fail
    refine (next_s x _ _ _ 3 _ HW2.out (by omega) (by omega) rfl).mono ?_
    rintro e w3 ⟨rfl, h, ho⟩
    have HW3 := Lib.hid h
    have HO3 : Hid (Fr x w0 w3) := Lib.hid (HO2.out.trans ho)
    have HZ3 : Hid ((((s.paid.nx x.xs)).nx x.xs).sz N) := Lib.hid ((Ws.sz_nx x.xs HZ2.out).more (by omega))
    clear h ho
    obtain ⟨a, ha⟩ : ∃ a, nxV x.xs 3 ((s.paid.nx x.xs)).at_ = a := ⟨_, rfl⟩
    have ba : a < 3 := by rw [← ha]; exact nxV_lt (by omega)
    rw [ha]
    have HVa := Lib.hid ha
    clear ha t2
    go_wp2_with fail
    refine (op_v x _ _ _ N 21 _ _ (by first | rfl | decide | assumption) HW3.out HZ3.out (by omega)).mono ?_
    rintro e w4 ⟨rfl, h, ho⟩
    have HW4 := Lib.hid h
    have HO4 : Hid (Fr x w0 w4) := Lib.hid (HO3.out.trans ho)
    have HZ4 : Hid (((((s.paid.nx x.xs)).nx x.xs).op 21 a).sz (N + 1)) := Lib.hid ((Ws.sz_op _ _ HZ3.out).more (by omega))
    clear h ho
    have HE : Hid (FS = (((s.paid.nx x.xs)).nx x.xs).op 21 a) := Lib.hid (by rw [← HFS.out]; unfold stepI; simp [HVv.out, leafI, HVa.out])
    go_wp2
    go_end0
    rw [HE.out]
    exact ⟨rfl, HW4.out, HO4.out⟩
  · have t2 := HW2.out.t
    go_wp2_with fail
    refine (next_s x _ _ _ 256 _ HW2.out (by omega) (by omega) rfl).mono ?_
    rintro e w3 ⟨rfl, h, ho⟩
    have HW3 := Lib.hid h
    have HO3 : Hid (Fr x w0 w3) := Lib.hid (HO2.out.trans ho)
    have HZ3 : Hid ((((s.paid.nx x.xs)).nx x.xs).sz N) := Lib.hid ((Ws.sz_nx x.xs HZ2.out).more (by omega))
    clear h ho
    obtain ⟨a, ha⟩ : ∃ a, nxV x.xs 256 ((s.paid.nx x.xs)).at_ = a := ⟨_, rfl⟩
    have ba : a < 256 := by rw [← ha]; exact nxV_lt (by omega)
    rw [ha]
    have HVa := Lib.hid ha
    clear ha t2
    go_wp2_with fail
    refine (number_s x _ _ _ N ((a : Int) - 100) (by omega) HW3.out HZ3.out (by omega)).mono ?_
    rintro e w4 ⟨rfl, h, ho⟩
    have HW4 := Lib.hid h
    have HO4 : Hid (Fr x w0 w4) := Lib.hid (HO3.out.trans ho)
    have HZ4 : Hid (((((s.paid.nx x.xs)).nx x.xs).push (numI ((a : Int) - 100))).sz (N + 1)) := Lib.hid ((Ws.sz_push _ HZ3.out).more (by omega))
    clear h ho
    have HE : Hid (FS = (((s.paid.nx x.xs)).nx x.xs).push (numI ((a : Int) - 100))) := Lib.hid (by rw [← HFS.out]; unfold stepI; simp [HVv.out, leafI, HVa.out])
    go_wp2
    go_end0
    rw [HE.out]
    exact ⟨rfl, HW4.out, HO4.out⟩
  · go_wp2_with fail
    refine (name_v x _ _ _ N 178 _ sMain [115] [73] _ _ _ rfl rfl rfl rfl HW2.out HZ2.out (by omega)).mono ?_
    rintro e w3 ⟨rfl, h, ho⟩
    have HW3 := Lib.hid h
    have HO3 : Hid (Fr x w0 w3) := Lib.hid (HO2.out.trans ho)
    have HZ3 : Hid ((((s.paid.nx x.xs)).name 178 sMain [115] [73]).sz (N + 1)) := Lib.hid ((Ws.sz_name _ _ _ _ HZ2.out).more (by omega))
    clear h ho
    have HE : Hid (FS = ((s.paid.nx x.xs)).name 178 sMain [115] [73]) := Lib.hid (by rw [← HFS.out]; unfold stepI; simp [HVv.out, leafI])
    go_wp2
    go_end0
    rw [HE.out]
    exact ⟨rfl, HW3.out, HO3.out⟩
  · have t2 := HW2.out.t
    go_wp2_with fail
    refine (next_s x _ _ _ 3 _ HW2.out (by omega) (by omega) rfl).mono ?_
    rintro e w3 ⟨rfl, h, ho⟩
    have HW3 := Lib.hid h
    have HO3 : Hid (Fr x w0 w3) := Lib.hid (HO2.out.trans ho)
    have HZ3 : Hid ((((s.paid.nx x.xs)).nx x.xs).sz N) := Lib.hid ((Ws.sz_nx x.xs HZ2.out).more (by omega))
    clear h ho
    obtain ⟨a, ha⟩ : ∃ a, nxV x.xs 3 ((s.paid.nx x.xs)).at_ = a := ⟨_, rfl⟩
    have ba : a < 3 := by rw [← ha]; exact nxV_lt (by omega)
    rw [ha]
    have HVa := Lib.hid ha
    clear ha t2
    go_wp2_with fail
    refine (op_v x _ _ _ N 21 _ _ (by first | rfl | decide | assumption) HW3.out HZ3.out (by omega)).mono ?_
    rintro e w4 ⟨rfl, h, ho⟩
    have HW4 := Lib.hid h
    have HO4 : Hid (Fr x w0 w4) := Lib.hid (HO3.out.trans ho)
    have HZ4 : Hid (((((s.paid.nx x.xs)).nx x.xs).op 21 a).sz (N + 1)) := Lib.hid ((Ws.sz_op _ _ HZ3.out).more (by omega))
    clear h ho
    have HE : Hid (FS = (((s.paid.nx x.xs)).nx x.xs).op 21 a) := Lib.hid (by rw [← HFS.out]; unfold stepI; simp [HVv.out, leafI, HVa.out])
    go_wp2
    go_end0
    rw [HE.out]
    exact ⟨rfl, HW4.out, HO4.out⟩
  · have t2 := HW2.out.t
    go_wp2_with fail
    refine (next_s x _ _ _ 3 _ HW2.out (by omega) (by omega) rfl).mono ?_
    rintro e w3 ⟨rfl, h, ho⟩
    have HW3 := Lib.hid h
    have HO3 : Hid (Fr x w0 w3) := Lib.hid (HO2.out.trans ho)
    have HZ3 : Hid ((((s.paid.nx x.xs)).nx x.xs).sz N) := Lib.hid ((Ws.sz_nx x.xs HZ2.out).more (by omega))
    clear h ho
    obtain ⟨a, ha⟩ : ∃ a, nxV x.xs 3 ((s.paid.nx x.xs)).at_ = a := ⟨_, rfl⟩
    have ba : a < 3 := by rw [← ha]; exact nxV_lt (by omega)
    rw [ha]
    have HVa := Lib.hid ha
    clear ha t2
    go_wp2_with fail
    refine (op_v x _ _ _ N 21 _ _ (by first | rfl | decide | assumption) HW3.out HZ3.out (by omega)).mono ?_
    rintro e w4 ⟨rfl, h, ho⟩
    have HW4 := Lib.hid h
    have HO4 : Hid (Fr x w0 w4) := Lib.hid (HO3.out.trans ho)
    have HZ4 : Hid (((((s.paid.nx x.xs)).nx x.xs).op 21 a).sz (N + 1)) := Lib.hid ((Ws.sz_op _ _ HZ3.out).more (by omega))
    clear h ho
    have HE : Hid (FS = (((s.paid.nx x.xs)).nx x.xs).op 21 a) := Lib.hid (by rw [← HFS.out]; unfold stepI; simp [HVv.out, leafI, HVa.out])
    go_wp2
    go_end0
    rw [HE.out]
    exact ⟨rfl, HW4.out, HO4.out⟩
  · have t2 := HW2.out.t
    go_wp2_with fail
    refine (next_s x _ _ _ 256 _ HW2.out (by omega) (by omega) rfl).mono ?_
    rintro e w3 ⟨rfl, h, ho⟩
    have HW3 := Lib.hid h
    have HO3 : Hid (Fr x w0 w3) := Lib.hid (HO2.out.trans ho)
    have HZ3 : Hid ((((s.paid.nx x.xs)).nx x.xs).sz N) := Lib.hid ((Ws.sz_nx x.xs HZ2.out).more (by omega))
    clear h ho
    obtain ⟨a, ha⟩ : ∃ a, nxV x.xs 256 ((s.paid.nx x.xs)).at_ = a := ⟨_, rfl⟩
    have ba : a < 256 := by rw [← ha]; exact nxV_lt (by omega)
    rw [ha]
    have HVa := Lib.hid ha
    clear ha t2
    go_wp2_with fail
    refine (number_s x _ _ _ N ((a : Int) - 100) (by omega) HW3.out HZ3.out (by omega)).mono ?_
    rintro e w4 ⟨rfl, h, ho⟩
    have HW4 := Lib.hid h
    have HO4 : Hid (Fr x w0 w4) := Lib.hid (HO3.out.trans ho)
    have HZ4 : Hid (((((s.paid.nx x.xs)).nx x.xs).push (numI ((a : Int) - 100))).sz (N + 1)) := Lib.hid ((Ws.sz_push _ HZ3.out).more (by omega))
    clear h ho
    have HE : Hid (FS = (((s.paid.nx x.xs)).nx x.xs).push (numI ((a : Int) - 100))) := Lib.hid (by rw [← HFS.out]; unfold stepI; simp [HVv.out, leafI, HVa.out])
    go_wp2
    go_end0
    rw [HE.out]
    exact ⟨rfl, HW4.out, HO4.out⟩
  · go_wp2_with fail
    refine (name_v x _ _ _ N 178 _ sMain [115] [73] _ _ _ rfl rfl rfl rfl HW2.out HZ2.out (by omega)).mono ?_
    rintro e w3 ⟨rfl, h, ho⟩
    have HW3 := Lib.hid h
    have HO3 : Hid (Fr x w0 w3) := Lib.hid (HO2.out.trans ho)
    have HZ3 : Hid ((((s.paid.nx x.xs)).name 178 sMain [115] [73]).sz (N + 1)) := Lib.hid ((Ws.sz_name _ _ _ _ HZ2.out).more (by omega))
    clear h ho
    have HE : Hid (FS = ((s.paid.nx x.xs)).name 178 sMain [115] [73]) := Lib.hid (by rw [← HFS.out]; unfold stepI; simp [HVv.out, leafI])
    go_wp2
    go_end0
    rw [HE.out]
    exact ⟨rfl, HW3.out, HO3.out⟩

set_option maxHeartbeats 4000000 in
theorem int_deep (x : Wx) (w : World) (D : Int) (s : Ws) (N : Nat) (I L : Ws → Ws) (v0 : Int) (hv0 : 0 < v0) (hv1 : v0 ≤ 2) (c B : Nat) (hc : c ≤ 18) (hI : CtW x 125 (v0 - 1) I B) (hL : CtW x 174 (v0 - 1) L B) (hIa : AddsW I c) (hLa : AddsW L c) (h : WrS x w D s) (hz : s.sz N) (hN : N + 100 ≤ B) (hB : B ≤ 16000000) :
    Calls Tryz.prog 125 #[.pointer (some ⟨x.g, 0, none⟩), .int .i64 v0] w fun e w' => e = .returned (.tuple #[]) ∧ WrS x w' D (stepI x.xs true I L s) ∧ Fr x w w' := by
  obtain ⟨w0, rfl⟩ : ∃ w0, w0 = w := ⟨_, rfl⟩
  have HW0 := Lib.hid h
  have HO0 : Hid (Fr x w0 w0) := Lib.hid (Fr.refl x w0)
  have HZ0 := Lib.hid hz
  obtain ⟨FS, hFS⟩ : ∃ FS, stepI x.xs true I L s = FS := ⟨_, rfl⟩
  have HFS := Lib.hid hFS
  rw [hFS]
  clear h hz hFS
  have HI := Lib.hid hI
  have HL := Lib.hid hL
  have HIa := Lib.hid hIa
  have HLa := Lib.hid hLa
  clear hI hL hIa hLa
  obtain ⟨Cp, ncp, ccp, Tp, ntp, ctp, Mp, nmp, cmp, lmp, hD⟩ := HW0.out
  have c5 : w0.cell? ⟨x.g, 5, none⟩ = some (.int .i64 s.bud) := hD.blk.cell 5
  have c0 : w0.cell? ⟨x.g, 0, none⟩ = some (.pointer (some ⟨x.tp, 0, none⟩)) := hD.blk.cell 0
  have f5 := hD.blk.frozen 5
  have hgl := hD.blk.lt
  obtain ⟨hP, hF⟩ := hD.paid_
  obtain ⟨w1, hw1⟩ : ∃ W, w0.setCell ⟨x.g, 5, none⟩ (.int .i64 (wrap64 (s.bud - 1))) = W := ⟨_, rfl⟩
  rw [hw1] at hP hF
  have HW1 : Hid (WrS x w1 D s.paid) := Lib.hid ⟨Cp, ncp, ccp, Tp, ntp, ctp, Mp, nmp, cmp, lmp, hP⟩
  have HO1 := Lib.hid hF
  have HZ1 : Hid (s.paid.sz N) := Lib.hid (Ws.sz_paid HZ0.out)
  have HWW := Lib.hid hw1
  clear hD hP hF hw1
  go_enter Tryz.func125, Tryz.ntmps125
  go_wp2_with fail
  rw [HWW.out]
  clear c5 c0 f5
  refine (next_s x _ _ _ 16 _ HW1.out (by omega) (by omega) rfl).mono ?_
  rintro e w2 ⟨rfl, h, ho⟩
  have HW2 := Lib.hid h
  have HO2 : Hid (Fr x w0 w2) := Lib.hid (HO1.out.trans ho)
  have HZ2 : Hid ((s.paid.nx x.xs).sz N) := Lib.hid (Ws.sz_nx x.xs HZ1.out)
  clear h ho
  obtain ⟨v, hv⟩ : ∃ v, nxV x.xs 16 s.paid.at_ = v := ⟨_, rfl⟩
  have bv : v < 16 := by rw [← hv]; exact nxV_lt (by omega)
  rw [hv]
  have HVv : Hid (nxV x.xs 16 s.at_ = v) := Lib.hid hv
  clear hv
  have c5 : w2.cell? ⟨x.g, 5, none⟩ = some (.int .i64 s.paid.bud) := by
    obtain ⟨C, nc, cc, T, nt, ct, M, nm, cm, lm, hD⟩ := HW2.out
    exact hD.blk.cell 5
  by_cases hbd : s.paid.bud ≤ 0
  · have HBD := Lib.hid hbd
    have hcs : v = 0 ∨ v = 1 ∨ v = 2 ∨ v = 3 ∨ v = 4 ∨ v = 5 ∨ v = 6 ∨ v = 7 ∨ v = 8 ∨ v = 9 ∨ v = 10 ∨ v = 11 ∨ v = 12 ∨ v = 13 ∨ v = 14 ∨ v = 15 := by omega
    clear bv
    rcases hcs with rfl | rfl | rfl | rfl | rfl | rfl | rfl | rfl | rfl | rfl | rfl | rfl | rfl | rfl | rfl | rfl
    · have t2 := HW2.out.t
      go_wp2_with fail
      refine (next_s x _ _ _ 3 _ HW2.out (by omega) (by omega) rfl).mono ?_
      rintro e w3 ⟨rfl, h, ho⟩
      have HW3 := Lib.hid h
      have HO3 : Hid (Fr x w0 w3) := Lib.hid (HO2.out.trans ho)
      have HZ3 : Hid ((((s.paid.nx x.xs)).nx x.xs).sz N) := Lib.hid ((Ws.sz_nx x.xs HZ2.out).more (by omega))
      clear h ho
      obtain ⟨a, ha⟩ : ∃ a, nxV x.xs 3 ((s.paid.nx x.xs)).at_ = a := ⟨_, rfl⟩
      have ba : a < 3 := by rw [← ha]; exact nxV_lt (by omega)
      rw [ha]
      have HVa := Lib.hid ha
      clear ha t2
      go_wp2_with fail
      refine (op_v x _ _ _ N 21 _ _ (by first | rfl | decide | assumption) HW3.out HZ3.out (by omega)).mono ?_
      rintro e w4 ⟨rfl, h, ho⟩
      have HW4 := Lib.hid h
      have HO4 : Hid (Fr x w0 w4) := Lib.hid (HO3.out.trans ho)
      have HZ4 : Hid (((((s.paid.nx x.xs)).nx x.xs).op 21 a).sz (N + 1)) := Lib.hid ((Ws.sz_op _ _ HZ3.out).more (by omega))
      clear h ho
      have HE : Hid (FS = (((s.paid.nx x.xs)).nx x.xs).op 21 a) := Lib.hid (by rw [← HFS.out]; unfold stepI; simp [HVv.out, leafI, HBD.out, HVa.out])
      go_wp2
      go_end0
      rw [HE.out]
      exact ⟨rfl, HW4.out, HO4.out⟩
    · have t2 := HW2.out.t
      go_wp2_with fail
      refine (next_s x _ _ _ 3 _ HW2.out (by omega) (by omega) rfl).mono ?_
      rintro e w3 ⟨rfl, h, ho⟩
      have HW3 := Lib.hid h
      have HO3 : Hid (Fr x w0 w3) := Lib.hid (HO2.out.trans ho)
      have HZ3 : Hid ((((s.paid.nx x.xs)).nx x.xs).sz N) := Lib.hid ((Ws.sz_nx x.xs HZ2.out).more (by omega))
      clear h ho
      obtain ⟨a, ha⟩ : ∃ a, nxV x.xs 3 ((s.paid.nx x.xs)).at_ = a := ⟨_, rfl⟩
      have ba : a < 3 := by rw [← ha]; exact nxV_lt (by omega)
      rw [ha]
      have HVa := Lib.hid ha
      clear ha t2
      go_wp2_with fail
      refine (op_v x _ _ _ N 21 _ _ (by first | rfl | decide | assumption) HW3.out HZ3.out (by omega)).mono ?_
      rintro e w4 ⟨rfl, h, ho⟩
      have HW4 := Lib.hid h
      have HO4 : Hid (Fr x w0 w4) := Lib.hid (HO3.out.trans ho)
      have HZ4 : Hid (((((s.paid.nx x.xs)).nx x.xs).op 21 a).sz (N + 1)) := Lib.hid ((Ws.sz_op _ _ HZ3.out).more (by omega))
      clear h ho
      have HE : Hid (FS = (((s.paid.nx x.xs)).nx x.xs).op 21 a) := Lib.hid (by rw [← HFS.out]; unfold stepI; simp [HVv.out, leafI, HBD.out, HVa.out])
      go_wp2
      go_end0
      rw [HE.out]
      exact ⟨rfl, HW4.out, HO4.out⟩
    · have t2 := HW2.out.t
      go_wp2_with fail
      refine (next_s x _ _ _ 256 _ HW2.out (by omega) (by omega) rfl).mono ?_
      rintro e w3 ⟨rfl, h, ho⟩
      have HW3 := Lib.hid h
      have HO3 : Hid (Fr x w0 w3) := Lib.hid (HO2.out.trans ho)
      have HZ3 : Hid ((((s.paid.nx x.xs)).nx x.xs).sz N) := Lib.hid ((Ws.sz_nx x.xs HZ2.out).more (by omega))
      clear h ho
      obtain ⟨a, ha⟩ : ∃ a, nxV x.xs 256 ((s.paid.nx x.xs)).at_ = a := ⟨_, rfl⟩
      have ba : a < 256 := by rw [← ha]; exact nxV_lt (by omega)
      rw [ha]
      have HVa := Lib.hid ha
      clear ha t2
      go_wp2_with fail
      refine (number_s x _ _ _ N ((a : Int) - 100) (by omega) HW3.out HZ3.out (by omega)).mono ?_
      rintro e w4 ⟨rfl, h, ho⟩
      have HW4 := Lib.hid h
      have HO4 : Hid (Fr x w0 w4) := Lib.hid (HO3.out.trans ho)
      have HZ4 : Hid (((((s.paid.nx x.xs)).nx x.xs).push (numI ((a : Int) - 100))).sz (N + 1)) := Lib.hid ((Ws.sz_push _ HZ3.out).more (by omega))
      clear h ho
      have HE : Hid (FS = (((s.paid.nx x.xs)).nx x.xs).push (numI ((a : Int) - 100))) := Lib.hid (by rw [← HFS.out]; unfold stepI; simp [HVv.out, leafI, HBD.out, HVa.out])
      go_wp2
      go_end0
      rw [HE.out]
      exact ⟨rfl, HW4.out, HO4.out⟩
    · go_wp2_with fail
      refine (name_v x _ _ _ N 178 _ sMain [115] [73] _ _ _ rfl rfl rfl rfl HW2.out HZ2.out (by omega)).mono ?_
      rintro e w3 ⟨rfl, h, ho⟩
      have HW3 := Lib.hid h
      have HO3 : Hid (Fr x w0 w3) := Lib.hid (HO2.out.trans ho)
      have HZ3 : Hid ((((s.paid.nx x.xs)).name 178 sMain [115] [73]).sz (N + 1)) := Lib.hid ((Ws.sz_name _ _ _ _ HZ2.out).more (by omega))
      clear h ho
      have HE : Hid (FS = ((s.paid.nx x.xs)).name 178 sMain [115] [73]) := Lib.hid (by rw [← HFS.out]; unfold stepI; simp [HVv.out, leafI, HBD.out])
      go_wp2
      go_end0
      rw [HE.out]
      exact ⟨rfl, HW3.out, HO3.out⟩
    · have t2 := HW2.out.t
      go_wp2_with fail
      refine (next_s x _ _ _ 3 _ HW2.out (by omega) (by omega) rfl).mono ?_
      rintro e w3 ⟨rfl, h, ho⟩
      have HW3 := Lib.hid h
      have HO3 : Hid (Fr x w0 w3) := Lib.hid (HO2.out.trans ho)
      have HZ3 : Hid ((((s.paid.nx x.xs)).nx x.xs).sz N) := Lib.hid ((Ws.sz_nx x.xs HZ2.out).more (by omega))
      clear h ho
      obtain ⟨a, ha⟩ : ∃ a, nxV x.xs 3 ((s.paid.nx x.xs)).at_ = a := ⟨_, rfl⟩
      have ba : a < 3 := by rw [← ha]; exact nxV_lt (by omega)
      rw [ha]
      have HVa := Lib.hid ha
      clear ha t2
      go_wp2_with fail
      refine (op_v x _ _ _ N 21 _ _ (by first | rfl | decide | assumption) HW3.out HZ3.out (by omega)).mono ?_
      rintro e w4 ⟨rfl, h, ho⟩
      have HW4 := Lib.hid h
      have HO4 : Hid (Fr x w0 w4) := Lib.hid (HO3.out.trans ho)
      have HZ4 : Hid (((((s.paid.nx x.xs)).nx x.xs).op 21 a).sz (N + 1)) := Lib.hid ((Ws.sz_op _ _ HZ3.out).more (by omega))
      clear h ho
      have HE : Hid (FS = (((s.paid.nx x.xs)).nx x.xs).op 21 a) := Lib.hid (by rw [← HFS.out]; unfold stepI; simp [HVv.out, leafI, HBD.out, HVa.out])
      go_wp2
      go_end0
      rw [HE.out]
      exact ⟨rfl, HW4.out, HO4.out⟩
    · have t2 := HW2.out.t
      go_wp2_with fail
      refine (next_s x _ _ _ 3 _ HW2.out (by omega) (by omega) rfl).mono ?_
      rintro e w3 ⟨rfl, h, ho⟩
      have HW3 := Lib.hid h
      have HO3 : Hid (Fr x w0 w3) := Lib.hid (HO2.out.trans ho)
      have HZ3 : Hid ((((s.paid.nx x.xs)).nx x.xs).sz N) := Lib.hid ((Ws.sz_nx x.xs HZ2.out).more (by omega))
      clear h ho
      obtain ⟨a, ha⟩ : ∃ a, nxV x.xs 3 ((s.paid.nx x.xs)).at_ = a := ⟨_, rfl⟩
      have ba : a < 3 := by rw [← ha]; exact nxV_lt (by omega)
      rw [ha]
      have HVa := Lib.hid ha
      clear ha t2
      go_wp2_with fail
      refine (op_v x _ _ _ N 21 _ _ (by first | rfl | decide | assumption) HW3.out HZ3.out (by omega)).mono ?_
      rintro e w4 ⟨rfl, h, ho⟩
      have HW4 := Lib.hid h
      have HO4 : Hid (Fr x w0 w4) := Lib.hid (HO3.out.trans ho)
      have HZ4 : Hid (((((s.paid.nx x.xs)).nx x.xs).op 21 a).sz (N + 1)) := Lib.hid ((Ws.sz_op _ _ HZ3.out).more (by omega))
      clear h ho
      have HE : Hid (FS = (((s.paid.nx x.xs)).nx x.xs).op 21 a) := Lib.hid (by rw [← HFS.out]; unfold stepI; simp [HVv.out, leafI, HBD.out, HVa.out])
      go_wp2
      go_end0
      rw [HE.out]
      exact ⟨rfl, HW4.out, HO4.out⟩
    · have t2 := HW2.out.t
      go_wp2_with fail
      refine (next_s x _ _ _ 256 _ HW2.out (by omega) (by omega) rfl).mono ?_
      rintro e w3 ⟨rfl, h, ho⟩
      have HW3 := Lib.hid h
      have HO3 : Hid (Fr x w0 w3) := Lib.hid (HO2.out.trans ho)
      have HZ3 : Hid ((((s.paid.nx x.xs)).nx x.xs).sz N) := Lib.hid ((Ws.sz_nx x.xs HZ2.out).more (by omega))
      clear h ho
      obtain ⟨a, ha⟩ : ∃ a, nxV x.xs 256 ((s.paid.nx x.xs)).at_ = a := ⟨_, rfl⟩
      have ba : a < 256 := by rw [← ha]; exact nxV_lt (by omega)
      rw [ha]
      have HVa := Lib.hid ha
      clear ha t2
      go_wp2_with fail
      refine (number_s x _ _ _ N ((a : Int) - 100) (by omega) HW3.out HZ3.out (by omega)).mono ?_
      rintro e w4 ⟨rfl, h, ho⟩
      have HW4 := Lib.hid h
      have HO4 : Hid (Fr x w0 w4) := Lib.hid (HO3.out.trans ho)
      have HZ4 : Hid (((((s.paid.nx x.xs)).nx x.xs).push (numI ((a : Int) - 100))).sz (N + 1)) := Lib.hid ((Ws.sz_push _ HZ3.out).more (by omega))
      clear h ho
      have HE : Hid (FS = (((s.paid.nx x.xs)).nx x.xs).push (numI ((a : Int) - 100))) := Lib.hid (by rw [← HFS.out]; unfold stepI; simp [HVv.out, leafI, HBD.out, HVa.out])
      go_wp2
      go_end0
      rw [HE.out]
      exact ⟨rfl, HW4.out, HO4.out⟩
    · go_wp2_with fail
      refine (name_v x _ _ _ N 178 _ sMain [115] [73] _ _ _ rfl rfl rfl rfl HW2.out HZ2.out (by omega)).mono ?_
      rintro e w3 ⟨rfl, h, ho⟩
      have HW3 := Lib.hid h
      have HO3 : Hid (Fr x w0 w3) := Lib.hid (HO2.out.trans ho)
      have HZ3 : Hid ((((s.paid.nx x.xs)).name 178 sMain [115] [73]).sz (N + 1)) := Lib.hid ((Ws.sz_name _ _ _ _ HZ2.out).more (by omega))
      clear h ho
      have HE : Hid (FS = ((s.paid.nx x.xs)).name 178 sMain [115] [73]) := Lib.hid (by rw [← HFS.out]; unfold stepI; simp [HVv.out, leafI, HBD.out])
      go_wp2
      go_end0
      rw [HE.out]
      exact ⟨rfl, HW3.out, HO3.out⟩
    · have t2 := HW2.out.t
      go_wp2_with fail
      refine (next_s x _ _ _ 3 _ HW2.out (by omega) (by omega) rfl).mono ?_
      rintro e w3 ⟨rfl, h, ho⟩
      have HW3 := Lib.hid h
      have HO3 : Hid (Fr x w0 w3) := Lib.hid (HO2.out.trans ho)
      have HZ3 : Hid ((((s.paid.nx x.xs)).nx x.xs).sz N) := Lib.hid ((Ws.sz_nx x.xs HZ2.out).more (by omega))
      clear h ho
      obtain ⟨a, ha⟩ : ∃ a, nxV x.xs 3 ((s.paid.nx x.xs)).at_ = a := ⟨_, rfl⟩
      have ba : a < 3 := by rw [← ha]; exact nxV_lt (by omega)
      rw [ha]
      have HVa := Lib.hid ha
      clear ha t2
      go_wp2_with fail
      refine (op_v x _ _ _ N 21 _ _ (by first | rfl | decide | assumption) HW3.out HZ3.out (by omega)).mono ?_
      rintro e w4 ⟨rfl, h, ho⟩
      have HW4 := Lib.hid h
      have HO4 : Hid (Fr x w0 w4) := Lib.hid (HO3.out.trans ho)
      have HZ4 : Hid (((((s.paid.nx x.xs)).nx x.xs).op 21 a).sz (N + 1)) := Lib.hid ((Ws.sz_op _ _ HZ3.out).more (by omega))
      clear h ho
      have HE : Hid (FS = (((s.paid.nx x.xs)).nx x.xs).op 21 a) := Lib.hid (by rw [← HFS.out]; unfold stepI; simp [HVv.out, leafI, HBD.out, HVa.out])
      go_wp2
      go_end0
      rw [HE.out]
      exact ⟨rfl, HW4.out, HO4.out⟩
    · have t2 := HW2.out.t
      go_wp2_with fail
      refine (next_s x _ _ _ 3 _ HW2.out (by omega) (by omega) rfl).mono ?_
      rintro e w3 ⟨rfl, h, ho⟩
      have HW3 := Lib.hid h
      have HO3 : Hid (Fr x w0 w3) := Lib.hid (HO2.out.trans ho)
      have HZ3 : Hid ((((s.paid.nx x.xs)).nx x.xs).sz N) := Lib.hid ((Ws.sz_nx x.xs HZ2.out).more (by omega))
      clear h ho
      obtain ⟨a, ha⟩ : ∃ a, nxV x.xs 3 ((s.paid.nx x.xs)).at_ = a := ⟨_, rfl⟩
      have ba : a < 3 := by rw [← ha]; exact nxV_lt (by omega)
      rw [ha]
      have HVa := Lib.hid ha
      clear ha t2
      go_wp2_with fail
      refine (op_v x _ _ _ N 21 _ _ (by first | rfl | decide | assumption) HW3.out HZ3.out (by omega)).mono ?_
      rintro e w4 ⟨rfl, h, ho⟩
      have HW4 := Lib.hid h
      have HO4 : Hid (Fr x w0 w4) := Lib.hid (HO3.out.trans ho)
      have HZ4 : Hid (((((s.paid.nx x.xs)).nx x.xs).op 21 a).sz (N + 1)) := Lib.hid ((Ws.sz_op _ _ HZ3.out).more (by omega))
      clear h ho
      have HE : Hid (FS = (((s.paid.nx x.xs)).nx x.xs).op 21 a) := Lib.hid (by rw [← HFS.out]; unfold stepI; simp [HVv.out, leafI, HBD.out, HVa.out])
      go_wp2
      go_end0
      rw [HE.out]
      exact ⟨rfl, HW4.out, HO4.out⟩
    · have t2 := HW2.out.t
      go_wp2_with fail
      refine (next_s x _ _ _ 256 _ HW2.out (by omega) (by omega) rfl).mono ?_
      rintro e w3 ⟨rfl, h, ho⟩
      have HW3 := Lib.hid h
      have HO3 : Hid (Fr x w0 w3) := Lib.hid (HO2.out.trans ho)
      have HZ3 : Hid ((((s.paid.nx x.xs)).nx x.xs).sz N) := Lib.hid ((Ws.sz_nx x.xs HZ2.out).more (by omega))
      clear h ho
      obtain ⟨a, ha⟩ : ∃ a, nxV x.xs 256 ((s.paid.nx x.xs)).at_ = a := ⟨_, rfl⟩
      have ba : a < 256 := by rw [← ha]; exact nxV_lt (by omega)
      rw [ha]
      have HVa := Lib.hid ha
      clear ha t2
      go_wp2_with fail
      refine (number_s x _ _ _ N ((a : Int) - 100) (by omega) HW3.out HZ3.out (by omega)).mono ?_
      rintro e w4 ⟨rfl, h, ho⟩
      have HW4 := Lib.hid h
      have HO4 : Hid (Fr x w0 w4) := Lib.hid (HO3.out.trans ho)
      have HZ4 : Hid (((((s.paid.nx x.xs)).nx x.xs).push (numI ((a : Int) - 100))).sz (N + 1)) := Lib.hid ((Ws.sz_push _ HZ3.out).more (by omega))
      clear h ho
      have HE : Hid (FS = (((s.paid.nx x.xs)).nx x.xs).push (numI ((a : Int) - 100))) := Lib.hid (by rw [← HFS.out]; unfold stepI; simp [HVv.out, leafI, HBD.out, HVa.out])
      go_wp2
      go_end0
      rw [HE.out]
      exact ⟨rfl, HW4.out, HO4.out⟩
    · go_wp2_with fail
      refine (name_v x _ _ _ N 178 _ sMain [115] [73] _ _ _ rfl rfl rfl rfl HW2.out HZ2.out (by omega)).mono ?_
      rintro e w3 ⟨rfl, h, ho⟩
      have HW3 := Lib.hid h
      have HO3 : Hid (Fr x w0 w3) := Lib.hid (HO2.out.trans ho)
      have HZ3 : Hid ((((s.paid.nx x.xs)).name 178 sMain [115] [73]).sz (N + 1)) := Lib.hid ((Ws.sz_name _ _ _ _ HZ2.out).more (by omega))
      clear h ho
      have HE : Hid (FS = ((s.paid.nx x.xs)).name 178 sMain [115] [73]) := Lib.hid (by rw [← HFS.out]; unfold stepI; simp [HVv.out, leafI, HBD.out])
      go_wp2
      go_end0
      rw [HE.out]
      exact ⟨rfl, HW3.out, HO3.out⟩
    · have t2 := HW2.out.t
      go_wp2_with fail
      refine (next_s x _ _ _ 3 _ HW2.out (by omega) (by omega) rfl).mono ?_
      rintro e w3 ⟨rfl, h, ho⟩
      have HW3 := Lib.hid h
      have HO3 : Hid (Fr x w0 w3) := Lib.hid (HO2.out.trans ho)
      have HZ3 : Hid ((((s.paid.nx x.xs)).nx x.xs).sz N) := Lib.hid ((Ws.sz_nx x.xs HZ2.out).more (by omega))
      clear h ho
      obtain ⟨a, ha⟩ : ∃ a, nxV x.xs 3 ((s.paid.nx x.xs)).at_ = a := ⟨_, rfl⟩
      have ba : a < 3 := by rw [← ha]; exact nxV_lt (by omega)
      rw [ha]
      have HVa := Lib.hid ha
      clear ha t2
      go_wp2_with fail
      refine (op_v x _ _ _ N 21 _ _ (by first | rfl | decide | assumption) HW3.out HZ3.out (by omega)).mono ?_
      rintro e w4 ⟨rfl, h, ho⟩
      have HW4 := Lib.hid h
      have HO4 : Hid (Fr x w0 w4) := Lib.hid (HO3.out.trans ho)
      have HZ4 : Hid (((((s.paid.nx x.xs)).nx x.xs).op 21 a).sz (N + 1)) := Lib.hid ((Ws.sz_op _ _ HZ3.out).more (by omega))
      clear h ho
      have HE : Hid (FS = (((s.paid.nx x.xs)).nx x.xs).op 21 a) := Lib.hid (by rw [← HFS.out]; unfold stepI; simp [HVv.out, leafI, HBD.out, HVa.out])
      go_wp2
      go_end0
      rw [HE.out]
      exact ⟨rfl, HW4.out, HO4.out⟩
    · have t2 := HW2.out.t
      go_wp2_with fail
      refine (next_s x _ _ _ 3 _ HW2.out (by omega) (by omega) rfl).mono ?_
      rintro e w3 ⟨rfl, h, ho⟩
      have HW3 := Lib.hid h
      have HO3 : Hid (Fr x w0 w3) := Lib.hid (HO2.out.trans ho)
      have HZ3 : Hid ((((s.paid.nx x.xs)).nx x.xs).sz N) := Lib.hid ((Ws.sz_nx x.xs HZ2.out).more (by omega))
      clear h ho
      obtain ⟨a, ha⟩ : ∃ a, nxV x.xs 3 ((s.paid.nx x.xs)).at_ = a := ⟨_, rfl⟩
      have ba : a < 3 := by rw [← ha]; exact nxV_lt (by omega)
      rw [ha]
      have HVa := Lib.hid ha
      clear ha t2
      go_wp2_with fail
      refine (op_v x _ _ _ N 21 _ _ (by first | rfl | decide | assumption) HW3.out HZ3.out (by omega)).mono ?_
      rintro e w4 ⟨rfl, h, ho⟩
      have HW4 := Lib.hid h
      have HO4 : Hid (Fr x w0 w4) := Lib.hid (HO3.out.trans ho)
      have HZ4 : Hid (((((s.paid.nx x.xs)).nx x.xs).op 21 a).sz (N + 1)) := Lib.hid ((Ws.sz_op _ _ HZ3.out).more (by omega))
      clear h ho
      have HE : Hid (FS = (((s.paid.nx x.xs)).nx x.xs).op 21 a) := Lib.hid (by rw [← HFS.out]; unfold stepI; simp [HVv.out, leafI, HBD.out, HVa.out])
      go_wp2
      go_end0
      rw [HE.out]
      exact ⟨rfl, HW4.out, HO4.out⟩
    · have t2 := HW2.out.t
      go_wp2_with fail
      refine (next_s x _ _ _ 256 _ HW2.out (by omega) (by omega) rfl).mono ?_
      rintro e w3 ⟨rfl, h, ho⟩
      have HW3 := Lib.hid h
      have HO3 : Hid (Fr x w0 w3) := Lib.hid (HO2.out.trans ho)
      have HZ3 : Hid ((((s.paid.nx x.xs)).nx x.xs).sz N) := Lib.hid ((Ws.sz_nx x.xs HZ2.out).more (by omega))
      clear h ho
      obtain ⟨a, ha⟩ : ∃ a, nxV x.xs 256 ((s.paid.nx x.xs)).at_ = a := ⟨_, rfl⟩
      have ba : a < 256 := by rw [← ha]; exact nxV_lt (by omega)
      rw [ha]
      have HVa := Lib.hid ha
      clear ha t2
      go_wp2_with fail
      refine (number_s x _ _ _ N ((a : Int) - 100) (by omega) HW3.out HZ3.out (by omega)).mono ?_
      rintro e w4 ⟨rfl, h, ho⟩
      have HW4 := Lib.hid h
      have HO4 : Hid (Fr x w0 w4) := Lib.hid (HO3.out.trans ho)
      have HZ4 : Hid (((((s.paid.nx x.xs)).nx x.xs).push (numI ((a : Int) - 100))).sz (N + 1)) := Lib.hid ((Ws.sz_push _ HZ3.out).more (by omega))
      clear h ho
      have HE : Hid (FS = (((s.paid.nx x.xs)).nx x.xs).push (numI ((a : Int) - 100))) := Lib.hid (by rw [← HFS.out]; unfold stepI; simp [HVv.out, leafI, HBD.out, HVa.out])
      go_wp2
      go_end0
      rw [HE.out]
      exact ⟨rfl, HW4.out, HO4.out⟩
    · go_wp2_with fail
      refine (name_v x _ _ _ N 178 _ sMain [115] [73] _ _ _ rfl rfl rfl rfl HW2.out HZ2.out (by omega)).mono ?_
      rintro e w3 ⟨rfl, h, ho⟩
      have HW3 := Lib.hid h
      have HO3 : Hid (Fr x w0 w3) := Lib.hid (HO2.out.trans ho)
      have HZ3 : Hid ((((s.paid.nx x.xs)).name 178 sMain [115] [73]).sz (N + 1)) := Lib.hid ((Ws.sz_name _ _ _ _ HZ2.out).more (by omega))
      clear h ho
      have HE : Hid (FS = ((s.paid.nx x.xs)).name 178 sMain [115] [73]) := Lib.hid (by rw [← HFS.out]; unfold stepI; simp [HVv.out, leafI, HBD.out])
      go_wp2
      go_end0
      rw [HE.out]
      exact ⟨rfl, HW3.out, HO3.out⟩
  · have HBD : Hid ((s.paid.bud ≤ 0) = False) := Lib.hid (eq_false hbd)
    have hcs : v = 0 ∨ v = 1 ∨ v = 2 ∨ v = 3 ∨ v = 4 ∨ v = 5 ∨ v = 6 ∨ v = 7 ∨ v = 8 ∨ v = 9 ∨ v = 10 ∨ v = 11 ∨ v = 12 ∨ v = 13 ∨ v = 14 ∨ v = 15 := by omega
    clear bv
    rcases hcs with rfl | rfl | rfl | rfl | rfl | rfl | rfl | rfl | rfl | rfl | rfl | rfl | rfl | rfl | rfl | rfl
    · have t2 := HW2.out.t
      go_wp2_with fail
      refine (next_s x _ _ _ 3 _ HW2.out (by omega) (by omega) rfl).mono ?_
      rintro e w3 ⟨rfl, h, ho⟩
      have HW3 := Lib.hid h
      have HO3 : Hid (Fr x w0 w3) := Lib.hid (HO2.out.trans ho)
      have HZ3 : Hid ((((s.paid.nx x.xs)).nx x.xs).sz N) := Lib.hid ((Ws.sz_nx x.xs HZ2.out).more (by omega))
      clear h ho
      obtain ⟨a, ha⟩ : ∃ a, nxV x.xs 3 ((s.paid.nx x.xs)).at_ = a := ⟨_, rfl⟩
      have ba : a < 3 := by rw [← ha]; exact nxV_lt (by omega)
      rw [ha]
      have HVa := Lib.hid ha
      clear ha t2
      go_wp2_with fail
      refine (op_v x _ _ _ N 21 _ _ (by first | rfl | decide | assumption) HW3.out HZ3.out (by omega)).mono ?_
      rintro e w4 ⟨rfl, h, ho⟩
      have HW4 := Lib.hid h
      have HO4 : Hid (Fr x w0 w4) := Lib.hid (HO3.out.trans ho)
      have HZ4 : Hid (((((s.paid.nx x.xs)).nx x.xs).op 21 a).sz (N + 1)) := Lib.hid ((Ws.sz_op _ _ HZ3.out).more (by omega))
      clear h ho
      have HE : Hid (FS = (((s.paid.nx x.xs)).nx x.xs).op 21 a) := Lib.hid (by rw [← HFS.out]; unfold stepI; simp [HVv.out, leafI, HBD.out, HVa.out])
      go_wp2
      go_end0
      rw [HE.out]
      exact ⟨rfl, HW4.out, HO4.out⟩
    · have t2 := HW2.out.t
      go_wp2_with fail
      refine (next_s x _ _ _ 3 _ HW2.out (by omega) (by omega) rfl).mono ?_
      rintro e w3 ⟨rfl, h, ho⟩
      have HW3 := Lib.hid h
      have HO3 : Hid (Fr x w0 w3) := Lib.hid (HO2.out.trans ho)
      have HZ3 : Hid ((((s.paid.nx x.xs)).nx x.xs).sz N) := Lib.hid ((Ws.sz_nx x.xs HZ2.out).more (by omega))
      clear h ho
      obtain ⟨a, ha⟩ : ∃ a, nxV x.xs 3 ((s.paid.nx x.xs)).at_ = a := ⟨_, rfl⟩
      have ba : a < 3 := by rw [← ha]; exact nxV_lt (by omega)
      rw [ha]
      have HVa := Lib.hid ha
      clear ha t2
      go_wp2_with fail
      refine (op_v x _ _ _ N 21 _ _ (by first | rfl | decide | assumption) HW3.out HZ3.out (by omega)).mono ?_
      rintro e w4 ⟨rfl, h, ho⟩
      have HW4 := Lib.hid h
      have HO4 : Hid (Fr x w0 w4) := Lib.hid (HO3.out.trans ho)
      have HZ4 : Hid (((((s.paid.nx x.xs)).nx x.xs).op 21 a).sz (N + 1)) := Lib.hid ((Ws.sz_op _ _ HZ3.out).more (by omega))
      clear h ho
      have HE : Hid (FS = (((s.paid.nx x.xs)).nx x.xs).op 21 a) := Lib.hid (by rw [← HFS.out]; unfold stepI; simp [HVv.out, leafI, HBD.out, HVa.out])
      go_wp2
      go_end0
      rw [HE.out]
      exact ⟨rfl, HW4.out, HO4.out⟩
    · have t2 := HW2.out.t
      go_wp2_with fail
      refine (next_s x _ _ _ 256 _ HW2.out (by omega) (by omega) rfl).mono ?_
      rintro e w3 ⟨rfl, h, ho⟩
      have HW3 := Lib.hid h
      have HO3 : Hid (Fr x w0 w3) := Lib.hid (HO2.out.trans ho)
      have HZ3 : Hid ((((s.paid.nx x.xs)).nx x.xs).sz N) := Lib.hid ((Ws.sz_nx x.xs HZ2.out).more (by omega))
      clear h ho
      obtain ⟨a, ha⟩ : ∃ a, nxV x.xs 256 ((s.paid.nx x.xs)).at_ = a := ⟨_, rfl⟩
      have ba : a < 256 := by rw [← ha]; exact nxV_lt (by omega)
      rw [ha]
      have HVa := Lib.hid ha
      clear ha t2
      go_wp2_with fail
      refine (number_s x _ _ _ N ((a : Int) - 100) (by omega) HW3.out HZ3.out (by omega)).mono ?_
      rintro e w4 ⟨rfl, h, ho⟩
      have HW4 := Lib.hid h
      have HO4 : Hid (Fr x w0 w4) := Lib.hid (HO3.out.trans ho)
      have HZ4 : Hid (((((s.paid.nx x.xs)).nx x.xs).push (numI ((a : Int) - 100))).sz (N + 1)) := Lib.hid ((Ws.sz_push _ HZ3.out).more (by omega))
      clear h ho
      have HE : Hid (FS = (((s.paid.nx x.xs)).nx x.xs).push (numI ((a : Int) - 100))) := Lib.hid (by rw [← HFS.out]; unfold stepI; simp [HVv.out, leafI, HBD.out, HVa.out])
      go_wp2
      go_end0
      rw [HE.out]
      exact ⟨rfl, HW4.out, HO4.out⟩
    · go_wp2_with fail
      refine (name_v x _ _ _ N 178 _ sMain [115] [73] _ _ _ rfl rfl rfl rfl HW2.out HZ2.out (by omega)).mono ?_
      rintro e w3 ⟨rfl, h, ho⟩
      have HW3 := Lib.hid h
      have HO3 : Hid (Fr x w0 w3) := Lib.hid (HO2.out.trans ho)
      have HZ3 : Hid ((((s.paid.nx x.xs)).name 178 sMain [115] [73]).sz (N + 1)) := Lib.hid ((Ws.sz_name _ _ _ _ HZ2.out).more (by omega))
      clear h ho
      have HE : Hid (FS = ((s.paid.nx x.xs)).name 178 sMain [115] [73]) := Lib.hid (by rw [← HFS.out]; unfold stepI; simp [HVv.out, leafI, HBD.out])
      go_wp2
      go_end0
      rw [HE.out]
      exact ⟨rfl, HW3.out, HO3.out⟩
    · go_wp2_with fail
      refine (HI.out _ _ _ N HW2.out HZ2.out (by omega)).mono ?_
      rintro e w3 ⟨rfl, h, ho⟩
      have HW3 := Lib.hid h
      have HO3 : Hid (Fr x w0 w3) := Lib.hid (HO2.out.trans ho)
      have HZ3 : Hid ((I ((s.paid.nx x.xs))).sz (N + 1 * c + 0)) := Lib.hid ((HIa.out _ _ HZ2.out).more (by omega))
      clear h ho
      go_wp2_with fail
      refine (HI.out _ _ _ (N + 1 * c + 0) HW3.out HZ3.out (by omega)).mono ?_
      rintro e w4 ⟨rfl, h, ho⟩
      have HW4 := Lib.hid h
      have HO4 : Hid (Fr x w0 w4) := Lib.hid (HO3.out.trans ho)
      have HZ4 : Hid ((I (I ((s.paid.nx x.xs)))).sz (N + 2 * c + 0)) := Lib.hid ((HIa.out _ _ HZ3.out).more (by omega))
      clear h ho
      have t4 := HW4.out.t
      have hbt := belowA w4 (.cells #[.int .u8 96, .int .u8 100, .int .u8 104, .int .u8 108, .int .u8 126, .int .u8 130, .int .u8 120, .int .u8 112, .int .u8 128, .int .u8 124] 5)
      have kb4 := Blk.new w4 5 #[.int .u8 96, .int .u8 100, .int .u8 104, .int .u8 108, .int .u8 126, .int .u8 130, .int .u8 120, .int .u8 112, .int .u8 128, .int .u8 124]
      have h := HW4.out.below hbt
      have ho := Fr.of_below (x := x) hbt
      obtain ⟨w5, hw4⟩ : ∃ W, w4.alloc (.cells #[.int .u8 96, .int .u8 100, .int .u8 104, .int .u8 108, .int .u8 126, .int .u8 130, .int .u8 120, .int .u8 112, .int .u8 128, .int .u8 124] 5) = W := ⟨_, rfl⟩
      rw [hw4] at h ho kb4
      have HWW4 := Lib.hid hw4
      have HKB4 := Lib.hid kb4
      have t4b := h.t
      rw [← hw4] at t4b
      have hgl4 := HW4.out.lt
      clear hw4 kb4 hbt
      have HW5 := Lib.hid h
      have HO5 : Hid (Fr x w0 w5) := Lib.hid (HO4.out.trans ho)
      have HZ5 : Hid ((I (I ((s.paid.nx x.xs)))).sz (N + 2 * c + 0)) := Lib.hid ((HZ4.out).more (by omega))
      clear h ho
      go_wp2_with fail
      rw [HWW4.out]
      clear t4 t4b
      refine (next_s x _ _ _ 10 _ HW5.out (by omega) (by omega) rfl).mono ?_
      rintro e w6 ⟨rfl, h, ho⟩
      have HQ6 := Lib.hid (ho.2 _ _ _ HKB4.out (by unfold WE; decide))
      have HW6 := Lib.hid h
      have HO6 : Hid (Fr x w0 w6) := Lib.hid (HO5.out.trans ho)
      have HZ6 : Hid (((I (I ((s.paid.nx x.xs)))).nx x.xs).sz (N + 2 * c + 0)) := Lib.hid ((Ws.sz_nx x.xs HZ5.out).more (by omega))
      clear h ho
      obtain ⟨a, ha⟩ : ∃ a, nxV x.xs 10 (I (I ((s.paid.nx x.xs)))).at_ = a := ⟨_, rfl⟩
      have ba : a < 10 := by rw [← ha]; exact nxV_lt (by omega)
      rw [ha]
      have HVa := Lib.hid ha
      have da : w6.cell? ⟨w4.heap.size, a, none⟩ = some (.int .u8 ((intOps.getD a 0).toNat : Int)) := by
        rw [HQ6.out.cell]
        exact u8_of_tab intOps a ba
      have la : w4.heap.size < w6.heap.size := HQ6.out.lt
      obtain ⟨qa, hqa⟩ : ∃ q : Int, ((intOps.getD a 0).toNat : Int) = q := ⟨_, rfl⟩
      rw [hqa] at da
      have HQa := Lib.hid hqa
      clear ha hqa
      go_wp2_with fail
      refine (op_v x _ _ _ (N + 2 * c + 0) (intOps.getD a 0) _ _ HQa.out HW6.out HZ6.out (by omega)).mono ?_
      rintro e w7 ⟨rfl, h, ho⟩
      have HW7 := Lib.hid h
      have HO7 : Hid (Fr x w0 w7) := Lib.hid (HO6.out.trans ho)
      have HZ7 : Hid ((((I (I ((s.paid.nx x.xs)))).nx x.xs).op (intOps.getD a 0) 0).sz (N + 2 * c + 1)) := Lib.hid ((Ws.sz_op _ _ HZ6.out).more (by omega))
      clear h ho
      have HE : Hid (FS = ((I (I ((s.paid.nx x.xs)))).nx x.xs).op (intOps.getD a 0) 0) := Lib.hid (by rw [← HFS.out]; unfold stepI; simp [HVv.out, leafI, HBD.out, HVa.out])
      go_wp2
      go_end0
      rw [HE.out]
      exact ⟨rfl, HW7.out, HO7.out⟩
    · go_wp2_with fail
      refine (HI.out _ _ _ N HW2.out HZ2.out (by omega)).mono ?_
      rintro e w3 ⟨rfl, h, ho⟩
      have HW3 := Lib.hid h
      have HO3 : Hid (Fr x w0 w3) := Lib.hid (HO2.out.trans ho)
      have HZ3 : Hid ((I ((s.paid.nx x.xs))).sz (N + 1 * c + 0)) := Lib.hid ((HIa.out _ _ HZ2.out).more (by omega))
      clear h ho
      go_wp2_with fail
      refine (HI.out _ _ _ (N + 1 * c + 0) HW3.out HZ3.out (by omega)).mono ?_
      rintro e w4 ⟨rfl, h, ho⟩
      have HW4 := Lib.hid h
      have HO4 : Hid (Fr x w0 w4) := Lib.hid (HO3.out.trans ho)
      have HZ4 : Hid ((I (I ((s.paid.nx x.xs)))).sz (N + 2 * c + 0)) := Lib.hid ((HIa.out _ _ HZ3.out).more (by omega))
      clear h ho
      have t4 := HW4.out.t
      have hbt := belowA w4 (.cells #[.int .u8 96, .int .u8 100, .int .u8 104, .int .u8 108, .int .u8 126, .int .u8 130, .int .u8 120, .int .u8 112, .int .u8 128, .int .u8 124] 5)
      have kb4 := Blk.new w4 5 #[.int .u8 96, .int .u8 100, .int .u8 104, .int .u8 108, .int .u8 126, .int .u8 130, .int .u8 120, .int .u8 112, .int .u8 128, .int .u8 124]
      have h := HW4.out.below hbt
      have ho := Fr.of_below (x := x) hbt
      obtain ⟨w5, hw4⟩ : ∃ W, w4.alloc (.cells #[.int .u8 96, .int .u8 100, .int .u8 104, .int .u8 108, .int .u8 126, .int .u8 130, .int .u8 120, .int .u8 112, .int .u8 128, .int .u8 124] 5) = W := ⟨_, rfl⟩
      rw [hw4] at h ho kb4
      have HWW4 := Lib.hid hw4
      have HKB4 := Lib.hid kb4
      have t4b := h.t
      rw [← hw4] at t4b
      have hgl4 := HW4.out.lt
      clear hw4 kb4 hbt
      have HW5 := Lib.hid h
      have HO5 : Hid (Fr x w0 w5) := Lib.hid (HO4.out.trans ho)
      have HZ5 : Hid ((I (I ((s.paid.nx x.xs)))).sz (N + 2 * c + 0)) := Lib.hid ((HZ4.out).more (by omega))
      clear h ho
      go_wp2_with fail
      rw [HWW4.out]
      clear t4 t4b
      refine (next_s x _ _ _ 10 _ HW5.out (by omega) (by omega) rfl).mono ?_
      rintro e w6 ⟨rfl, h, ho⟩
      have HQ6 := Lib.hid (ho.2 _ _ _ HKB4.out (by unfold WE; decide))
      have HW6 := Lib.hid h
      have HO6 : Hid (Fr x w0 w6) := Lib.hid (HO5.out.trans ho)
      have HZ6 : Hid (((I (I ((s.paid.nx x.xs)))).nx x.xs).sz (N + 2 * c + 0)) := Lib.hid ((Ws.sz_nx x.xs HZ5.out).more (by omega))
      clear h ho
      obtain ⟨a, ha⟩ : ∃ a, nxV x.xs 10 (I (I ((s.paid.nx x.xs)))).at_ = a := ⟨_, rfl⟩
      have ba : a < 10 := by rw [← ha]; exact nxV_lt (by omega)
      rw [ha]
      have HVa := Lib.hid ha
      have da : w6.cell? ⟨w4.heap.size, a, none⟩ = some (.int .u8 ((intOps.getD a 0).toNat : Int)) := by
        rw [HQ6.out.cell]
        exact u8_of_tab intOps a ba
      have la : w4.heap.size < w6.heap.size := HQ6.out.lt
      obtain ⟨qa, hqa⟩ : ∃ q : Int, ((intOps.getD a 0).toNat : Int) = q := ⟨_, rfl⟩
      rw [hqa] at da
      have HQa := Lib.hid hqa
      clear ha hqa
      go_wp2_with fail
      refine (op_v x _ _ _ (N + 2 * c + 0) (intOps.getD a 0) _ _ HQa.out HW6.out HZ6.out (by omega)).mono ?_
      rintro e w7 ⟨rfl, h, ho⟩
      have HW7 := Lib.hid h
      have HO7 : Hid (Fr x w0 w7) := Lib.hid (HO6.out.trans ho)
      have HZ7 : Hid ((((I (I ((s.paid.nx x.xs)))).nx x.xs).op (intOps.getD a 0) 0).sz (N + 2 * c + 1)) := Lib.hid ((Ws.sz_op _ _ HZ6.out).more (by omega))
      clear h ho
      have HE : Hid (FS = ((I (I ((s.paid.nx x.xs)))).nx x.xs).op (intOps.getD a 0) 0) := Lib.hid (by rw [← HFS.out]; unfold stepI; simp [HVv.out, leafI, HBD.out, HVa.out])
      go_wp2
      go_end0
      rw [HE.out]
      exact ⟨rfl, HW7.out, HO7.out⟩
    · go_wp2_with fail
      refine (HI.out _ _ _ N HW2.out HZ2.out (by omega)).mono ?_
      rintro e w3 ⟨rfl, h, ho⟩
      have HW3 := Lib.hid h
      have HO3 : Hid (Fr x w0 w3) := Lib.hid (HO2.out.trans ho)
      have HZ3 : Hid ((I ((s.paid.nx x.xs))).sz (N + 1 * c + 0)) := Lib.hid ((HIa.out _ _ HZ2.out).more (by omega))
      clear h ho
      go_wp2_with fail
      refine (HI.out _ _ _ (N + 1 * c + 0) HW3.out HZ3.out (by omega)).mono ?_
      rintro e w4 ⟨rfl, h, ho⟩
      have HW4 := Lib.hid h
      have HO4 : Hid (Fr x w0 w4) := Lib.hid (HO3.out.trans ho)
      have HZ4 : Hid ((I (I ((s.paid.nx x.xs)))).sz (N + 2 * c + 0)) := Lib.hid ((HIa.out _ _ HZ3.out).more (by omega))
      clear h ho
      have t4 := HW4.out.t
      have hbt := belowA w4 (.cells #[.int .u8 96, .int .u8 100, .int .u8 104, .int .u8 108, .int .u8 126, .int .u8 130, .int .u8 120, .int .u8 112, .int .u8 128, .int .u8 124] 5)
      have kb4 := Blk.new w4 5 #[.int .u8 96, .int .u8 100, .int .u8 104, .int .u8 108, .int .u8 126, .int .u8 130, .int .u8 120, .int .u8 112, .int .u8 128, .int .u8 124]
      have h := HW4.out.below hbt
      have ho := Fr.of_below (x := x) hbt
      obtain ⟨w5, hw4⟩ : ∃ W, w4.alloc (.cells #[.int .u8 96, .int .u8 100, .int .u8 104, .int .u8 108, .int .u8 126, .int .u8 130, .int .u8 120, .int .u8 112, .int .u8 128, .int .u8 124] 5) = W := ⟨_, rfl⟩
      rw [hw4] at h ho kb4
      have HWW4 := Lib.hid hw4
      have HKB4 := Lib.hid kb4
      have t4b := h.t
      rw [← hw4] at t4b
      have hgl4 := HW4.out.lt
      clear hw4 kb4 hbt
      have HW5 := Lib.hid h
      have HO5 : Hid (Fr x w0 w5) := Lib.hid (HO4.out.trans ho)
      have HZ5 : Hid ((I (I ((s.paid.nx x.xs)))).sz (N + 2 * c + 0)) := Lib.hid ((HZ4.out).more (by omega))
      clear h ho
      go_wp2_with fail
      rw [HWW4.out]
      clear t4 t4b
      refine (next_s x _ _ _ 10 _ HW5.out (by omega) (by omega) rfl).mono ?_
      rintro e w6 ⟨rfl, h, ho⟩
      have HQ6 := Lib.hid (ho.2 _ _ _ HKB4.out (by unfold WE; decide))
      have HW6 := Lib.hid h
      have HO6 : Hid (Fr x w0 w6) := Lib.hid (HO5.out.trans ho)
      have HZ6 : Hid (((I (I ((s.paid.nx x.xs)))).nx x.xs).sz (N + 2 * c + 0)) := Lib.hid ((Ws.sz_nx x.xs HZ5.out).more (by omega))
      clear h ho
      obtain ⟨a, ha⟩ : ∃ a, nxV x.xs 10 (I (I ((s.paid.nx x.xs)))).at_ = a := ⟨_, rfl⟩
      have ba : a < 10 := by rw [← ha]; exact nxV_lt (by omega)
      rw [ha]
      have HVa := Lib.hid ha
      have da : w6.cell? ⟨w4.heap.size, a, none⟩ = some (.int .u8 ((intOps.getD a 0).toNat : Int)) := by
        rw [HQ6.out.cell]
        exact u8_of_tab intOps a ba
      have la : w4.heap.size < w6.heap.size := HQ6.out.lt
      obtain ⟨qa, hqa⟩ : ∃ q : Int, ((intOps.getD a 0).toNat : Int) = q := ⟨_, rfl⟩
      rw [hqa] at da
      have HQa := Lib.hid hqa
      clear ha hqa
      go_wp2_with fail
      refine (op_v x _ _ _ (N + 2 * c + 0) (intOps.getD a 0) _ _ HQa.out HW6.out HZ6.out (by omega)).mono ?_
      rintro e w7 ⟨rfl, h, ho⟩
      have HW7 := Lib.hid h
      have HO7 : Hid (Fr x w0 w7) := Lib.hid (HO6.out.trans ho)
      have HZ7 : Hid ((((I (I ((s.paid.nx x.xs)))).nx x.xs).op (intOps.getD a 0) 0).sz (N + 2 * c + 1)) := Lib.hid ((Ws.sz_op _ _ HZ6.out).more (by omega))
      clear h ho
      have HE : Hid (FS = ((I (I ((s.paid.nx x.xs)))).nx x.xs).op (intOps.getD a 0) 0) := Lib.hid (by rw [← HFS.out]; unfold stepI; simp [HVv.out, leafI, HBD.out, HVa.out])
      go_wp2
      go_end0
      rw [HE.out]
      exact ⟨rfl, HW7.out, HO7.out⟩
    · go_wp2_with fail
      refine (HI.out _ _ _ N HW2.out HZ2.out (by omega)).mono ?_
      rintro e w3 ⟨rfl, h, ho⟩
      have HW3 := Lib.hid h
      have HO3 : Hid (Fr x w0 w3) := Lib.hid (HO2.out.trans ho)
      have HZ3 : Hid ((I ((s.paid.nx x.xs))).sz (N + 1 * c + 0)) := Lib.hid ((HIa.out _ _ HZ2.out).more (by omega))
      clear h ho
      go_wp2_with fail
      refine (HI.out _ _ _ (N + 1 * c + 0) HW3.out HZ3.out (by omega)).mono ?_
      rintro e w4 ⟨rfl, h, ho⟩
      have HW4 := Lib.hid h
      have HO4 : Hid (Fr x w0 w4) := Lib.hid (HO3.out.trans ho)
      have HZ4 : Hid ((I (I ((s.paid.nx x.xs)))).sz (N + 2 * c + 0)) := Lib.hid ((HIa.out _ _ HZ3.out).more (by omega))
      clear h ho
      have t4 := HW4.out.t
      have hbt := belowA w4 (.cells #[.int .u8 96, .int .u8 100, .int .u8 104, .int .u8 108, .int .u8 126, .int .u8 130, .int .u8 120, .int .u8 112, .int .u8 128, .int .u8 124] 5)
      have kb4 := Blk.new w4 5 #[.int .u8 96, .int .u8 100, .int .u8 104, .int .u8 108, .int .u8 126, .int .u8 130, .int .u8 120, .int .u8 112, .int .u8 128, .int .u8 124]
      have h := HW4.out.below hbt
      have ho := Fr.of_below (x := x) hbt
      obtain ⟨w5, hw4⟩ : ∃ W, w4.alloc (.cells #[.int .u8 96, .int .u8 100, .int .u8 104, .int .u8 108, .int .u8 126, .int .u8 130, .int .u8 120, .int .u8 112, .int .u8 128, .int .u8 124] 5) = W := ⟨_, rfl⟩
      rw [hw4] at h ho kb4
      have HWW4 := Lib.hid hw4
      have HKB4 := Lib.hid kb4
      have t4b := h.t
      rw [← hw4] at t4b
      have hgl4 := HW4.out.lt
      clear hw4 kb4 hbt
      have HW5 := Lib.hid h
      have HO5 : Hid (Fr x w0 w5) := Lib.hid (HO4.out.trans ho)
      have HZ5 : Hid ((I (I ((s.paid.nx x.xs)))).sz (N + 2 * c + 0)) := Lib.hid ((HZ4.out).more (by omega))
      clear h ho
      go_wp2_with fail
      rw [HWW4.out]
      clear t4 t4b
      refine (next_s x _ _ _ 10 _ HW5.out (by omega) (by omega) rfl).mono ?_
      rintro e w6 ⟨rfl, h, ho⟩
      have HQ6 := Lib.hid (ho.2 _ _ _ HKB4.out (by unfold WE; decide))
      have HW6 := Lib.hid h
      have HO6 : Hid (Fr x w0 w6) := Lib.hid (HO5.out.trans ho)
      have HZ6 : Hid (((I (I ((s.paid.nx x.xs)))).nx x.xs).sz (N + 2 * c + 0)) := Lib.hid ((Ws.sz_nx x.xs HZ5.out).more (by omega))
      clear h ho
      obtain ⟨a, ha⟩ : ∃ a, nxV x.xs 10 (I (I ((s.paid.nx x.xs)))).at_ = a := ⟨_, rfl⟩
      have ba : a < 10 := by rw [← ha]; exact nxV_lt (by omega)
      rw [ha]
      have HVa := Lib.hid ha
      have da : w6.cell? ⟨w4.heap.size, a, none⟩ = some (.int .u8 ((intOps.getD a 0).toNat : Int)) := by
        rw [HQ6.out.cell]
        exact u8_of_tab intOps a ba
      have la : w4.heap.size < w6.heap.size := HQ6.out.lt
      obtain ⟨qa, hqa⟩ : ∃ q : Int, ((intOps.getD a 0).toNat : Int) = q := ⟨_, rfl⟩
      rw [hqa] at da
      have HQa := Lib.hid hqa
      clear ha hqa
      go_wp2_with fail
      refine (op_v x _ _ _ (N + 2 * c + 0) (intOps.getD a 0) _ _ HQa.out HW6.out HZ6.out (by omega)).mono ?_
      rintro e w7 ⟨rfl, h, ho⟩
      have HW7 := Lib.hid h
      have HO7 : Hid (Fr x w0 w7) := Lib.hid (HO6.out.trans ho)
      have HZ7 : Hid ((((I (I ((s.paid.nx x.xs)))).nx x.xs).op (intOps.getD a 0) 0).sz (N + 2 * c + 1)) := Lib.hid ((Ws.sz_op _ _ HZ6.out).more (by omega))
      clear h ho
      have HE : Hid (FS = ((I (I ((s.paid.nx x.xs)))).nx x.xs).op (intOps.getD a 0) 0) := Lib.hid (by rw [← HFS.out]; unfold stepI; simp [HVv.out, leafI, HBD.out, HVa.out])
      go_wp2
      go_end0
      rw [HE.out]
      exact ⟨rfl, HW7.out, HO7.out⟩
    · go_wp2_with fail
      refine (HL.out _ _ _ N HW2.out HZ2.out (by omega)).mono ?_
      rintro e w3 ⟨rfl, h, ho⟩
      have HW3 := Lib.hid h
      have HO3 : Hid (Fr x w0 w3) := Lib.hid (HO2.out.trans ho)
      have HZ3 : Hid ((L ((s.paid.nx x.xs))).sz (N + 1 * c + 0)) := Lib.hid ((HLa.out _ _ HZ2.out).more (by omega))
      clear h ho
      go_wp2_with fail
      refine (op_v x _ _ _ (N + 1 * c + 0) 136 _ _ (by first | rfl | decide | assumption) HW3.out HZ3.out (by omega)).mono ?_
      rintro e w4 ⟨rfl, h, ho⟩
      have HW4 := Lib.hid h
      have HO4 : Hid (Fr x w0 w4) := Lib.hid (HO3.out.trans ho)
      have HZ4 : Hid (((L ((s.paid.nx x.xs))).op 136 0).sz (N + 1 * c + 1)) := Lib.hid ((Ws.sz_op _ _ HZ3.out).more (by omega))
      clear h ho
      have HE : Hid (FS = (L ((s.paid.nx x.xs))).op 136 0) := Lib.hid (by rw [← HFS.out]; unfold stepI; simp [HVv.out, leafI, HBD.out])
      go_wp2
      go_end0
      rw [HE.out]
      exact ⟨rfl, HW4.out, HO4.out⟩
    · go_wp2_with fail
      refine (op_v x _ _ _ N 25 _ _ (by first | rfl | decide | assumption) HW2.out HZ2.out (by omega)).mono ?_
      rintro e w3 ⟨rfl, h, ho⟩
      have HW3 := Lib.hid h
      have HO3 : Hid (Fr x w0 w3) := Lib.hid (HO2.out.trans ho)
      have HZ3 : Hid ((((s.paid.nx x.xs)).op 25 6).sz (N + 1)) := Lib.hid ((Ws.sz_op _ _ HZ2.out).more (by omega))
      clear h ho
      go_wp2_with fail
      refine (HI.out _ _ _ (N + 1) HW3.out HZ3.out (by omega)).mono ?_
      rintro e w4 ⟨rfl, h, ho⟩
      have HW4 := Lib.hid h
      have HO4 : Hid (Fr x w0 w4) := Lib.hid (HO3.out.trans ho)
      have HZ4 : Hid ((I (((s.paid.nx x.xs)).op 25 6)).sz (N + 1 * c + 1)) := Lib.hid ((HIa.out _ _ HZ3.out).more (by omega))
      clear h ho
      go_wp2_with fail
      refine (op_v x _ _ _ (N + 1 * c + 1) 46 _ _ (by first | rfl | decide | assumption) HW4.out HZ4.out (by omega)).mono ?_
      rintro e w5 ⟨rfl, h, ho⟩
      have HW5 := Lib.hid h
      have HO5 : Hid (Fr x w0 w5) := Lib.hid (HO4.out.trans ho)
      have HZ5 : Hid (((I (((s.paid.nx x.xs)).op 25 6)).op 46 0).sz (N + 1 * c + 2)) := Lib.hid ((Ws.sz_op _ _ HZ4.out).more (by omega))
      clear h ho
      have HE : Hid (FS = (I (((s.paid.nx x.xs)).op 25 6)).op 46 0) := Lib.hid (by rw [← HFS.out]; unfold stepI; simp [HVv.out, leafI, HBD.out])
      go_wp2
      go_end0
      rw [HE.out]
      exact ⟨rfl, HW5.out, HO5.out⟩
    · go_wp2_with fail
      refine (op_v x _ _ _ N 25 _ _ (by first | rfl | decide | assumption) HW2.out HZ2.out (by omega)).mono ?_
      rintro e w3 ⟨rfl, h, ho⟩
      have HW3 := Lib.hid h
      have HO3 : Hid (Fr x w0 w3) := Lib.hid (HO2.out.trans ho)
      have HZ3 : Hid ((((s.paid.nx x.xs)).op 25 5).sz (N + 1)) := Lib.hid ((Ws.sz_op _ _ HZ2.out).more (by omega))
      clear h ho
      go_wp2_with fail
      refine (name_v x _ _ _ (N + 1) 180 _ [65] [102] [73] _ _ _ rfl rfl rfl rfl HW3.out HZ3.out (by omega)).mono ?_
      rintro e w4 ⟨rfl, h, ho⟩
      have HW4 := Lib.hid h
      have HO4 : Hid (Fr x w0 w4) := Lib.hid (HO3.out.trans ho)
      have HZ4 : Hid (((((s.paid.nx x.xs)).op 25 5).name 180 [65] [102] [73]).sz (N + 2)) := Lib.hid ((Ws.sz_name _ _ _ _ HZ3.out).more (by omega))
      clear h ho
      have HE : Hid (FS = (((s.paid.nx x.xs)).op 25 5).name 180 [65] [102] [73]) := Lib.hid (by rw [← HFS.out]; unfold stepI; simp [HVv.out, leafI, HBD.out])
      go_wp2
      go_end0
      rw [HE.out]
      exact ⟨rfl, HW4.out, HO4.out⟩
    · go_wp2_with fail
      refine (op_v x _ _ _ N 25 _ _ (by first | rfl | decide | assumption) HW2.out HZ2.out (by omega)).mono ?_
      rintro e w3 ⟨rfl, h, ho⟩
      have HW3 := Lib.hid h
      have HO3 : Hid (Fr x w0 w3) := Lib.hid (HO2.out.trans ho)
      have HZ3 : Hid ((((s.paid.nx x.xs)).op 25 5).sz (N + 1)) := Lib.hid ((Ws.sz_op _ _ HZ2.out).more (by omega))
      clear h ho
      go_wp2_with fail
      refine (HI.out _ _ _ (N + 1) HW3.out HZ3.out (by omega)).mono ?_
      rintro e w4 ⟨rfl, h, ho⟩
      have HW4 := Lib.hid h
      have HO4 : Hid (Fr x w0 w4) := Lib.hid (HO3.out.trans ho)
      have HZ4 : Hid ((I (((s.paid.nx x.xs)).op 25 5)).sz (N + 1 * c + 1)) := Lib.hid ((HIa.out _ _ HZ3.out).more (by omega))
      clear h ho
      go_wp2_with fail
      refine (name_v x _ _ _ (N + 1 * c + 1) 182 _ [65] [118] [40, 73, 41, 73] _ _ _ rfl rfl rfl rfl HW4.out HZ4.out (by omega)).mono ?_
      rintro e w5 ⟨rfl, h, ho⟩
      have HW5 := Lib.hid h
      have HO5 : Hid (Fr x w0 w5) := Lib.hid (HO4.out.trans ho)
      have HZ5 : Hid (((I (((s.paid.nx x.xs)).op 25 5)).name 182 [65] [118] [40, 73, 41, 73]).sz (N + 1 * c + 2)) := Lib.hid ((Ws.sz_name _ _ _ _ HZ4.out).more (by omega))
      clear h ho
      have HE : Hid (FS = (I (((s.paid.nx x.xs)).op 25 5)).name 182 [65] [118] [40, 73, 41, 73]) := Lib.hid (by rw [← HFS.out]; unfold stepI; simp [HVv.out, leafI, HBD.out])
      go_wp2
      go_end0
      rw [HE.out]
      exact ⟨rfl, HW5.out, HO5.out⟩
    · go_wp2_with fail
      refine (HI.out _ _ _ N HW2.out HZ2.out (by omega)).mono ?_
      rintro e w3 ⟨rfl, h, ho⟩
      have HW3 := Lib.hid h
      have HO3 : Hid (Fr x w0 w3) := Lib.hid (HO2.out.trans ho)
      have HZ3 : Hid ((I ((s.paid.nx x.xs))).sz (N + 1 * c + 0)) := Lib.hid ((HIa.out _ _ HZ2.out).more (by omega))
      clear h ho
      go_wp2_with fail
      refine (name_v x _ _ _ (N + 1 * c + 0) 184 _ sMain [104, 101, 108, 112] [40, 73, 41, 73] _ _ _ rfl rfl rfl rfl HW3.out HZ3.out (by omega)).mono ?_
      rintro e w4 ⟨rfl, h, ho⟩
      have HW4 := Lib.hid h
      have HO4 : Hid (Fr x w0 w4) := Lib.hid (HO3.out.trans ho)
      have HZ4 : Hid (((I ((s.paid.nx x.xs))).name 184 sMain [104, 101, 108, 112] [40, 73, 41, 73]).sz (N + 1 * c + 1)) := Lib.hid ((Ws.sz_name _ _ _ _ HZ3.out).more (by omega))
      clear h ho
      have HE : Hid (FS = (I ((s.paid.nx x.xs))).name 184 sMain [104, 101, 108, 112] [40, 73, 41, 73]) := Lib.hid (by rw [← HFS.out]; unfold stepI; simp [HVv.out, leafI, HBD.out])
      go_wp2
      go_end0
      rw [HE.out]
      exact ⟨rfl, HW4.out, HO4.out⟩
    · have t2 := HW2.out.t
      go_wp2_with fail
      refine (next_s x _ _ _ 2 _ HW2.out (by omega) (by omega) rfl).mono ?_
      rintro e w3 ⟨rfl, h, ho⟩
      have HW3 := Lib.hid h
      have HO3 : Hid (Fr x w0 w3) := Lib.hid (HO2.out.trans ho)
      have HZ3 : Hid ((((s.paid.nx x.xs)).nx x.xs).sz N) := Lib.hid ((Ws.sz_nx x.xs HZ2.out).more (by omega))
      clear h ho
      obtain ⟨a, ha⟩ : ∃ a, nxV x.xs 2 ((s.paid.nx x.xs)).at_ = a := ⟨_, rfl⟩
      have ba : a < 2 := by rw [← ha]; exact nxV_lt (by omega)
      rw [ha]
      have HVa := Lib.hid ha
      clear ha t2
      go_wp2_with fail
      refine (op_v x _ _ _ N 25 _ _ (by first | rfl | decide | assumption) HW3.out HZ3.out (by omega)).mono ?_
      rintro e w4 ⟨rfl, h, ho⟩
      have HW4 := Lib.hid h
      have HO4 : Hid (Fr x w0 w4) := Lib.hid (HO3.out.trans ho)
      have HZ4 : Hid (((((s.paid.nx x.xs)).nx x.xs).op 25 (6 + (a : Int))).sz (N + 1)) := Lib.hid ((Ws.sz_op _ _ HZ3.out).more (by omega))
      clear h ho
      go_wp2_with fail
      refine (op_v x _ _ _ (N + 1) 190 _ _ (by first | rfl | decide | assumption) HW4.out HZ4.out (by omega)).mono ?_
      rintro e w5 ⟨rfl, h, ho⟩
      have HW5 := Lib.hid h
      have HO5 : Hid (Fr x w0 w5) := Lib.hid (HO4.out.trans ho)
      have HZ5 : Hid ((((((s.paid.nx x.xs)).nx x.xs).op 25 (6 + (a : Int))).op 190 0).sz (N + 2)) := Lib.hid ((Ws.sz_op _ _ HZ4.out).more (by omega))
      clear h ho
      have HE : Hid (FS = ((((s.paid.nx x.xs)).nx x.xs).op 25 (6 + (a : Int))).op 190 0) := Lib.hid (by rw [← HFS.out]; unfold stepI; simp [HVv.out, leafI, HBD.out, HVa.out])
      go_wp2
      go_end0
      rw [HE.out]
      exact ⟨rfl, HW5.out, HO5.out⟩
    · go_wp2_with fail
      refine (op_v x _ _ _ N 25 _ _ (by first | rfl | decide | assumption) HW2.out HZ2.out (by omega)).mono ?_
      rintro e w3 ⟨rfl, h, ho⟩
      have HW3 := Lib.hid h
      have HO3 : Hid (Fr x w0 w3) := Lib.hid (HO2.out.trans ho)
      have HZ3 : Hid ((((s.paid.nx x.xs)).op 25 5).sz (N + 1)) := Lib.hid ((Ws.sz_op _ _ HZ2.out).more (by omega))
      clear h ho
      obtain ⟨C3, nc3, cc3, T3, nt3, ct3, M3, nm3, cm3, lm3, hD⟩ := HW3.out
      have hnc3 : nc3 ≤ (N + 1) := by rw [← hD.code.row.1]; exact HZ3.out.1
      have c13 : w3.cell? ⟨x.g, 1, none⟩ = some (.slice C3 nc3 cc3) := hD.blk.cell 1
      have hgl3 := hD.blk.lt
      have hb := belowA w3 (.cells (inC (⟨193, 0, 0, [66], [], [], []⟩ : InD)).toArray 98)
      have hD1 := hD.below hb
      have f13 : w3.frozen? ⟨x.g, 1, none⟩ = false := hD.blk.frozen 1
      have HC3 : Hid (GotR inC 7 98 x.b0 (w3.alloc (.cells (inC (⟨193, 0, 0, [66], [], [], []⟩ : InD)).toArray 98)) C3 nc3 cc3 (((s.paid.nx x.xs)).op 25 5).code) := Lib.hid hD1.code
      have HB3 : Hid (Blk (w3.alloc (.cells (inC (⟨193, 0, 0, [66], [], [], []⟩ : InD)).toArray 98)) w3.heap.size 98 (inC (⟨193, 0, 0, [66], [], [], []⟩ : InD)).toArray) := Lib.hid (Blk.new _ _ _)
      have hb03 := hD1.b0
      have HGO3 := Lib.hid (ne_own hD.code hD.blk (by decide))
      have HD13 := Lib.hid hD1
      have HBE3 := Lib.hid hb
      clear hD hD1 hb
      simp only [inC] at HC3 HB3 HBE3 HD13 hb03
      go_wp2_with (at_builtin; refine wpList_push rfl _ _ rfl x.b0 C3 nc3 cc3 (((s.paid.nx x.xs)).op 25 5).code rfl HC3.out w3.heap.size (⟨193, 0, 0, [66], [], [], []⟩ : InD) rfl HB3.out (by omega) hb03 ?_; intro C23 c23 wx3 hG3 hg3 hr3; have s13 : wx3.cell? ⟨x.g, 1, none⟩ = some (.slice C3 nc3 cc3) := ((only_grown hg3 hr3).cell (p := ⟨x.g, 1, none⟩) (by simp; omega) HGO3.out).trans (cellA _ c13); have s23 : wx3.frozen? ⟨x.g, 1, none⟩ = false := (((only_grown hg3 hr3).blk HD13.out.blk HGO3.out)).frozen 1)
      obtain ⟨hP, hF⟩ := HD13.out.push hG3 hg3 hr3
      obtain ⟨w4, hwe⟩ : ∃ W, wx3.setCell ⟨x.g, 1, none⟩ (.slice C23 (nc3 + 1) c23) = W := ⟨_, rfl⟩
      rw [hwe] at hP hF ⊢
      have h : WrS x w4 _ ((((s.paid.nx x.xs)).op 25 5).push ⟨193, 0, 0, [66], [], [], []⟩) := ⟨C23, nc3 + 1, c23, T3, nt3, ct3, M3, nm3, cm3, lm3, hP⟩
      have ho : Fr x w3 w4 := (Fr.of_below HBE3.out).trans hF
      clear hwe hP hF hG3 hg3 hr3 s13 s23 c13 f13
      have HW4 := Lib.hid h
      have HO4 : Hid (Fr x w0 w4) := Lib.hid (HO3.out.trans ho)
      have HZ4 : Hid (((((s.paid.nx x.xs)).op 25 5).push ⟨193, 0, 0, [66], [], [], []⟩).sz (N + 2)) := Lib.hid ((Ws.sz_push _ HZ3.out).more (by omega))
      clear h ho
      have HE : Hid (FS = (((s.paid.nx x.xs)).op 25 5).push ⟨193, 0, 0, [66], [], [], []⟩) := Lib.hid (by rw [← HFS.out]; unfold stepI; simp [HVv.out, leafI, HBD.out])
      go_end0
      rw [HE.out]
      exact ⟨rfl, HW4.out, HO4.out⟩
    · go_wp2_with fail
      refine (HL.out _ _ _ N HW2.out HZ2.out (by omega)).mono ?_
      rintro e w3 ⟨rfl, h, ho⟩
      have HW3 := Lib.hid h
      have HO3 : Hid (Fr x w0 w3) := Lib.hid (HO2.out.trans ho)
      have HZ3 : Hid ((L ((s.paid.nx x.xs))).sz (N + 1 * c + 0)) := Lib.hid ((HLa.out _ _ HZ2.out).more (by omega))
      clear h ho
      go_wp2_with fail
      refine (HL.out _ _ _ (N + 1 * c + 0) HW3.out HZ3.out (by omega)).mono ?_
      rintro e w4 ⟨rfl, h, ho⟩
      have HW4 := Lib.hid h
      have HO4 : Hid (Fr x w0 w4) := Lib.hid (HO3.out.trans ho)
      have HZ4 : Hid ((L (L ((s.paid.nx x.xs)))).sz (N + 2 * c + 0)) := Lib.hid ((HLa.out _ _ HZ3.out).more (by omega))
      clear h ho
      go_wp2_with fail
      refine (op_v x _ _ _ (N + 2 * c + 0) 148 _ _ (by first | rfl | decide | assumption) HW4.out HZ4.out (by omega)).mono ?_
      rintro e w5 ⟨rfl, h, ho⟩
      have HW5 := Lib.hid h
      have HO5 : Hid (Fr x w0 w5) := Lib.hid (HO4.out.trans ho)
      have HZ5 : Hid (((L (L ((s.paid.nx x.xs)))).op 148 0).sz (N + 2 * c + 1)) := Lib.hid ((Ws.sz_op _ _ HZ4.out).more (by omega))
      clear h ho
      have HE : Hid (FS = (L (L ((s.paid.nx x.xs)))).op 148 0) := Lib.hid (by rw [← HFS.out]; unfold stepI; simp [HVv.out, leafI, HBD.out])
      go_wp2
      go_end0
      rw [HE.out]
      exact ⟨rfl, HW5.out, HO5.out⟩

end Go.Proofs.YtdkkpcbebhgbiaaGreatDoor
