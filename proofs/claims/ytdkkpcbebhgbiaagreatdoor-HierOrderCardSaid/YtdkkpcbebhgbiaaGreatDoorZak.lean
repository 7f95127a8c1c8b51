/- The walks over carpetbagmake's int, long; printed by gen/gen_we.py. -/
import Derived.Test.YtdkkpcbebhgbiaaGreatDoorZaj
import Derived.Test.YtdkkpcbebhgbiaaGreatDoorZai
namespace Go.Proofs.YtdkkpcbebhgbiaaGreatDoor
set_option maxRecDepth 100000
open Go.RowKit Go.Maps

/-- What a call with a number does. -/
def CtW (x : Wx) (f : FuncId) (v : Int) (F : Ws → Ws) (B : Nat) : Prop := ∀ (W : World) (D : Int) (t : Ws) (M : Nat), WrS x W D t → t.sz M → M ≤ B →
  Calls Tryz.prog f #[.pointer (some ⟨x.g, 0, none⟩), .int .i64 v] W fun e w' => e = .returned (.tuple #[]) ∧ WrS x w' D (F t) ∧ Fr x W w'
theorem u8_of_tab (l : List UInt8) (k : Nat) (h : k < l.length) : (l.map B8).toArray[k]? = some (B8 (l.getD k 0)) := by
  simp [List.getD_eq_getElem?_getD, List.getElem?_eq_getElem h]

set_option maxHeartbeats 4000000 in
theorem int_leaf (x : Wx) (w : World) (D : Int) (s : Ws) (N : Nat) (I L : Ws → Ws) (v0 : Int) (hv0 : v0 ≤ 0) (hv1 : -10 ≤ v0) (h : WrS x w D s) (hz : s.sz N) (hN : N ≤ 15900000) :
    Calls Tryz.prog 125 #[.pointer (some ⟨x.g, 0, none⟩), .int .i64 v0] w fun e w' => e = .returned (.tuple #[]) ∧ WrS x w' D (stepI x.xs false I L s) ∧ Fr x w w' := by
  obtain ⟨w0, rfl⟩ : ∃ w0, w0 = w := ⟨_, rfl⟩
  have HW0 := Lib.hid h
  have HO0 : Hid (Fr x w0 w0) := Lib.hid (Fr.refl x w0)
  have HZ0 := Lib.hid hz
  obtain ⟨FS, hFS⟩ : ∃ FS, stepI x.xs false I L s = FS := ⟨_, rfl⟩
  have HFS := Lib.hid hFS
  rw [hFS]
  clear h hz hFS
  obtain ⟨Cp, ncp, ccp, Tp, ntp, ctp, Mp, nmp, cmp, lmp, hD⟩ := HW0.out
  have c5 : w0.cell? ⟨x.g, 5, none⟩ = some (.int .i64 s.bud) := hD.blk.cell 5
  have c0 : w0.cell? ⟨x.g, 0, none⟩ = some (.pointer (some ⟨x.tp, 0, none⟩)) := hD.blk.cell 0
  have f5 := hD.blk.frozen 5
  have hgl := hD.blk.lt
  obtain ⟨hP, hF⟩ := hD.paid_
  obtain ⟨w1, hw1⟩ : ∃ W, w0.setCell ⟨x.g, 5, none⟩ (.int .i64 (wrap64 (s.bud - 1))) = W := ⟨_, rfl⟩
  rw [hw1] at hP hF
  have HW1 : Hid (WrS x w1 D s.paid) := Lib.hid ⟨Cp, ncp, ccp, Tp, ntp, ctp, Mp, nmp, cmp, lmp, hP⟩
  have HO1 := Lib.hid hF
  have HZ1 : Hid (s.paid.sz N) := Lib.hid (Ws.sz_paid HZ0.out)
  have HWW := Lib.hid hw1
  clear hD hP hF hw1
  go_enter Tryz.func125, Tryz.ntmps125
  go_wp2_with fail
  rw [HWW.out]
  clear c5 c0 f5
  refine (next_s x _ _ _ 16 _ HW1.out (by omega) (by omega) rfl).mono ?_
  rintro e w2 ⟨rfl, h, ho⟩
  have HW2 := Lib.hid h
  have HO2 : Hid (Fr x w0 w2) := Lib.hid (HO1.out.trans ho)
  have HZ2 : Hid ((s.paid.nx x.xs).sz N) := Lib.hid (Ws.sz_nx x.xs HZ1.out)
  clear h ho
  obtain ⟨v, hv⟩ : ∃ v, nxV x.xs 16 s.paid.at_ = v := ⟨_, rfl⟩
  have bv : v < 16 := by rw [← hv]; exact nxV_lt (by omega)
  rw [hv]
  have HVv : Hid (nxV x.xs 16 s.at_ = v) := Lib.hid hv
  clear hv
  have c5 : w2.cell? ⟨x.g, 5, none⟩ = some (.int .i64 s.paid.bud) := by
    obtain ⟨C, nc, cc, T, nt, ct, M, nm, cm, lm, hD⟩ := HW2.out
    exact hD.blk.cell 5
  have hcs : v = 0 ∨ v = 1 ∨ v = 2 ∨ v = 3 ∨ v = 4 ∨ v = 5 ∨ v = 6 ∨ v = 7 ∨ v = 8 ∨ v = 9 ∨ v = 10 ∨ v = 11 ∨ v = 12 ∨ v = 13 ∨ v = 14 ∨ v = 15 := by omega
  clear bv
  rcases hcs with rfl | rfl | rfl | rfl | rfl | rfl | rfl | rfl | rfl | rfl | rfl | rfl | rfl | rfl | rfl | rfl
  · have t2 := HW2.out.t
    go_wp2_with fail
    refine (next_s x _ _ _ 3 _ HW2.out (by omega) (by omega) rfl).mono ?_
    rintro e w3 ⟨rfl, h, ho⟩
    have HW3 := Lib.hid h
    have HO3 : Hid (Fr x w0 w3) := Lib.hid (HO2.out.trans ho)
    have HZ3 : Hid ((((s.paid.nx x.xs)).nx x.xs).sz N) := Lib.hid ((Ws.sz_nx x.xs HZ2.out).more (by omega))
    clear h ho
    obtain ⟨a, ha⟩ : ∃ a, nxV x.xs 3 ((s.paid.nx x.xs)).at_ = a := ⟨_, rfl⟩
    have ba : a < 3 := by rw [← ha]; exact nxV_lt (by omega)
    rw [ha]
    have HVa := Lib.hid ha
    clear ha t2
    go_wp2_with fail
    refine (op_v x _ _ _ N 21 _ _ (by first | rfl | decide | assumption) HW3.out HZ3.out (by omega)).mono ?_
    rintro e w4 ⟨rfl, h, ho⟩
    have HW4 := Lib.hid h
    have HO4 : Hid (Fr x w0 w4) := Lib.hid (HO3.out.trans ho)
    have HZ4 : Hid (((((s.paid.nx x.xs)).nx x.xs).op 21 a).sz (N + 1)) := Lib.hid ((Ws.sz_op _ _ HZ3.out).more (by omega))
    clear h ho
    have HE : Hid (FS = (((s.paid.nx x.xs)).nx x.xs).op 21 a) := Lib.hid (by rw [← HFS.out]; unfold stepI; simp [HVv.out, leafI, HVa.out])
    go_wp2
    go_end0
    rw [HE.out]
    exact ⟨rfl, HW4.out, HO4.out⟩
  · have t2 := HW2.out.t
    go_wp2_with fail
    refine (next_s x _ _ _ 3 _ HW2.out (by omega) (by omega) rfl).mono ?_
    rintro e w3 ⟨rfl, h, ho⟩
    have HW3 := Lib.hid h
    have HO3 : Hid (Fr x w0 w3) := Lib.hid (HO2.out.trans ho)
    have HZ3 : Hid ((((s.paid.nx x.xs)).nx x.xs).sz N) := Lib.hid ((Ws.sz_nx x.xs HZ2.out).more (by omega))
    clear h ho
    obtain ⟨a, ha⟩ : ∃ a, nxV x.xs 3 ((s.paid.nx x.xs)).at_ = a := ⟨_, rfl⟩
    have ba : a < 3 := by rw [← ha]; exact nxV_lt (by omega)
    rw [ha]
    have HVa := Lib.hid ha
    clear ha t2
    go_wp2_with fail
    refine (op_v x _ _ _ N 21 _ _ (by first | rfl | decide | assumption) HW3.out HZ3.out (by omega)).mono ?_
    rintro e w4 ⟨rfl, h, ho⟩
    have HW4 := Lib.hid h
    have HO4 : Hid (Fr x w0 w4) := Lib.hid (HO3.out.trans ho)
    have HZ4 : Hid (((((s.paid.nx x.xs)).nx x.xs).op 21 a).sz (N + 1)) := Lib.hid ((Ws.sz_op _ _ HZ3.out).more (by omega))
    clear h ho
    have HE : Hid (FS = (((s.paid.nx x.xs)).nx x.xs).op 21 a) := Lib.hid (by rw [← HFS.out]; unfold stepI; simp [HVv.out, leafI, HVa.out])
    go_wp2
    go_end0
    rw [HE.out]
    exact ⟨rfl, HW4.out, HO4.out⟩
  · have t2 := HW2.out.t
    go_wp2_with fail
    refine (next_s x _ _ _ 256 _ HW2.out (by omega) (by omega) rfl).mono ?_
    rintro e w3 ⟨rfl, h, ho⟩
    have HW3 := Lib.hid h
    have HO3 : Hid (Fr x w0 w3) := Lib.hid (HO2.out.trans ho)
    have HZ3 : Hid ((((s.paid.nx x.xs)).nx x.xs).sz N) := Lib.hid ((Ws.sz_nx x.xs HZ2.out).more (by omega))
    clear h ho
    obtain ⟨a, ha⟩ : ∃ a, nxV x.xs 256 ((s.paid.nx x.xs)).at_ = a := ⟨_, rfl⟩
    have ba : a < 256 := by rw [← ha]; exact nxV_lt (by omega)
    rw [ha]
    have HVa := Lib.hid ha
    clear ha t2
    go_wp2_with fail
    refine (number_s x _ _ _ N ((a : Int) - 100) (by omega) HW3.out HZ3.out (by omega)).mono ?_
    rintro e w4 ⟨rfl, h, ho⟩
    have HW4 := Lib.hid h
    have HO4 : Hid (Fr x w0 w4) := Lib.hid (HO3.out.trans ho)
    have HZ4 : Hid (((((s.paid.nx x.xs)).nx x.xs).push (numI ((a : Int) - 100))).sz (N + 1)) := Lib.hid ((Ws.sz_push _ HZ3.out).more (by omega))
    clear h ho
    have HE : Hid (FS = (((s.paid.nx x.xs)).nx x.xs).push (numI ((a : Int) - 100))) := Lib.hid (by rw [← HFS.out]; unfold stepI; simp [HVv.out, leafI, HVa.out])
    go_wp2
    go_end0
    rw [HE.out]
    exact ⟨rfl, HW4.out, HO4.out⟩
  · go_wp2_with fail
    refine (name_v x _ _ _ N 178 _ sMain [115] [73] _ _ _ rfl rfl rfl rfl HW2.out HZ2.out (by omega)).mono ?_
    rintro e w3 ⟨rfl, h, ho⟩
    have HW3 := Lib.hid h
    have HO3 : Hid (Fr x w0 w3) := Lib.hid (HO2.out.trans ho)
    have HZ3 : Hid ((((s.paid.nx x.xs)).name 178 sMain [115] [73]).sz (N + 1)) := Lib.hid ((Ws.sz_name _ _ _ _ HZ2.out).more (by omega))
    clear h ho
    have HE : Hid (FS = ((s.paid.nx x.xs)).name 178 sMain [115] [73]) := Lib.hid (by rw [← HFS.out]; unfold stepI; simp [HVv.out, leafI])
    go_wp2
    go_end0
    rw [HE.out]
    exact ⟨rfl, HW3.out, HO3.out⟩
  · have t2 := HW2.out.t
    go_wp2_with fail
    refine (next_s x _ _ _ 3 _ HW2.out (by omega) (by omega) rfl).mono ?_
    rintro e w3 ⟨rfl, h, ho⟩
    have HW3 := Lib.hid h
    have HO3 : Hid (Fr x w0 w3) := Lib.hid (HO2.out.trans ho)
    have HZ3 : Hid ((((s.paid.nx x.xs)).nx x.xs).sz N) := Lib.hid ((Ws.sz_nx x.xs HZ2.out).more (by omega))
    clear h ho
    obtain ⟨a, ha⟩ : ∃ a, nxV x.xs 3 ((s.paid.nx x.xs)).at_ = a := ⟨_, rfl⟩
    have ba : a < 3 := by rw [← ha]; exact nxV_lt (by omega)
    rw [ha]
    have HVa := Lib.hid ha
    clear ha t2
    go_wp2_with fail
    refine (op_v x _ _ _ N 21 _ _ (by first | rfl | decide | assumption) HW3.out HZ3.out (by omega)).mono ?_
    rintro e w4 ⟨rfl, h, ho⟩
    have HW4 := Lib.hid h
    have HO4 : Hid (Fr x w0 w4) := Lib.hid (HO3.out.trans ho)
    have HZ4 : Hid (((((s.paid.nx x.xs)).nx x.xs).op 21 a).sz (N + 1)) := Lib.hid ((Ws.sz_op _ _ HZ3.out).more (by omega))
    clear h ho
    have HE : Hid (FS = (((s.paid.nx x.xs)).nx x.xs).op 21 a) := Lib.hid (by rw [← HFS.out]; unfold stepI; simp [HVv.out, leafI, HVa.out])
    go_wp2
    go_end0
    rw [HE.out]
    exact ⟨rfl, HW4.out, HO4.out⟩
  · have t2 := HW2.out.t
    go_wp2_with fail
    refine (next_s x _ _ _ 3 _ HW2.out (by omega) (by omega) rfl).mono ?_
    rintro e w3 ⟨rfl, h, ho⟩
    have HW3 := Lib.hid h
    have HO3 : Hid (Fr x w0 w3) := Lib.hid (HO2.out.trans ho)
    have HZ3 : Hid ((((s.paid.nx x.xs)).nx x.xs).sz N) := Lib.hid ((Ws.sz_nx x.xs HZ2.out).more (by omega))
    clear h ho
    obtain ⟨a, ha⟩ : ∃ a, nxV x.xs 3 ((s.paid.nx x.xs)).at_ = a := ⟨_, rfl⟩
    have ba : a < 3 := by rw [← ha]; exact nxV_lt (by omega)
    rw [ha]
    have HVa := Lib.hid ha
    clear ha t2
    go_wp2_with fail
    refine (op_v x _ _ _ N 21 _ _ (by first | rfl | decide | assumption) HW3.out HZ3.out (by omega)).mono ?_
    rintro e w4 ⟨rfl, h, ho⟩
    have HW4 := Lib.hid h
    have HO4 : Hid (Fr x w0 w4) := Lib.hid (HO3.out.trans ho)
    have HZ4 : Hid (((((s.paid.nx x.xs)).nx x.xs).op 21 a).sz (N + 1)) := Lib.hid ((Ws.sz_op _ _ HZ3.out).more (by omega))
    clear h ho
    have HE : Hid (FS = (((s.paid.nx x.xs)).nx x.xs).op 21 a) := Lib.hid (by rw [← HFS.out]; unfold stepI; simp [HVv.out, leafI, HVa.out])
    go_wp2
    go_end0
    rw [HE.out]
    exact ⟨rfl, HW4.out, HO4.out⟩
  · have t2 := HW2.out.t
    go_wp2_with fail
    refine (next_s x _ _ _ 256 _ HW2.out (by omega) (by omega) rfl).mono ?_
    rintro e w3 ⟨rfl, h, ho⟩
    have HW3 := Lib.hid h
    have HO3 : Hid (Fr x w0 w3) := Lib.hid (HO2.out.trans ho)
    have HZ3 : Hid ((((s.paid.nx x.xs)).nx x.xs).sz N) := Lib.hid ((Ws.sz_nx x.xs HZ2.out).more (by omega))
    clear h ho
    obtain ⟨a, ha⟩ : ∃ a, nxV x.xs 256 ((s.paid.nx x.xs)).at_ = a := ⟨_, rfl⟩
    have ba : a < 256 := by rw [← ha]; exact nxV_lt (by omega)
    rw [ha]
    have HVa := Lib.hid ha
    clear ha t2
    go_wp2_with fail
    refine (number_s x _ _ _ N ((a : Int) - 100) (by omega) HW3.out HZ3.out (by omega)).mono ?_
    rintro e w4 ⟨rfl, h, ho⟩
    have HW4 := Lib.hid h
    have HO4 : Hid (Fr x w0 w4) := Lib.hid (HO3.out.trans ho)
    have HZ4 : Hid (((((s.paid.nx x.xs)).nx x.xs).push (numI ((a : Int) - 100))).sz (N + 1)) := Lib.hid ((Ws.sz_push _ HZ3.out).more (by omega))
    clear h ho
    have HE : Hid (FS = (((s.paid.nx x.xs)).nx x.xs).push (numI ((a : Int) - 100))) := Lib.hid (by rw [← HFS.out]; unfold stepI; simp [HVv.out, leafI, HVa.out])
    go_wp2
    go_end0
    rw [HE.out]
    exact ⟨rfl, HW4.out, HO4.out⟩
  · go_wp2_with fail
    refine (name_v x _ _ _ N 178 _ sMain [115] [73] _ _ _ rfl rfl rfl rfl HW2.out HZ2.out (by omega)).mono ?_
    rintro e w3 ⟨rfl, h, ho⟩
    have HW3 := Lib.hid h
    have HO3 : Hid (Fr x w0 w3) := Lib.hid (HO2.out.trans ho)
    have HZ3 : Hid ((((s.paid.nx x.xs)).name 178 sMain [115] [73]).sz (N + 1)) := Lib.hid ((Ws.sz_name _ _ _ _ HZ2.out).more (by omega))
    clear h ho
    have HE : Hid (FS = ((s.paid.nx x.xs)).name 178 sMain [115] [73]) := Lib.hid (by rw [← HFS.out]; unfold stepI; simp [HVv.out, leafI])
    go_wp2
    go_end0
    rw [HE.out]
    exact ⟨rfl, HW3.out, HO3.out⟩
  · have t2 := HW2.out.t
    go_wp2_with fail
    refine (next_s x _ _ _ 3 _ HW2.out (by omega) (by omega) rfl).mono ?_
    rintro e w3 ⟨rfl, h, ho⟩
    have HW3 := Lib.hid h
    have HO3 : Hid (Fr x w0 w3) := Lib.hid (HO2.out.trans ho)
    have HZ3 : Hid ((((s.paid.nx x.xs)).nx x.xs).sz N) := Lib.hid ((Ws.sz_nx x.xs HZ2.out).more (by omega))
    clear h ho
    obtain ⟨a, ha⟩ : ∃ a, nxV x.xs 3 ((s.paid.nx x.xs)).at_ = a := ⟨_, rfl⟩
    have ba : a < 3 := by rw [← ha]; exact nxV_lt (by omega)
    rw [ha]
    have HVa := Lib.hid ha
    clear ha t2
    go_wp2_with fail
    refine (op_v x _ _ _ N 21 _ _ (by first | rfl | decide | assumption) HW3.out HZ3.out (by omega)).mono ?_
    rintro e w4 ⟨rfl, h, ho⟩
    have HW4 := Lib.hid h
    have HO4 : Hid (Fr x w0 w4) := Lib.hid (HO3.out.trans ho)
    have HZ4 : Hid (((((s.paid.nx x.xs)).nx x.xs).op 21 a).sz (N + 1)) := Lib.hid ((Ws.sz_op _ _ HZ3.out).more (by omega))
    clear h ho
    have HE : Hid (FS = (((s.paid.nx x.xs)).nx x.xs).op 21 a) := Lib.hid (by rw [← HFS.out]; unfold stepI; simp [HVv.out, leafI, HVa.out])
    go_wp2
    go_end0
    rw [HE.out]
    exact ⟨rfl, HW4.out, HO4.out⟩
  · have t2 := HW2.out.t
    go_wp2_with fail
    refine (next_s x _ _ _ 3 _ HW2.out (by omega) (by omega) rfl).mono ?_
    rintro e w3 ⟨rfl, h, ho⟩
    have HW3 := Lib.hid h
    have HO3 : Hid (Fr x w0 w3) := Lib.hid (HO2.out.trans ho)
    have HZ3 : Hid ((((s.paid.nx x.xs)).nx x.xs).sz N) := Lib.hid ((Ws.sz_nx x.xs HZ2.out).more (by omega))
    clear h ho
    obtain ⟨a, ha⟩ : ∃ a, nxV x.xs 3 ((s.paid.nx x.xs)).at_ = a := ⟨_, rfl⟩
    have ba : a < 3 := by rw [← ha]; exact nxV_lt (by omega)
    rw [ha]
    have HVa := Lib.hid ha
    clear ha t2
    go_wp2_with fail
    refine (op_v x _ _ _ N 21 _ _ (by first | rfl | decide | assumption) HW3.out HZ3.out (by omega)).mono ?_
    rintro e w4 ⟨rfl, h, ho⟩
    have HW4 := Lib.hid h
    have HO4 : Hid (Fr x w0 w4) := Lib.hid (HO3.out.trans ho)
    have HZ4 : Hid (((((s.paid.nx x.xs)).nx x.xs).op 21 a).sz (N + 1)) := Lib.hid ((Ws.sz_op _ _ HZ3.out).more (by omega))
    clear h ho
    have HE : Hid (FS = (((s.paid.nx x.xs)).nx x.xs).op 21 a) := Lib.hid (by rw [← HFS.out]; unfold stepI; simp [HVv.out, leafI, HVa.out])
    go_wp2
    go_end0
    rw [HE.out]
    exact ⟨rfl, HW4.out, HO4.out⟩
  · have t2 := HW2.out.t
    go_wp2_with fail
    refine (next_s x _ _ _ 256 _ HW2.out (by omega) (by omega) rfl).mono ?_
    rintro e w3 ⟨rfl, h, ho⟩
    have HW3 := Lib.hid h
    have HO3 : Hid (Fr x w0 w3) := Lib.hid (HO2.out.trans ho)
    have HZ3 : Hid ((((s.paid.nx x.xs)).nx x.xs).sz N) := Lib.hid ((Ws.sz_nx x.xs HZ2.out).more (by omega))
    clear h ho
    obtain ⟨a, ha⟩ : ∃ a, nxV x.xs 256 ((s.paid.nx x.xs)).at_ = a := ⟨_, rfl⟩
    have ba : a < 256 := by rw [← ha]; exact nxV_lt (by omega)
    rw [ha]
    have HVa := Lib.hid ha
    clear ha t2
    go_wp2_with fail
    refine (number_s x _ _ _ N ((a : Int) - 100) (by omega) HW3.out HZ3.out (by omega)).mono ?_
    rintro e w4 ⟨rfl, h, ho⟩
    have HW4 := Lib.hid h
    have HO4 : Hid (Fr x w0 w4) := Lib.hid (HO3.out.trans ho)
    have HZ4 : Hid (((((s.paid.nx x.xs)).nx x.xs).push (numI ((a : Int) - 100))).sz (N + 1)) := Lib.hid ((Ws.sz_push _ HZ3.out).more (by omega))
    clear h ho
    have HE : Hid (FS = (((s.paid.nx x.xs)).nx x.xs).push (numI ((a : Int) - 100))) := Lib.hid (by rw [← HFS.out]; unfold stepI; simp [HVv.out, leafI, HVa.out])
    go_wp2
    go_end0
    rw [HE.out]
    exact ⟨rfl, HW4.out, HO4.out⟩
  · go_wp2_with fail
    refine (name_v x _ _ _ N 178 _ sMain [115] [73] _ _ _ rfl rfl rfl rfl HW2.out HZ2.out (by omega)).mono ?_
    rintro e w3 ⟨rfl, h, ho⟩
    have HW3 := Lib.hid h
    have HO3 : Hid (Fr x w0 w3) := Lib.hid (HO2.out.trans ho)
    have HZ3 : Hid ((((s.paid.nx x.xs)).name 178 sMain [115] [73]).sz (N + 1)) := Lib.hid ((Ws.sz_name _ _ _ _ HZ2.out).more (by omega))
    clear h ho
    have HE : Hid (FS = ((s.paid.nx x.xs)).name 178 sMain [115] [73]) := Lib.hid (by rw [← HFS.out]; unfold stepI; simp [HVv.out, leafI])
    go_wp2
    go_end0
    rw [HE.out]
    exact ⟨rfl, HW3.out, HO3.out⟩
  · have t2 := HW2.out.t
    go_wp2_with fail
    refine (next_s x _ _ _ 3 _ HW2.out (by omega) (by omega) rfl).mono ?_
    rintro e w3 ⟨rfl, h, ho⟩
    have HW3 := Lib.hid h
    have HO3 : Hid (Fr x w0 w3) := Lib.hid (HO2.out.trans ho)
    have HZ3 : Hid ((((s.paid.nx x.xs)).nx x.xs).sz N) := Lib.hid ((Ws.sz_nx x.xs HZ2.out).more (by omega))
    clear h ho
    obtain ⟨a, ha⟩ : ∃ a, nxV x.xs 3 ((s.paid.nx x.xs)).at_ = a := ⟨_, rfl⟩
    have ba : a < 3 := by rw [← ha]; exact nxV_lt (by omega)
    rw [ha]
    have HVa := Lib.hid ha
    clear ha t2
    go_wp2_with fail
    refine (op_v x _ _ _ N 21 _ _ (by first | rfl | decide | assumption) HW3.out HZ3.out (by omega)).mono ?_
    rintro e w4 ⟨rfl, h, ho⟩
    have HW4 := Lib.hid h
    have HO4 : Hid (Fr x w0 w4) := Lib.hid (HO3.out.trans ho)
    have HZ4 : Hid (((((s.paid.nx x.xs)).nx x.xs).op 21 a).sz (N + 1)) := Lib.hid ((Ws.sz_op _ _ HZ3.out).more (by omega))
    clear h ho
    have HE : Hid (FS = (((s.paid.nx x.xs)).nx x.xs).op 21 a) := Lib.hid (by rw [← HFS.out]; unfold stepI; simp [HVv.out, leafI, HVa.out])
    go_wp2
    go_end0
    rw [HE.out]
    exact ⟨rfl, HW4.out, HO4.out⟩
  · have t2 := HW2.out.t
    go_wp2_with fail
    refine (next_s x _ _ _ 3 _ HW2.out (by omega) (by omega) rfl).mono ?_
    rintro e w3 ⟨rfl, h, ho⟩
    have HW3 := Lib.hid h
    have HO3 : Hid (Fr x w0 w3) := Lib.hid (HO2.out.trans ho)
    have HZ3 : Hid ((((s.paid.nx x.xs)).nx x.xs).sz N) := Lib.hid ((Ws.sz_nx x.xs HZ2.out).more (by omega))
    clear h ho
    obtain ⟨a, ha⟩ : ∃ a, nxV x.xs 3 ((s.paid.nx x.xs)).at_ = a := ⟨_, rfl⟩
    have ba : a < 3 := by rw [← ha]; exact nxV_lt (by omega)
    rw [ha]
    have HVa := Lib.hid ha
    clear ha t2
    go_wp2_with fail
    refine (op_v x _ _ _ N 21 _ _ (by first | rfl | decide | assumption) HW3.out HZ3.out (by omega)).mono ?_
    rintro e w4 ⟨rfl, h, ho⟩
    have HW4 := Lib.hid h
    have HO4 : Hid (Fr x w0 w4) := Lib.hid (HO3.out.trans ho)
    have HZ4 : Hid (((((s.paid.nx x.xs)).nx x.xs).op 21 a).sz (N + 1)) := Lib.hid ((Ws.sz_op _ _ HZ3.out).more (by omega))
    clear h ho
    have HE : Hid (FS = (((s.paid.nx x.xs)).nx x.xs).op 21 a) := Lib.hid (by rw [← HFS.out]; unfold stepI; simp [HVv.out, leafI, HVa.out])
    go_wp2
    go_end0
    rw [HE.out]
    exact ⟨rfl, HW4.out, HO4.out⟩
  · have t2 := HW2.out.t
    go_wp2_with fail
    refine (next_s x _ _ _ 256 _ HW2.out (by omega) (by omega) rfl).mono ?_
    rintro e w3 ⟨rfl, h, ho⟩
    have HW3 := Lib.hid h
    have HO3 : Hid (Fr x w0 w3) := Lib.hid (HO2.out.trans ho)
    have HZ3 : Hid ((((s.paid.nx x.xs)).nx x.xs).sz N) := Lib.hid ((Ws.sz_nx x.xs HZ2.out).more (by omega))
    clear h ho
    obtain ⟨a, ha⟩ : ∃ a, nxV x.xs 256 ((s.paid.nx x.xs)).at_ = a := ⟨_, rfl⟩
    have ba : a < 256 := by rw [← ha]; exact nxV_lt (by omega)
    rw [ha]
    have HVa := Lib.hid ha
    clear ha t2
    go_wp2_with fail
    refine (number_s x _ _ _ N ((a : Int) - 100) (by omega) HW3.out HZ3.out (by omega)).mono ?_
    rintro e w4 ⟨rfl, h, ho⟩
    have HW4 := Lib.hid h
    have HO4 : Hid (Fr x w0 w4) := Lib.hid (HO3.out.trans ho)
    have HZ4 : Hid (((((s.paid.nx x.xs)).nx x.xs).push (numI ((a : Int) - 100))).sz (N + 1)) := Lib.hid ((Ws.sz_push _ HZ3.out).more (by omega))
    clear h ho
    have HE : Hid (FS = (((s.paid.nx x.xs)).nx x.xs).push (numI ((a : Int) - 100))) := Lib.hid (by rw [← HFS.out]; unfold stepI; simp [HVv.out, leafI, HVa.out])
    go_wp2
    go_end0
    rw [HE.out]
    exact ⟨rfl, HW4.out, HO4.out⟩
  · go_wp2_with fail
    refine (name_v x _ _ _ N 178 _ sMain [115] [73] _ _ _ rfl rfl rfl rfl HW2.out HZ2.out (by omega)).mono ?_
    rintro e w3 ⟨rfl, h, ho⟩
    have HW3 := Lib.hid h
    have HO3 : Hid (Fr x w0 w3) := Lib.hid (HO2.out.trans ho)
    have HZ3 : Hid ((((s.paid.nx x.xs)).name 178 sMain [115] [73]).sz (N + 1)) := Lib.hid ((Ws.sz_name _ _ _ _ HZ2.out).more (by omega))
    clear h ho
    have HE : Hid (FS = ((s.paid.nx x.xs)).name 178 sMain [115] [73]) := Lib.hid (by rw [← HFS.out]; unfold stepI; simp [HVv.out, leafI])
    go_wp2
    go_end0
    rw [HE.out]
    exact ⟨rfl, HW3.out, HO3.out⟩

set_option maxHeartbeats 4000000 in
theorem int_deep (x : Wx) (w : World) (D : Int) (s : Ws) (N : Nat) (I L : Ws → Ws) (v0 : Int) (hv0 : 0 < v0) (hv1 : v0 ≤ 2) (c B : Nat) (hc : c ≤ 18) (hI : CtW x 125 (v0 - 1) I B) (hL : CtW x 174 (v0 - 1) L B) (hIa : AddsW I c) (hLa : AddsW L c) (h : WrS x w D s) (hz : s.sz N) (hN : N + 100 ≤ B) (hB : B ≤ 16000000) :
    Calls Tryz.prog 125 #[.pointer (some ⟨x.g, 0, none⟩), .int .i64 v0] w fun e w' => e = .returned (.tuple #[]) ∧ WrS x w' D (stepI x.xs true I L s) ∧ Fr x w w' := by
  obtain ⟨w0, rfl⟩ : ∃ w0, w0 = w := ⟨_, rfl⟩
  have HW0 := Lib.hid h
  have HO0 : Hid (Fr x w0 w0) := Lib.hid (Fr.refl x w0)
  have HZ0 := Lib.hid hz
  obtain ⟨FS, hFS⟩ : ∃ FS, stepI x.xs true I L s = FS := ⟨_, rfl⟩
  have HFS := Lib.hid hFS
  rw [hFS]
  clear h hz hFS
  have HI := Lib.hid hI
  have HL := Lib.hid hL
  have HIa := Lib.hid hIa
  have HLa := Lib.hid hLa
  clear hI hL hIa hLa
  obtain ⟨Cp, ncp, ccp, Tp, ntp, ctp, Mp, nmp, cmp, lmp, hD⟩ := HW0.out
  have c5 : w0.cell? ⟨x.g, 5, none⟩ = some (.int .i64 s.bud) := hD.blk.cell 5
  have c0 : w0.cell? ⟨x.g, 0, none⟩ = some (.pointer (some ⟨x.tp, 0, none⟩)) := hD.blk.cell 0
  have f5 := hD.blk.frozen 5
  have hgl := hD.blk.lt
  obtain ⟨hP, hF⟩ := hD.paid_
  obtain ⟨w1, hw1⟩ : ∃ W, w0.setCell ⟨x.g, 5, none⟩ (.int .i64 (wrap64 (s.bud - 1))) = W := ⟨_, rfl⟩
  rw [hw1] at hP hF
  have HW1 : Hid (WrS x w1 D s.paid) := Lib.hid ⟨Cp, ncp, ccp, Tp, ntp, ctp, Mp, nmp, cmp, lmp, hP⟩
  have HO1 := Lib.hid hF
  have HZ1 : Hid (s.paid.sz N) := Lib.hid (Ws.sz_paid HZ0.out)
  have HWW := Lib.hid hw1
  clear hD hP hF hw1
  go_enter Tryz.func125, Tryz.ntmps125
  go_wp2_with fail
  rw [HWW.out]
  clear c5 c0 f5
  refine (next_s x _ _ _ 16 _ HW1.out (by omega) (by omega) rfl).mono ?_
  rintro e w2 ⟨rfl, h, ho⟩
  have HW2 := Lib.hid h
  have HO2 : Hid (Fr x w0 w2) := Lib.hid (HO1.out.trans ho)
  have HZ2 : Hid ((s.paid.nx x.xs).sz N) := Lib.hid (Ws.sz_nx x.xs HZ1.out)
  clear h ho
  obtain ⟨v, hv⟩ : ∃ v, nxV x.xs 16 s.paid.at_ = v := ⟨_, rfl⟩
  have bv : v < 16 := by rw [← hv]; exact nxV_lt (by omega)
  rw [hv]
  have HVv : Hid (nxV x.xs 16 s.at_ = v) := Lib.hid hv
  clear hv
  have c5 : w2.cell? ⟨x.g, 5, none⟩ = some (.int .i64 s.paid.bud) := by
    obtain ⟨C, nc, cc, T, nt, ct, M, nm, cm, lm, hD⟩ := HW2.out
    exact hD.blk.cell 5
  by_cases hbd : s.paid.bud ≤ 0
  · have HBD := Lib.hid hbd
    have hcs : v = 0 ∨ v = 1 ∨ v = 2 ∨ v = 3 ∨ v = 4 ∨ v = 5 ∨ v = 6 ∨ v = 7 ∨ v = 8 ∨ v = 9 ∨ v = 10 ∨ v = 11 ∨ v = 12 ∨ v = 13 ∨ v = 14 ∨ v = 15 := by omega
    clear bv
    rcases hcs with rfl | rfl | rfl | rfl | rfl | rfl | rfl | rfl | rfl | rfl | rfl | rfl | rfl | rfl | rfl | rfl
    · have t2 := HW2.out.t
      go_wp2_with fail
      refine (next_s x _ _ _ 3 _ HW2.out (by omega) (by omega) rfl).mono ?_
      rintro e w3 ⟨rfl, h, ho⟩
      have HW3 := Lib.hid h
      have HO3 : Hid (Fr x w0 w3) := Lib.hid (HO2.out.trans ho)
      have HZ3 : Hid ((((s.paid.nx x.xs)).nx x.xs).sz N) := Lib.hid ((Ws.sz_nx x.xs HZ2.out).more (by omega))
      clear h ho
      obtain ⟨a, ha⟩ : ∃ a, nxV x.xs 3 ((s.paid.nx x.xs)).at_ = a := ⟨_, rfl⟩
      have ba : a < 3 := by rw [← ha]; exact nxV_lt (by omega)
      rw [ha]
      have HVa := Lib.hid ha
      clear ha t2
      go_wp2_with fail
      refine (op_v x _ _ _ N 21 _ _ (by first | rfl | decide | assumption) HW3.out HZ3.out (by omega)).mono ?_
      rintro e w4 ⟨rfl, h, ho⟩
      have HW4 := Lib.hid h
      have HO4 : Hid (Fr x w0 w4) := Lib.hid (HO3.out.trans ho)
      have HZ4 : Hid (((((s.paid.nx x.xs)).nx x.xs).op 21 a).sz (N + 1)) := Lib.hid ((Ws.sz_op _ _ HZ3.out).more (by omega))
      clear h ho
      have HE : Hid (FS = (((s.paid.nx x.xs)).nx x.xs).op 21 a) := Lib.hid (by rw [← HFS.out]; unfold stepI; simp [HVv.out, leafI, HBD.out, HVa.out])
      go_wp2
      go_end0
      rw [HE.out]
      exact ⟨rfl, HW4.out, HO4.out⟩
    · have t2 := HW2.out.t
      go_wp2_with fail
      refine (next_s x _ _ _ 3 _ HW2.out (by omega) (by omega) rfl).mono ?_
      rintro e w3 ⟨rfl, h, ho⟩
      have HW3 := Lib.hid h
      have HO3 : Hid (Fr x w0 w3) := Lib.hid (HO2.out.trans ho)
      have HZ3 : Hid ((((s.paid.nx x.xs)).nx x.xs).sz N) := Lib.hid ((Ws.sz_nx x.xs HZ2.out).more (by omega))
      clear h ho
      obtain ⟨a, ha⟩ : ∃ a, nxV x.xs 3 ((s.paid.nx x.xs)).at_ = a := ⟨_, rfl⟩
      have ba : a < 3 := by rw [← ha]; exact nxV_lt (by omega)
      rw [ha]
      have HVa := Lib.hid ha
      clear ha t2
      go_wp2_with fail
      refine (op_v x _ _ _ N 21 _ _ (by first | rfl | decide | assumption) HW3.out HZ3.out (by omega)).mono ?_
      rintro e w4 ⟨rfl, h, ho⟩
      have HW4 := Lib.hid h
      have HO4 : Hid (Fr x w0 w4) := Lib.hid (HO3.out.trans ho)
      have HZ4 : Hid (((((s.paid.nx x.xs)).nx x.xs).op 21 a).sz (N + 1)) := Lib.hid ((Ws.sz_op _ _ HZ3.out).more (by omega))
      clear h ho
      have HE : Hid (FS = (((s.paid.nx x.xs)).nx x.xs).op 21 a) := Lib.hid (by rw [← HFS.out]; unfold stepI; simp [HVv.out, leafI, HBD.out, HVa.out])
      go_wp2
      go_end0
      rw [HE.out]
      exact ⟨rfl, HW4.out, HO4.out⟩
    · have t2 := HW2.out.t
      go_wp2_with fail
      refine (next_s x _ _ _ 256 _ HW2.out (by omega) (by omega) rfl).mono ?_
      rintro e w3 ⟨rfl, h, ho⟩
      have HW3 := Lib.hid h
      have HO3 : Hid (Fr x w0 w3) := Lib.hid (HO2.out.trans ho)
      have HZ3 : Hid ((((s.paid.nx x.xs)).nx x.xs).sz N) := Lib.hid ((Ws.sz_nx x.xs HZ2.out).more (by omega))
      clear h ho
      obtain ⟨a, ha⟩ : ∃ a, nxV x.xs 256 ((s.paid.nx x.xs)).at_ = a := ⟨_, rfl⟩
      have ba : a < 256 := by rw [← ha]; exact nxV_lt (by omega)
      rw [ha]
      have HVa := Lib.hid ha
      clear ha t2
      go_wp2_with fail
      refine (number_s x _ _ _ N ((a : Int) - 100) (by omega) HW3.out HZ3.out (by omega)).mono ?_
      rintro e w4 ⟨rfl, h, ho⟩
      have HW4 := Lib.hid h
      have HO4 : Hid (Fr x w0 w4) := Lib.hid (HO3.out.trans ho)
      have HZ4 : Hid (((((s.paid.nx x.xs)).nx x.xs).push (numI ((a : Int) - 100))).sz (N + 1)) := Lib.hid ((Ws.sz_push _ HZ3.out).more (by omega))
      clear h ho
      have HE : Hid (FS = (((s.paid.nx x.xs)).nx x.xs).push (numI ((a : Int) - 100))) := Lib.hid (by rw [← HFS.out]; unfold stepI; simp [HVv.out, leafI, HBD.out, HVa.out])
      go_wp2
      go_end0
      rw [HE.out]
      exact ⟨rfl, HW4.out, HO4.out⟩
    · go_wp2_with fail
      refine (name_v x _ _ _ N 178 _ sMain [115] [73] _ _ _ rfl rfl rfl rfl HW2.out HZ2.out (by omega)).mono ?_
      rintro e w3 ⟨rfl, h, ho⟩
      have HW3 := Lib.hid h
      have HO3 : Hid (Fr x w0 w3) := Lib.hid (HO2.out.trans ho)
      have HZ3 : Hid ((((s.paid.nx x.xs)).name 178 sMain [115] [73]).sz (N + 1)) := Lib.hid ((Ws.sz_name _ _ _ _ HZ2.out).more (by omega))
      clear h ho
      have HE : Hid (FS = ((s.paid.nx x.xs)).name 178 sMain [115] [73]) := Lib.hid (by rw [← HFS.out]; unfold stepI; simp [HVv.out, leafI, HBD.out])
      go_wp2
      go_end0
      rw [HE.out]
      exact ⟨rfl, HW3.out, HO3.out⟩
    · have t2 := HW2.out.t
      go_wp2_with fail
      refine (next_s x _ _ _ 3 _ HW2.out (by omega) (by omega) rfl).mono ?_
      rintro e w3 ⟨rfl, h, ho⟩
      have HW3 := Lib.hid h
      have HO3 : Hid (Fr x w0 w3) := Lib.hid (HO2.out.trans ho)
      have HZ3 : Hid ((((s.paid.nx x.xs)).nx x.xs).sz N) := Lib.hid ((Ws.sz_nx x.xs HZ2.out).more (by omega))
      clear h ho
      obtain ⟨a, ha⟩ : ∃ a, nxV x.xs 3 ((s.paid.nx x.xs)).at_ = a := ⟨_, rfl⟩
      have ba : a < 3 := by rw [← ha]; exact nxV_lt (by omega)
      rw [ha]
      have HVa := Lib.hid ha
      clear ha t2
      go_wp2_with fail
      refine (op_v x _ _ _ N 21 _ _ (by first | rfl | decide | assumption) HW3.out HZ3.out (by omega)).mono ?_
      rintro e w4 ⟨rfl, h, ho⟩
      have HW4 := Lib.hid h
      have HO4 : Hid (Fr x w0 w4) := Lib.hid (HO3.out.trans ho)
      have HZ4 : Hid (((((s.paid.nx x.xs)).nx x.xs).op 21 a).sz (N + 1)) := Lib.hid ((Ws.sz_op _ _ HZ3.out).more (by omega))
      clear h ho
      have HE : Hid (FS = (((s.paid.nx x.xs)).nx x.xs).op 21 a) := Lib.hid (by rw [← HFS.out]; unfold stepI; simp [HVv.out, leafI, HBD.out, HVa.out])
      go_wp2
      go_end0
      rw [HE.out]
      exact ⟨rfl, HW4.out, HO4.out⟩
    · have t2 := HW2.out.t
      go_wp2_with fail
      refine (next_s x _ _ _ 3 _ HW2.out (by omega) (by omega) rfl).mono ?_
      rintro e w3 ⟨rfl, h, ho⟩
      have HW3 := Lib.hid h
      have HO3 : Hid (Fr x w0 w3) := Lib.hid (HO2.out.trans ho)
      have HZ3 : Hid ((((s.paid.nx x.xs)).nx x.xs).sz N) := Lib.hid ((Ws.sz_nx x.xs HZ2.out).more (by omega))
      clear h ho
      obtain ⟨a, ha⟩ : ∃ a, nxV x.xs 3 ((s.paid.nx x.xs)).at_ = a := ⟨_, rfl⟩
      have ba : a < 3 := by rw [← ha]; exact nxV_lt (by omega)
      rw [ha]
      have HVa := Lib.hid ha
      clear ha t2
      go_wp2_with fail
      refine (op_v x _ _ _ N 21 _ _ (by first | rfl | decide | assumption) HW3.out HZ3.out (by omega)).mono ?_
      rintro e w4 ⟨rfl, h, ho⟩
      have HW4 := Lib.hid h
      have HO4 : Hid (Fr x w0 w4) := Lib.hid (HO3.out.trans ho)
      have HZ4 : Hid (((((s.paid.nx x.xs)).nx x.xs).op 21 a).sz (N + 1)) := Lib.hid ((Ws.sz_op _ _ HZ3.out).more (by omega))
      clear h ho
      have HE : Hid (FS = (((s.paid.nx x.xs)).nx x.xs).op 21 a) := Lib.hid (by rw [← HFS.out]; unfold stepI; simp [HVv.out, leafI, HBD.out, HVa.out])
      go_wp2
      go_end0
      rw [HE.out]
      exact ⟨rfl, HW4.out, HO4.out⟩
    · have t2 := HW2.out.t
      go_wp2_with fail
      refine (next_s x _ _ _ 256 _ HW2.out (by omega) (by omega) rfl).mono ?_
      rintro e w3 ⟨rfl, h, ho⟩
      have HW3 := Lib.hid h
      have HO3 : Hid (Fr x w0 w3) := Lib.hid (HO2.out.trans ho)
      have HZ3 : Hid ((((s.paid.nx x.xs)).nx x.xs).sz N) := Lib.hid ((Ws.sz_nx x.xs HZ2.out).more (by omega))
      clear h ho
      obtain ⟨a, ha⟩ : ∃ a, nxV x.xs 256 ((s.paid.nx x.xs)).at_ = a := ⟨_, rfl⟩
      have ba : a < 256 := by rw [← ha]; exact nxV_lt (by omega)
      rw [ha]
      have HVa := Lib.hid ha
      clear ha t2
      go_wp2_with fail
      refine (number_s x _ _ _ N ((a : Int) - 100) (by omega) HW3.out HZ3.out (by omega)).mono ?_
      rintro e w4 ⟨rfl, h, ho⟩
      have HW4 := Lib.hid h
      have HO4 : Hid (Fr x w0 w4) := Lib.hid (HO3.out.trans ho)
      have HZ4 : Hid (((((s.paid.nx x.xs)).nx x.xs).push (numI ((a : Int) - 100))).sz (N + 1)) := Lib.hid ((Ws.sz_push _ HZ3.out).more (by omega))
      clear h ho
      have HE : Hid (FS = (((s.paid.nx x.xs)).nx x.xs).push (numI ((a : Int) - 100))) := Lib.hid (by rw [← HFS.out]; unfold stepI; simp [HVv.out, leafI, HBD.out, HVa.out])
      go_wp2
      go_end0
      rw [HE.out]
      exact ⟨rfl, HW4.out, HO4.out⟩
    · go_wp2_with fail
      refine (name_v x _ _ _ N 178 _ sMain [115] [73] _ _ _ rfl rfl rfl rfl HW2.out HZ2.out (by omega)).mono ?_
      rintro e w3 ⟨rfl, h, ho⟩
      have HW3 := Lib.hid h
      have HO3 : Hid (Fr x w0 w3) := Lib.hid (HO2.out.trans ho)
      have HZ3 : Hid ((((s.paid.nx x.xs)).name 178 sMain [115] [73]).sz (N + 1)) := Lib.hid ((Ws.sz_name _ _ _ _ HZ2.out).more (by omega))
      clear h ho
      have HE : Hid (FS = ((s.paid.nx x.xs)).name 178 sMain [115] [73]) := Lib.hid (by rw [← HFS.out]; unfold stepI; simp [HVv.out, leafI, HBD.out])
      go_wp2
      go_end0
      rw [HE.out]
      exact ⟨rfl, HW3.out, HO3.out⟩
    · have t2 := HW2.out.t
      go_wp2_with fail
      refine (next_s x _ _ _ 3 _ HW2.out (by omega) (by omega) rfl).mono ?_
      rintro e w3 ⟨rfl, h, ho⟩
      have HW3 := Lib.hid h
      have HO3 : Hid (Fr x w0 w3) := Lib.hid (HO2.out.trans ho)
      have HZ3 : Hid ((((s.paid.nx x.xs)).nx x.xs).sz N) := Lib.hid ((Ws.sz_nx x.xs HZ2.out).more (by omega))
      clear h ho
      obtain ⟨a, ha⟩ : ∃ a, nxV x.xs 3 ((s.paid.nx x.xs)).at_ = a := ⟨_, rfl⟩
      have ba : a < 3 := by rw [← ha]; exact nxV_lt (by omega)
      rw [ha]
      have HVa := Lib.hid ha
      clear ha t2
      go_wp2_with fail
      refine (op_v x _ _ _ N 21 _ _ (by first | rfl | decide | assumption) HW3.out HZ3.out (by omega)).mono ?_
      rintro e w4 ⟨rfl, h, ho⟩
      have HW4 := Lib.hid h
      have HO4 : Hid (Fr x w0 w4) := Lib.hid (HO3.out.trans ho)
      have HZ4 : Hid (((((s.paid.nx x.xs)).nx x.xs).op 21 a).sz (N + 1)) := Lib.hid ((Ws.sz_op _ _ HZ3.out).more (by omega))
      clear h ho
      have HE : Hid (FS = (((s.paid.nx x.xs)).nx x.xs).op 21 a) := Lib.hid (by rw [← HFS.out]; unfold stepI; simp [HVv.out, leafI, HBD.out, HVa.out])
      go_wp2
      go_end0
      rw [HE.out]
      exact ⟨rfl, HW4.out, HO4.out⟩
    · have t2 := HW2.out.t
      go_wp2_with fail
      refine (next_s x _ _ _ 3 _ HW2.out (by omega) (by omega) rfl).mono ?_
      rintro e w3 ⟨rfl, h, ho⟩
      have HW3 := Lib.hid h
      have HO3 : Hid (Fr x w0 w3) := Lib.hid (HO2.out.trans ho)
      have HZ3 : Hid ((((s.paid.nx x.xs)).nx x.xs).sz N) := Lib.hid ((Ws.sz_nx x.xs HZ2.out).more (by omega))
      clear h ho
      obtain ⟨a, ha⟩ : ∃ a, nxV x.xs 3 ((s.paid.nx x.xs)).at_ = a := ⟨_, rfl⟩
      have ba : a < 3 := by rw [← ha]; exact nxV_lt (by omega)
      rw [ha]
      have HVa := Lib.hid ha
      clear ha t2
      go_wp2_with fail
      refine (op_v x _ _ _ N 21 _ _ (by first | rfl | decide | assumption) HW3.out HZ3.out (by omega)).mono ?_
      rintro e w4 ⟨rfl, h, ho⟩
      have HW4 := Lib.hid h
      have HO4 : Hid (Fr x w0 w4) := Lib.hid (HO3.out.trans ho)
      have HZ4 : Hid (((((s.paid.nx x.xs)).nx x.xs).op 21 a).sz (N + 1)) := Lib.hid ((Ws.sz_op _ _ HZ3.out).more (by omega))
      clear h ho
      have HE : Hid (FS = (((s.paid.nx x.xs)).nx x.xs).op 21 a) := Lib.hid (by rw [← HFS.out]; unfold stepI; simp [HVv.out, leafI, HBD.out, HVa.out])
      go_wp2
      go_end0
      rw [HE.out]
      exact ⟨rfl, HW4.out, HO4.out⟩
    · have t2 := HW2.out.t
      go_wp2_with fail
      refine (next_s x _ _ _ 256 _ HW2.out (by omega) (by omega) rfl).mono ?_
      rintro e w3 ⟨rfl, h, ho⟩
      have HW3 := Lib.hid h
      have HO3 : Hid (Fr x w0 w3) := Lib.hid (HO2.out.trans ho)
      have HZ3 : Hid ((((s.paid.nx x.xs)).nx x.xs).sz N) := Lib.hid ((Ws.sz_nx x.xs HZ2.out).more (by omega))
      clear h ho
      obtain ⟨a, ha⟩ : ∃ a, nxV x.xs 256 ((s.paid.nx x.xs)).at_ = a := ⟨_, rfl⟩
      have ba : a < 256 := by rw [← ha]; exact nxV_lt (by omega)
      rw [ha]
      have HVa := Lib.hid ha
      clear ha t2
      go_wp2_with fail
      refine (number_s x _ _ _ N ((a : Int) - 100) (by omega) HW3.out HZ3.out (by omega)).mono ?_
      rintro e w4 ⟨rfl, h, ho⟩
      have HW4 := Lib.hid h
      have HO4 : Hid (Fr x w0 w4) := Lib.hid (HO3.out.trans ho)
      have HZ4 : Hid (((((s.paid.nx x.xs)).nx x.xs).push (numI ((a : Int) - 100))).sz (N + 1)) := Lib.hid ((Ws.sz_push _ HZ3.out).more (by omega))
      clear h ho
      have HE : Hid (FS = (((s.paid.nx x.xs)).nx x.xs).push (numI ((a : Int) - 100))) := Lib.hid (by rw [← HFS.out]; unfold stepI; simp [HVv.out, leafI, HBD.out, HVa.out])
      go_wp2
      go_end0
      rw [HE.out]
      exact ⟨rfl, HW4.out, HO4.out⟩
    · go_wp2_with fail
      refine (name_v x _ _ _ N 178 _ sMain [115] [73] _ _ _ rfl rfl rfl rfl HW2.out HZ2.out (by omega)).mono ?_
      rintro e w3 ⟨rfl, h, ho⟩
      have HW3 := Lib.hid h
      have HO3 : Hid (Fr x w0 w3) := Lib.hid (HO2.out.trans ho)
      have HZ3 : Hid ((((s.paid.nx x.xs)).name 178 sMain [115] [73]).sz (N + 1)) := Lib.hid ((Ws.sz_name _ _ _ _ HZ2.out).more (by omega))
      clear h ho
      have HE : Hid (FS = ((s.paid.nx x.xs)).name 178 sMain [115] [73]) := Lib.hid (by rw [← HFS.out]; unfold stepI; simp [HVv.out, leafI, HBD.out])
      go_wp2
      go_end0
      rw [HE.out]
      exact ⟨rfl, HW3.out, HO3.out⟩
    · have t2 := HW2.out.t
      go_wp2_with fail
      refine (next_s x _ _ _ 3 _ HW2.out (by omega) (by omega) rfl).mono ?_
      rintro e w3 ⟨rfl, h, ho⟩
      have HW3 := Lib.hid h
      have HO3 : Hid (Fr x w0 w3) := Lib.hid (HO2.out.trans ho)
      have HZ3 : Hid ((((s.paid.nx x.xs)).nx x.xs).sz N) := Lib.hid ((Ws.sz_nx x.xs HZ2.out).more (by omega))
      clear h ho
      obtain ⟨a, ha⟩ : ∃ a, nxV x.xs 3 ((s.paid.nx x.xs)).at_ = a := ⟨_, rfl⟩
      have ba : a < 3 := by rw [← ha]; exact nxV_lt (by omega)
      rw [ha]
      have HVa := Lib.hid ha
      clear ha t2
      go_wp2_with fail
      refine (op_v x _ _ _ N 21 _ _ (by first | rfl | decide | assumption) HW3.out HZ3.out (by omega)).mono ?_
      rintro e w4 ⟨rfl, h, ho⟩
      have HW4 := Lib.hid h
      have HO4 : Hid (Fr x w0 w4) := Lib.hid (HO3.out.trans ho)
      have HZ4 : Hid (((((s.paid.nx x.xs)).nx x.xs).op 21 a).sz (N + 1)) := Lib.hid ((Ws.sz_op _ _ HZ3.out).more (by omega))
      clear h ho
      have HE : Hid (FS = (((s.paid.nx x.xs)).nx x.xs).op 21 a) := Lib.hid (by rw [← HFS.out]; unfold stepI; simp [HVv.out, leafI, HBD.out, HVa.out])
      go_wp2
      go_end0
      rw [HE.out]
      exact ⟨rfl, HW4.out, HO4.out⟩
    · have t2 := HW2.out.t
      go_wp2_with fail
      refine (next_s x _ _ _ 3 _ HW2.out (by omega) (by omega) rfl).mono ?_
      rintro e w3 ⟨rfl, h, ho⟩
      have HW3 := Lib.hid h
      have HO3 : Hid (Fr x w0 w3) := Lib.hid (HO2.out.trans ho)
      have HZ3 : Hid ((((s.paid.nx x.xs)).nx x.xs).sz N) := Lib.hid ((Ws.sz_nx x.xs HZ2.out).more (by omega))
      clear h ho
      obtain ⟨a, ha⟩ : ∃ a, nxV x.xs 3 ((s.paid.nx x.xs)).at_ = a := ⟨_, rfl⟩
      have ba : a < 3 := by rw [← ha]; exact nxV_lt (by omega)
      rw [ha]
      have HVa := Lib.hid ha
      clear ha t2
      go_wp2_with fail
      refine (op_v x _ _ _ N 21 _ _ (by first | rfl | decide | assumption) HW3.out HZ3.out (by omega)).mono ?_
      rintro e w4 ⟨rfl, h, ho⟩
      have HW4 := Lib.hid h
      have HO4 : Hid (Fr x w0 w4) := Lib.hid (HO3.out.trans ho)
      have HZ4 : Hid (((((s.paid.nx x.xs)).nx x.xs).op 21 a).sz (N + 1)) := Lib.hid ((Ws.sz_op _ _ HZ3.out).more (by omega))
      clear h ho
      have HE : Hid (FS = (((s.paid.nx x.xs)).nx x.xs).op 21 a) := Lib.hid (by rw [← HFS.out]; unfold stepI; simp [HVv.out, leafI, HBD.out, HVa.out])
      go_wp2
      go_end0
      rw [HE.out]
      exact ⟨rfl, HW4.out, HO4.out⟩
    · have t2 := HW2.out.t
      go_wp2_with fail
      refine (next_s x _ _ _ 256 _ HW2.out (by omega) (by omega) rfl).mono ?_
      rintro e w3 ⟨rfl, h, ho⟩
      have HW3 := Lib.hid h
      have HO3 : Hid (Fr x w0 w3) := Lib.hid (HO2.out.trans ho)
      have HZ3 : Hid ((((s.paid.nx x.xs)).nx x.xs).sz N) := Lib.hid ((Ws.sz_nx x.xs HZ2.out).more (by omega))
      clear h ho
      obtain ⟨a, ha⟩ : ∃ a, nxV x.xs 256 ((s.paid.nx x.xs)).at_ = a := ⟨_, rfl⟩
      have ba : a < 256 := by rw [← ha]; exact nxV_lt (by omega)
      rw [ha]
      have HVa := Lib.hid ha
      clear ha t2
      go_wp2_with fail
      refine (number_s x _ _ _ N ((a : Int) - 100) (by omega) HW3.out HZ3.out (by omega)).mono ?_
      rintro e w4 ⟨rfl, h, ho⟩
      have HW4 := Lib.hid h
      have HO4 : Hid (Fr x w0 w4) := Lib.hid (HO3.out.trans ho)
      have HZ4 : Hid (((((s.paid.nx x.xs)).nx x.xs).push (numI ((a : Int) - 100))).sz (N + 1)) := Lib.hid ((Ws.sz_push _ HZ3.out).more (by omega))
      clear h ho
      have HE : Hid (FS = (((s.paid.nx x.xs)).nx x.xs).push (numI ((a : Int) - 100))) := Lib.hid (by rw [← HFS.out]; unfold stepI; simp [HVv.out, leafI, HBD.out, HVa.out])
      go_wp2
      go_end0
      rw [HE.out]
      exact ⟨rfl, HW4.out, HO4.out⟩
    · go_wp2_with fail
      refine (name_v x _ _ _ N 178 _ sMain [115] [73] _ _ _ rfl rfl rfl rfl HW2.out HZ2.out (by omega)).mono ?_
      rintro e w3 ⟨rfl, h, ho⟩
      have HW3 := Lib.hid h
      have HO3 : Hid (Fr x w0 w3) := Lib.hid (HO2.out.trans ho)
      have HZ3 : Hid ((((s.paid.nx x.xs)).name 178 sMain [115] [73]).sz (N + 1)) := Lib.hid ((Ws.sz_name _ _ _ _ HZ2.out).more (by omega))
      clear h ho
      have HE : Hid (FS = ((s.paid.nx x.xs)).name 178 sMain [115] [73]) := Lib.hid (by rw [← HFS.out]; unfold stepI; simp [HVv.out, leafI, HBD.out])
      go_wp2
      go_end0
      rw [HE.out]
      exact ⟨rfl, HW3.out, HO3.out⟩
  · have HBD : Hid ((s.paid.bud ≤ 0) = False) := Lib.hid (eq_false hbd)
    have hcs : v = 0 ∨ v = 1 ∨ v = 2 ∨ v = 3 ∨ v = 4 ∨ v = 5 ∨ v = 6 ∨ v = 7 ∨ v = 8 ∨ v = 9 ∨ v = 10 ∨ v = 11 ∨ v = 12 ∨ v = 13 ∨ v = 14 ∨ v = 15 := by omega
    clear bv
    rcases hcs with rfl | rfl | rfl | rfl | rfl | rfl | rfl | rfl | rfl | rfl | rfl | rfl | rfl | rfl | rfl | rfl
    · have t2 := HW2.out.t
      go_wp2_with fail
      refine (next_s x _ _ _ 3 _ HW2.out (by omega) (by omega) rfl).mono ?_
      rintro e w3 ⟨rfl, h, ho⟩
      have HW3 := Lib.hid h
      have HO3 : Hid (Fr x w0 w3) := Lib.hid (HO2.out.trans ho)
      have HZ3 : Hid ((((s.paid.nx x.xs)).nx x.xs).sz N) := Lib.hid ((Ws.sz_nx x.xs HZ2.out).more (by omega))
      clear h ho
      obtain ⟨a, ha⟩ : ∃ a, nxV x.xs 3 ((s.paid.nx x.xs)).at_ = a := ⟨_, rfl⟩
      have ba : a < 3 := by rw [← ha]; exact nxV_lt (by omega)
      rw [ha]
      have HVa := Lib.hid ha
      clear ha t2
      go_wp2_with fail
      refine (op_v x _ _ _ N 21 _ _ (by first | rfl | decide | assumption) HW3.out HZ3.out (by omega)).mono ?_
      rintro e w4 ⟨rfl, h, ho⟩
      have HW4 := Lib.hid h
      have HO4 : Hid (Fr x w0 w4) := Lib.hid (HO3.out.trans ho)
      have HZ4 : Hid (((((s.paid.nx x.xs)).nx x.xs).op 21 a).sz (N + 1)) := Lib.hid ((Ws.sz_op _ _ HZ3.out).more (by omega))
      clear h ho
      have HE : Hid (FS = (((s.paid.nx x.xs)).nx x.xs).op 21 a) := Lib.hid (by rw [← HFS.out]; unfold stepI; simp [HVv.out, leafI, HBD.out, HVa.out])
      go_wp2
      go_end0
      rw [HE.out]
      exact ⟨rfl, HW4.out, HO4.out⟩
    · have t2 := HW2.out.t
      go_wp2_with fail
      refine (next_s x _ _ _ 3 _ HW2.out (by omega) (by omega) rfl).mono ?_
      rintro e w3 ⟨rfl, h, ho⟩
      have HW3 := Lib.hid h
      have HO3 : Hid (Fr x w0 w3) := Lib.hid (HO2.out.trans ho)
      have HZ3 : Hid ((((s.paid.nx x.xs)).nx x.xs).sz N) := Lib.hid ((Ws.sz_nx x.xs HZ2.out).more (by omega))
      clear h ho
      obtain ⟨a, ha⟩ : ∃ a, nxV x.xs 3 ((s.paid.nx x.xs)).at_ = a := ⟨_, rfl⟩
      have ba : a < 3 := by rw [← ha]; exact nxV_lt (by omega)
      rw [ha]
      have HVa := Lib.hid ha
      clear ha t2
      go_wp2_with fail
      refine (op_v x _ _ _ N 21 _ _ (by first | rfl | decide | assumption) HW3.out HZ3.out (by omega)).mono ?_
      rintro e w4 ⟨rfl, h, ho⟩
      have HW4 := Lib.hid h
      have HO4 : Hid (Fr x w0 w4) := Lib.hid (HO3.out.trans ho)
      have HZ4 : Hid (((((s.paid.nx x.xs)).nx x.xs).op 21 a).sz (N + 1)) := Lib.hid ((Ws.sz_op _ _ HZ3.out).more (by omega))
      clear h ho
      have HE : Hid (FS = (((s.paid.nx x.xs)).nx x.xs).op 21 a) := Lib.hid (by rw [← HFS.out]; unfold stepI; simp [HVv.out, leafI, HBD.out, HVa.out])
      go_wp2
      go_end0
      rw [HE.out]
      exact ⟨rfl, HW4.out, HO4.out⟩
    · have t2 := HW2.out.t
      go_wp2_with fail
      refine (next_s x _ _ _ 256 _ HW2.out (by omega) (by omega) rfl).mono ?_
      rintro e w3 ⟨rfl, h, ho⟩
      have HW3 := Lib.hid h
      have HO3 : Hid (Fr x w0 w3) := Lib.hid (HO2.out.trans ho)
      have HZ3 : Hid ((((s.paid.nx x.xs)).nx x.xs).sz N) := Lib.hid ((Ws.sz_nx x.xs HZ2.out).more (by omega))
      clear h ho
      obtain ⟨a, ha⟩ : ∃ a, nxV x.xs 256 ((s.paid.nx x.xs)).at_ = a := ⟨_, rfl⟩
      have ba : a < 256 := by rw [← ha]; exact nxV_lt (by omega)
      rw [ha]
      have HVa := Lib.hid ha
      clear ha t2
      go_wp2_with fail
      refine (number_s x _ _ _ N ((a : Int) - 100) (by omega) HW3.out HZ3.out (by omega)).mono ?_
      rintro e w4 ⟨rfl, h, ho⟩
      have HW4 := Lib.hid h
      have HO4 : Hid (Fr x w0 w4) := Lib.hid (HO3.out.trans ho)
      have HZ4 : Hid (((((s.paid.nx x.xs)).nx x.xs).push (numI ((a : Int) - 100))).sz (N + 1)) := Lib.hid ((Ws.sz_push _ HZ3.out).more (by omega))
      clear h ho
      have HE : Hid (FS = (((s.paid.nx x.xs)).nx x.xs).push (numI ((a : Int) - 100))) := Lib.hid (by rw [← HFS.out]; unfold stepI; simp [HVv.out, leafI, HBD.out, HVa.out])
      go_wp2
      go_end0
      rw [HE.out]
      exact ⟨rfl, HW4.out, HO4.out⟩
    · go_wp2_with fail
      refine (name_v x _ _ _ N 178 _ sMain [115] [73] _ _ _ rfl rfl rfl rfl HW2.out HZ2.out (by omega)).mono ?_
      rintro e w3 ⟨rfl, h, ho⟩
      have HW3 := Lib.hid h
      have HO3 : Hid (Fr x w0 w3) := Lib.hid (HO2.out.trans ho)
      have HZ3 : Hid ((((s.paid.nx x.xs)).name 178 sMain [115] [73]).sz (N + 1)) := Lib.hid ((Ws.sz_name _ _ _ _ HZ2.out).more (by omega))
      clear h ho
      have HE : Hid (FS = ((s.paid.nx x.xs)).name 178 sMain [115] [73]) := Lib.hid (by rw [← HFS.out]; unfold stepI; simp [HVv.out, leafI, HBD.out])
      go_wp2
      go_end0
      rw [HE.out]
      exact ⟨rfl, HW3.out, HO3.out⟩
    · go_wp2_with fail
      refine (HI.out _ _ _ N HW2.out HZ2.out (by omega)).mono ?_
      rintro e w3 ⟨rfl, h, ho⟩
      have HW3 := Lib.hid h
      have HO3 : Hid (Fr x w0 w3) := Lib.hid (HO2.out.trans ho)
      have HZ3 : Hid ((I ((s.paid.nx x.xs))).sz (N + 1 * c + 0)) := Lib.hid ((HIa.out _ _ HZ2.out).more (by omega))
      clear h ho
      go_wp2_with fail
      refine (HI.out _ _ _ (N + 1 * c + 0) HW3.out HZ3.out (by omega)).mono ?_
      rintro e w4 ⟨rfl, h, ho⟩
      have HW4 := Lib.hid h
      have HO4 : Hid (Fr x w0 w4) := Lib.hid (HO3.out.trans ho)
      have HZ4 : Hid ((I (I ((s.paid.nx x.xs)))).sz (N + 2 * c + 0)) := Lib.hid ((HIa.out _ _ HZ3.out).more (by omega))
      clear h ho
      have t4 := HW4.out.t
      have hbt := belowA w4 (.cells #[.int .u8 96, .int .u8 100, .int .u8 104, .int .u8 108, .int .u8 126, .int .u8 130, .int .u8 120, .int .u8 112, .int .u8 128, .int .u8 124] 5)
      have kb4 := Blk.new w4 5 #[.int .u8 96, .int .u8 100, .int .u8 104, .int .u8 108, .int .u8 126, .int .u8 130, .int .u8 120, .int .u8 112, .int .u8 128, .int .u8 124]
      have h := HW4.out.below hbt
      have ho := Fr.of_below (x := x) hbt
      obtain ⟨w5, hw4⟩ : ∃ W, w4.alloc (.cells #[.int .u8 96, .int .u8 100, .int .u8 104, .int .u8 108, .int .u8 126, .int .u8 130, .int .u8 120, .int .u8 112, .int .u8 128, .int .u8 124] 5) = W := ⟨_, rfl⟩
      rw [hw4] at h ho kb4
      have HWW4 := Lib.hid hw4
      have HKB4 := Lib.hid kb4
      have t4b := h.t
      rw [← hw4] at t4b
      have hgl4 := HW4.out.lt
      clear hw4 kb4 hbt
      have HW5 := Lib.hid h
      have HO5 : Hid (Fr x w0 w5) := Lib.hid (HO4.out.trans ho)
      have HZ5 : Hid ((I (I ((s.paid.nx x.xs)))).sz (N + 2 * c + 0)) := Lib.hid ((HZ4.out).more (by omega))
      clear h ho
      go_wp2_with fail
      rw [HWW4.out]
      clear t4 t4b
      refine (next_s x _ _ _ 10 _ HW5.out (by omega) (by omega) rfl).mono ?_
      rintro e w6 ⟨rfl, h, ho⟩
      have HQ6 := Lib.hid (ho.2 _ _ _ HKB4.out (by unfold WE; decide))
      have HW6 := Lib.hid h
      have HO6 : Hid (Fr x w0 w6) := Lib.hid (HO5.out.trans ho)
      have HZ6 : Hid (((I (I ((s.paid.nx x.xs)))).nx x.xs).sz (N + 2 * c + 0)) := Lib.hid ((Ws.sz_nx x.xs HZ5.out).more (by omega))
      clear h ho
      obtain ⟨a, ha⟩ : ∃ a, nxV x.xs 10 (I (I ((s.paid.nx x.xs)))).at_ = a := ⟨_, rfl⟩
      have ba : a < 10 := by rw [← ha]; exact nxV_lt (by omega)
      rw [ha]
      have HVa := Lib.hid ha
      have da : w6.cell? ⟨w4.heap.size, a, none⟩ = some (.int .u8 ((intOps.getD a 0).toNat : Int)) := by
        rw [HQ6.out.cell]
        exact u8_of_tab intOps a ba
      have la : w4.heap.size < w6.heap.size := HQ6.out.lt
      obtain ⟨qa, hqa⟩ : ∃ q : Int, ((intOps.getD a 0).toNat : Int) = q := ⟨_, rfl⟩
      rw [hqa] at da
      have HQa := Lib.hid hqa
      clear ha hqa
      go_wp2_with fail
      refine (op_v x _ _ _ (N + 2 * c + 0) (intOps.getD a 0) _ _ HQa.out HW6.out HZ6.out (by omega)).mono ?_
      rintro e w7 ⟨rfl, h, ho⟩
      have HW7 := Lib.hid h
      have HO7 : Hid (Fr x w0 w7) := Lib.hid (HO6.out.trans ho)
      have HZ7 : Hid ((((I (I ((s.paid.nx x.xs)))).nx x.xs).op (intOps.getD a 0) 0).sz (N + 2 * c + 1)) := Lib.hid ((Ws.sz_op _ _ HZ6.out).more (by omega))
      clear h ho
      have HE : Hid (FS = ((I (I ((s.paid.nx x.xs)))).nx x.xs).op (intOps.getD a 0) 0) := Lib.hid (by rw [← HFS.out]; unfold stepI; simp [HVv.out, leafI, HBD.out, HVa.out])
      go_wp2
      go_end0
      rw [HE.out]
      exact ⟨rfl, HW7.out, HO7.out⟩
    · go_wp2_with fail
      refine (HI.out _ _ _ N HW2.out HZ2.out (by omega)).mono ?_
      rintro e w3 ⟨rfl, h, ho⟩
      have HW3 := Lib.hid h
      have HO3 : Hid (Fr x w0 w3) := Lib.hid (HO2.out.trans ho)
      have HZ3 : Hid ((I ((s.paid.nx x.xs))).sz (N + 1 * c + 0)) := Lib.hid ((HIa.out _ _ HZ2.out).more (by omega))
      clear h ho
      go_wp2_with fail
      refine (HI.out _ _ _ (N + 1 * c + 0) HW3.out HZ3.out (by omega)).mono ?_
      rintro e w4 ⟨rfl, h, ho⟩
      have HW4 := Lib.hid h
      have HO4 : Hid (Fr x w0 w4) := Lib.hid (HO3.out.trans ho)
      have HZ4 : Hid ((I (I ((s.paid.nx x.xs)))).sz (N + 2 * c + 0)) := Lib.hid ((HIa.out _ _ HZ3.out).more (by omega))
      clear h ho
      have t4 := HW4.out.t
      have hbt := belowA w4 (.cells #[.int .u8 96, .int .u8 100, .int .u8 104, .int .u8 108, .int .u8 126, .int .u8 130, .int .u8 120, .int .u8 112, .int .u8 128, .int .u8 124] 5)
      have kb4 := Blk.new w4 5 #[.int .u8 96, .int .u8 100, .int .u8 104, .int .u8 108, .int .u8 126, .int .u8 130, .int .u8 120, .int .u8 112, .int .u8 128, .int .u8 124]
      have h := HW4.out.below hbt
      have ho := Fr.of_below (x := x) hbt
      obtain ⟨w5, hw4⟩ : ∃ W, w4.alloc (.cells #[.int .u8 96, .int .u8 100, .int .u8 104, .int .u8 108, .int .u8 126, .int .u8 130, .int .u8 120, .int .u8 112, .int .u8 128, .int .u8 124] 5) = W := ⟨_, rfl⟩
      rw [hw4] at h ho kb4
      have HWW4 := Lib.hid hw4
      have HKB4 := Lib.hid kb4
      have t4b := h.t
      rw [← hw4] at t4b
      have hgl4 := HW4.out.lt
      clear hw4 kb4 hbt
      have HW5 := Lib.hid h
      have HO5 : Hid (Fr x w0 w5) := Lib.hid (HO4.out.trans ho)
      have HZ5 : Hid ((I (I ((s.paid.nx x.xs)))).sz (N + 2 * c + 0)) := Lib.hid ((HZ4.out).more (by omega))
      clear h ho
      go_wp2_with fail
      rw [HWW4.out]
      clear t4 t4b
      refine (next_s x _ _ _ 10 _ HW5.out (by omega) (by omega) rfl).mono ?_
      rintro e w6 ⟨rfl, h, ho⟩
      have HQ6 := Lib.hid (ho.2 _ _ _ HKB4.out (by unfold WE; decide))
      have HW6 := Lib.hid h
      have HO6 : Hid (Fr x w0 w6) := Lib.hid (HO5.out.trans ho)
      have HZ6 : Hid (((I (I ((s.paid.nx x.xs)))).nx x.xs).sz (N + 2 * c + 0)) := Lib.hid ((Ws.sz_nx x.xs HZ5.out).more (by omega))
      clear h ho
      obtain ⟨a, ha⟩ : ∃ a, nxV x.xs 10 (I (I ((s.paid.nx x.xs)))).at_ = a := ⟨_, rfl⟩
      have ba : a < 10 := by rw [← ha]; exact nxV_lt (by omega)
      rw [ha]
      have HVa := Lib.hid ha
      have da : w6.cell? ⟨w4.heap.size, a, none⟩ = some (.int .u8 ((intOps.getD a 0).toNat : Int)) := by
        rw [HQ6.out.cell]
        exact u8_of_tab intOps a ba
      have la : w4.heap.size < w6.heap.size := HQ6.out.lt
      obtain ⟨qa, hqa⟩ : ∃ q : Int, ((intOps.getD a 0).toNat : Int) = q := ⟨_, rfl⟩
      rw [hqa] at da
      have HQa := Lib.hid hqa
      clear ha hqa
      go_wp2_with fail
      refine (op_v x _ _ _ (N + 2 * c + 0) (intOps.getD a 0) _ _ HQa.out HW6.out HZ6.out (by omega)).mono ?_
      rintro e w7 ⟨rfl, h, ho⟩
      have HW7 := Lib.hid h
      have HO7 : Hid (Fr x w0 w7) := Lib.hid (HO6.out.trans ho)
      have HZ7 : Hid ((((I (I ((s.paid.nx x.xs)))).nx x.xs).op (intOps.getD a 0) 0).sz (N + 2 * c + 1)) := Lib.hid ((Ws.sz_op _ _ HZ6.out).more (by omega))
      clear h ho
      have HE : Hid (FS = ((I (I ((s.paid.nx x.xs)))).nx x.xs).op (intOps.getD a 0) 0) := Lib.hid (by rw [← HFS.out]; unfold stepI; simp [HVv.out, leafI, HBD.out, HVa.out])
      go_wp2
      go_end0
      rw [HE.out]
      exact ⟨rfl, HW7.out, HO7.out⟩
    · go_wp2_with fail
      refine (HI.out _ _ _ N HW2.out HZ2.out (by omega)).mono ?_
      rintro e w3 ⟨rfl, h, ho⟩
      have HW3 := Lib.hid h
      have HO3 : Hid (Fr x w0 w3) := Lib.hid (HO2.out.trans ho)
      have HZ3 : Hid ((I ((s.paid.nx x.xs))).sz (N + 1 * c + 0)) := Lib.hid ((HIa.out _ _ HZ2.out).more (by omega))
      clear h ho
      go_wp2_with fail
      refine (HI.out _ _ _ (N + 1 * c + 0) HW3.out HZ3.out (by omega)).mono ?_
      rintro e w4 ⟨rfl, h, ho⟩
      have HW4 := Lib.hid h
      have HO4 : Hid (Fr x w0 w4) := Lib.hid (HO3.out.trans ho)
      have HZ4 : Hid ((I (I ((s.paid.nx x.xs)))).sz (N + 2 * c + 0)) := Lib.hid ((HIa.out _ _ HZ3.out).more (by omega))
      clear h ho
      have t4 := HW4.out.t
      have hbt := belowA w4 (.cells #[.int .u8 96, .int .u8 100, .int .u8 104, .int .u8 108, .int .u8 126, .int .u8 130, .int .u8 120, .int .u8 112, .int .u8 128, .int .u8 124] 5)
      have kb4 := Blk.new w4 5 #[.int .u8 96, .int .u8 100, .int .u8 104, .int .u8 108, .int .u8 126, .int .u8 130, .int .u8 120, .int .u8 112, .int .u8 128, .int .u8 124]
      have h := HW4.out.below hbt
      have ho := Fr.of_below (x := x) hbt
      obtain ⟨w5, hw4⟩ : ∃ W, w4.alloc (.cells #[.int .u8 96, .int .u8 100, .int .u8 104, .int .u8 108, .int .u8 126, .int .u8 130, .int .u8 120, .int .u8 112, .int .u8 128, .int .u8 124] 5) = W := ⟨_, rfl⟩
      rw [hw4] at h ho kb4
      have HWW4 := Lib.hid hw4
      have HKB4 := Lib.hid kb4
      have t4b := h.t
      rw [← hw4] at t4b
      have hgl4 := HW4.out.lt
      clear hw4 kb4 hbt
      have HW5 := Lib.hid h
      have HO5 : Hid (Fr x w0 w5) := Lib.hid (HO4.out.trans ho)
      have HZ5 : Hid ((I (I ((s.paid.nx x.xs)))).sz (N + 2 * c + 0)) := Lib.hid ((HZ4.out).more (by omega))
      clear h ho
      go_wp2_with fail
      rw [HWW4.out]
      clear t4 t4b
      refine (next_s x _ _ _ 10 _ HW5.out (by omega) (by omega) rfl).mono ?_
      rintro e w6 ⟨rfl, h, ho⟩
      have HQ6 := Lib.hid (ho.2 _ _ _ HKB4.out (by unfold WE; decide))
      have HW6 := Lib.hid h
      have HO6 : Hid (Fr x w0 w6) := Lib.hid (HO5.out.trans ho)
      have HZ6 : Hid (((I (I ((s.paid.nx x.xs)))).nx x.xs).sz (N + 2 * c + 0)) := Lib.hid ((Ws.sz_nx x.xs HZ5.out).more (by omega))
      clear h ho
      obtain ⟨a, ha⟩ : ∃ a, nxV x.xs 10 (I (I ((s.paid.nx x.xs)))).at_ = a := ⟨_, rfl⟩
      have ba : a < 10 := by rw [← ha]; exact nxV_lt (by omega)
      rw [ha]
      have HVa := Lib.hid ha
      have da : w6.cell? ⟨w4.heap.size, a, none⟩ = some (.int .u8 ((intOps.getD a 0).toNat : Int)) := by
        rw [HQ6.out.cell]
        exact u8_of_tab intOps a ba
      have la : w4.heap.size < w6.heap.size := HQ6.out.lt
      obtain ⟨qa, hqa⟩ : ∃ q : Int, ((intOps.getD a 0).toNat : Int) = q := ⟨_, rfl⟩
      rw [hqa] at da
      have HQa := Lib.hid hqa
      clear ha hqa
      go_wp2_with fail
      refine (op_v x _ _ _ (N + 2 * c + 0) (intOps.getD a 0) _ _ HQa.out HW6.out HZ6.out (by omega)).mono ?_
      rintro e w7 ⟨rfl, h, ho⟩
      have HW7 := Lib.hid h
      have HO7 : Hid (Fr x w0 w7) := Lib.hid (HO6.out.trans ho)
      have HZ7 : Hid ((((I (I ((s.paid.nx x.xs)))).nx x.xs).op (intOps.getD a 0) 0).sz (N + 2 * c + 1)) := Lib.hid ((Ws.sz_op _ _ HZ6.out).more (by omega))
      clear h ho
      have HE : Hid (FS = ((I (I ((s.paid.nx x.xs)))).nx x.xs).op (intOps.getD a 0) 0) := Lib.hid (by rw [← HFS.out]; unfold stepI; simp [HVv.out, leafI, HBD.out, HVa.out])
      go_wp2
      go_end0
      rw [HE.out]
      exact ⟨rfl, HW7.out, HO7.out⟩
    · go_wp2_with fail
      refine (HI.out _ _ _ N HW2.out HZ2.out (by omega)).mono ?_
      rintro e w3 ⟨rfl, h, ho⟩
      have HW3 := Lib.hid h
      have HO3 : Hid (Fr x w0 w3) := Lib.hid (HO2.out.trans ho)
      have HZ3 : Hid ((I ((s.paid.nx x.xs))).sz (N + 1 * c + 0)) := Lib.hid ((HIa.out _ _ HZ2.out).more (by omega))
      clear h ho
      go_wp2_with fail
      refine (HI.out _ _ _ (N + 1 * c + 0) HW3.out HZ3.out (by omega)).mono ?_
      rintro e w4 ⟨rfl, h, ho⟩
      have HW4 := Lib.hid h
      have HO4 : Hid (Fr x w0 w4) := Lib.hid (HO3.out.trans ho)
      have HZ4 : Hid ((I (I ((s.paid.nx x.xs)))).sz (N + 2 * c + 0)) := Lib.hid ((HIa.out _ _ HZ3.out).more (by omega))
      clear h ho
      have t4 := HW4.out.t
      have hbt := belowA w4 (.cells #[.int .u8 96, .int .u8 100, .int .u8 104, .int .u8 108, .int .u8 126, .int .u8 130, .int .u8 120, .int .u8 112, .int .u8 128, .int .u8 124] 5)
      have kb4 := Blk.new w4 5 #[.int .u8 96, .int .u8 100, .int .u8 104, .int .u8 108, .int .u8 126, .int .u8 130, .int .u8 120, .int .u8 112, .int .u8 128, .int .u8 124]
      have h := HW4.out.below hbt
      have ho := Fr.of_below (x := x) hbt
      obtain ⟨w5, hw4⟩ : ∃ W, w4.alloc (.cells #[.int .u8 96, .int .u8 100, .int .u8 104, .int .u8 108, .int .u8 126, .int .u8 130, .int .u8 120, .int .u8 112, .int .u8 128, .int .u8 124] 5) = W := ⟨_, rfl⟩
      rw [hw4] at h ho kb4
      have HWW4 := Lib.hid hw4
      have HKB4 := Lib.hid kb4
      have t4b := h.t
      rw [← hw4] at t4b
      have hgl4 := HW4.out.lt
      clear hw4 kb4 hbt
      have HW5 := Lib.hid h
      have HO5 : Hid (Fr x w0 w5) := Lib.hid (HO4.out.trans ho)
      have HZ5 : Hid ((I (I ((s.paid.nx x.xs)))).sz (N + 2 * c + 0)) := Lib.hid ((HZ4.out).more (by omega))
      clear h ho
      go_wp2_with fail
      rw [HWW4.out]
      clear t4 t4b
      refine (next_s x _ _ _ 10 _ HW5.out (by omega) (by omega) rfl).mono ?_
      rintro e w6 ⟨rfl, h, ho⟩
      have HQ6 := Lib.hid (ho.2 _ _ _ HKB4.out (by unfold WE; decide))
      have HW6 := Lib.hid h
      have HO6 : Hid (Fr x w0 w6) := Lib.hid (HO5.out.trans ho)
      have HZ6 : Hid (((I (I ((s.paid.nx x.xs)))).nx x.xs).sz (N + 2 * c + 0)) := Lib.hid ((Ws.sz_nx x.xs HZ5.out).more (by omega))
      clear h ho
      obtain ⟨a, ha⟩ : ∃ a, nxV x.xs 10 (I (I ((s.paid.nx x.xs)))).at_ = a := ⟨_, rfl⟩
      have ba : a < 10 := by rw [← ha]; exact nxV_lt (by omega)
      rw [ha]
      have HVa := Lib.hid ha
      have da : w6.cell? ⟨w4.heap.size, a, none⟩ = some (.int .u8 ((intOps.getD a 0).toNat : Int)) := by
        rw [HQ6.out.cell]
        exact u8_of_tab intOps a ba
      have la : w4.heap.size < w6.heap.size := HQ6.out.lt
      obtain ⟨qa, hqa⟩ : ∃ q : Int, ((intOps.getD a 0).toNat : Int) = q := ⟨_, rfl⟩
      rw [hqa] at da
      have HQa := Lib.hid hqa
      clear ha hqa
      go_wp2_with fail
      refine (op_v x _ _ _ (N + 2 * c + 0) (intOps.getD a 0) _ _ HQa.out HW6.out HZ6.out (by omega)).mono ?_
      rintro e w7 ⟨rfl, h, ho⟩
      have HW7 := Lib.hid h
      have HO7 : Hid (Fr x w0 w7) := Lib.hid (HO6.out.trans ho)
      have HZ7 : Hid ((((I (I ((s.paid.nx x.xs)))).nx x.xs).op (intOps.getD a 0) 0).sz (N + 2 * c + 1)) := Lib.hid ((Ws.sz_op _ _ HZ6.out).more (by omega))
      clear h ho
      have HE : Hid (FS = ((I (I ((s.paid.nx x.xs)))).nx x.xs).op (intOps.getD a 0) 0) := Lib.hid (by rw [← HFS.out]; unfold stepI; simp [HVv.out, leafI, HBD.out, HVa.out])
      go_wp2
      go_end0
      rw [HE.out]
      exact ⟨rfl, HW7.out, HO7.out⟩
    · go_wp2_with fail
      refine (HL.out _ _ _ N HW2.out HZ2.out (by omega)).mono ?_
      rintro e w3 ⟨rfl, h, ho⟩
      have HW3 := Lib.hid h
      have HO3 : Hid (Fr x w0 w3) := Lib.hid (HO2.out.trans ho)
      have HZ3 : Hid ((L ((s.paid.nx x.xs))).sz (N + 1 * c + 0)) := Lib.hid ((HLa.out _ _ HZ2.out).more (by omega))
      clear h ho
      go_wp2_with fail
      refine (op_v x _ _ _ (N + 1 * c + 0) 136 _ _ (by first | rfl | decide | assumption) HW3.out HZ3.out (by omega)).mono ?_
      rintro e w4 ⟨rfl, h, ho⟩
      have HW4 := Lib.hid h
      have HO4 : Hid (Fr x w0 w4) := Lib.hid (HO3.out.trans ho)
      have HZ4 : Hid (((L ((s.paid.nx x.xs))).op 136 0).sz (N + 1 * c + 1)) := Lib.hid ((Ws.sz_op _ _ HZ3.out).more (by omega))
      clear h ho
      have HE : Hid (FS = (L ((s.paid.nx x.xs))).op 136 0) := Lib.hid (by rw [← HFS.out]; unfold stepI; simp [HVv.out, leafI, HBD.out])
      go_wp2
      go_end0
      rw [HE.out]
      exact ⟨rfl, HW4.out, HO4.out⟩
    · go_wp2_with fail
      refine (op_v x _ _ _ N 25 _ _ (by first | rfl | decide | assumption) HW2.out HZ2.out (by omega)).mono ?_
      rintro e w3 ⟨rfl, h, ho⟩
      have HW3 := Lib.hid h
      have HO3 : Hid (Fr x w0 w3) := Lib.hid (HO2.out.trans ho)
      have HZ3 : Hid ((((s.paid.nx x.xs)).op 25 6).sz (N + 1)) := Lib.hid ((Ws.sz_op _ _ HZ2.out).more (by omega))
      clear h ho
      go_wp2_with fail
      refine (HI.out _ _ _ (N + 1) HW3.out HZ3.out (by omega)).mono ?_
      rintro e w4 ⟨rfl, h, ho⟩
      have HW4 := Lib.hid h
      have HO4 : Hid (Fr x w0 w4) := Lib.hid (HO3.out.trans ho)
      have HZ4 : Hid ((I (((s.paid.nx x.xs)).op 25 6)).sz (N + 1 * c + 1)) := Lib.hid ((HIa.out _ _ HZ3.out).more (by omega))
      clear h ho
      go_wp2_with fail
      refine (op_v x _ _ _ (N + 1 * c + 1) 46 _ _ (by first | rfl | decide | assumption) HW4.out HZ4.out (by omega)).mono ?_
      rintro e w5 ⟨rfl, h, ho⟩
      have HW5 := Lib.hid h
      have HO5 : Hid (Fr x w0 w5) := Lib.hid (HO4.out.trans ho)
      have HZ5 : Hid (((I (((s.paid.nx x.xs)).op 25 6)).op 46 0).sz (N + 1 * c + 2)) := Lib.hid ((Ws.sz_op _ _ HZ4.out).more (by omega))
      clear h ho
      have HE : Hid (FS = (I (((s.paid.nx x.xs)).op 25 6)).op 46 0) := Lib.hid (by rw [← HFS.out]; unfold stepI; simp [HVv.out, leafI, HBD.out])
      go_wp2
      go_end0
      rw [HE.out]
      exact ⟨rfl, HW5.out, HO5.out⟩
    · go_wp2_with fail
      refine (op_v x _ _ _ N 25 _ _ (by first | rfl | decide | assumption) HW2.out HZ2.out (by omega)).mono ?_
      rintro e w3 ⟨rfl, h, ho⟩
      have HW3 := Lib.hid h
      have HO3 : Hid (Fr x w0 w3) := Lib.hid (HO2.out.trans ho)
      have HZ3 : Hid ((((s.paid.nx x.xs)).op 25 5).sz (N + 1)) := Lib.hid ((Ws.sz_op _ _ HZ2.out).more (by omega))
      clear h ho
      go_wp2_with fail
      refine (name_v x _ _ _ (N + 1) 180 _ [65] [102] [73] _ _ _ rfl rfl rfl rfl HW3.out HZ3.out (by omega)).mono ?_
      rintro e w4 ⟨rfl, h, ho⟩
      have HW4 := Lib.hid h
      have HO4 : Hid (Fr x w0 w4) := Lib.hid (HO3.out.trans ho)
      have HZ4 : Hid (((((s.paid.nx x.xs)).op 25 5).name 180 [65] [102] [73]).sz (N + 2)) := Lib.hid ((Ws.sz_name _ _ _ _ HZ3.out).more (by omega))
      clear h ho
      have HE : Hid (FS = (((s.paid.nx x.xs)).op 25 5).name 180 [65] [102] [73]) := Lib.hid (by rw [← HFS.out]; unfold stepI; simp [HVv.out, leafI, HBD.out])
      go_wp2
      go_end0
      rw [HE.out]
      exact ⟨rfl, HW4.out, HO4.out⟩
    · go_wp2_with fail
      refine (op_v x _ _ _ N 25 _ _ (by first | rfl | decide | assumption) HW2.out HZ2.out (by omega)).mono ?_
      rintro e w3 ⟨rfl, h, ho⟩
      have HW3 := Lib.hid h
      have HO3 : Hid (Fr x w0 w3) := Lib.hid (HO2.out.trans ho)
      have HZ3 : Hid ((((s.paid.nx x.xs)).op 25 5).sz (N + 1)) := Lib.hid ((Ws.sz_op _ _ HZ2.out).more (by omega))
      clear h ho
      go_wp2_with fail
      refine (HI.out _ _ _ (N + 1) HW3.out HZ3.out (by omega)).mono ?_
      rintro e w4 ⟨rfl, h, ho⟩
      have HW4 := Lib.hid h
      have HO4 : Hid (Fr x w0 w4) := Lib.hid (HO3.out.trans ho)
      have HZ4 : Hid ((I (((s.paid.nx x.xs)).op 25 5)).sz (N + 1 * c + 1)) := Lib.hid ((HIa.out _ _ HZ3.out).more (by omega))
      clear h ho
      go_wp2_with fail
      refine (name_v x _ _ _ (N + 1 * c + 1) 182 _ [65] [118] [40, 73, 41, 73] _ _ _ rfl rfl rfl rfl HW4.out HZ4.out (by omega)).mono ?_
      rintro e w5 ⟨rfl, h, ho⟩
      have HW5 := Lib.hid h
      have HO5 : Hid (Fr x w0 w5) := Lib.hid (HO4.out.trans ho)
      have HZ5 : Hid (((I (((s.paid.nx x.xs)).op 25 5)).name 182 [65] [118] [40, 73, 41, 73]).sz (N + 1 * c + 2)) := Lib.hid ((Ws.sz_name _ _ _ _ HZ4.out).more (by omega))
      clear h ho
      have HE : Hid (FS = (I (((s.paid.nx x.xs)).op 25 5)).name 182 [65] [118] [40, 73, 41, 73]) := Lib.hid (by rw [← HFS.out]; unfold stepI; simp [HVv.out, leafI, HBD.out])
      go_wp2
      go_end0
      rw [HE.out]
      exact ⟨rfl, HW5.out, HO5.out⟩
    · go_wp2_with fail
      refine (HI.out _ _ _ N HW2.out HZ2.out (by omega)).mono ?_
      rintro e w3 ⟨rfl, h, ho⟩
      have HW3 := Lib.hid h
      have HO3 : Hid (Fr x w0 w3) := Lib.hid (HO2.out.trans ho)
      have HZ3 : Hid ((I ((s.paid.nx x.xs))).sz (N + 1 * c + 0)) := Lib.hid ((HIa.out _ _ HZ2.out).more (by omega))
      clear h ho
      go_wp2_with fail
      refine (name_v x _ _ _ (N + 1 * c + 0) 184 _ sMain [104, 101, 108, 112] [40, 73, 41, 73] _ _ _ rfl rfl rfl rfl HW3.out HZ3.out (by omega)).mono ?_
      rintro e w4 ⟨rfl, h, ho⟩
      have HW4 := Lib.hid h
      have HO4 : Hid (Fr x w0 w4) := Lib.hid (HO3.out.trans ho)
      have HZ4 : Hid (((I ((s.paid.nx x.xs))).name 184 sMain [104, 101, 108, 112] [40, 73, 41, 73]).sz (N + 1 * c + 1)) := Lib.hid ((Ws.sz_name _ _ _ _ HZ3.out).more (by omega))
      clear h ho
      have HE : Hid (FS = (I ((s.paid.nx x.xs))).name 184 sMain [104, 101, 108, 112] [40, 73, 41, 73]) := Lib.hid (by rw [← HFS.out]; unfold stepI; simp [HVv.out, leafI, HBD.out])
      go_wp2
      go_end0
      rw [HE.out]
      exact ⟨rfl, HW4.out, HO4.out⟩
    · have t2 := HW2.out.t
      go_wp2_with fail
      refine (next_s x _ _ _ 2 _ HW2.out (by omega) (by omega) rfl).mono ?_
      rintro e w3 ⟨rfl, h, ho⟩
      have HW3 := Lib.hid h
      have HO3 : Hid (Fr x w0 w3) := Lib.hid (HO2.out.trans ho)
      have HZ3 : Hid ((((s.paid.nx x.xs)).nx x.xs).sz N) := Lib.hid ((Ws.sz_nx x.xs HZ2.out).more (by omega))
      clear h ho
      obtain ⟨a, ha⟩ : ∃ a, nxV x.xs 2 ((s.paid.nx x.xs)).at_ = a := ⟨_, rfl⟩
      have ba : a < 2 := by rw [← ha]; exact nxV_lt (by omega)
      rw [ha]
      have HVa := Lib.hid ha
      clear ha t2
      go_wp2_with fail
      refine (op_v x _ _ _ N 25 _ _ (by first | rfl | decide | assumption) HW3.out HZ3.out (by omega)).mono ?_
      rintro e w4 ⟨rfl, h, ho⟩
      have HW4 := Lib.hid h
      have HO4 : Hid (Fr x w0 w4) := Lib.hid (HO3.out.trans ho)
      have HZ4 : Hid (((((s.paid.nx x.xs)).nx x.xs).op 25 (6 + (a : Int))).sz (N + 1)) := Lib.hid ((Ws.sz_op _ _ HZ3.out).more (by omega))
      clear h ho
      go_wp2_with fail
      refine (op_v x _ _ _ (N + 1) 190 _ _ (by first | rfl | decide | assumption) HW4.out HZ4.out (by omega)).mono ?_
      rintro e w5 ⟨rfl, h, ho⟩
      have HW5 := Lib.hid h
      have HO5 : Hid (Fr x w0 w5) := Lib.hid (HO4.out.trans ho)
      have HZ5 : Hid ((((((s.paid.nx x.xs)).nx x.xs).op 25 (6 + (a : Int))).op 190 0).sz (N + 2)) := Lib.hid ((Ws.sz_op _ _ HZ4.out).more (by omega))
      clear h ho
      have HE : Hid (FS = ((((s.paid.nx x.xs)).nx x.xs).op 25 (6 + (a : Int))).op 190 0) := Lib.hid (by rw [← HFS.out]; unfold stepI; simp [HVv.out, leafI, HBD.out, HVa.out])
      go_wp2
      go_end0
      rw [HE.out]
      exact ⟨rfl, HW5.out, HO5.out⟩
    · go_wp2_with fail
      refine (op_v x _ _ _ N 25 _ _ (by first | rfl | decide | assumption) HW2.out HZ2.out (by omega)).mono ?_
      rintro e w3 ⟨rfl, h, ho⟩
      have HW3 := Lib.hid h
      have HO3 : Hid (Fr x w0 w3) := Lib.hid (HO2.out.trans ho)
      have HZ3 : Hid ((((s.paid.nx x.xs)).op 25 5).sz (N + 1)) := Lib.hid ((Ws.sz_op _ _ HZ2.out).more (by omega))
      clear h ho
      obtain ⟨C3, nc3, cc3, T3, nt3, ct3, M3, nm3, cm3, lm3, hD⟩ := HW3.out
      have hnc3 : nc3 ≤ (N + 1) := by rw [← hD.code.row.1]; exact HZ3.out.1
      have c13 : w3.cell? ⟨x.g, 1, none⟩ = some (.slice C3 nc3 cc3) := hD.blk.cell 1
      have hgl3 := hD.blk.lt
      have hb := belowA w3 (.cells (inC (⟨193, 0, 0, [66], [], [], []⟩ : InD)).toArray 98)
      have hD1 := hD.below hb
      have f13 : w3.frozen? ⟨x.g, 1, none⟩ = false := hD.blk.frozen 1
      have HC3 : Hid (GotR inC 7 98 x.b0 (w3.alloc (.cells (inC (⟨193, 0, 0, [66], [], [], []⟩ : InD)).toArray 98)) C3 nc3 cc3 (((s.paid.nx x.xs)).op 25 5).code) := Lib.hid hD1.code
      have HB3 : Hid (Blk (w3.alloc (.cells (inC (⟨193, 0, 0, [66], [], [], []⟩ : InD)).toArray 98)) w3.heap.size 98 (inC (⟨193, 0, 0, [66], [], [], []⟩ : InD)).toArray) := Lib.hid (Blk.new _ _ _)
      have hb03 := hD1.b0
      have HGO3 := Lib.hid (ne_own hD.code hD.blk (by decide))
      have HD13 := Lib.hid hD1
      have HBE3 := Lib.hid hb
      clear hD hD1 hb
      simp only [inC] at HC3 HB3 HBE3 HD13 hb03
      go_wp2_with (at_builtin; refine wpList_push rfl _ _ rfl x.b0 C3 nc3 cc3 (((s.paid.nx x.xs)).op 25 5).code rfl HC3.out w3.heap.size (⟨193, 0, 0, [66], [], [], []⟩ : InD) rfl HB3.out (by omega) hb03 ?_; intro C23 c23 wx3 hG3 hg3 hr3; have s13 : wx3.cell? ⟨x.g, 1, none⟩ = some (.slice C3 nc3 cc3) := ((only_grown hg3 hr3).cell (p := ⟨x.g, 1, none⟩) (by simp; omega) HGO3.out).trans (cellA _ c13); have s23 : wx3.frozen? ⟨x.g, 1, none⟩ = false := (((only_grown hg3 hr3).blk HD13.out.blk HGO3.out)).frozen 1)
      obtain ⟨hP, hF⟩ := HD13.out.push hG3 hg3 hr3
      obtain ⟨w4, hwe⟩ : ∃ W, wx3.setCell ⟨x.g, 1, none⟩ (.slice C23 (nc3 + 1) c23) = W := ⟨_, rfl⟩
      rw [hwe] at hP hF ⊢
      have h : WrS x w4 _ ((((s.paid.nx x.xs)).op 25 5).push ⟨193, 0, 0, [66], [], [], []⟩) := ⟨C23, nc3 + 1, c23, T3, nt3, ct3, M3, nm3, cm3, lm3, hP⟩
      have ho : Fr x w3 w4 := (Fr.of_below HBE3.out).trans hF
      clear hwe hP hF hG3 hg3 hr3 s13 s23 c13 f13
      have HW4 := Lib.hid h
      have HO4 : Hid (Fr x w0 w4) := Lib.hid (HO3.out.trans ho)
      have HZ4 : Hid (((((s.paid.nx x.xs)).op 25 5).push ⟨193, 0, 0, [66], [], [], []⟩).sz (N + 2)) := Lib.hid ((Ws.sz_push _ HZ3.out).more (by omega))
      clear h ho
      have HE : Hid (FS = (((s.paid.nx x.xs)).op 25 5).push ⟨193, 0, 0, [66], [], [], []⟩) := Lib.hid (by rw [← HFS.out]; unfold stepI; simp [HVv.out, leafI, HBD.out])
      go_end0
      rw [HE.out]
      exact ⟨rfl, HW4.out, HO4.out⟩
    · go_wp2_with fail
      refine (HL.out _ _ _ N HW2.out HZ2.out (by omega)).mono ?_
      rintro e w3 ⟨rfl, h, ho⟩
      have HW3 := Lib.hid h
      have HO3 : Hid (Fr x w0 w3) := Lib.hid (HO2.out.trans ho)
      have HZ3 : Hid ((L ((s.paid.nx x.xs))).sz (N + 1 * c + 0)) := Lib.hid ((HLa.out _ _ HZ2.out).more (by omega))
      clear h ho
      go_wp2_with fail
      refine (HL.out _ _ _ (N + 1 * c + 0) HW3.out HZ3.out (by omega)).mono ?_
      rintro e w4 ⟨rfl, h, ho⟩
      have HW4 := Lib.hid h
      have HO4 : Hid (Fr x w0 w4) := Lib.hid (HO3.out.trans ho)
      have HZ4 : Hid ((L (L ((s.paid.nx x.xs)))).sz (N + 2 * c + 0)) := Lib.hid ((HLa.out _ _ HZ3.out).more (by omega))
      clear h ho
      go_wp2_with fail
      refine (op_v x _ _ _ (N + 2 * c + 0) 148 _ _ (by first | rfl | decide | assumption) HW4.out HZ4.out (by omega)).mono ?_
      rintro e w5 ⟨rfl, h, ho⟩
      have HW5 := Lib.hid h
      have HO5 : Hid (Fr x w0 w5) := Lib.hid (HO4.out.trans ho)
      have HZ5 : Hid (((L (L ((s.paid.nx x.xs)))).op 148 0).sz (N + 2 * c + 1)) := Lib.hid ((Ws.sz_op _ _ HZ4.out).more (by omega))
      clear h ho
      have HE : Hid (FS = (L (L ((s.paid.nx x.xs)))).op 148 0) := Lib.hid (by rw [← HFS.out]; unfold stepI; simp [HVv.out, leafI, HBD.out])
      go_wp2
      go_end0
      rw [HE.out]
      exact ⟨rfl, HW5.out, HO5.out⟩

end Go.Proofs.YtdkkpcbebhgbiaaGreatDoor

/- The walks over the document's object, IsType, first, Method, Elem, ClassOf, IsRef. -/
namespace Go.Proofs.YtdkkpcbebhgbiaaGreatDoor
set_option maxRecDepth 100000
open Go.RowKit

/-- L, a class's name and a semicolon? -/
def objR : List UInt8 → Bool
  | [] => false
  | x :: t => x == 76 && objB t
theorem long_form (xs : List UInt8) (h : 2 ≤ xs.length) : ∃ x u y, xs = x :: (u ++ [y]) := by
  cases xs with
  | nil => simp at h
  | cons x t =>
    rcases List.eq_nil_or_concat t with rfl | ⟨u, y, rfl⟩
    · simp at h
    · exact ⟨x, u, y, by simp⟩
theorem objR_form (x y : UInt8) (u : List UInt8) : objR (x :: (u ++ [y])) = (x == 76 && (y == 59) && classB u) := by
  simp [objR, objB, Bool.and_assoc]
theorem objR_short (xs : List UInt8) (h : xs.length < 3) : objR xs = false := by
  match xs, h with
  | [], _ => rfl
  | [x], _ => simp [objR, objB]
  | [x, y], _ =>
    have := objR_form x y []
    simp only [List.nil_append] at this
    rw [this, show classB [] = false by decide, Bool.and_false]

theorem eq8 {a b : UInt8} (h : a = b) : ((a.toNat : Int) == (b.toNat : Int)) = true := by rw [h]; simp
theorem ne8 {a b : UInt8} (h : a ≠ b) : ((a.toNat : Int) == (b.toNat : Int)) = false := by
  rw [beq_eq_false_iff_ne]
  exact fun e => h (UInt8.toNat_inj.1 (by omega))
theorem eqn8 {a : Nat} {b : Int} (h : ((a : Int) == b) = true) : ((a : Int) != b) = false := by rw [bne, h]; rfl
theorem nen8 {a : Nat} {b : Int} (h : ((a : Int) == b) = false) : ((a : Int) != b) = true := by rw [bne, h]; rfl

theorem refObject_any (xs : List UInt8) (w : World) (hl : xs.length ≤ 1000000) :
    Calls Tryz.prog 189 #[.string (strB xs)] w fun e w' => e = .returned (.bool (objR xs)) ∧ w = w' := by
  by_cases h3 : xs.length < 3
  · have HE := Lib.hid (objR_short xs h3)
    have hz := strB_size xs
    go_enter Tryz.func189, Tryz.ntmps189
    go_wp2
    go_ret
    exact ⟨by rw [HE.out]; rfl, rfl⟩
  · obtain ⟨x, u, y, rfl⟩ := long_form xs (by omega)
    have hul : u.length + 2 ≤ 1000000 := by simp at hl; omega
    have hu1 : 1 ≤ u.length := by simp at h3; omega
    have HE := Lib.hid (objR_form x y u)
    have hx0 : ∀ h, (strB (x :: (u ++ [y])))[0]'h = x := fun h => strB_get _ _ _ h rfl
    have hy0 : ∀ h, (strB (x :: (u ++ [y])))[u.length + 1]'h = y := fun h => strB_get _ _ _ h (by simp)
    have he : (strB (x :: (u ++ [y]))).extract 1 (u.length + 1) = strB u := by rw [strB_ext]; simp
    have hz : (strB (x :: (u ++ [y]))).size = u.length + 2 := by rw [strB_size]; simp
    obtain ⟨s, hs⟩ : ∃ s, s = strB (x :: (u ++ [y])) := ⟨_, rfl⟩
    rw [← hs] at hx0 hy0 he hz ⊢
    obtain ⟨r, hr⟩ : ∃ r, r = objR (x :: (u ++ [y])) := ⟨_, rfl⟩
    rw [← hr] at HE ⊢
    have c1 := refIsClass_any u w (by omega)
    obtain ⟨m, hm⟩ : ∃ m, m = u.length := ⟨_, rfl⟩
    rw [← hm] at hul hu1 hy0 he hz
    clear hs hr hl h3 hm
    by_cases hx : x = 76
    · by_cases hy : y = 59
      · subst hx hy
        obtain ⟨b, hb⟩ : ∃ b, b = classB u := ⟨_, rfl⟩
        rw [← hb] at c1 HE
        have C1 := Lib.hid c1
        clear c1 hb
        go_enter Tryz.func189, Tryz.ntmps189
        go_wp2_with fail
        refine C1.out.mono ?_
        rintro e w' ⟨rfl, rfl⟩
        go_wp2
        go_ret
        exact ⟨by rw [HE.out]; rfl, rfl⟩
      · have q2 : ((y.toNat : Int) == 59) = false := ne8 (b := 59) hy
        have HE2 : Hid (r = false) := Lib.hid (by rw [HE.out, beq_false_of_ne hy]; simp)
        subst hx
        clear hy c1
        go_enter Tryz.func189, Tryz.ntmps189
        go_wp2
        go_ret
        exact ⟨by rw [HE2.out]; rfl, rfl⟩
    · have q1 : ((x.toNat : Int) == 76) = false := ne8 (b := 76) hx
      have HE2 : Hid (r = false) := Lib.hid (by rw [HE.out, beq_false_of_ne hx]; simp)
      clear hx c1
      go_enter Tryz.func189, Tryz.ntmps189
      go_wp2
      go_ret
      exact ⟨by rw [HE2.out]; rfl, rfl⟩

/-- What stands behind the brackets. -/
def restB (arr : Bool) (it : List UInt8) : Bool := (it == [73]) || (!arr && it == [74]) || (arr && it == [66]) || objR it
theorem typeD_drop : ∀ (l : List UInt8) (d : Nat), ∃ k it, l.drop k = it ∧ k ≤ l.length ∧ (∀ j, j < k → l[j]? = some 91) ∧ hdB 91 it = false ∧ typeD d l = (decide (d + k ≤ 8) && restB (decide (0 < d + k)) it)
  | [], d => ⟨0, [], rfl, Nat.le_refl _, fun j h => by omega, rfl, by simp [typeD, restB, objR]⟩
  | x :: t, d => by
    by_cases hx : x = 91
    · subst hx
      obtain ⟨k, it, h1, h2, h3, h4, h5⟩ := typeD_drop t (d + 1)
      refine ⟨k + 1, it, h1, by simp; omega, fun j hj => ?_, h4, ?_⟩
      · cases j with
        | zero => rfl
        | succ j => exact h3 j (by omega)
      · rw [typeD, if_pos rfl, h5, show d + 1 + k = d + (k + 1) by omega]
    · refine ⟨0, x :: t, rfl, by simp, fun j h => by omega, by simp [hdB, hx], ?_⟩
      rw [typeD, if_neg hx, Nat.add_zero]
      congr 1
      unfold restB
      have e : ∀ c : UInt8, ((x :: t) == [c]) = (x == c && t.isEmpty) := fun c => by cases t <;> simp
      rw [e, e, e]
      have e0 : (!decide (0 < d)) = decide (d = 0) := by rw [Bool.eq_iff_iff]; simp
      rw [e0]
      simp only [objR, Bool.and_assoc]

set_option maxHeartbeats 8000000 in
theorem refIsType_any (xs : List UInt8) (w : World) (hl : xs.length ≤ 1000000) :
    Calls Tryz.prog 138 #[.string (strB xs)] w fun e w' => e = .returned (.bool (typeD 0 xs)) ∧ w = w' := by
  obtain ⟨d, it, h1, h2, h3, h4, h5⟩ := typeD_drop xs 0
  rw [Nat.zero_add] at h5
  have hz := strB_size xs
  have he := strB_from xs d
  rw [h1] at he
  have t1 := strB_toList it
  have H3 := Lib.hid h3
  have H1 := Lib.hid h1
  have H4 := Lib.hid h4
  have HE := Lib.hid h5
  have hitl : it.length ≤ 1000000 := by rw [← h1, List.length_drop]; omega
  have CO := Lib.hid (refObject_any it w hitl)
  clear h1 h3 h4 h5
  go_enter Tryz.func138, Tryz.ntmps138
  go_wp2
  go_loop [3] (fun i => ∃ k : Nat, k ≤ d ∧ i = .int .i64 (k : Int)) (fun i => d - (intOf i).toNat)
  case atStart => exact ⟨0, Nat.zero_le _, rfl⟩
  case round =>
    obtain ⟨k, hk, rfl⟩ := hrel
    by_cases hlt : k < d
    · have hx := H3.out k hlt
      have hkl : k < xs.length := by omega
      have h0 : ∀ h, (strB xs)[k]'h = 91 := fun h => strB_get _ _ _ h hx
      have hkq : decide ((k : Int) < (xs.length : Int)) = true := by simp; omega
      clear hx
      go_wp2
      go_round
      case rel => exact ⟨k + 1, by omega, by go_num⟩
      case measure => simp [intOf]; omega
    · obtain rfl : k = d := by omega
      obtain ⟨o, ho⟩ : ∃ o, o = objR it := ⟨_, rfl⟩
      have HE2 : Hid (typeD 0 xs = (decide (k ≤ 8) && ((it == [73]) || (!decide (0 < k) && it == [74]) || (decide (0 < k) && it == [66]) || o))) := Lib.hid (by rw [HE.out, ho]; rfl)
      have ho66 : it = [66] → o = false := fun e => by rw [ho, e]; rfl
      rw [← ho] at CO
      have HO := Lib.hid ho66
      clear ho ho66 HE
      have hstop : (k = xs.length) ∨ (k < xs.length ∧ ∃ x, x ≠ 91 ∧ xs[k]? = some x) := by
        by_cases hkl : k = xs.length
        · exact .inl hkl
        · have hkl : k < xs.length := by omega
          refine .inr ⟨hkl, xs[k], fun e => ?_, List.getElem?_eq_getElem hkl⟩
          have h4 := H4.out
          rw [← H1.out, List.drop_eq_getElem_cons hkl, hdB_cons, e] at h4
          cases h4
      -- where the brackets end
      have hend : ∀ (v : Value), v = .bool (typeD 0 xs) → v = .bool (typeD 0 xs) := fun _ h => h
      clear hend
      by_cases h8 : 8 < k
      · have HF : Hid (typeD 0 xs = false) := Lib.hid (by rw [HE2.out, decide_eq_false (by omega)]; rfl)
        rcases hstop with hs | ⟨hs, x, hx, hg⟩
        · have q0 : ¬ k < xs.length := by omega
          clear hs
          go_wp2
          go_ret
          exact ⟨by rw [HF.out]; rfl, rfl⟩
        · have h0 : ∀ h, (strB xs)[k]'h = x := fun h => strB_get _ _ _ h hg
          have q1 : ((x.toNat : Int) == 91) = false := ne8 (b := 91) hx
          clear hx hg
          go_wp2
          go_ret
          exact ⟨by rw [HF.out]; rfl, rfl⟩
      · have h8' : decide (k ≤ 8) = true := decide_eq_true (by omega)
        rw [h8'] at HE2
        have q8 : decide ((k : Int) > 8) = false := decide_eq_false (by omega)
        clear h8 h8'
        by_cases hB : it = [66]
        · subst hB
          have ho : o = false := HO.out rfl
          subst ho
          by_cases hk0 : 0 < k
          · have HF : Hid (typeD 0 xs = true) := Lib.hid (by rw [HE2.out, decide_eq_true hk0]; rfl)
            rcases hstop with hs | ⟨hs, x, hx, hg⟩
            · have q0 : ¬ k < xs.length := by omega
              clear hs
              go_wp2
              go_ret
              exact ⟨by rw [HF.out]; rfl, rfl⟩
            · have h0 : ∀ h, (strB xs)[k]'h = x := fun h => strB_get _ _ _ h hg
              have q1 : ((x.toNat : Int) == 91) = false := ne8 (b := 91) hx
              clear hx hg
              go_wp2
              go_ret
              exact ⟨by rw [HF.out]; rfl, rfl⟩
          · obtain rfl : k = 0 := by omega
            have HF : Hid (typeD 0 xs = false) := Lib.hid (by rw [HE2.out]; rfl)
            rcases hstop with hs | ⟨hs, x, hx, hg⟩
            · have q0 : ¬ 0 < xs.length := by omega
              clear hs
              go_wp2_with fail
              refine CO.out.mono ?_
              rintro e w' ⟨rfl, rfl⟩
              go_wp2
              go_ret
              exact ⟨by rw [HF.out]; rfl, rfl⟩
            · have h0 : ∀ h, (strB xs)[0]'h = x := fun h => strB_get _ _ _ h hg
              have q1 : ((x.toNat : Int) == 91) = false := ne8 (b := 91) hx
              clear hx hg
              go_wp2_with fail
              refine CO.out.mono ?_
              rintro e w' ⟨rfl, rfl⟩
              go_wp2
              go_ret
              exact ⟨by rw [HF.out]; rfl, rfl⟩
        · have qB : (it == [66]) = false := beq_false_of_ne hB
          rw [qB] at HE2
          clear hB HO
          by_cases hI : it = [73]
          · have qI : (it == [73]) = true := by rw [hI]; rfl
            have HF : Hid (typeD 0 xs = true) := Lib.hid (by rw [HE2.out, qI]; rfl)
            clear hI
            rcases hstop with hs | ⟨hs, x, hx, hg⟩
            · have q0 : ¬ k < xs.length := by omega
              clear hs
              by_cases hk0 : 0 < k
              all_goals
                go_wp2
                go_ret
                exact ⟨by rw [HF.out]; rfl, rfl⟩
            · have h0 : ∀ h, (strB xs)[k]'h = x := fun h => strB_get _ _ _ h hg
              have q1 : ((x.toNat : Int) == 91) = false := ne8 (b := 91) hx
              clear hx hg
              by_cases hk0 : 0 < k
              all_goals
                go_wp2
                go_ret
                exact ⟨by rw [HF.out]; rfl, rfl⟩
          · have qI : (it == [73]) = false := beq_false_of_ne hI
            rw [qI] at HE2
            clear hI
            by_cases hk0 : 0 < k
            · have HF : Hid (typeD 0 xs = o) := Lib.hid (by rw [HE2.out, decide_eq_true hk0]; simp)
              have qk : ((k : Int) == 0) = false := by rw [beq_eq_false_iff_ne]; omega
              rcases hstop with hs | ⟨hs, x, hx, hg⟩
              · have q0 : ¬ k < xs.length := by omega
                clear hs
                go_wp2_with fail
                refine CO.out.mono ?_
                rintro e w' ⟨rfl, rfl⟩
                go_wp2
                go_ret
                exact ⟨by rw [HF.out]; rfl, rfl⟩
              · have h0 : ∀ h, (strB xs)[k]'h = x := fun h => strB_get _ _ _ h hg
                have q1 : ((x.toNat : Int) == 91) = false := ne8 (b := 91) hx
                clear hx hg
                go_wp2_with fail
                refine CO.out.mono ?_
                rintro e w' ⟨rfl, rfl⟩
                go_wp2
                go_ret
                exact ⟨by rw [HF.out]; rfl, rfl⟩
            · obtain rfl : k = 0 := by omega
              cases qJ : it == [74] with
              | true =>
                have HF : Hid (typeD 0 xs = true) := Lib.hid (by rw [HE2.out, qJ]; rfl)
                rcases hstop with hs | ⟨hs, x, hx, hg⟩
                · have q0 : ¬ 0 < xs.length := by omega
                  clear hs
                  go_wp2
                  go_ret
                  exact ⟨by rw [HF.out]; rfl, rfl⟩
                · have h0 : ∀ h, (strB xs)[0]'h = x := fun h => strB_get _ _ _ h hg
                  have q1 : ((x.toNat : Int) == 91) = false := ne8 (b := 91) hx
                  clear hx hg
                  go_wp2
                  go_ret
                  exact ⟨by rw [HF.out]; rfl, rfl⟩
              | false =>
                have HF : Hid (typeD 0 xs = o) := Lib.hid (by rw [HE2.out, qJ]; simp)
                rcases hstop with hs | ⟨hs, x, hx, hg⟩
                · have q0 : ¬ 0 < xs.length := by omega
                  clear hs
                  go_wp2_with fail
                  refine CO.out.mono ?_
                  rintro e w' ⟨rfl, rfl⟩
                  go_wp2
                  go_ret
                  exact ⟨by rw [HF.out]; rfl, rfl⟩
                · have h0 : ∀ h, (strB xs)[0]'h = x := fun h => strB_get _ _ _ h hg
                  have q1 : ((x.toNat : Int) == 91) = false := ne8 (b := 91) hx
                  clear hx hg
                  go_wp2_with fail
                  refine CO.out.mono ?_
                  rintro e w' ⟨rfl, rfl⟩
                  go_wp2
                  go_ret
                  exact ⟨by rw [HF.out]; rfl, rfl⟩

end Go.Proofs.YtdkkpcbebhgbiaaGreatDoor

/- The walks over the document's first, Method, Elem, ClassOf, IsRef. -/
namespace Go.Proofs.YtdkkpcbebhgbiaaGreatDoor
set_option maxRecDepth 100000
open Go.RowKit

set_option maxHeartbeats 1000000 in
theorem first_any (xs : List UInt8) (w : World) (hl : xs.length ≤ 1000000) :
    Calls Tryz.prog 137 #[.string (strB xs)] w fun e w' => e = .returned (.string (strB (xs.take (cutD 0 xs)))) ∧ w = w' := by
  have hz := strB_size xs
  have hcl := cut_le xs 0
  have HK := Lib.hid (type_cut xs 0)
  obtain ⟨c, hc⟩ : ∃ c, c = cutD 0 xs := ⟨_, rfl⟩
  rw [← hc] at HK hcl ⊢
  clear hc
  go_enter Tryz.func137, Tryz.ntmps137
  go_wp2
  go_loop [3] (fun i => ∃ k : Nat, 1 ≤ k ∧ k ≤ xs.length + 1 ∧ (c = 0 ∨ k ≤ c) ∧ i = .int .i64 (k : Int)) (fun i => xs.length + 1 - (intOf i).toNat)
  case atStart => exact ⟨1, by omega, by omega, by omega, rfl⟩
  case round =>
    obtain ⟨k, hk1, hk, hkc, rfl⟩ := hrel
    by_cases hlt : k ≤ xs.length
    · have c1 := refIsType_any (xs.take k) w (by rw [List.length_take]; omega)
      have he := strB_to xs k
      have hi := HK.out k (by omega) hlt
      cases ht : typeD 0 (xs.take k) with
      | true =>
        rw [ht] at c1 hi
        have hck : c = k := hi.1 rfl
        subst hck
        have C1 := Lib.hid c1
        clear c1 hi ht
        go_wp2_with fail
        refine C1.out.mono ?_
        rintro e w' ⟨rfl, rfl⟩
        go_wp2
        go_ret
        exact ⟨rfl, rfl⟩
      | false =>
        rw [ht] at c1 hi
        have hck : c ≠ k := fun e => by have := hi.2 e; cases this
        have C1 := Lib.hid c1
        clear c1 hi ht
        go_wp2_with fail
        refine C1.out.mono ?_
        rintro e w' ⟨rfl, rfl⟩
        go_wp2
        go_round
        case rel => exact ⟨k + 1, by omega, by omega, by omega, by go_num⟩
        case measure => simp [intOf]; omega
    · have hc0 : c = 0 := by omega
      have HE : Hid (xs.take c = []) := Lib.hid (by rw [hc0]; rfl)
      clear hc0 hkc
      go_wp2
      go_ret
      exact ⟨by rw [HE.out]; rfl, rfl⟩

theorem refElem_any (xs : List UInt8) (w : World) (hl : xs.length ≤ 1000000) : Calls Tryz.prog 144 #[.string (strB xs)] w fun e w' => e = .returned (elemV xs) ∧ w = w' := by
  have hz := strB_size xs
  have t1 := strB_toList xs
  unfold elemV
  cases xs with
  | nil =>
    go_enter Tryz.func144, Tryz.ntmps144
    go_wp2
    go_ret2
    exact ⟨rfl, rfl⟩
  | cons x t =>
    have h0 : ∀ h, (strB (x :: t))[0]'h = x := fun h => strB_get _ _ _ h rfl
    by_cases hx : x = 91
    · subst hx
      have he : (strB (91 :: t)).extract 1 (t.length + 1) = strB t := by rw [strB_ext]; simp
      go_enter Tryz.func144, Tryz.ntmps144
      go_wp2
      go_ret2
      exact ⟨rfl, rfl⟩
    · have q1 : ((x.toNat : Int) == 91) = false := ne8 (b := 91) hx
      have q2 := nen8 q1
      have hb : hdB 91 (x :: t) = false := beq_false_of_ne hx
      simp only [hb, Bool.false_eq_true, if_false]
      clear hx hb
      go_enter Tryz.func144, Tryz.ntmps144
      go_wp2
      go_ret2
      exact ⟨rfl, rfl⟩

theorem refIsRef_any (xs : List UInt8) (w : World) (hl : xs.length ≤ 1000000) : Calls Tryz.prog 142 #[.string (strB xs)] w fun e w' => e = .returned (.bool (refB xs)) ∧ w = w' := by
  have hz := strB_size xs
  have t1 := strB_toList xs
  unfold refB
  cases xs with
  | nil =>
    go_enter Tryz.func142, Tryz.ntmps142
    go_wp2
    go_ret
    exact ⟨rfl, rfl⟩
  | cons x t =>
    have h0 : ∀ h, (strB (x :: t))[0]'h = x := fun h => strB_get _ _ _ h rfl
    rw [hdB_cons, hdB_cons]
    by_cases hx : x = 76
    · subst hx
      go_enter Tryz.func142, Tryz.ntmps142
      go_wp2
      go_ret
      exact ⟨rfl, rfl⟩
    · have q1 : ((x.toNat : Int) == 76) = false := ne8 (b := 76) hx
      rw [beq_false_of_ne hx]
      by_cases hx2 : x = 91
      · subst hx2
        go_enter Tryz.func142, Tryz.ntmps142
        go_wp2
        go_ret
        exact ⟨rfl, rfl⟩
      · have q2 : ((x.toNat : Int) == 91) = false := ne8 (b := 91) hx2
        rw [beq_false_of_ne hx2]
        clear hx hx2
        go_enter Tryz.func142, Tryz.ntmps142
        go_wp2
        go_ret
        exact ⟨rfl, rfl⟩

theorem refClassOf_any (xs : List UInt8) (w : World) (hl : xs.length ≤ 1000000) : Calls Tryz.prog 140 #[.string (strB xs)] w fun e w' => e = .returned (coV (classOfF xs)) ∧ w = w' := by
  by_cases h2 : xs.length < 2
  · have HE : Hid (classOfF xs = none) := Lib.hid (by
      match xs, h2 with
      | [], _ => rfl
      | [x], _ => simp [classOfF])
    have hz := strB_size xs
    go_enter Tryz.func140, Tryz.ntmps140
    go_wp2
    go_ret2
    exact ⟨by rw [HE.out]; rfl, rfl⟩
  · obtain ⟨x, u, y, rfl⟩ := long_form xs (by omega)
    have hul : u.length + 2 ≤ 1000000 := by simp at hl; omega
    have hE : classOfF (x :: (u ++ [y])) = if x = 76 ∧ y = 59 then some u else none := by simp [classOfF]
    have HE := Lib.hid hE
    have hx0 : ∀ h, (strB (x :: (u ++ [y])))[0]'h = x := fun h => strB_get _ _ _ h rfl
    have hy0 : ∀ h, (strB (x :: (u ++ [y])))[u.length + 1]'h = y := fun h => strB_get _ _ _ h (by simp)
    have he : (strB (x :: (u ++ [y]))).extract 1 (u.length + 1) = strB u := by rw [strB_ext]; simp
    have hz : (strB (x :: (u ++ [y]))).size = u.length + 2 := by rw [strB_size]; simp
    obtain ⟨s, hs⟩ : ∃ s, s = strB (x :: (u ++ [y])) := ⟨_, rfl⟩
    rw [← hs] at hx0 hy0 he hz ⊢
    obtain ⟨r, hr⟩ : ∃ r, r = classOfF (x :: (u ++ [y])) := ⟨_, rfl⟩
    rw [← hr] at HE ⊢
    obtain ⟨m, hm⟩ : ∃ m, m = u.length := ⟨_, rfl⟩
    rw [← hm] at hul hy0 he hz
    clear hs hr hl h2 hm hE
    by_cases hx : x = 76
    · by_cases hy : y = 59
      · have HE2 : Hid (r = some u) := Lib.hid (by rw [HE.out, if_pos ⟨hx, hy⟩])
        subst hx hy
        go_enter Tryz.func140, Tryz.ntmps140
        go_wp2
        go_ret2
        refine ⟨?_, rfl⟩
        rw [HE2.out]
        show Ending.returned (.tuple #[.string (s.extract 1 (m + 1)), .bool true]) = _
        rw [he]
        rfl
      · have q2 : ((y.toNat : Int) == 59) = false := ne8 (b := 59) hy
        have q3 := nen8 q2
        have HE2 : Hid (r = none) := Lib.hid (by rw [HE.out, if_neg (fun h => hy h.2)])
        subst hx
        clear hy
        go_enter Tryz.func140, Tryz.ntmps140
        go_wp2
        go_ret2
        exact ⟨by rw [HE2.out]; rfl, rfl⟩
    · have q1 : ((x.toNat : Int) == 76) = false := ne8 (b := 76) hx
      have q3 := nen8 q1
      have HE2 : Hid (r = none) := Lib.hid (by rw [HE.out, if_neg (fun h => hx h.1)])
      clear hx
      go_enter Tryz.func140, Tryz.ntmps140
      go_wp2
      go_ret2
      exact ⟨by rw [HE2.out]; rfl, rfl⟩

set_option maxHeartbeats 8000000 in
theorem refMethod_any (xs : List UInt8) (w : World) (hl : xs.length ≤ 1000000) :
    Calls Tryz.prog 70 #[.string (strB xs)] w fun e w' => MethD w w' (methodF xs) e := by
  have hz := strB_size xs
  have t1 := strB_toList xs
  cases xs with
  | nil =>
    have HE : Hid (methodF [] = none) := Lib.hid rfl
    go_enter Tryz.func70, Tryz.ntmps70
    go_wp2
    go_ret3
    exact MethD.no HE.out rfl (Below.refl _ _)
  | cons x s =>
    have h0 : ∀ h, (strB (x :: s))[0]'h = x := fun h => strB_get _ _ _ h rfl
    by_cases hx : x = 40
    · subst hx
      have he : (strB (40 :: s)).extract 1 (s.length + 1) = strB s := by rw [strB_ext]; simp
      have HM : Hid (methodF (40 :: s) = match (argsF 16 s).2 with
        | [] => none
        | y :: ret => if y = 41 ∧ retOk ret = true then some ((argsF 16 s).1, ret) else none) := Lib.hid rfl
      have hsl : s.length ≤ 1000000 := by simp at hl; omega
      obtain ⟨m, hm⟩ : ∃ m, m = methodF (40 :: s) := ⟨_, rfl⟩
      rw [← hm] at HM ⊢
      clear hm
      go_enter Tryz.func70, Tryz.ntmps70
      go_wp2
      clear h0 he hz t1
      go_loopw [5, 6] (fun v r wr => ∃ (ys : List UInt8) (A : Option Addr) (n c : Nat) (l : List (List UInt8)), v = .slice A n c ∧ r = .string (strB ys) ∧ n ≤ 16 ∧ ys.length ≤ s.length ∧ Hid (l.length = n) ∧ Hid (argsF 16 s = (l ++ (argsF (16 - n) ys).1, (argsF (16 - n) ys).2)) ∧ Hid (GotR svC 1 9 w.heap.size wr A n c l) ∧ Hid (Below w.heap.size w wr)) (fun v _ _ => match v with | .slice _ n _ => 16 - n | _ => 0)
      case atStart => exact ⟨s, none, 0, 0, [], rfl, rfl, by omega, Nat.le_refl _, Lib.hid rfl, Lib.hid rfl, Lib.hid (GotR.nil_ _ _ _ _ _), Lib.hid (Below.refl _ _)⟩
      case round =>
        obtain ⟨ys, A, n, c, l, rfl, rfl, hn16, hyl, HL, HA, HG, HB⟩ := hrel
        have hz := strB_size ys
        have t1 := strB_toList ys
        cases ys with
        | nil =>
          have HE : Hid (m = none) := Lib.hid (by rw [HM.out, HA.out, argsF_none _ _ rfl])
          go_wp2
          go_ret3
          exact MethD.no HE.out rfl HB.out
        | cons y t =>
          have h0 : ∀ h, (strB (y :: t))[0]'h = y := fun h => strB_get _ _ _ h rfl
          by_cases hy : y = 41
          · subst hy
            have HM2 : Hid (m = if retOk t = true then some (l, t) else none) := Lib.hid (by rw [HM.out, HA.out, argsF_none _ _ (cut_close t)]; simp)
            have he : (strB (41 :: t)).extract 1 (t.length + 1) = strB t := by rw [strB_ext]; simp
            have t2 := strB_toList t
            have htl : t.length ≤ 1000000 := by simp at hyl; omega
            have c4 := refIsType_any t wr htl
            cases ht : typeD 0 t with
            | true =>
              rw [ht] at c4
              have C4 := Lib.hid c4
              have HE : Hid (m = some (l, t)) := Lib.hid (by rw [HM2.out, if_pos (by unfold retOk; rw [ht, Bool.or_true])])
              clear c4 ht
              go_wp2_with fail
              refine C4.out.mono ?_
              rintro e w2 ⟨rfl, rfl⟩
              go_wp2
              go_quiet (fail)
              go_wp2
              go_ret3
              refine ⟨⟨A, n, c, ?_, by rw [HE.out]; exact HG.out.only svC_len ((Only.refl Empty _).drewN _) (fun _ _ _ h => h)⟩, HB.out.drewN _⟩
              rw [HE.out]
              rfl
            | false =>
              rw [ht] at c4
              have C4 := Lib.hid c4
              by_cases hv : t = [86]
              · have q1 : (t == [86]) = true := by rw [hv]; rfl
                have HE : Hid (m = some (l, t)) := Lib.hid (by rw [HM2.out, if_pos (by rw [hv]; rfl)])
                clear c4 ht hv
                go_wp2_with fail
                refine C4.out.mono ?_
                rintro e w2 ⟨rfl, rfl⟩
                go_wp2
                go_quiet (fail)
                go_wp2
                go_ret3
                refine ⟨⟨A, n, c, ?_, by rw [HE.out]; exact HG.out.only svC_len ((Only.refl Empty _).drewN _) (fun _ _ _ h => h)⟩, HB.out.drewN _⟩
                rw [HE.out]
                rfl
              · have q1 : (t == [86]) = false := beq_false_of_ne hv
                have HE : Hid (m = none) := Lib.hid (by rw [HM2.out, if_neg (by unfold retOk; rw [ht, q1]; exact Bool.false_ne_true)])
                clear c4 ht hv
                go_wp2_with fail
                refine C4.out.mono ?_
                rintro e w2 ⟨rfl, rfl⟩
                go_wp2
                go_ret3
                exact MethD.no HE.out rfl HB.out
          · have q1 : ((y.toNat : Int) == 41) = false := ne8 (b := 41) hy
            have q2 := nen8 q1
            have C := Lib.hid (first_any (y :: t) wr (by simp at hyl ⊢; omega))
            have hcl := cut_le (y :: t) 0
            have hem := take_empty hcl
            have tt := strB_toList ((y :: t).take (cutD 0 (y :: t)))
            have hzt := strB_size ((y :: t).take (cutD 0 (y :: t)))
            rw [List.length_take, Nat.min_eq_left hcl] at hzt
            obtain ⟨k, hk⟩ : ∃ k, k = cutD 0 (y :: t) := ⟨_, rfl⟩
            rw [← hk] at C hcl hem tt hzt
            by_cases hk0 : k = 0
            · have HE : Hid (m = none) := Lib.hid (by
                rw [HM.out, HA.out, argsF_none _ _ (hk.symm.trans hk0)]
                simp [hy])
              have ht : (y :: t).take k = [] := by rw [hk0]; rfl
              rw [ht] at C tt
              clear hk hk0 hem ht hy hzt
              go_wp2_with fail
              refine C.out.mono ?_
              rintro e w' ⟨rfl, rfl⟩
              go_wp2
              go_ret3
              exact MethD.no HE.out rfl HB.out
            · have hne : ((y :: t).take k).isEmpty = false := by rw [hem]; exact decide_eq_false hk0
              have hne2 : (y :: t).take k ≠ [] := by
                intro e
                rw [e] at hne
                cases hne
              by_cases hlt : n < 16
              · have HA2 : Hid (argsF 16 s = ((l ++ [(y :: t).take k]) ++ (argsF (16 - (n + 1)) ((y :: t).drop k)).1, (argsF (16 - (n + 1)) ((y :: t).drop k)).2)) := Lib.hid (by
                  rw [HA.out, show 16 - n = (16 - (n + 1)) + 1 by omega, argsF_step _ _ (by rw [← hk]; exact hk0), ← hk]
                  simp)
                have hdl : ((y :: t).drop k).length ≤ s.length := by rw [List.length_drop]; omega
                have HL2 : Hid ((l ++ [(y :: t).take k]).length = n + 1) := Lib.hid (by rw [List.length_append, HL.out]; rfl)
                have he := strB_from (y :: t) k
                have hzl : (y :: t).length = t.length + 1 := rfl
                rw [hzl] at he hcl
                have qn : ((n : Int) == 16) = false := by rw [beq_eq_false_iff_ne]; omega
                obtain ⟨a, ha⟩ : ∃ a, a = (y :: t).take k := ⟨_, rfl⟩
                obtain ⟨b, hb⟩ : ∃ b, b = (y :: t).drop k := ⟨_, rfl⟩
                rw [← ha] at C tt hne hne2 HA2 HL2 hzt
                rw [← hb] at HA2 hdl he
                clear hk hk0 hem ha hb hy hzl
                go_wp2_with fail
                refine C.out.mono ?_
                rintro e w1 ⟨rfl, rfl⟩
                have HB2 := Lib.hid (HB.out.alloc HB.out.size (.cells #[.string (strB a)] 9))
                have HG2 := Lib.hid (HG.out.alloc svC_len (.cells #[.string (strB a)] 9))
                have HS := Lib.hid (sv_lit a wr)
                go_wp2_with (at_builtin; refine wpList_append_sv rfl (.tmp 33) (.tmp 35) rfl w.heap.size A n c l rfl HG2.out (some ⟨wr.heap.size, 0, none⟩) 1 1 [a] rfl HS.out (fun h => by cases h) (by omega) HB2.out.size ?_; intro A' c' w' hg' hgr' hr')
                have HG3 := Lib.hid hg'
                have HB3 := Lib.hid (below_gotR HB2.out HB2.out.size hgr' hr' (Nat.le_refl _))
                clear hg' hgr' hr'
                go_wp2
                go_roundw
                case rel => exact ⟨b, A', n + 1, c', l ++ [a], rfl, rfl, by omega, hdl, HL2, HA2, HG3, HB3⟩
                case measure => show 16 - (n + 1) < 16 - n; omega
              · obtain rfl : n = 16 := by omega
                have HE : Hid (m = none) := Lib.hid (by
                  rw [HM.out, HA.out]
                  simp [argsF, hy])
                obtain ⟨a, ha⟩ : ∃ a, a = (y :: t).take k := ⟨_, rfl⟩
                rw [← ha] at C tt hne hne2 hzt
                clear hk hk0 hem ha hy
                go_wp2_with fail
                refine C.out.mono ?_
                rintro e w1 ⟨rfl, rfl⟩
                go_wp2
                go_ret3
                exact MethD.no HE.out rfl HB.out
    · have q1 : ((x.toNat : Int) == 40) = false := ne8 (b := 40) hx
      have q2 := nen8 q1
      have HE : Hid (methodF (x :: s) = none) := Lib.hid (by simp [methodF, hx])
      clear hx
      go_enter Tryz.func70, Tryz.ntmps70
      go_wp2
      go_ret3
      exact MethD.no HE.out rfl (Below.refl _ _)

end Go.Proofs.YtdkkpcbebhgbiaaGreatDoor
