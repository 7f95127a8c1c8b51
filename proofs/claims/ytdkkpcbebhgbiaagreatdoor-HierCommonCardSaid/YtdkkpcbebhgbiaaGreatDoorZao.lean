/- The walk over carpetbagmake's guarded; printed by gen/gen_wo.py. -/
import Derived.Test.YtdkkpcbebhgbiaaGreatDoorZan
import Derived.Test.YtdkkpcbebhgbiaaGreatDoorZab
namespace Go.Proofs.YtdkkpcbebhgbiaaGreatDoor
set_option maxRecDepth 100000
open Go.RowKit Go.Maps

theorem wpList_pushT {ops : Array Oper} {rest : List Oper} {q : Oper} {u : Act} {w : World} {Q : Exit → Act → World → Prop} (hgd : q.guard = none) (s y : Operand) (hq : q.op = .call { callee := .builtin .append, args := #[s, y], argTypes := #[38, 38] })
    (b0 : Nat) (C : Option Addr) (nc cc : Nat) (lc : List TrD) (hs : u.eval s = .slice C nc cc) (hown : GotR trC 4 133 b0 w C nc cc lc) (gl : Nat) (i : TrD) (hx : u.eval y = .slice (some ⟨gl, 0, none⟩) 1 1) (hB : Blk w gl 133 (trC i).toArray) (hm : nc + 1 ≤ 16777216) (hbase : b0 ≤ w.heap.size)
    (h : ∀ A' c' w', GotR trC 4 133 b0 w' A' (nc + 1) c' (lc ++ [i]) → w.grownBy w' (Value.slice C nc cc).ownBlock → (∀ g, (Value.slice C nc cc).ownBlock = some g → b0 ≤ g) → wpList Tryz.prog ops Q rest (u.put q.dst (.slice A' (nc + 1) c')) w') : wpList Tryz.prog ops Q (q :: rest) u w :=
  wpList_append_rows (S := Empty) trC_len trC_one (by decide) 38 133 _ 40 Tryz.underlying38 Tryz.infoTr (by simp [Value.cells]) (by decide) hgd s y hq b0 C nc cc lc hs hown (some ⟨gl, 0, none⟩) 1 1 [i] hx
    (RowSl.of_blk trC_len hB rfl (Nat.le_refl _) (by unfold maxLen; omega) (fun j _ => by simp) (fun h => h)) (fun h => by cases h) hm hbase (fun A' c' w' h1 h2 h3 _ => h A' c' w' h1 h2 h3)

set_option maxHeartbeats 4000000 in
theorem guard_s (x : Wx) (w : World) (D : Int) (s : Ws) (N : Nat) (F : Ws → Ws) (c B : Nat) (hD : -10 ≤ D ∧ D ≤ 10) (hF : CtS x 124 (D + 1) F B) (hFa : AddsW F c) (hFg : GrowW F) (h : WrS x w D s) (hz : s.sz N) (hN : N + 6 * c + 40 ≤ B) (hB : B ≤ 15600000) :
    Calls Tryz.prog 178 #[.pointer (some ⟨x.g, 0, none⟩)] w fun e w' => e = .returned (.tuple #[]) ∧ WrS x w' D (guardW x.xs F s) ∧ Fr x w w' := by
  obtain ⟨w0, rfl⟩ : ∃ w0, w0 = w := ⟨_, rfl⟩
  have HW0 := Lib.hid h
  have HO0 : Hid (Fr x w0 w0) := Lib.hid (Fr.refl x w0)
  have HZ0 := Lib.hid hz
  obtain ⟨FS, hFS⟩ : ∃ FS, guardW x.xs F s = FS := ⟨_, rfl⟩
  have HFS := Lib.hid hFS
  rw [hFS]
  clear h hz hFS
  have HFs := Lib.hid (fun (W : World) (t : Ws) (M : Nat) (h : WrS x W D t) (hz : t.sz M) (hM : M + 3 * c ≤ B) => some_s x W D t M F c B hD hF hFa h hz hM)
  have HFa := Lib.hid (adds_some x.xs hFa)
  have HFg := Lib.hid (grow_some x.xs hFg)
  clear hF hFa hFg
  obtain ⟨C0, n0, cc0, T0, nt0, ct0, M0, nm0, cm0, lm0, hD⟩ := HW0.out
  have c1 : w0.cell? ⟨x.g, 1, none⟩ = some (.slice C0 n0 cc0) := hD.blk.cell 1
  have HQq0 : Hid (s.code.length = n0) := Lib.hid hD.code.row.1
  have hgl0 := hD.blk.lt
  clear hD
  go_enter Tryz.func178, Tryz.ntmps178
  go_wp2_with fail
  refine (HFs.out _ _ N HW0.out HZ0.out (by omega)).mono ?_
  rintro e w1 ⟨rfl, h, ho⟩
  have HW1 := Lib.hid h
  have HO1 : Hid (Fr x w0 w1) := Lib.hid (HO0.out.trans ho)
  have HZ1 : Hid ((someW x.xs F (s)).sz (N + 3 * c + 0)) := Lib.hid ((HFa.out _ _ HZ0.out).more (by omega))
  clear h ho
  clear c1
  have t1 := HW1.out.t
  go_wp2_with fail
  refine (next_s x _ _ _ 3 _ HW1.out (by omega) (by omega) rfl).mono ?_
  rintro e w2 ⟨rfl, h, ho⟩
  have HW2 := Lib.hid h
  have HO2 : Hid (Fr x w0 w2) := Lib.hid (HO1.out.trans ho)
  have HZ2 : Hid (((someW x.xs F (s)).nx x.xs).sz (N + 3 * c + 0)) := Lib.hid ((Ws.sz_nx x.xs HZ1.out).more (by omega))
  clear h ho
  obtain ⟨v, hv⟩ : ∃ v, nxV x.xs 3 (someW x.xs F (s)).at_ = v := ⟨_, rfl⟩
  have bv : v < 3 := by rw [← hv]; exact nxV_lt (by omega)
  rw [hv]
  have HVv := Lib.hid hv
  clear hv t1
  have hcs : v = 0 ∨ v = 1 ∨ v = 2 := by omega
  clear bv
  rcases hcs with rfl | rfl | rfl
  · go_wp2_with fail
    refine (op_v x _ _ _ (N + 3 * c + 0) 0 _ _ (by first | rfl | decide | assumption) HW2.out HZ2.out (by omega)).mono ?_
    rintro e w3 ⟨rfl, h, ho⟩
    have HW3 := Lib.hid h
    have HO3 : Hid (Fr x w0 w3) := Lib.hid (HO2.out.trans ho)
    have HZ3 : Hid ((((someW x.xs F (s)).nx x.xs).op 0 0).sz (N + 3 * c + 1)) := Lib.hid ((Ws.sz_op _ _ HZ2.out).more (by omega))
    clear h ho
    obtain ⟨Cq, nq, cq, Tq, ntq, ctq, Mq, nmq, cmq, lmq, hD⟩ := HW3.out
    have hlq : (((someW x.xs F (s)).nx x.xs).op 0 0).code.length = nq := hD.code.row.1
    have hglq := hD.blk.lt
    have hcq := hD.code.row.2.1
    have hcq2 := hD.code.row.2.2.1
    unfold maxLen at hcq2
    have hlp := len_op ((someW x.xs F (s)).nx x.xs) 0 0
    obtain ⟨k1, rfl⟩ : ∃ k1, nq = k1 + 1 := ⟨nq - 1, by omega⟩
    have c1q : w3.cell? ⟨x.g, 1, none⟩ = some (.slice Cq (k1 + 1) cq) := hD.blk.cell 1
    obtain ⟨bq, oq, iq, rfl, hbq, -, hiq, hcell⟩ := hD.code.row.at_ (i := k1) (by omega)
    have hiq2 : iq = ⟨0, 0, 0, [], [], [], []⟩ := by
      have h1 : (((someW x.xs F (s)).nx x.xs).code ++ [(⟨0, 0, 0, [], [], [], []⟩ : InD)])[k1]? = some iq := hiq
      rw [List.getElem?_append_right (by omega), show k1 - ((someW x.xs F (s)).nx x.xs).code.length = 0 by omega] at h1
      simpa using h1.symm
    have d0q : w3.cell? ⟨bq, oq + k1 * 7, none⟩ = some (.int .u8 0) := by
      have := hcell 0 (by decide)
      rw [hiq2] at this
      simpa [inC] using this
    have HQq1 := Lib.hid hlq
    clear hD hlq hlp hiq hcell hiq2
    go_wp2_with fail
    refine (branch_s x _ _ _ (N + 3 * c + 1) 167 _ rfl HW3.out HZ3.out (by omega)).mono ?_
    rintro e w4 ⟨rfl, h, ho⟩
    have HW4 := Lib.hid h
    have HO4 : Hid (Fr x w0 w4) := Lib.hid (HO3.out.trans ho)
    have HZ4 : Hid (((((someW x.xs F (s)).nx x.xs).op 0 0).op 167 0).sz (N + 3 * c + 2)) := Lib.hid ((Ws.sz_op _ _ HZ3.out).more (by omega))
    clear h ho
    obtain ⟨q3, hq3⟩ : ∃ q3, (((someW x.xs F (s)).nx x.xs).op 0 0).code.length = q3 := ⟨_, rfl⟩
    rw [hq3]
    have HQq3 := Lib.hid hq3
    clear hq3
    have t4 := HW4.out.t
    have hbt := belowA w4 (.cells #[.string ⟨#[]⟩, .string ⟨#[84, 104, 114, 111, 119, 97, 98, 108, 101]⟩, .string ⟨#[77, 97, 116, 104, 70, 97, 117, 108, 116]⟩, .string ⟨#[79, 111, 112, 115]⟩, .string ⟨#[78, 117, 108, 108, 70, 97, 117, 108, 116]⟩] 9)
    have kb4 := Blk.new w4 9 #[.string ⟨#[]⟩, .string ⟨#[84, 104, 114, 111, 119, 97, 98, 108, 101]⟩, .string ⟨#[77, 97, 116, 104, 70, 97, 117, 108, 116]⟩, .string ⟨#[79, 111, 112, 115]⟩, .string ⟨#[78, 117, 108, 108, 70, 97, 117, 108, 116]⟩]
    have h := HW4.out.below hbt
    have ho := Fr.of_below (x := x) hbt
    obtain ⟨w5, hw4⟩ : ∃ W, w4.alloc (.cells #[.string ⟨#[]⟩, .string ⟨#[84, 104, 114, 111, 119, 97, 98, 108, 101]⟩, .string ⟨#[77, 97, 116, 104, 70, 97, 117, 108, 116]⟩, .string ⟨#[79, 111, 112, 115]⟩, .string ⟨#[78, 117, 108, 108, 70, 97, 117, 108, 116]⟩] 9) = W := ⟨_, rfl⟩
    rw [hw4] at h ho kb4
    have HWW4 := Lib.hid hw4
    have HKB4 := Lib.hid kb4
    have t4b := h.t
    rw [← hw4] at t4b
    have hgl4 := HW4.out.lt
    clear hw4 kb4 hbt
    have HW5 := Lib.hid h
    have HO5 : Hid (Fr x w0 w5) := Lib.hid (HO4.out.trans ho)
    have HZ5 : Hid (((((someW x.xs F (s)).nx x.xs).op 0 0).op 167 0).sz (N + 3 * c + 2)) := Lib.hid ((HZ4.out).more (by omega))
    clear h ho
    go_wp2_with fail
    rw [HWW4.out]
    clear t4 t4b 
    refine (next_s x _ _ _ 5 _ HW5.out (by omega) (by omega) rfl).mono ?_
    rintro e w6 ⟨rfl, h, ho⟩
    have HQ6 := Lib.hid (ho.2 _ _ _ HKB4.out (by unfold WE; decide))
    have HW6 := Lib.hid h
    have HO6 : Hid (Fr x w0 w6) := Lib.hid (HO5.out.trans ho)
    have HZ6 : Hid ((((((someW x.xs F (s)).nx x.xs).op 0 0).op 167 0).nx x.xs).sz (N + 3 * c + 2)) := Lib.hid ((Ws.sz_nx x.xs HZ5.out).more (by omega))
    clear h ho
    obtain ⟨a, ha⟩ : ∃ a, nxV x.xs 5 ((((someW x.xs F (s)).nx x.xs).op 0 0).op 167 0).at_ = a := ⟨_, rfl⟩
    have ba : a < 5 := by rw [← ha]; exact nxV_lt (by omega)
    rw [ha]
    have HVa := Lib.hid ha
    have la : w4.heap.size < w6.heap.size := HQ6.out.lt
    clear ha
    have hcs : a = 0 ∨ a = 1 ∨ a = 2 ∨ a = 3 ∨ a = 4 := by omega
    clear ba
    rcases hcs with rfl | rfl | rfl | rfl | rfl
    · have da : w6.cell? ⟨w4.heap.size, 0, none⟩ = some (.string ⟨#[]⟩) := by
        rw [HQ6.out.cell]
        rfl
      have e1 : ((⟨#[76]⟩ : ByteArray) ++ ⟨#[84, 104, 114, 111, 119, 97, 98, 108, 101]⟩) = ⟨#[76, 84, 104, 114, 111, 119, 97, 98, 108, 101]⟩ := rfl
      have e2 : (⟨#[76, 84, 104, 114, 111, 119, 97, 98, 108, 101]⟩ : ByteArray) ++ ⟨#[59]⟩ = ⟨#[76, 84, 104, 114, 111, 119, 97, 98, 108, 101, 59]⟩ := rfl
      have hbs := belowA w6 (.cells #[.string ⟨#[76, 84, 104, 114, 111, 119, 97, 98, 108, 101, 59]⟩] 9)
      have h := HW6.out.below hbs
      have ho := Fr.of_below (x := x) hbs
      have ks : Blk (w6.alloc (.cells #[.string ⟨#[76, 84, 104, 114, 111, 119, 97, 98, 108, 101, 59]⟩] 9)) w6.heap.size 9 ([[76, 84, 104, 114, 111, 119, 97, 98, 108, 101, 59]].map SV).toArray := Blk.new _ _ _
      obtain ⟨w7, hws⟩ : ∃ W, w6.alloc (.cells #[.string ⟨#[76, 84, 104, 114, 111, 119, 97, 98, 108, 101, 59]⟩] 9) = W := ⟨_, rfl⟩
      rw [hws] at h ho ks
      have HWS := Lib.hid hws
      have HKS := Lib.hid ks
      clear hws ks hbs
      have HW7 := Lib.hid h
      have HO7 : Hid (Fr x w0 w7) := Lib.hid (HO6.out.trans ho)
      have HZ7 : Hid ((((((someW x.xs F (s)).nx x.xs).op 0 0).op 167 0).nx x.xs).sz (N + 3 * c + 2)) := Lib.hid ((HZ6.out).more (by omega))
      clear h ho
      go_wp2_with fail
      rw [HWS.out]
      clear da e1 e2
      refine (label_s x _ _ _ (N + 3 * c + 2) (some ⟨w6.heap.size, 0, none⟩) 1 1 [[76, 84, 104, 114, 111, 119, 97, 98, 108, 101, 59]] (Or.inr ⟨w6.heap.size, rfl, rfl, rfl, HKS.out⟩) HW7.out HZ7.out (by omega)).mono ?_
      rintro e w8 ⟨rfl, h, ho⟩
      have HW8 := Lib.hid h
      have HO8 : Hid (Fr x w0 w8) := Lib.hid (HO7.out.trans ho)
      have HZ8 : Hid (((((((someW x.xs F (s)).nx x.xs).op 0 0).op 167 0).nx x.xs).label [[76, 84, 104, 114, 111, 119, 97, 98, 108, 101, 59]]).sz (N + 3 * c + 3)) := Lib.hid ((Ws.sz_label _ HZ7.out).more (by omega))
      clear h ho
      obtain ⟨q4, hq4⟩ : ∃ q4, (((((someW x.xs F (s)).nx x.xs).op 0 0).op 167 0).nx x.xs).code.length = q4 := ⟨_, rfl⟩
      rw [hq4]
      have HQq4 := Lib.hid hq4
      clear hq4
      go_wp2_with fail
      refine (op_v x _ _ _ (N + 3 * c + 3) 87 _ _ (by first | rfl | decide | assumption) HW8.out HZ8.out (by omega)).mono ?_
      rintro e w9 ⟨rfl, h, ho⟩
      have HW9 := Lib.hid h
      have HO9 : Hid (Fr x w0 w9) := Lib.hid (HO8.out.trans ho)
      have HZ9 : Hid ((((((((someW x.xs F (s)).nx x.xs).op 0 0).op 167 0).nx x.xs).label [[76, 84, 104, 114, 111, 119, 97, 98, 108, 101, 59]]).op 87 0).sz (N + 3 * c + 4)) := Lib.hid ((Ws.sz_op _ _ HZ8.out).more (by omega))
      clear h ho
      go_wp2_with fail
      refine (HFs.out _ _ (N + 3 * c + 4) HW9.out HZ9.out (by omega)).mono ?_
      rintro e w10 ⟨rfl, h, ho⟩
      have HW10 := Lib.hid h
      have HO10 : Hid (Fr x w0 w10) := Lib.hid (HO9.out.trans ho)
      have HZ10 : Hid ((someW x.xs F (((((((someW x.xs F (s)).nx x.xs).op 0 0).op 167 0).nx x.xs).label [[76, 84, 104, 114, 111, 119, 97, 98, 108, 101, 59]]).op 87 0)).sz (N + 6 * c + 4)) := Lib.hid ((HFa.out _ _ HZ9.out).more (by omega))
      clear h ho
      go_wp2_with fail
      refine (label_s x _ _ _ (N + 6 * c + 4) none 0 0 [] (Or.inl ⟨rfl, rfl, rfl, rfl⟩) HW10.out HZ10.out (by omega)).mono ?_
      rintro e w11 ⟨rfl, h, ho⟩
      have HW11 := Lib.hid h
      have HO11 : Hid (Fr x w0 w11) := Lib.hid (HO10.out.trans ho)
      have HZ11 : Hid (((someW x.xs F (((((((someW x.xs F (s)).nx x.xs).op 0 0).op 167 0).nx x.xs).label [[76, 84, 104, 114, 111, 119, 97, 98, 108, 101, 59]]).op 87 0)).label []).sz (N + 6 * c + 5)) := Lib.hid ((Ws.sz_label [] HZ10.out).more (by omega))
      clear h ho
      obtain ⟨q5, hq5⟩ : ∃ q5, (someW x.xs F (((((((someW x.xs F (s)).nx x.xs).op 0 0).op 167 0).nx x.xs).label [[76, 84, 104, 114, 111, 119, 97, 98, 108, 101, 59]]).op 87 0)).code.length = q5 := ⟨_, rfl⟩
      rw [hq5]
      have HQq5 := Lib.hid hq5
      clear hq5
      obtain ⟨Cz, nz, cz, Tz, ntz, ctz, Mz, nmz, cmz, lmz, hD⟩ := HW11.out
      have hlz : ((someW x.xs F (((((((someW x.xs F (s)).nx x.xs).op 0 0).op 167 0).nx x.xs).label [[76, 84, 104, 114, 111, 119, 97, 98, 108, 101, 59]]).op 87 0)).label []).code.length = nz := hD.code.row.1
      have hpl : q3 < nz := by
        have g1 := HQq3.out
        have g2 := HFg.out (((((((someW x.xs F (s)).nx x.xs).op 0 0).op 167 0).nx x.xs).label [[76, 84, 104, 114, 111, 119, 97, 98, 108, 101, 59]]).op 87 0)
        have g3 := len_label (someW x.xs F (((((((someW x.xs F (s)).nx x.xs).op 0 0).op 167 0).nx x.xs).label [[76, 84, 104, 114, 111, 119, 97, 98, 108, 101, 59]]).op 87 0)) []
        simp only [len_op, len_nx, len_label, len_push] at g1 g2
        omega
      obtain ⟨gc, hgc⟩ : ∃ gc, Cz = some ⟨gc, 0, none⟩ := by
        rcases hD.code.here with h0 | ⟨g, cur, h1, _⟩
        · exact absurd (hD.code.isNil h0).1 (by omega)
        · exact ⟨g, h1⟩
      subst hgc
      have c1z : w11.cell? ⟨x.g, 1, none⟩ = some (.slice (some ⟨gc, 0, none⟩) nz cz) := hD.blk.cell 1
      have hcz1 := hD.code.row.2.1
      have hcz2 := hD.code.row.2.2.1
      unfold maxLen at hcz2
      have hbc : ∃ v, w11.cell? ⟨gc, q3 * 7 + 1, none⟩ = some v := by
        obtain ⟨b', o', y, e', _, _, hy, hc⟩ := hD.code.row.at_ hpl
        cases e'
        have := hc 1 (by decide)
        rw [Nat.zero_add] at this
        exact ⟨_, this⟩
      obtain ⟨vc, hvc⟩ := hbc
      obtain ⟨hfz, hgne⟩ : w11.frozen? ⟨gc, q3 * 7 + 1, none⟩ = false ∧ x.g ≠ gc := by
        obtain ⟨cur, hb, _⟩ := gotR_block hD.code (show (Value.slice (some ⟨gc, 0, none⟩) nz cz).ownBlock = some gc from rfl)
        exact ⟨hb.frozen _, Blk.ne_ hD.blk hb (by decide)⟩
      obtain ⟨hP, hF⟩ := hD.aim_ hpl (q5 : Int)
      have HWA : Hid (WrD x (w11.setCell ⟨gc, q3 * 7 + 1, none⟩ (.int .i64 (q5 : Int))) D (((someW x.xs F (((((((someW x.xs F (s)).nx x.xs).op 0 0).op 167 0).nx x.xs).label [[76, 84, 104, 114, 111, 119, 97, 98, 108, 101, 59]]).op 87 0)).label []).aim q3 (q5 : Int)) (some ⟨gc, 0, none⟩) nz cz Tz ntz ctz Mz nmz cmz lmz) := Lib.hid hP
      have HOA := Lib.hid (HO11.out.trans hF)
      have hglz := hD.blk.lt
      have hq3p : decide ((0 : Int) ≤ (q3 : Int)) = true := by simp
      clear hD hP hF
      have c2z : (w11.setCell ⟨gc, q3 * 7 + 1, none⟩ (.int .i64 (q5 : Int))).cell? ⟨x.g, 2, none⟩ = some (.slice Tz ntz ctz) := HWA.out.blk.cell 2
      have hbl := belowA (w11.setCell ⟨gc, q3 * 7 + 1, none⟩ (.int .i64 (q5 : Int))) (.cells #[.int .i64 (n0 : Int), .int .i64 ((k1 : Int) + 1), .int .i64 (q4 : Int), .string ⟨#[]⟩] 133)
      have hDl := HWA.out.below hbl
      have f2z : ((w11.setCell ⟨gc, q3 * 7 + 1, none⟩ (.int .i64 (q5 : Int))).alloc (.cells #[.int .i64 (n0 : Int), .int .i64 ((k1 : Int) + 1), .int .i64 (q4 : Int), .string ⟨#[]⟩] 133)).frozen? ⟨x.g, 2, none⟩ = false := hDl.blk.frozen 2
      have hntz : ntz ≤ (N + 6 * c + 5) := by
        have h1 : (((someW x.xs F (((((((someW x.xs F (s)).nx x.xs).op 0 0).op 167 0).nx x.xs).label [[76, 84, 104, 114, 111, 119, 97, 98, 108, 101, 59]]).op 87 0)).label []).aim q3 (q5 : Int)).traps.length = ntz := HWA.out.traps.row.1
        rw [← h1]
        exact HZ11.out.2.1
      have HTL : Hid (GotR trC 4 133 x.b0 ((w11.setCell ⟨gc, q3 * 7 + 1, none⟩ (.int .i64 (q5 : Int))).alloc (.cells #[.int .i64 (n0 : Int), .int .i64 ((k1 : Int) + 1), .int .i64 (q4 : Int), .string ⟨#[]⟩] 133)) Tz ntz ctz (((someW x.xs F (((((((someW x.xs F (s)).nx x.xs).op 0 0).op 167 0).nx x.xs).label [[76, 84, 104, 114, 111, 119, 97, 98, 108, 101, 59]]).op 87 0)).label []).aim q3 (q5 : Int)).traps) := Lib.hid hDl.traps
      have HBLK : Hid (Blk ((w11.setCell ⟨gc, q3 * 7 + 1, none⟩ (.int .i64 (q5 : Int))).alloc (.cells #[.int .i64 (n0 : Int), .int .i64 ((k1 : Int) + 1), .int .i64 (q4 : Int), .string ⟨#[]⟩] 133)) w11.heap.size 133 (trC (⟨(n0 : Int), (k1 : Int) + 1, (q4 : Int), []⟩ : TrD)).toArray) := Lib.hid (by have h := Blk.new (w11.setCell ⟨gc, q3 * 7 + 1, none⟩ (.int .i64 (q5 : Int))) 133 #[.int .i64 (n0 : Int), .int .i64 ((k1 : Int) + 1), .int .i64 (q4 : Int), .string ⟨#[]⟩]; rwa [show ((w11.setCell ⟨gc, q3 * 7 + 1, none⟩ (.int .i64 (q5 : Int)))).heap.size = w11.heap.size by simp] at h)
      have HDL := Lib.hid hDl
      have hb0l := hDl.b0
      have HGOT := Lib.hid (ne_own hDl.traps hDl.blk (show 133 ≠ 166 by decide))
      have HBL := Lib.hid hbl
      have hgl9 := hDl.blk.lt
      clear hbl hDl
      go_wp2_with (at_builtin; refine wpList_pushT rfl _ _ rfl x.b0 Tz ntz ctz (((someW x.xs F (((((((someW x.xs F (s)).nx x.xs).op 0 0).op 167 0).nx x.xs).label [[76, 84, 104, 114, 111, 119, 97, 98, 108, 101, 59]]).op 87 0)).label []).aim q3 (q5 : Int)).traps rfl HTL.out _ (⟨(n0 : Int), (k1 : Int) + 1, (q4 : Int), []⟩ : TrD) rfl HBLK.out (by omega) hb0l ?_; intro T2 c2 wx hG hg hr; have s1 : wx.cell? ⟨x.g, 2, none⟩ = some (.slice Tz ntz ctz) := ((only_grown hg hr).cell (p := ⟨x.g, 2, none⟩) HDL.out.blk.lt HGOT.out).trans (HDL.out.blk.cell 2); have s2 : wx.frozen? ⟨x.g, 2, none⟩ = false := ((only_grown hg hr).blk HDL.out.blk HGOT.out).frozen 2)
      obtain ⟨hP, hF⟩ := HDL.out.trap_ hG hg hr
      obtain ⟨we, hwe⟩ : ∃ W, wx.setCell ⟨x.g, 2, none⟩ (.slice T2 (ntz + 1) c2) = W := ⟨_, rfl⟩
      rw [hwe] at hP hF ⊢
      have HE : FS = (((someW x.xs F (((((((someW x.xs F (s)).nx x.xs).op 0 0).op 167 0).nx x.xs).label [[76, 84, 104, 114, 111, 119, 97, 98, 108, 101, 59]]).op 87 0)).label []).aim q3 (q5 : Int)).trapped (⟨(n0 : Int), (k1 : Int) + 1, (q4 : Int), []⟩ : TrD) := by
        rw [← HFS.out]
        have z0 : s.code.length = n0 := HQq0.out
        have z1 : (((someW x.xs F (s)).nx x.xs).op 0 0).code.length = k1 + 1 := HQq1.out
        have z4 : ((((someW x.xs F (s)).nx x.xs).op 0 0).op 167 0).code.length = q4 := HQq4.out
        have z5 : (someW x.xs F (((((((someW x.xs F (s)).nx x.xs).op 0 0).op 167 0).nx x.xs).label [[76, 84, 104, 114, 111, 119, 97, 98, 108, 101, 59]]).op 87 0)).code.length = q5 := HQq5.out
        have z3 : (((someW x.xs F (s)).nx x.xs).op 0 0).code.length = q3 := HQq3.out
        have e3 : q3 = k1 + 1 := z3.symm.trans z1
        rw [e3]
        clear z3
        unfold guardW
        simp [HVv.out, HVa.out, trapN, z0, z1, z4, z5]
      have hend : WrS x we D FS := by rw [HE]; exact ⟨_, _, _, _, _, _, _, _, _, _, hP⟩
      have hof : Fr x w0 we := (HOA.out.trans (Fr.of_below HBL.out)).trans hF
      clear hG hg hr hP hF hwe s1 s2 HE
      go_end0
      exact ⟨rfl, hend, hof⟩
    · have da : w6.cell? ⟨w4.heap.size, 1, none⟩ = some (.string ⟨#[84, 104, 114, 111, 119, 97, 98, 108, 101]⟩) := by
        rw [HQ6.out.cell]
        rfl
      have e1 : ((⟨#[76]⟩ : ByteArray) ++ ⟨#[84, 104, 114, 111, 119, 97, 98, 108, 101]⟩) = ⟨#[76, 84, 104, 114, 111, 119, 97, 98, 108, 101]⟩ := rfl
      have e2 : (⟨#[76, 84, 104, 114, 111, 119, 97, 98, 108, 101]⟩ : ByteArray) ++ ⟨#[59]⟩ = ⟨#[76, 84, 104, 114, 111, 119, 97, 98, 108, 101, 59]⟩ := rfl
      have hbs := belowA w6 (.cells #[.string ⟨#[76, 84, 104, 114, 111, 119, 97, 98, 108, 101, 59]⟩] 9)
      have h := HW6.out.below hbs
      have ho := Fr.of_below (x := x) hbs
      have ks : Blk (w6.alloc (.cells #[.string ⟨#[76, 84, 104, 114, 111, 119, 97, 98, 108, 101, 59]⟩] 9)) w6.heap.size 9 ([[76, 84, 104, 114, 111, 119, 97, 98, 108, 101, 59]].map SV).toArray := Blk.new _ _ _
      obtain ⟨w7, hws⟩ : ∃ W, w6.alloc (.cells #[.string ⟨#[76, 84, 104, 114, 111, 119, 97, 98, 108, 101, 59]⟩] 9) = W := ⟨_, rfl⟩
      rw [hws] at h ho ks
      have HWS := Lib.hid hws
      have HKS := Lib.hid ks
      clear hws ks hbs
      have HW7 := Lib.hid h
      have HO7 : Hid (Fr x w0 w7) := Lib.hid (HO6.out.trans ho)
      have HZ7 : Hid ((((((someW x.xs F (s)).nx x.xs).op 0 0).op 167 0).nx x.xs).sz (N + 3 * c + 2)) := Lib.hid ((HZ6.out).more (by omega))
      clear h ho
      go_wp2_with fail
      rw [HWS.out]
      clear da e1 e2
      refine (label_s x _ _ _ (N + 3 * c + 2) (some ⟨w6.heap.size, 0, none⟩) 1 1 [[76, 84, 104, 114, 111, 119, 97, 98, 108, 101, 59]] (Or.inr ⟨w6.heap.size, rfl, rfl, rfl, HKS.out⟩) HW7.out HZ7.out (by omega)).mono ?_
      rintro e w8 ⟨rfl, h, ho⟩
      have HW8 := Lib.hid h
      have HO8 : Hid (Fr x w0 w8) := Lib.hid (HO7.out.trans ho)
      have HZ8 : Hid (((((((someW x.xs F (s)).nx x.xs).op 0 0).op 167 0).nx x.xs).label [[76, 84, 104, 114, 111, 119, 97, 98, 108, 101, 59]]).sz (N + 3 * c + 3)) := Lib.hid ((Ws.sz_label _ HZ7.out).more (by omega))
      clear h ho
      obtain ⟨q4, hq4⟩ : ∃ q4, (((((someW x.xs F (s)).nx x.xs).op 0 0).op 167 0).nx x.xs).code.length = q4 := ⟨_, rfl⟩
      rw [hq4]
      have HQq4 := Lib.hid hq4
      clear hq4
      go_wp2_with fail
      refine (op_v x _ _ _ (N + 3 * c + 3) 87 _ _ (by first | rfl | decide | assumption) HW8.out HZ8.out (by omega)).mono ?_
      rintro e w9 ⟨rfl, h, ho⟩
      have HW9 := Lib.hid h
      have HO9 : Hid (Fr x w0 w9) := Lib.hid (HO8.out.trans ho)
      have HZ9 : Hid ((((((((someW x.xs F (s)).nx x.xs).op 0 0).op 167 0).nx x.xs).label [[76, 84, 104, 114, 111, 119, 97, 98, 108, 101, 59]]).op 87 0).sz (N + 3 * c + 4)) := Lib.hid ((Ws.sz_op _ _ HZ8.out).more (by omega))
      clear h ho
      go_wp2_with fail
      refine (HFs.out _ _ (N + 3 * c + 4) HW9.out HZ9.out (by omega)).mono ?_
      rintro e w10 ⟨rfl, h, ho⟩
      have HW10 := Lib.hid h
      have HO10 : Hid (Fr x w0 w10) := Lib.hid (HO9.out.trans ho)
      have HZ10 : Hid ((someW x.xs F (((((((someW x.xs F (s)).nx x.xs).op 0 0).op 167 0).nx x.xs).label [[76, 84, 104, 114, 111, 119, 97, 98, 108, 101, 59]]).op 87 0)).sz (N + 6 * c + 4)) := Lib.hid ((HFa.out _ _ HZ9.out).more (by omega))
      clear h ho
      go_wp2_with fail
      refine (label_s x _ _ _ (N + 6 * c + 4) none 0 0 [] (Or.inl ⟨rfl, rfl, rfl, rfl⟩) HW10.out HZ10.out (by omega)).mono ?_
      rintro e w11 ⟨rfl, h, ho⟩
      have HW11 := Lib.hid h
      have HO11 : Hid (Fr x w0 w11) := Lib.hid (HO10.out.trans ho)
      have HZ11 : Hid (((someW x.xs F (((((((someW x.xs F (s)).nx x.xs).op 0 0).op 167 0).nx x.xs).label [[76, 84, 104, 114, 111, 119, 97, 98, 108, 101, 59]]).op 87 0)).label []).sz (N + 6 * c + 5)) := Lib.hid ((Ws.sz_label [] HZ10.out).more (by omega))
      clear h ho
      obtain ⟨q5, hq5⟩ : ∃ q5, (someW x.xs F (((((((someW x.xs F (s)).nx x.xs).op 0 0).op 167 0).nx x.xs).label [[76, 84, 104, 114, 111, 119, 97, 98, 108, 101, 59]]).op 87 0)).code.length = q5 := ⟨_, rfl⟩
      rw [hq5]
      have HQq5 := Lib.hid hq5
      clear hq5
      obtain ⟨Cz, nz, cz, Tz, ntz, ctz, Mz, nmz, cmz, lmz, hD⟩ := HW11.out
      have hlz : ((someW x.xs F (((((((someW x.xs F (s)).nx x.xs).op 0 0).op 167 0).nx x.xs).label [[76, 84, 104, 114, 111, 119, 97, 98, 108, 101, 59]]).op 87 0)).label []).code.length = nz := hD.code.row.1
      have hpl : q3 < nz := by
        have g1 := HQq3.out
        have g2 := HFg.out (((((((someW x.xs F (s)).nx x.xs).op 0 0).op 167 0).nx x.xs).label [[76, 84, 104, 114, 111, 119, 97, 98, 108, 101, 59]]).op 87 0)
        have g3 := len_label (someW x.xs F (((((((someW x.xs F (s)).nx x.xs).op 0 0).op 167 0).nx x.xs).label [[76, 84, 104, 114, 111, 119, 97, 98, 108, 101, 59]]).op 87 0)) []
        simp only [len_op, len_nx, len_label, len_push] at g1 g2
        omega
      obtain ⟨gc, hgc⟩ : ∃ gc, Cz = some ⟨gc, 0, none⟩ := by
        rcases hD.code.here with h0 | ⟨g, cur, h1, _⟩
        · exact absurd (hD.code.isNil h0).1 (by omega)
        · exact ⟨g, h1⟩
      subst hgc
      have c1z : w11.cell? ⟨x.g, 1, none⟩ = some (.slice (some ⟨gc, 0, none⟩) nz cz) := hD.blk.cell 1
      have hcz1 := hD.code.row.2.1
      have hcz2 := hD.code.row.2.2.1
      unfold maxLen at hcz2
      have hbc : ∃ v, w11.cell? ⟨gc, q3 * 7 + 1, none⟩ = some v := by
        obtain ⟨b', o', y, e', _, _, hy, hc⟩ := hD.code.row.at_ hpl
        cases e'
        have := hc 1 (by decide)
        rw [Nat.zero_add] at this
        exact ⟨_, this⟩
      obtain ⟨vc, hvc⟩ := hbc
      obtain ⟨hfz, hgne⟩ : w11.frozen? ⟨gc, q3 * 7 + 1, none⟩ = false ∧ x.g ≠ gc := by
        obtain ⟨cur, hb, _⟩ := gotR_block hD.code (show (Value.slice (some ⟨gc, 0, none⟩) nz cz).ownBlock = some gc from rfl)
        exact ⟨hb.frozen _, Blk.ne_ hD.blk hb (by decide)⟩
      obtain ⟨hP, hF⟩ := hD.aim_ hpl (q5 : Int)
      have HWA : Hid (WrD x (w11.setCell ⟨gc, q3 * 7 + 1, none⟩ (.int .i64 (q5 : Int))) D (((someW x.xs F (((((((someW x.xs F (s)).nx x.xs).op 0 0).op 167 0).nx x.xs).label [[76, 84, 104, 114, 111, 119, 97, 98, 108, 101, 59]]).op 87 0)).label []).aim q3 (q5 : Int)) (some ⟨gc, 0, none⟩) nz cz Tz ntz ctz Mz nmz cmz lmz) := Lib.hid hP
      have HOA := Lib.hid (HO11.out.trans hF)
      have hglz := hD.blk.lt
      have hq3p : decide ((0 : Int) ≤ (q3 : Int)) = true := by simp
      clear hD hP hF
      have c2z : (w11.setCell ⟨gc, q3 * 7 + 1, none⟩ (.int .i64 (q5 : Int))).cell? ⟨x.g, 2, none⟩ = some (.slice Tz ntz ctz) := HWA.out.blk.cell 2
      have hbl := belowA (w11.setCell ⟨gc, q3 * 7 + 1, none⟩ (.int .i64 (q5 : Int))) (.cells #[.int .i64 (n0 : Int), .int .i64 ((k1 : Int) + 1), .int .i64 (q4 : Int), .string ⟨#[84, 104, 114, 111, 119, 97, 98, 108, 101]⟩] 133)
      have hDl := HWA.out.below hbl
      have f2z : ((w11.setCell ⟨gc, q3 * 7 + 1, none⟩ (.int .i64 (q5 : Int))).alloc (.cells #[.int .i64 (n0 : Int), .int .i64 ((k1 : Int) + 1), .int .i64 (q4 : Int), .string ⟨#[84, 104, 114, 111, 119, 97, 98, 108, 101]⟩] 133)).frozen? ⟨x.g, 2, none⟩ = false := hDl.blk.frozen 2
      have hntz : ntz ≤ (N + 6 * c + 5) := by
        have h1 : (((someW x.xs F (((((((someW x.xs F (s)).nx x.xs).op 0 0).op 167 0).nx x.xs).label [[76, 84, 104, 114, 111, 119, 97, 98, 108, 101, 59]]).op 87 0)).label []).aim q3 (q5 : Int)).traps.length = ntz := HWA.out.traps.row.1
        rw [← h1]
        exact HZ11.out.2.1
      have HTL : Hid (GotR trC 4 133 x.b0 ((w11.setCell ⟨gc, q3 * 7 + 1, none⟩ (.int .i64 (q5 : Int))).alloc (.cells #[.int .i64 (n0 : Int), .int .i64 ((k1 : Int) + 1), .int .i64 (q4 : Int), .string ⟨#[84, 104, 114, 111, 119, 97, 98, 108, 101]⟩] 133)) Tz ntz ctz (((someW x.xs F (((((((someW x.xs F (s)).nx x.xs).op 0 0).op 167 0).nx x.xs).label [[76, 84, 104, 114, 111, 119, 97, 98, 108, 101, 59]]).op 87 0)).label []).aim q3 (q5 : Int)).traps) := Lib.hid hDl.traps
      have HBLK : Hid (Blk ((w11.setCell ⟨gc, q3 * 7 + 1, none⟩ (.int .i64 (q5 : Int))).alloc (.cells #[.int .i64 (n0 : Int), .int .i64 ((k1 : Int) + 1), .int .i64 (q4 : Int), .string ⟨#[84, 104, 114, 111, 119, 97, 98, 108, 101]⟩] 133)) w11.heap.size 133 (trC (⟨(n0 : Int), (k1 : Int) + 1, (q4 : Int), [84, 104, 114, 111, 119, 97, 98, 108, 101]⟩ : TrD)).toArray) := Lib.hid (by have h := Blk.new (w11.setCell ⟨gc, q3 * 7 + 1, none⟩ (.int .i64 (q5 : Int))) 133 #[.int .i64 (n0 : Int), .int .i64 ((k1 : Int) + 1), .int .i64 (q4 : Int), .string ⟨#[84, 104, 114, 111, 119, 97, 98, 108, 101]⟩]; rwa [show ((w11.setCell ⟨gc, q3 * 7 + 1, none⟩ (.int .i64 (q5 : Int)))).heap.size = w11.heap.size by simp] at h)
      have HDL := Lib.hid hDl
      have hb0l := hDl.b0
      have HGOT := Lib.hid (ne_own hDl.traps hDl.blk (show 133 ≠ 166 by decide))
      have HBL := Lib.hid hbl
      have hgl9 := hDl.blk.lt
      clear hbl hDl
      go_wp2_with (at_builtin; refine wpList_pushT rfl _ _ rfl x.b0 Tz ntz ctz (((someW x.xs F (((((((someW x.xs F (s)).nx x.xs).op 0 0).op 167 0).nx x.xs).label [[76, 84, 104, 114, 111, 119, 97, 98, 108, 101, 59]]).op 87 0)).label []).aim q3 (q5 : Int)).traps rfl HTL.out _ (⟨(n0 : Int), (k1 : Int) + 1, (q4 : Int), [84, 104, 114, 111, 119, 97, 98, 108, 101]⟩ : TrD) rfl HBLK.out (by omega) hb0l ?_; intro T2 c2 wx hG hg hr; have s1 : wx.cell? ⟨x.g, 2, none⟩ = some (.slice Tz ntz ctz) := ((only_grown hg hr).cell (p := ⟨x.g, 2, none⟩) HDL.out.blk.lt HGOT.out).trans (HDL.out.blk.cell 2); have s2 : wx.frozen? ⟨x.g, 2, none⟩ = false := ((only_grown hg hr).blk HDL.out.blk HGOT.out).frozen 2)
      obtain ⟨hP, hF⟩ := HDL.out.trap_ hG hg hr
      obtain ⟨we, hwe⟩ : ∃ W, wx.setCell ⟨x.g, 2, none⟩ (.slice T2 (ntz + 1) c2) = W := ⟨_, rfl⟩
      rw [hwe] at hP hF ⊢
      have HE : FS = (((someW x.xs F (((((((someW x.xs F (s)).nx x.xs).op 0 0).op 167 0).nx x.xs).label [[76, 84, 104, 114, 111, 119, 97, 98, 108, 101, 59]]).op 87 0)).label []).aim q3 (q5 : Int)).trapped (⟨(n0 : Int), (k1 : Int) + 1, (q4 : Int), [84, 104, 114, 111, 119, 97, 98, 108, 101]⟩ : TrD) := by
        rw [← HFS.out]
        have z0 : s.code.length = n0 := HQq0.out
        have z1 : (((someW x.xs F (s)).nx x.xs).op 0 0).code.length = k1 + 1 := HQq1.out
        have z4 : ((((someW x.xs F (s)).nx x.xs).op 0 0).op 167 0).code.length = q4 := HQq4.out
        have z5 : (someW x.xs F (((((((someW x.xs F (s)).nx x.xs).op 0 0).op 167 0).nx x.xs).label [[76, 84, 104, 114, 111, 119, 97, 98, 108, 101, 59]]).op 87 0)).code.length = q5 := HQq5.out
        have z3 : (((someW x.xs F (s)).nx x.xs).op 0 0).code.length = q3 := HQq3.out
        have e3 : q3 = k1 + 1 := z3.symm.trans z1
        rw [e3]
        clear z3
        unfold guardW
        simp [HVv.out, HVa.out, trapN, z0, z1, z4, z5]
      have hend : WrS x we D FS := by rw [HE]; exact ⟨_, _, _, _, _, _, _, _, _, _, hP⟩
      have hof : Fr x w0 we := (HOA.out.trans (Fr.of_below HBL.out)).trans hF
      clear hG hg hr hP hF hwe s1 s2 HE
      go_end0
      exact ⟨rfl, hend, hof⟩
    · have da : w6.cell? ⟨w4.heap.size, 2, none⟩ = some (.string ⟨#[77, 97, 116, 104, 70, 97, 117, 108, 116]⟩) := by
        rw [HQ6.out.cell]
        rfl
      have e1 : ((⟨#[76]⟩ : ByteArray) ++ ⟨#[77, 97, 116, 104, 70, 97, 117, 108, 116]⟩) = ⟨#[76, 77, 97, 116, 104, 70, 97, 117, 108, 116]⟩ := rfl
      have e2 : (⟨#[76, 77, 97, 116, 104, 70, 97, 117, 108, 116]⟩ : ByteArray) ++ ⟨#[59]⟩ = ⟨#[76, 77, 97, 116, 104, 70, 97, 117, 108, 116, 59]⟩ := rfl
      have hbs := belowA w6 (.cells #[.string ⟨#[76, 77, 97, 116, 104, 70, 97, 117, 108, 116, 59]⟩] 9)
      have h := HW6.out.below hbs
      have ho := Fr.of_below (x := x) hbs
      have ks : Blk (w6.alloc (.cells #[.string ⟨#[76, 77, 97, 116, 104, 70, 97, 117, 108, 116, 59]⟩] 9)) w6.heap.size 9 ([[76, 77, 97, 116, 104, 70, 97, 117, 108, 116, 59]].map SV).toArray := Blk.new _ _ _
      obtain ⟨w7, hws⟩ : ∃ W, w6.alloc (.cells #[.string ⟨#[76, 77, 97, 116, 104, 70, 97, 117, 108, 116, 59]⟩] 9) = W := ⟨_, rfl⟩
      rw [hws] at h ho ks
      have HWS := Lib.hid hws
      have HKS := Lib.hid ks
      clear hws ks hbs
      have HW7 := Lib.hid h
      have HO7 : Hid (Fr x w0 w7) := Lib.hid (HO6.out.trans ho)
      have HZ7 : Hid ((((((someW x.xs F (s)).nx x.xs).op 0 0).op 167 0).nx x.xs).sz (N + 3 * c + 2)) := Lib.hid ((HZ6.out).more (by omega))
      clear h ho
      go_wp2_with fail
      rw [HWS.out]
      clear da e1 e2
      refine (label_s x _ _ _ (N + 3 * c + 2) (some ⟨w6.heap.size, 0, none⟩) 1 1 [[76, 77, 97, 116, 104, 70, 97, 117, 108, 116, 59]] (Or.inr ⟨w6.heap.size, rfl, rfl, rfl, HKS.out⟩) HW7.out HZ7.out (by omega)).mono ?_
      rintro e w8 ⟨rfl, h, ho⟩
      have HW8 := Lib.hid h
      have HO8 : Hid (Fr x w0 w8) := Lib.hid (HO7.out.trans ho)
      have HZ8 : Hid (((((((someW x.xs F (s)).nx x.xs).op 0 0).op 167 0).nx x.xs).label [[76, 77, 97, 116, 104, 70, 97, 117, 108, 116, 59]]).sz (N + 3 * c + 3)) := Lib.hid ((Ws.sz_label _ HZ7.out).more (by omega))
      clear h ho
      obtain ⟨q4, hq4⟩ : ∃ q4, (((((someW x.xs F (s)).nx x.xs).op 0 0).op 167 0).nx x.xs).code.length = q4 := ⟨_, rfl⟩
      rw [hq4]
      have HQq4 := Lib.hid hq4
      clear hq4
      go_wp2_with fail
      refine (op_v x _ _ _ (N + 3 * c + 3) 87 _ _ (by first | rfl | decide | assumption) HW8.out HZ8.out (by omega)).mono ?_
      rintro e w9 ⟨rfl, h, ho⟩
      have HW9 := Lib.hid h
      have HO9 : Hid (Fr x w0 w9) := Lib.hid (HO8.out.trans ho)
      have HZ9 : Hid ((((((((someW x.xs F (s)).nx x.xs).op 0 0).op 167 0).nx x.xs).label [[76, 77, 97, 116, 104, 70, 97, 117, 108, 116, 59]]).op 87 0).sz (N + 3 * c + 4)) := Lib.hid ((Ws.sz_op _ _ HZ8.out).more (by omega))
      clear h ho
      go_wp2_with fail
      refine (HFs.out _ _ (N + 3 * c + 4) HW9.out HZ9.out (by omega)).mono ?_
      rintro e w10 ⟨rfl, h, ho⟩
      have HW10 := Lib.hid h
      have HO10 : Hid (Fr x w0 w10) := Lib.hid (HO9.out.trans ho)
      have HZ10 : Hid ((someW x.xs F (((((((someW x.xs F (s)).nx x.xs).op 0 0).op 167 0).nx x.xs).label [[76, 77, 97, 116, 104, 70, 97, 117, 108, 116, 59]]).op 87 0)).sz (N + 6 * c + 4)) := Lib.hid ((HFa.out _ _ HZ9.out).more (by omega))
      clear h ho
      go_wp2_with fail
      refine (label_s x _ _ _ (N + 6 * c + 4) none 0 0 [] (Or.inl ⟨rfl, rfl, rfl, rfl⟩) HW10.out HZ10.out (by omega)).mono ?_
      rintro e w11 ⟨rfl, h, ho⟩
      have HW11 := Lib.hid h
      have HO11 : Hid (Fr x w0 w11) := Lib.hid (HO10.out.trans ho)
      have HZ11 : Hid (((someW x.xs F (((((((someW x.xs F (s)).nx x.xs).op 0 0).op 167 0).nx x.xs).label [[76, 77, 97, 116, 104, 70, 97, 117, 108, 116, 59]]).op 87 0)).label []).sz (N + 6 * c + 5)) := Lib.hid ((Ws.sz_label [] HZ10.out).more (by omega))
      clear h ho
      obtain ⟨q5, hq5⟩ : ∃ q5, (someW x.xs F (((((((someW x.xs F (s)).nx x.xs).op 0 0).op 167 0).nx x.xs).label [[76, 77, 97, 116, 104, 70, 97, 117, 108, 116, 59]]).op 87 0)).code.length = q5 := ⟨_, rfl⟩
      rw [hq5]
      have HQq5 := Lib.hid hq5
      clear hq5
      obtain ⟨Cz, nz, cz, Tz, ntz, ctz, Mz, nmz, cmz, lmz, hD⟩ := HW11.out
      have hlz : ((someW x.xs F (((((((someW x.xs F (s)).nx x.xs).op 0 0).op 167 0).nx x.xs).label [[76, 77, 97, 116, 104, 70, 97, 117, 108, 116, 59]]).op 87 0)).label []).code.length = nz := hD.code.row.1
      have hpl : q3 < nz := by
        have g1 := HQq3.out
        have g2 := HFg.out (((((((someW x.xs F (s)).nx x.xs).op 0 0).op 167 0).nx x.xs).label [[76, 77, 97, 116, 104, 70, 97, 117, 108, 116, 59]]).op 87 0)
        have g3 := len_label (someW x.xs F (((((((someW x.xs F (s)).nx x.xs).op 0 0).op 167 0).nx x.xs).label [[76, 77, 97, 116, 104, 70, 97, 117, 108, 116, 59]]).op 87 0)) []
        simp only [len_op, len_nx, len_label, len_push] at g1 g2
        omega
      obtain ⟨gc, hgc⟩ : ∃ gc, Cz = some ⟨gc, 0, none⟩ := by
        rcases hD.code.here with h0 | ⟨g, cur, h1, _⟩
        · exact absurd (hD.code.isNil h0).1 (by omega)
        · exact ⟨g, h1⟩
      subst hgc
      have c1z : w11.cell? ⟨x.g, 1, none⟩ = some (.slice (some ⟨gc, 0, none⟩) nz cz) := hD.blk.cell 1
      have hcz1 := hD.code.row.2.1
      have hcz2 := hD.code.row.2.2.1
      unfold maxLen at hcz2
      have hbc : ∃ v, w11.cell? ⟨gc, q3 * 7 + 1, none⟩ = some v := by
        obtain ⟨b', o', y, e', _, _, hy, hc⟩ := hD.code.row.at_ hpl
        cases e'
        have := hc 1 (by decide)
        rw [Nat.zero_add] at this
        exact ⟨_, this⟩
      obtain ⟨vc, hvc⟩ := hbc
      obtain ⟨hfz, hgne⟩ : w11.frozen? ⟨gc, q3 * 7 + 1, none⟩ = false ∧ x.g ≠ gc := by
        obtain ⟨cur, hb, _⟩ := gotR_block hD.code (show (Value.slice (some ⟨gc, 0, none⟩) nz cz).ownBlock = some gc from rfl)
        exact ⟨hb.frozen _, Blk.ne_ hD.blk hb (by decide)⟩
      obtain ⟨hP, hF⟩ := hD.aim_ hpl (q5 : Int)
      have HWA : Hid (WrD x (w11.setCell ⟨gc, q3 * 7 + 1, none⟩ (.int .i64 (q5 : Int))) D (((someW x.xs F (((((((someW x.xs F (s)).nx x.xs).op 0 0).op 167 0).nx x.xs).label [[76, 77, 97, 116, 104, 70, 97, 117, 108, 116, 59]]).op 87 0)).label []).aim q3 (q5 : Int)) (some ⟨gc, 0, none⟩) nz cz Tz ntz ctz Mz nmz cmz lmz) := Lib.hid hP
      have HOA := Lib.hid (HO11.out.trans hF)
      have hglz := hD.blk.lt
      have hq3p : decide ((0 : Int) ≤ (q3 : Int)) = true := by simp
      clear hD hP hF
      have c2z : (w11.setCell ⟨gc, q3 * 7 + 1, none⟩ (.int .i64 (q5 : Int))).cell? ⟨x.g, 2, none⟩ = some (.slice Tz ntz ctz) := HWA.out.blk.cell 2
      have hbl := belowA (w11.setCell ⟨gc, q3 * 7 + 1, none⟩ (.int .i64 (q5 : Int))) (.cells #[.int .i64 (n0 : Int), .int .i64 ((k1 : Int) + 1), .int .i64 (q4 : Int), .string ⟨#[77, 97, 116, 104, 70, 97, 117, 108, 116]⟩] 133)
      have hDl := HWA.out.below hbl
      have f2z : ((w11.setCell ⟨gc, q3 * 7 + 1, none⟩ (.int .i64 (q5 : Int))).alloc (.cells #[.int .i64 (n0 : Int), .int .i64 ((k1 : Int) + 1), .int .i64 (q4 : Int), .string ⟨#[77, 97, 116, 104, 70, 97, 117, 108, 116]⟩] 133)).frozen? ⟨x.g, 2, none⟩ = false := hDl.blk.frozen 2
      have hntz : ntz ≤ (N + 6 * c + 5) := by
        have h1 : (((someW x.xs F (((((((someW x.xs F (s)).nx x.xs).op 0 0).op 167 0).nx x.xs).label [[76, 77, 97, 116, 104, 70, 97, 117, 108, 116, 59]]).op 87 0)).label []).aim q3 (q5 : Int)).traps.length = ntz := HWA.out.traps.row.1
        rw [← h1]
        exact HZ11.out.2.1
      have HTL : Hid (GotR trC 4 133 x.b0 ((w11.setCell ⟨gc, q3 * 7 + 1, none⟩ (.int .i64 (q5 : Int))).alloc (.cells #[.int .i64 (n0 : Int), .int .i64 ((k1 : Int) + 1), .int .i64 (q4 : Int), .string ⟨#[77, 97, 116, 104, 70, 97, 117, 108, 116]⟩] 133)) Tz ntz ctz (((someW x.xs F (((((((someW x.xs F (s)).nx x.xs).op 0 0).op 167 0).nx x.xs).label [[76, 77, 97, 116, 104, 70, 97, 117, 108, 116, 59]]).op 87 0)).label []).aim q3 (q5 : Int)).traps) := Lib.hid hDl.traps
      have HBLK : Hid (Blk ((w11.setCell ⟨gc, q3 * 7 + 1, none⟩ (.int .i64 (q5 : Int))).alloc (.cells #[.int .i64 (n0 : Int), .int .i64 ((k1 : Int) + 1), .int .i64 (q4 : Int), .string ⟨#[77, 97, 116, 104, 70, 97, 117, 108, 116]⟩] 133)) w11.heap.size 133 (trC (⟨(n0 : Int), (k1 : Int) + 1, (q4 : Int), [77, 97, 116, 104, 70, 97, 117, 108, 116]⟩ : TrD)).toArray) := Lib.hid (by have h := Blk.new (w11.setCell ⟨gc, q3 * 7 + 1, none⟩ (.int .i64 (q5 : Int))) 133 #[.int .i64 (n0 : Int), .int .i64 ((k1 : Int) + 1), .int .i64 (q4 : Int), .string ⟨#[77, 97, 116, 104, 70, 97, 117, 108, 116]⟩]; rwa [show ((w11.setCell ⟨gc, q3 * 7 + 1, none⟩ (.int .i64 (q5 : Int)))).heap.size = w11.heap.size by simp] at h)
      have HDL := Lib.hid hDl
      have hb0l := hDl.b0
      have HGOT := Lib.hid (ne_own hDl.traps hDl.blk (show 133 ≠ 166 by decide))
      have HBL := Lib.hid hbl
      have hgl9 := hDl.blk.lt
      clear hbl hDl
      go_wp2_with (at_builtin; refine wpList_pushT rfl _ _ rfl x.b0 Tz ntz ctz (((someW x.xs F (((((((someW x.xs F (s)).nx x.xs).op 0 0).op 167 0).nx x.xs).label [[76, 77, 97, 116, 104, 70, 97, 117, 108, 116, 59]]).op 87 0)).label []).aim q3 (q5 : Int)).traps rfl HTL.out _ (⟨(n0 : Int), (k1 : Int) + 1, (q4 : Int), [77, 97, 116, 104, 70, 97, 117, 108, 116]⟩ : TrD) rfl HBLK.out (by omega) hb0l ?_; intro T2 c2 wx hG hg hr; have s1 : wx.cell? ⟨x.g, 2, none⟩ = some (.slice Tz ntz ctz) := ((only_grown hg hr).cell (p := ⟨x.g, 2, none⟩) HDL.out.blk.lt HGOT.out).trans (HDL.out.blk.cell 2); have s2 : wx.frozen? ⟨x.g, 2, none⟩ = false := ((only_grown hg hr).blk HDL.out.blk HGOT.out).frozen 2)
      obtain ⟨hP, hF⟩ := HDL.out.trap_ hG hg hr
      obtain ⟨we, hwe⟩ : ∃ W, wx.setCell ⟨x.g, 2, none⟩ (.slice T2 (ntz + 1) c2) = W := ⟨_, rfl⟩
      rw [hwe] at hP hF ⊢
      have HE : FS = (((someW x.xs F (((((((someW x.xs F (s)).nx x.xs).op 0 0).op 167 0).nx x.xs).label [[76, 77, 97, 116, 104, 70, 97, 117, 108, 116, 59]]).op 87 0)).label []).aim q3 (q5 : Int)).trapped (⟨(n0 : Int), (k1 : Int) + 1, (q4 : Int), [77, 97, 116, 104, 70, 97, 117, 108, 116]⟩ : TrD) := by
        rw [← HFS.out]
        have z0 : s.code.length = n0 := HQq0.out
        have z1 : (((someW x.xs F (s)).nx x.xs).op 0 0).code.length = k1 + 1 := HQq1.out
        have z4 : ((((someW x.xs F (s)).nx x.xs).op 0 0).op 167 0).code.length = q4 := HQq4.out
        have z5 : (someW x.xs F (((((((someW x.xs F (s)).nx x.xs).op 0 0).op 167 0).nx x.xs).label [[76, 77, 97, 116, 104, 70, 97, 117, 108, 116, 59]]).op 87 0)).code.length = q5 := HQq5.out
        have z3 : (((someW x.xs F (s)).nx x.xs).op 0 0).code.length = q3 := HQq3.out
        have e3 : q3 = k1 + 1 := z3.symm.trans z1
        rw [e3]
        clear z3
        unfold guardW
        simp [HVv.out, HVa.out, trapN, z0, z1, z4, z5]
      have hend : WrS x we D FS := by rw [HE]; exact ⟨_, _, _, _, _, _, _, _, _, _, hP⟩
      have hof : Fr x w0 we := (HOA.out.trans (Fr.of_below HBL.out)).trans hF
      clear hG hg hr hP hF hwe s1 s2 HE
      go_end0
      exact ⟨rfl, hend, hof⟩
    · have da : w6.cell? ⟨w4.heap.size, 3, none⟩ = some (.string ⟨#[79, 111, 112, 115]⟩) := by
        rw [HQ6.out.cell]
        rfl
      have e1 : ((⟨#[76]⟩ : ByteArray) ++ ⟨#[79, 111, 112, 115]⟩) = ⟨#[76, 79, 111, 112, 115]⟩ := rfl
      have e2 : (⟨#[76, 79, 111, 112, 115]⟩ : ByteArray) ++ ⟨#[59]⟩ = ⟨#[76, 79, 111, 112, 115, 59]⟩ := rfl
      have hbs := belowA w6 (.cells #[.string ⟨#[76, 79, 111, 112, 115, 59]⟩] 9)
      have h := HW6.out.below hbs
      have ho := Fr.of_below (x := x) hbs
      have ks : Blk (w6.alloc (.cells #[.string ⟨#[76, 79, 111, 112, 115, 59]⟩] 9)) w6.heap.size 9 ([[76, 79, 111, 112, 115, 59]].map SV).toArray := Blk.new _ _ _
      obtain ⟨w7, hws⟩ : ∃ W, w6.alloc (.cells #[.string ⟨#[76, 79, 111, 112, 115, 59]⟩] 9) = W := ⟨_, rfl⟩
      rw [hws] at h ho ks
      have HWS := Lib.hid hws
      have HKS := Lib.hid ks
      clear hws ks hbs
      have HW7 := Lib.hid h
      have HO7 : Hid (Fr x w0 w7) := Lib.hid (HO6.out.trans ho)
      have HZ7 : Hid ((((((someW x.xs F (s)).nx x.xs).op 0 0).op 167 0).nx x.xs).sz (N + 3 * c + 2)) := Lib.hid ((HZ6.out).more (by omega))
      clear h ho
      go_wp2_with fail
      rw [HWS.out]
      clear da e1 e2
      refine (label_s x _ _ _ (N + 3 * c + 2) (some ⟨w6.heap.size, 0, none⟩) 1 1 [[76, 79, 111, 112, 115, 59]] (Or.inr ⟨w6.heap.size, rfl, rfl, rfl, HKS.out⟩) HW7.out HZ7.out (by omega)).mono ?_
      rintro e w8 ⟨rfl, h, ho⟩
      have HW8 := Lib.hid h
      have HO8 : Hid (Fr x w0 w8) := Lib.hid (HO7.out.trans ho)
      have HZ8 : Hid (((((((someW x.xs F (s)).nx x.xs).op 0 0).op 167 0).nx x.xs).label [[76, 79, 111, 112, 115, 59]]).sz (N + 3 * c + 3)) := Lib.hid ((Ws.sz_label _ HZ7.out).more (by omega))
      clear h ho
      obtain ⟨q4, hq4⟩ : ∃ q4, (((((someW x.xs F (s)).nx x.xs).op 0 0).op 167 0).nx x.xs).code.length = q4 := ⟨_, rfl⟩
      rw [hq4]
      have HQq4 := Lib.hid hq4
      clear hq4
      go_wp2_with fail
      refine (op_v x _ _ _ (N + 3 * c + 3) 87 _ _ (by first | rfl | decide | assumption) HW8.out HZ8.out (by omega)).mono ?_
      rintro e w9 ⟨rfl, h, ho⟩
      have HW9 := Lib.hid h
      have HO9 : Hid (Fr x w0 w9) := Lib.hid (HO8.out.trans ho)
      have HZ9 : Hid ((((((((someW x.xs F (s)).nx x.xs).op 0 0).op 167 0).nx x.xs).label [[76, 79, 111, 112, 115, 59]]).op 87 0).sz (N + 3 * c + 4)) := Lib.hid ((Ws.sz_op _ _ HZ8.out).more (by omega))
      clear h ho
      go_wp2_with fail
      refine (HFs.out _ _ (N + 3 * c + 4) HW9.out HZ9.out (by omega)).mono ?_
      rintro e w10 ⟨rfl, h, ho⟩
      have HW10 := Lib.hid h
      have HO10 : Hid (Fr x w0 w10) := Lib.hid (HO9.out.trans ho)
      have HZ10 : Hid ((someW x.xs F (((((((someW x.xs F (s)).nx x.xs).op 0 0).op 167 0).nx x.xs).label [[76, 79, 111, 112, 115, 59]]).op 87 0)).sz (N + 6 * c + 4)) := Lib.hid ((HFa.out _ _ HZ9.out).more (by omega))
      clear h ho
      go_wp2_with fail
      refine (label_s x _ _ _ (N + 6 * c + 4) none 0 0 [] (Or.inl ⟨rfl, rfl, rfl, rfl⟩) HW10.out HZ10.out (by omega)).mono ?_
      rintro e w11 ⟨rfl, h, ho⟩
      have HW11 := Lib.hid h
      have HO11 : Hid (Fr x w0 w11) := Lib.hid (HO10.out.trans ho)
      have HZ11 : Hid (((someW x.xs F (((((((someW x.xs F (s)).nx x.xs).op 0 0).op 167 0).nx x.xs).label [[76, 79, 111, 112, 115, 59]]).op 87 0)).label []).sz (N + 6 * c + 5)) := Lib.hid ((Ws.sz_label [] HZ10.out).more (by omega))
      clear h ho
      obtain ⟨q5, hq5⟩ : ∃ q5, (someW x.xs F (((((((someW x.xs F (s)).nx x.xs).op 0 0).op 167 0).nx x.xs).label [[76, 79, 111, 112, 115, 59]]).op 87 0)).code.length = q5 := ⟨_, rfl⟩
      rw [hq5]
      have HQq5 := Lib.hid hq5
      clear hq5
      obtain ⟨Cz, nz, cz, Tz, ntz, ctz, Mz, nmz, cmz, lmz, hD⟩ := HW11.out
      have hlz : ((someW x.xs F (((((((someW x.xs F (s)).nx x.xs).op 0 0).op 167 0).nx x.xs).label [[76, 79, 111, 112, 115, 59]]).op 87 0)).label []).code.length = nz := hD.code.row.1
      have hpl : q3 < nz := by
        have g1 := HQq3.out
        have g2 := HFg.out (((((((someW x.xs F (s)).nx x.xs).op 0 0).op 167 0).nx x.xs).label [[76, 79, 111, 112, 115, 59]]).op 87 0)
        have g3 := len_label (someW x.xs F (((((((someW x.xs F (s)).nx x.xs).op 0 0).op 167 0).nx x.xs).label [[76, 79, 111, 112, 115, 59]]).op 87 0)) []
        simp only [len_op, len_nx, len_label, len_push] at g1 g2
        omega
      obtain ⟨gc, hgc⟩ : ∃ gc, Cz = some ⟨gc, 0, none⟩ := by
        rcases hD.code.here with h0 | ⟨g, cur, h1, _⟩
        · exact absurd (hD.code.isNil h0).1 (by omega)
        · exact ⟨g, h1⟩
      subst hgc
      have c1z : w11.cell? ⟨x.g, 1, none⟩ = some (.slice (some ⟨gc, 0, none⟩) nz cz) := hD.blk.cell 1
      have hcz1 := hD.code.row.2.1
      have hcz2 := hD.code.row.2.2.1
      unfold maxLen at hcz2
      have hbc : ∃ v, w11.cell? ⟨gc, q3 * 7 + 1, none⟩ = some v := by
        obtain ⟨b', o', y, e', _, _, hy, hc⟩ := hD.code.row.at_ hpl
        cases e'
        have := hc 1 (by decide)
        rw [Nat.zero_add] at this
        exact ⟨_, this⟩
      obtain ⟨vc, hvc⟩ := hbc
      obtain ⟨hfz, hgne⟩ : w11.frozen? ⟨gc, q3 * 7 + 1, none⟩ = false ∧ x.g ≠ gc := by
        obtain ⟨cur, hb, _⟩ := gotR_block hD.code (show (Value.slice (some ⟨gc, 0, none⟩) nz cz).ownBlock = some gc from rfl)
        exact ⟨hb.frozen _, Blk.ne_ hD.blk hb (by decide)⟩
      obtain ⟨hP, hF⟩ := hD.aim_ hpl (q5 : Int)
      have HWA : Hid (WrD x (w11.setCell ⟨gc, q3 * 7 + 1, none⟩ (.int .i64 (q5 : Int))) D (((someW x.xs F (((((((someW x.xs F (s)).nx x.xs).op 0 0).op 167 0).nx x.xs).label [[76, 79, 111, 112, 115, 59]]).op 87 0)).label []).aim q3 (q5 : Int)) (some ⟨gc, 0, none⟩) nz cz Tz ntz ctz Mz nmz cmz lmz) := Lib.hid hP
      have HOA := Lib.hid (HO11.out.trans hF)
      have hglz := hD.blk.lt
      have hq3p : decide ((0 : Int) ≤ (q3 : Int)) = true := by simp
      clear hD hP hF
      have c2z : (w11.setCell ⟨gc, q3 * 7 + 1, none⟩ (.int .i64 (q5 : Int))).cell? ⟨x.g, 2, none⟩ = some (.slice Tz ntz ctz) := HWA.out.blk.cell 2
      have hbl := belowA (w11.setCell ⟨gc, q3 * 7 + 1, none⟩ (.int .i64 (q5 : Int))) (.cells #[.int .i64 (n0 : Int), .int .i64 ((k1 : Int) + 1), .int .i64 (q4 : Int), .string ⟨#[79, 111, 112, 115]⟩] 133)
      have hDl := HWA.out.below hbl
      have f2z : ((w11.setCell ⟨gc, q3 * 7 + 1, none⟩ (.int .i64 (q5 : Int))).alloc (.cells #[.int .i64 (n0 : Int), .int .i64 ((k1 : Int) + 1), .int .i64 (q4 : Int), .string ⟨#[79, 111, 112, 115]⟩] 133)).frozen? ⟨x.g, 2, none⟩ = false := hDl.blk.frozen 2
      have hntz : ntz ≤ (N + 6 * c + 5) := by
        have h1 : (((someW x.xs F (((((((someW x.xs F (s)).nx x.xs).op 0 0).op 167 0).nx x.xs).label [[76, 79, 111, 112, 115, 59]]).op 87 0)).label []).aim q3 (q5 : Int)).traps.length = ntz := HWA.out.traps.row.1
        rw [← h1]
        exact HZ11.out.2.1
      have HTL : Hid (GotR trC 4 133 x.b0 ((w11.setCell ⟨gc, q3 * 7 + 1, none⟩ (.int .i64 (q5 : Int))).alloc (.cells #[.int .i64 (n0 : Int), .int .i64 ((k1 : Int) + 1), .int .i64 (q4 : Int), .string ⟨#[79, 111, 112, 115]⟩] 133)) Tz ntz ctz (((someW x.xs F (((((((someW x.xs F (s)).nx x.xs).op 0 0).op 167 0).nx x.xs).label [[76, 79, 111, 112, 115, 59]]).op 87 0)).label []).aim q3 (q5 : Int)).traps) := Lib.hid hDl.traps
      have HBLK : Hid (Blk ((w11.setCell ⟨gc, q3 * 7 + 1, none⟩ (.int .i64 (q5 : Int))).alloc (.cells #[.int .i64 (n0 : Int), .int .i64 ((k1 : Int) + 1), .int .i64 (q4 : Int), .string ⟨#[79, 111, 112, 115]⟩] 133)) w11.heap.size 133 (trC (⟨(n0 : Int), (k1 : Int) + 1, (q4 : Int), [79, 111, 112, 115]⟩ : TrD)).toArray) := Lib.hid (by have h := Blk.new (w11.setCell ⟨gc, q3 * 7 + 1, none⟩ (.int .i64 (q5 : Int))) 133 #[.int .i64 (n0 : Int), .int .i64 ((k1 : Int) + 1), .int .i64 (q4 : Int), .string ⟨#[79, 111, 112, 115]⟩]; rwa [show ((w11.setCell ⟨gc, q3 * 7 + 1, none⟩ (.int .i64 (q5 : Int)))).heap.size = w11.heap.size by simp] at h)
      have HDL := Lib.hid hDl
      have hb0l := hDl.b0
      have HGOT := Lib.hid (ne_own hDl.traps hDl.blk (show 133 ≠ 166 by decide))
      have HBL := Lib.hid hbl
      have hgl9 := hDl.blk.lt
      clear hbl hDl
      go_wp2_with (at_builtin; refine wpList_pushT rfl _ _ rfl x.b0 Tz ntz ctz (((someW x.xs F (((((((someW x.xs F (s)).nx x.xs).op 0 0).op 167 0).nx x.xs).label [[76, 79, 111, 112, 115, 59]]).op 87 0)).label []).aim q3 (q5 : Int)).traps rfl HTL.out _ (⟨(n0 : Int), (k1 : Int) + 1, (q4 : Int), [79, 111, 112, 115]⟩ : TrD) rfl HBLK.out (by omega) hb0l ?_; intro T2 c2 wx hG hg hr; have s1 : wx.cell? ⟨x.g, 2, none⟩ = some (.slice Tz ntz ctz) := ((only_grown hg hr).cell (p := ⟨x.g, 2, none⟩) HDL.out.blk.lt HGOT.out).trans (HDL.out.blk.cell 2); have s2 : wx.frozen? ⟨x.g, 2, none⟩ = false := ((only_grown hg hr).blk HDL.out.blk HGOT.out).frozen 2)
      obtain ⟨hP, hF⟩ := HDL.out.trap_ hG hg hr
      obtain ⟨we, hwe⟩ : ∃ W, wx.setCell ⟨x.g, 2, none⟩ (.slice T2 (ntz + 1) c2) = W := ⟨_, rfl⟩
      rw [hwe] at hP hF ⊢
      have HE : FS = (((someW x.xs F (((((((someW x.xs F (s)).nx x.xs).op 0 0).op 167 0).nx x.xs).label [[76, 79, 111, 112, 115, 59]]).op 87 0)).label []).aim q3 (q5 : Int)).trapped (⟨(n0 : Int), (k1 : Int) + 1, (q4 : Int), [79, 111, 112, 115]⟩ : TrD) := by
        rw [← HFS.out]
        have z0 : s.code.length = n0 := HQq0.out
        have z1 : (((someW x.xs F (s)).nx x.xs).op 0 0).code.length = k1 + 1 := HQq1.out
        have z4 : ((((someW x.xs F (s)).nx x.xs).op 0 0).op 167 0).code.length = q4 := HQq4.out
        have z5 : (someW x.xs F (((((((someW x.xs F (s)).nx x.xs).op 0 0).op 167 0).nx x.xs).label [[76, 79, 111, 112, 115, 59]]).op 87 0)).code.length = q5 := HQq5.out
        have z3 : (((someW x.xs F (s)).nx x.xs).op 0 0).code.length = q3 := HQq3.out
        have e3 : q3 = k1 + 1 := z3.symm.trans z1
        rw [e3]
        clear z3
        unfold guardW
        simp [HVv.out, HVa.out, trapN, z0, z1, z4, z5]
      have hend : WrS x we D FS := by rw [HE]; exact ⟨_, _, _, _, _, _, _, _, _, _, hP⟩
      have hof : Fr x w0 we := (HOA.out.trans (Fr.of_below HBL.out)).trans hF
      clear hG hg hr hP hF hwe s1 s2 HE
      go_end0
      exact ⟨rfl, hend, hof⟩
    · have da : w6.cell? ⟨w4.heap.size, 4, none⟩ = some (.string ⟨#[78, 117, 108, 108, 70, 97, 117, 108, 116]⟩) := by
        rw [HQ6.out.cell]
        rfl
      have e1 : ((⟨#[76]⟩ : ByteArray) ++ ⟨#[78, 117, 108, 108, 70, 97, 117, 108, 116]⟩) = ⟨#[76, 78, 117, 108, 108, 70, 97, 117, 108, 116]⟩ := rfl
      have e2 : (⟨#[76, 78, 117, 108, 108, 70, 97, 117, 108, 116]⟩ : ByteArray) ++ ⟨#[59]⟩ = ⟨#[76, 78, 117, 108, 108, 70, 97, 117, 108, 116, 59]⟩ := rfl
      have hbs := belowA w6 (.cells #[.string ⟨#[76, 78, 117, 108, 108, 70, 97, 117, 108, 116, 59]⟩] 9)
      have h := HW6.out.below hbs
      have ho := Fr.of_below (x := x) hbs
      have ks : Blk (w6.alloc (.cells #[.string ⟨#[76, 78, 117, 108, 108, 70, 97, 117, 108, 116, 59]⟩] 9)) w6.heap.size 9 ([[76, 78, 117, 108, 108, 70, 97, 117, 108, 116, 59]].map SV).toArray := Blk.new _ _ _
      obtain ⟨w7, hws⟩ : ∃ W, w6.alloc (.cells #[.string ⟨#[76, 78, 117, 108, 108, 70, 97, 117, 108, 116, 59]⟩] 9) = W := ⟨_, rfl⟩
      rw [hws] at h ho ks
      have HWS := Lib.hid hws
      have HKS := Lib.hid ks
      clear hws ks hbs
      have HW7 := Lib.hid h
      have HO7 : Hid (Fr x w0 w7) := Lib.hid (HO6.out.trans ho)
      have HZ7 : Hid ((((((someW x.xs F (s)).nx x.xs).op 0 0).op 167 0).nx x.xs).sz (N + 3 * c + 2)) := Lib.hid ((HZ6.out).more (by omega))
      clear h ho
      go_wp2_with fail
      rw [HWS.out]
      clear da e1 e2
      refine (label_s x _ _ _ (N + 3 * c + 2) (some ⟨w6.heap.size, 0, none⟩) 1 1 [[76, 78, 117, 108, 108, 70, 97, 117, 108, 116, 59]] (Or.inr ⟨w6.heap.size, rfl, rfl, rfl, HKS.out⟩) HW7.out HZ7.out (by omega)).mono ?_
      rintro e w8 ⟨rfl, h, ho⟩
      have HW8 := Lib.hid h
      have HO8 : Hid (Fr x w0 w8) := Lib.hid (HO7.out.trans ho)
      have HZ8 : Hid (((((((someW x.xs F (s)).nx x.xs).op 0 0).op 167 0).nx x.xs).label [[76, 78, 117, 108, 108, 70, 97, 117, 108, 116, 59]]).sz (N + 3 * c + 3)) := Lib.hid ((Ws.sz_label _ HZ7.out).more (by omega))
      clear h ho
      obtain ⟨q4, hq4⟩ : ∃ q4, (((((someW x.xs F (s)).nx x.xs).op 0 0).op 167 0).nx x.xs).code.length = q4 := ⟨_, rfl⟩
      rw [hq4]
      have HQq4 := Lib.hid hq4
      clear hq4
      go_wp2_with fail
      refine (op_v x _ _ _ (N + 3 * c + 3) 87 _ _ (by first | rfl | decide | assumption) HW8.out HZ8.out (by omega)).mono ?_
      rintro e w9 ⟨rfl, h, ho⟩
      have HW9 := Lib.hid h
      have HO9 : Hid (Fr x w0 w9) := Lib.hid (HO8.out.trans ho)
      have HZ9 : Hid ((((((((someW x.xs F (s)).nx x.xs).op 0 0).op 167 0).nx x.xs).label [[76, 78, 117, 108, 108, 70, 97, 117, 108, 116, 59]]).op 87 0).sz (N + 3 * c + 4)) := Lib.hid ((Ws.sz_op _ _ HZ8.out).more (by omega))
      clear h ho
      go_wp2_with fail
      refine (HFs.out _ _ (N + 3 * c + 4) HW9.out HZ9.out (by omega)).mono ?_
      rintro e w10 ⟨rfl, h, ho⟩
      have HW10 := Lib.hid h
      have HO10 : Hid (Fr x w0 w10) := Lib.hid (HO9.out.trans ho)
      have HZ10 : Hid ((someW x.xs F (((((((someW x.xs F (s)).nx x.xs).op 0 0).op 167 0).nx x.xs).label [[76, 78, 117, 108, 108, 70, 97, 117, 108, 116, 59]]).op 87 0)).sz (N + 6 * c + 4)) := Lib.hid ((HFa.out _ _ HZ9.out).more (by omega))
      clear h ho
      go_wp2_with fail
      refine (label_s x _ _ _ (N + 6 * c + 4) none 0 0 [] (Or.inl ⟨rfl, rfl, rfl, rfl⟩) HW10.out HZ10.out (by omega)).mono ?_
      rintro e w11 ⟨rfl, h, ho⟩
      have HW11 := Lib.hid h
      have HO11 : Hid (Fr x w0 w11) := Lib.hid (HO10.out.trans ho)
      have HZ11 : Hid (((someW x.xs F (((((((someW x.xs F (s)).nx x.xs).op 0 0).op 167 0).nx x.xs).label [[76, 78, 117, 108, 108, 70, 97, 117, 108, 116, 59]]).op 87 0)).label []).sz (N + 6 * c + 5)) := Lib.hid ((Ws.sz_label [] HZ10.out).more (by omega))
      clear h ho
      obtain ⟨q5, hq5⟩ : ∃ q5, (someW x.xs F (((((((someW x.xs F (s)).nx x.xs).op 0 0).op 167 0).nx x.xs).label [[76, 78, 117, 108, 108, 70, 97, 117, 108, 116, 59]]).op 87 0)).code.length = q5 := ⟨_, rfl⟩
      rw [hq5]
      have HQq5 := Lib.hid hq5
      clear hq5
      obtain ⟨Cz, nz, cz, Tz, ntz, ctz, Mz, nmz, cmz, lmz, hD⟩ := HW11.out
      have hlz : ((someW x.xs F (((((((someW x.xs F (s)).nx x.xs).op 0 0).op 167 0).nx x.xs).label [[76, 78, 117, 108, 108, 70, 97, 117, 108, 116, 59]]).op 87 0)).label []).code.length = nz := hD.code.row.1
      have hpl : q3 < nz := by
        have g1 := HQq3.out
        have g2 := HFg.out (((((((someW x.xs F (s)).nx x.xs).op 0 0).op 167 0).nx x.xs).label [[76, 78, 117, 108, 108, 70, 97, 117, 108, 116, 59]]).op 87 0)
        have g3 := len_label (someW x.xs F (((((((someW x.xs F (s)).nx x.xs).op 0 0).op 167 0).nx x.xs).label [[76, 78, 117, 108, 108, 70, 97, 117, 108, 116, 59]]).op 87 0)) []
        simp only [len_op, len_nx, len_label, len_push] at g1 g2
        omega
      obtain ⟨gc, hgc⟩ : ∃ gc, Cz = some ⟨gc, 0, none⟩ := by
        rcases hD.code.here with h0 | ⟨g, cur, h1, _⟩
        · exact absurd (hD.code.isNil h0).1 (by omega)
        · exact ⟨g, h1⟩
      subst hgc
      have c1z : w11.cell? ⟨x.g, 1, none⟩ = some (.slice (some ⟨gc, 0, none⟩) nz cz) := hD.blk.cell 1
      have hcz1 := hD.code.row.2.1
      have hcz2 := hD.code.row.2.2.1
      unfold maxLen at hcz2
      have hbc : ∃ v, w11.cell? ⟨gc, q3 * 7 + 1, none⟩ = some v := by
        obtain ⟨b', o', y, e', _, _, hy, hc⟩ := hD.code.row.at_ hpl
        cases e'
        have := hc 1 (by decide)
        rw [Nat.zero_add] at this
        exact ⟨_, this⟩
      obtain ⟨vc, hvc⟩ := hbc
      obtain ⟨hfz, hgne⟩ : w11.frozen? ⟨gc, q3 * 7 + 1, none⟩ = false ∧ x.g ≠ gc := by
        obtain ⟨cur, hb, _⟩ := gotR_block hD.code (show (Value.slice (some ⟨gc, 0, none⟩) nz cz).ownBlock = some gc from rfl)
        exact ⟨hb.frozen _, Blk.ne_ hD.blk hb (by decide)⟩
      obtain ⟨hP, hF⟩ := hD.aim_ hpl (q5 : Int)
      have HWA : Hid (WrD x (w11.setCell ⟨gc, q3 * 7 + 1, none⟩ (.int .i64 (q5 : Int))) D (((someW x.xs F (((((((someW x.xs F (s)).nx x.xs).op 0 0).op 167 0).nx x.xs).label [[76, 78, 117, 108, 108, 70, 97, 117, 108, 116, 59]]).op 87 0)).label []).aim q3 (q5 : Int)) (some ⟨gc, 0, none⟩) nz cz Tz ntz ctz Mz nmz cmz lmz) := Lib.hid hP
      have HOA := Lib.hid (HO11.out.trans hF)
      have hglz := hD.blk.lt
      have hq3p : decide ((0 : Int) ≤ (q3 : Int)) = true := by simp
      clear hD hP hF
      have c2z : (w11.setCell ⟨gc, q3 * 7 + 1, none⟩ (.int .i64 (q5 : Int))).cell? ⟨x.g, 2, none⟩ = some (.slice Tz ntz ctz) := HWA.out.blk.cell 2
      have hbl := belowA (w11.setCell ⟨gc, q3 * 7 + 1, none⟩ (.int .i64 (q5 : Int))) (.cells #[.int .i64 (n0 : Int), .int .i64 ((k1 : Int) + 1), .int .i64 (q4 : Int), .string ⟨#[78, 117, 108, 108, 70, 97, 117, 108, 116]⟩] 133)
      have hDl := HWA.out.below hbl
      have f2z : ((w11.setCell ⟨gc, q3 * 7 + 1, none⟩ (.int .i64 (q5 : Int))).alloc (.cells #[.int .i64 (n0 : Int), .int .i64 ((k1 : Int) + 1), .int .i64 (q4 : Int), .string ⟨#[78, 117, 108, 108, 70, 97, 117, 108, 116]⟩] 133)).frozen? ⟨x.g, 2, none⟩ = false := hDl.blk.frozen 2
      have hntz : ntz ≤ (N + 6 * c + 5) := by
        have h1 : (((someW x.xs F (((((((someW x.xs F (s)).nx x.xs).op 0 0).op 167 0).nx x.xs).label [[76, 78, 117, 108, 108, 70, 97, 117, 108, 116, 59]]).op 87 0)).label []).aim q3 (q5 : Int)).traps.length = ntz := HWA.out.traps.row.1
        rw [← h1]
        exact HZ11.out.2.1
      have HTL : Hid (GotR trC 4 133 x.b0 ((w11.setCell ⟨gc, q3 * 7 + 1, none⟩ (.int .i64 (q5 : Int))).alloc (.cells #[.int .i64 (n0 : Int), .int .i64 ((k1 : Int) + 1), .int .i64 (q4 : Int), .string ⟨#[78, 117, 108, 108, 70, 97, 117, 108, 116]⟩] 133)) Tz ntz ctz (((someW x.xs F (((((((someW x.xs F (s)).nx x.xs).op 0 0).op 167 0).nx x.xs).label [[76, 78, 117, 108, 108, 70, 97, 117, 108, 116, 59]]).op 87 0)).label []).aim q3 (q5 : Int)).traps) := Lib.hid hDl.traps
      have HBLK : Hid (Blk ((w11.setCell ⟨gc, q3 * 7 + 1, none⟩ (.int .i64 (q5 : Int))).alloc (.cells #[.int .i64 (n0 : Int), .int .i64 ((k1 : Int) + 1), .int .i64 (q4 : Int), .string ⟨#[78, 117, 108, 108, 70, 97, 117, 108, 116]⟩] 133)) w11.heap.size 133 (trC (⟨(n0 : Int), (k1 : Int) + 1, (q4 : Int), [78, 117, 108, 108, 70, 97, 117, 108, 116]⟩ : TrD)).toArray) := Lib.hid (by have h := Blk.new (w11.setCell ⟨gc, q3 * 7 + 1, none⟩ (.int .i64 (q5 : Int))) 133 #[.int .i64 (n0 : Int), .int .i64 ((k1 : Int) + 1), .int .i64 (q4 : Int), .string ⟨#[78, 117, 108, 108, 70, 97, 117, 108, 116]⟩]; rwa [show ((w11.setCell ⟨gc, q3 * 7 + 1, none⟩ (.int .i64 (q5 : Int)))).heap.size = w11.heap.size by simp] at h)
      have HDL := Lib.hid hDl
      have hb0l := hDl.b0
      have HGOT := Lib.hid (ne_own hDl.traps hDl.blk (show 133 ≠ 166 by decide))
      have HBL := Lib.hid hbl
      have hgl9 := hDl.blk.lt
      clear hbl hDl
      go_wp2_with (at_builtin; refine wpList_pushT rfl _ _ rfl x.b0 Tz ntz ctz (((someW x.xs F (((((((someW x.xs F (s)).nx x.xs).op 0 0).op 167 0).nx x.xs).label [[76, 78, 117, 108, 108, 70, 97, 117, 108, 116, 59]]).op 87 0)).label []).aim q3 (q5 : Int)).traps rfl HTL.out _ (⟨(n0 : Int), (k1 : Int) + 1, (q4 : Int), [78, 117, 108, 108, 70, 97, 117, 108, 116]⟩ : TrD) rfl HBLK.out (by omega) hb0l ?_; intro T2 c2 wx hG hg hr; have s1 : wx.cell? ⟨x.g, 2, none⟩ = some (.slice Tz ntz ctz) := ((only_grown hg hr).cell (p := ⟨x.g, 2, none⟩) HDL.out.blk.lt HGOT.out).trans (HDL.out.blk.cell 2); have s2 : wx.frozen? ⟨x.g, 2, none⟩ = false := ((only_grown hg hr).blk HDL.out.blk HGOT.out).frozen 2)
      obtain ⟨hP, hF⟩ := HDL.out.trap_ hG hg hr
      obtain ⟨we, hwe⟩ : ∃ W, wx.setCell ⟨x.g, 2, none⟩ (.slice T2 (ntz + 1) c2) = W := ⟨_, rfl⟩
      rw [hwe] at hP hF ⊢
      have HE : FS = (((someW x.xs F (((((((someW x.xs F (s)).nx x.xs).op 0 0).op 167 0).nx x.xs).label [[76, 78, 117, 108, 108, 70, 97, 117, 108, 116, 59]]).op 87 0)).label []).aim q3 (q5 : Int)).trapped (⟨(n0 : Int), (k1 : Int) + 1, (q4 : Int), [78, 117, 108, 108, 70, 97, 117, 108, 116]⟩ : TrD) := by
        rw [← HFS.out]
        have z0 : s.code.length = n0 := HQq0.out
        have z1 : (((someW x.xs F (s)).nx x.xs).op 0 0).code.length = k1 + 1 := HQq1.out
        have z4 : ((((someW x.xs F (s)).nx x.xs).op 0 0).op 167 0).code.length = q4 := HQq4.out
        have z5 : (someW x.xs F (((((((someW x.xs F (s)).nx x.xs).op 0 0).op 167 0).nx x.xs).label [[76, 78, 117, 108, 108, 70, 97, 117, 108, 116, 59]]).op 87 0)).code.length = q5 := HQq5.out
        have z3 : (((someW x.xs F (s)).nx x.xs).op 0 0).code.length = q3 := HQq3.out
        have e3 : q3 = k1 + 1 := z3.symm.trans z1
        rw [e3]
        clear z3
        unfold guardW
        simp [HVv.out, HVa.out, trapN, z0, z1, z4, z5]
      have hend : WrS x we D FS := by rw [HE]; exact ⟨_, _, _, _, _, _, _, _, _, _, hP⟩
      have hof : Fr x w0 we := (HOA.out.trans (Fr.of_below HBL.out)).trans hF
      clear hG hg hr hP hF hwe s1 s2 HE
      go_end0
      exact ⟨rfl, hend, hof⟩
  · obtain ⟨C2, nc2, cc2, T2, nt2, ct2, M2, nm2, cm2, lm2, hD⟩ := HW2.out
    have hnc2 : nc2 ≤ (N + 3 * c + 0) := by rw [← hD.code.row.1]; exact HZ2.out.1
    have c12 : w2.cell? ⟨x.g, 1, none⟩ = some (.slice C2 nc2 cc2) := hD.blk.cell 1
    have hgl2 := hD.blk.lt
    have hb := belowA w2 (.cells (inC (⟨187, 0, 0, [79, 111, 112, 115], [], [], []⟩ : InD)).toArray 98)
    have hD1 := hD.below hb
    have f12 : w2.frozen? ⟨x.g, 1, none⟩ = false := hD.blk.frozen 1
    have HC2 : Hid (GotR inC 7 98 x.b0 (w2.alloc (.cells (inC (⟨187, 0, 0, [79, 111, 112, 115], [], [], []⟩ : InD)).toArray 98)) C2 nc2 cc2 ((someW x.xs F (s)).nx x.xs).code) := Lib.hid hD1.code
    have HB2 : Hid (Blk (w2.alloc (.cells (inC (⟨187, 0, 0, [79, 111, 112, 115], [], [], []⟩ : InD)).toArray 98)) w2.heap.size 98 (inC (⟨187, 0, 0, [79, 111, 112, 115], [], [], []⟩ : InD)).toArray) := Lib.hid (Blk.new _ _ _)
    have hb02 := hD1.b0
    have HGO2 := Lib.hid (ne_own hD.code hD.blk (by decide))
    have HD12 := Lib.hid hD1
    have HBE2 := Lib.hid hb
    clear hD hD1 hb
    simp only [inC] at HC2 HB2 HBE2 HD12 hb02
    go_wp2_with (at_builtin; refine wpList_push rfl _ _ rfl x.b0 C2 nc2 cc2 ((someW x.xs F (s)).nx x.xs).code rfl HC2.out w2.heap.size (⟨187, 0, 0, [79, 111, 112, 115], [], [], []⟩ : InD) rfl HB2.out (by omega) hb02 ?_; intro C22 c22 wx2 hG2 hg2 hr2; have s12 : wx2.cell? ⟨x.g, 1, none⟩ = some (.slice C2 nc2 cc2) := ((only_grown hg2 hr2).cell (p := ⟨x.g, 1, none⟩) (by simp; omega) HGO2.out).trans (cellA _ c12); have s22 : wx2.frozen? ⟨x.g, 1, none⟩ = false := (((only_grown hg2 hr2).blk HD12.out.blk HGO2.out)).frozen 1)
    obtain ⟨hP, hF⟩ := HD12.out.push hG2 hg2 hr2
    obtain ⟨w3, hwe⟩ : ∃ W, wx2.setCell ⟨x.g, 1, none⟩ (.slice C22 (nc2 + 1) c22) = W := ⟨_, rfl⟩
    rw [hwe] at hP hF ⊢
    have h : WrS x w3 _ (((someW x.xs F (s)).nx x.xs).push ⟨187, 0, 0, [79, 111, 112, 115], [], [], []⟩) := ⟨C22, nc2 + 1, c22, T2, nt2, ct2, M2, nm2, cm2, lm2, hP⟩
    have ho : Fr x w2 w3 := (Fr.of_below HBE2.out).trans hF
    clear hwe hP hF hG2 hg2 hr2 s12 s22 c12 f12
    have HW3 := Lib.hid h
    have HO3 : Hid (Fr x w0 w3) := Lib.hid (HO2.out.trans ho)
    have HZ3 : Hid ((((someW x.xs F (s)).nx x.xs).push ⟨187, 0, 0, [79, 111, 112, 115], [], [], []⟩).sz (N + 3 * c + 1)) := Lib.hid ((Ws.sz_push _ HZ2.out).more (by omega))
    clear h ho
    go_wp2_with fail
    refine (op_v x _ _ _ (N + 3 * c + 1) 191 _ _ (by first | rfl | decide | assumption) HW3.out HZ3.out (by omega)).mono ?_
    rintro e w4 ⟨rfl, h, ho⟩
    have HW4 := Lib.hid h
    have HO4 : Hid (Fr x w0 w4) := Lib.hid (HO3.out.trans ho)
    have HZ4 : Hid (((((someW x.xs F (s)).nx x.xs).push ⟨187, 0, 0, [79, 111, 112, 115], [], [], []⟩).op 191 0).sz (N + 3 * c + 2)) := Lib.hid ((Ws.sz_op _ _ HZ3.out).more (by omega))
    clear h ho
    obtain ⟨Cq, nq, cq, Tq, ntq, ctq, Mq, nmq, cmq, lmq, hD⟩ := HW4.out
    have hlq : ((((someW x.xs F (s)).nx x.xs).push ⟨187, 0, 0, [79, 111, 112, 115], [], [], []⟩).op 191 0).code.length = nq := hD.code.row.1
    have hglq := hD.blk.lt
    have hcq := hD.code.row.2.1
    have hcq2 := hD.code.row.2.2.1
    unfold maxLen at hcq2
    have hlp := len_op (((someW x.xs F (s)).nx x.xs).push ⟨187, 0, 0, [79, 111, 112, 115], [], [], []⟩) 191 0
    obtain ⟨k1, rfl⟩ : ∃ k1, nq = k1 + 1 := ⟨nq - 1, by omega⟩
    have c1q : w4.cell? ⟨x.g, 1, none⟩ = some (.slice Cq (k1 + 1) cq) := hD.blk.cell 1
    obtain ⟨bq, oq, iq, rfl, hbq, -, hiq, hcell⟩ := hD.code.row.at_ (i := k1) (by omega)
    have hiq2 : iq = ⟨191, 0, 0, [], [], [], []⟩ := by
      have h1 : ((((someW x.xs F (s)).nx x.xs).push ⟨187, 0, 0, [79, 111, 112, 115], [], [], []⟩).code ++ [(⟨191, 0, 0, [], [], [], []⟩ : InD)])[k1]? = some iq := hiq
      rw [List.getElem?_append_right (by omega), show k1 - (((someW x.xs F (s)).nx x.xs).push ⟨187, 0, 0, [79, 111, 112, 115], [], [], []⟩).code.length = 0 by omega] at h1
      simpa using h1.symm
    have d0q : w4.cell? ⟨bq, oq + k1 * 7, none⟩ = some (.int .u8 191) := by
      have := hcell 0 (by decide)
      rw [hiq2] at this
      simpa [inC] using this
    have HQq1 := Lib.hid hlq
    clear hD hlq hlp hiq hcell hiq2
    have t4 := HW4.out.t
    have hbt := belowA w4 (.cells #[.string ⟨#[]⟩, .string ⟨#[84, 104, 114, 111, 119, 97, 98, 108, 101]⟩, .string ⟨#[77, 97, 116, 104, 70, 97, 117, 108, 116]⟩, .string ⟨#[79, 111, 112, 115]⟩, .string ⟨#[78, 117, 108, 108, 70, 97, 117, 108, 116]⟩] 9)
    have kb4 := Blk.new w4 9 #[.string ⟨#[]⟩, .string ⟨#[84, 104, 114, 111, 119, 97, 98, 108, 101]⟩, .string ⟨#[77, 97, 116, 104, 70, 97, 117, 108, 116]⟩, .string ⟨#[79, 111, 112, 115]⟩, .string ⟨#[78, 117, 108, 108, 70, 97, 117, 108, 116]⟩]
    have h := HW4.out.below hbt
    have ho := Fr.of_below (x := x) hbt
    obtain ⟨w5, hw4⟩ : ∃ W, w4.alloc (.cells #[.string ⟨#[]⟩, .string ⟨#[84, 104, 114, 111, 119, 97, 98, 108, 101]⟩, .string ⟨#[77, 97, 116, 104, 70, 97, 117, 108, 116]⟩, .string ⟨#[79, 111, 112, 115]⟩, .string ⟨#[78, 117, 108, 108, 70, 97, 117, 108, 116]⟩] 9) = W := ⟨_, rfl⟩
    rw [hw4] at h ho kb4
    have HWW4 := Lib.hid hw4
    have HKB4 := Lib.hid kb4
    have t4b := h.t
    rw [← hw4] at t4b
    have hgl4 := HW4.out.lt
    clear hw4 kb4 hbt
    have HW5 := Lib.hid h
    have HO5 : Hid (Fr x w0 w5) := Lib.hid (HO4.out.trans ho)
    have HZ5 : Hid (((((someW x.xs F (s)).nx x.xs).push ⟨187, 0, 0, [79, 111, 112, 115], [], [], []⟩).op 191 0).sz (N + 3 * c + 2)) := Lib.hid ((HZ4.out).more (by omega))
    clear h ho
    go_wp2_with fail
    rw [HWW4.out]
    clear t4 t4b c1q d0q hbq
    refine (next_s x _ _ _ 5 _ HW5.out (by omega) (by omega) rfl).mono ?_
    rintro e w6 ⟨rfl, h, ho⟩
    have HQ6 := Lib.hid (ho.2 _ _ _ HKB4.out (by unfold WE; decide))
    have HW6 := Lib.hid h
    have HO6 : Hid (Fr x w0 w6) := Lib.hid (HO5.out.trans ho)
    have HZ6 : Hid ((((((someW x.xs F (s)).nx x.xs).push ⟨187, 0, 0, [79, 111, 112, 115], [], [], []⟩).op 191 0).nx x.xs).sz (N + 3 * c + 2)) := Lib.hid ((Ws.sz_nx x.xs HZ5.out).more (by omega))
    clear h ho
    obtain ⟨a, ha⟩ : ∃ a, nxV x.xs 5 ((((someW x.xs F (s)).nx x.xs).push ⟨187, 0, 0, [79, 111, 112, 115], [], [], []⟩).op 191 0).at_ = a := ⟨_, rfl⟩
    have ba : a < 5 := by rw [← ha]; exact nxV_lt (by omega)
    rw [ha]
    have HVa := Lib.hid ha
    have la : w4.heap.size < w6.heap.size := HQ6.out.lt
    clear ha
    have hcs : a = 0 ∨ a = 1 ∨ a = 2 ∨ a = 3 ∨ a = 4 := by omega
    clear ba
    rcases hcs with rfl | rfl | rfl | rfl | rfl
    · have da : w6.cell? ⟨w4.heap.size, 0, none⟩ = some (.string ⟨#[]⟩) := by
        rw [HQ6.out.cell]
        rfl
      have e1 : ((⟨#[76]⟩ : ByteArray) ++ ⟨#[84, 104, 114, 111, 119, 97, 98, 108, 101]⟩) = ⟨#[76, 84, 104, 114, 111, 119, 97, 98, 108, 101]⟩ := rfl
      have e2 : (⟨#[76, 84, 104, 114, 111, 119, 97, 98, 108, 101]⟩ : ByteArray) ++ ⟨#[59]⟩ = ⟨#[76, 84, 104, 114, 111, 119, 97, 98, 108, 101, 59]⟩ := rfl
      have hbs := belowA w6 (.cells #[.string ⟨#[76, 84, 104, 114, 111, 119, 97, 98, 108, 101, 59]⟩] 9)
      have h := HW6.out.below hbs
      have ho := Fr.of_below (x := x) hbs
      have ks : Blk (w6.alloc (.cells #[.string ⟨#[76, 84, 104, 114, 111, 119, 97, 98, 108, 101, 59]⟩] 9)) w6.heap.size 9 ([[76, 84, 104, 114, 111, 119, 97, 98, 108, 101, 59]].map SV).toArray := Blk.new _ _ _
      obtain ⟨w7, hws⟩ : ∃ W, w6.alloc (.cells #[.string ⟨#[76, 84, 104, 114, 111, 119, 97, 98, 108, 101, 59]⟩] 9) = W := ⟨_, rfl⟩
      rw [hws] at h ho ks
      have HWS := Lib.hid hws
      have HKS := Lib.hid ks
      clear hws ks hbs
      have HW7 := Lib.hid h
      have HO7 : Hid (Fr x w0 w7) := Lib.hid (HO6.out.trans ho)
      have HZ7 : Hid ((((((someW x.xs F (s)).nx x.xs).push ⟨187, 0, 0, [79, 111, 112, 115], [], [], []⟩).op 191 0).nx x.xs).sz (N + 3 * c + 2)) := Lib.hid ((HZ6.out).more (by omega))
      clear h ho
      go_wp2_with fail
      rw [HWS.out]
      clear da e1 e2
      refine (label_s x _ _ _ (N + 3 * c + 2) (some ⟨w6.heap.size, 0, none⟩) 1 1 [[76, 84, 104, 114, 111, 119, 97, 98, 108, 101, 59]] (Or.inr ⟨w6.heap.size, rfl, rfl, rfl, HKS.out⟩) HW7.out HZ7.out (by omega)).mono ?_
      rintro e w8 ⟨rfl, h, ho⟩
      have HW8 := Lib.hid h
      have HO8 : Hid (Fr x w0 w8) := Lib.hid (HO7.out.trans ho)
      have HZ8 : Hid (((((((someW x.xs F (s)).nx x.xs).push ⟨187, 0, 0, [79, 111, 112, 115], [], [], []⟩).op 191 0).nx x.xs).label [[76, 84, 104, 114, 111, 119, 97, 98, 108, 101, 59]]).sz (N + 3 * c + 3)) := Lib.hid ((Ws.sz_label _ HZ7.out).more (by omega))
      clear h ho
      obtain ⟨q4, hq4⟩ : ∃ q4, (((((someW x.xs F (s)).nx x.xs).push ⟨187, 0, 0, [79, 111, 112, 115], [], [], []⟩).op 191 0).nx x.xs).code.length = q4 := ⟨_, rfl⟩
      rw [hq4]
      have HQq4 := Lib.hid hq4
      clear hq4
      go_wp2_with fail
      refine (op_v x _ _ _ (N + 3 * c + 3) 87 _ _ (by first | rfl | decide | assumption) HW8.out HZ8.out (by omega)).mono ?_
      rintro e w9 ⟨rfl, h, ho⟩
      have HW9 := Lib.hid h
      have HO9 : Hid (Fr x w0 w9) := Lib.hid (HO8.out.trans ho)
      have HZ9 : Hid ((((((((someW x.xs F (s)).nx x.xs).push ⟨187, 0, 0, [79, 111, 112, 115], [], [], []⟩).op 191 0).nx x.xs).label [[76, 84, 104, 114, 111, 119, 97, 98, 108, 101, 59]]).op 87 0).sz (N + 3 * c + 4)) := Lib.hid ((Ws.sz_op _ _ HZ8.out).more (by omega))
      clear h ho
      go_wp2_with fail
      refine (HFs.out _ _ (N + 3 * c + 4) HW9.out HZ9.out (by omega)).mono ?_
      rintro e w10 ⟨rfl, h, ho⟩
      have HW10 := Lib.hid h
      have HO10 : Hid (Fr x w0 w10) := Lib.hid (HO9.out.trans ho)
      have HZ10 : Hid ((someW x.xs F (((((((someW x.xs F (s)).nx x.xs).push ⟨187, 0, 0, [79, 111, 112, 115], [], [], []⟩).op 191 0).nx x.xs).label [[76, 84, 104, 114, 111, 119, 97, 98, 108, 101, 59]]).op 87 0)).sz (N + 6 * c + 4)) := Lib.hid ((HFa.out _ _ HZ9.out).more (by omega))
      clear h ho
      go_wp2_with fail
      refine (label_s x _ _ _ (N + 6 * c + 4) none 0 0 [] (Or.inl ⟨rfl, rfl, rfl, rfl⟩) HW10.out HZ10.out (by omega)).mono ?_
      rintro e w11 ⟨rfl, h, ho⟩
      have HW11 := Lib.hid h
      have HO11 : Hid (Fr x w0 w11) := Lib.hid (HO10.out.trans ho)
      have HZ11 : Hid (((someW x.xs F (((((((someW x.xs F (s)).nx x.xs).push ⟨187, 0, 0, [79, 111, 112, 115], [], [], []⟩).op 191 0).nx x.xs).label [[76, 84, 104, 114, 111, 119, 97, 98, 108, 101, 59]]).op 87 0)).label []).sz (N + 6 * c + 5)) := Lib.hid ((Ws.sz_label [] HZ10.out).more (by omega))
      clear h ho
      obtain ⟨q5, hq5⟩ : ∃ q5, (someW x.xs F (((((((someW x.xs F (s)).nx x.xs).push ⟨187, 0, 0, [79, 111, 112, 115], [], [], []⟩).op 191 0).nx x.xs).label [[76, 84, 104, 114, 111, 119, 97, 98, 108, 101, 59]]).op 87 0)).code.length = q5 := ⟨_, rfl⟩
      rw [hq5]
      have HQq5 := Lib.hid hq5
      clear hq5
      obtain ⟨Cz, nz, cz, Tz, ntz, ctz, Mz, nmz, cmz, lmz, hD⟩ := HW11.out
      have HWA := Lib.hid hD
      have HOA := HO11
      have hglz := hD.blk.lt
      clear hD
      have c2z : w11.cell? ⟨x.g, 2, none⟩ = some (.slice Tz ntz ctz) := HWA.out.blk.cell 2
      have hbl := belowA w11 (.cells #[.int .i64 (n0 : Int), .int .i64 ((k1 : Int) + 1), .int .i64 (q4 : Int), .string ⟨#[]⟩] 133)
      have hDl := HWA.out.below hbl
      have f2z : (w11.alloc (.cells #[.int .i64 (n0 : Int), .int .i64 ((k1 : Int) + 1), .int .i64 (q4 : Int), .string ⟨#[]⟩] 133)).frozen? ⟨x.g, 2, none⟩ = false := hDl.blk.frozen 2
      have hntz : ntz ≤ (N + 6 * c + 5) := by
        have h1 : ((someW x.xs F (((((((someW x.xs F (s)).nx x.xs).push ⟨187, 0, 0, [79, 111, 112, 115], [], [], []⟩).op 191 0).nx x.xs).label [[76, 84, 104, 114, 111, 119, 97, 98, 108, 101, 59]]).op 87 0)).label []).traps.length = ntz := HWA.out.traps.row.1
        rw [← h1]
        exact HZ11.out.2.1
      have HTL : Hid (GotR trC 4 133 x.b0 (w11.alloc (.cells #[.int .i64 (n0 : Int), .int .i64 ((k1 : Int) + 1), .int .i64 (q4 : Int), .string ⟨#[]⟩] 133)) Tz ntz ctz ((someW x.xs F (((((((someW x.xs F (s)).nx x.xs).push ⟨187, 0, 0, [79, 111, 112, 115], [], [], []⟩).op 191 0).nx x.xs).label [[76, 84, 104, 114, 111, 119, 97, 98, 108, 101, 59]]).op 87 0)).label []).traps) := Lib.hid hDl.traps
      have HBLK : Hid (Blk (w11.alloc (.cells #[.int .i64 (n0 : Int), .int .i64 ((k1 : Int) + 1), .int .i64 (q4 : Int), .string ⟨#[]⟩] 133)) w11.heap.size 133 (trC (⟨(n0 : Int), (k1 : Int) + 1, (q4 : Int), []⟩ : TrD)).toArray) := Lib.hid (by have h := Blk.new w11 133 #[.int .i64 (n0 : Int), .int .i64 ((k1 : Int) + 1), .int .i64 (q4 : Int), .string ⟨#[]⟩]; exact h)
      have HDL := Lib.hid hDl
      have hb0l := hDl.b0
      have HGOT := Lib.hid (ne_own hDl.traps hDl.blk (show 133 ≠ 166 by decide))
      have HBL := Lib.hid hbl
      have hgl9 := hDl.blk.lt
      clear hbl hDl
      go_wp2_with (at_builtin; refine wpList_pushT rfl _ _ rfl x.b0 Tz ntz ctz ((someW x.xs F (((((((someW x.xs F (s)).nx x.xs).push ⟨187, 0, 0, [79, 111, 112, 115], [], [], []⟩).op 191 0).nx x.xs).label [[76, 84, 104, 114, 111, 119, 97, 98, 108, 101, 59]]).op 87 0)).label []).traps rfl HTL.out _ (⟨(n0 : Int), (k1 : Int) + 1, (q4 : Int), []⟩ : TrD) rfl HBLK.out (by omega) hb0l ?_; intro T2 c2 wx hG hg hr; have s1 : wx.cell? ⟨x.g, 2, none⟩ = some (.slice Tz ntz ctz) := ((only_grown hg hr).cell (p := ⟨x.g, 2, none⟩) HDL.out.blk.lt HGOT.out).trans (HDL.out.blk.cell 2); have s2 : wx.frozen? ⟨x.g, 2, none⟩ = false := ((only_grown hg hr).blk HDL.out.blk HGOT.out).frozen 2)
      obtain ⟨hP, hF⟩ := HDL.out.trap_ hG hg hr
      obtain ⟨we, hwe⟩ : ∃ W, wx.setCell ⟨x.g, 2, none⟩ (.slice T2 (ntz + 1) c2) = W := ⟨_, rfl⟩
      rw [hwe] at hP hF ⊢
      have HE : FS = ((someW x.xs F (((((((someW x.xs F (s)).nx x.xs).push ⟨187, 0, 0, [79, 111, 112, 115], [], [], []⟩).op 191 0).nx x.xs).label [[76, 84, 104, 114, 111, 119, 97, 98, 108, 101, 59]]).op 87 0)).label []).trapped (⟨(n0 : Int), (k1 : Int) + 1, (q4 : Int), []⟩ : TrD) := by
        rw [← HFS.out]
        have z0 : s.code.length = n0 := HQq0.out
        have z1 : ((((someW x.xs F (s)).nx x.xs).push ⟨187, 0, 0, [79, 111, 112, 115], [], [], []⟩).op 191 0).code.length = k1 + 1 := HQq1.out
        have z4 : ((((someW x.xs F (s)).nx x.xs).push ⟨187, 0, 0, [79, 111, 112, 115], [], [], []⟩).op 191 0).code.length = q4 := HQq4.out
        have z5 : (someW x.xs F (((((((someW x.xs F (s)).nx x.xs).push ⟨187, 0, 0, [79, 111, 112, 115], [], [], []⟩).op 191 0).nx x.xs).label [[76, 84, 104, 114, 111, 119, 97, 98, 108, 101, 59]]).op 87 0)).code.length = q5 := HQq5.out
  
        have e3 : q4 = k1 + 1 := z4.symm.trans z1
        rw [e3]
        clear z4
        unfold guardW
        simp [HVv.out, HVa.out, trapN, z0, z1, z5]
      have hend : WrS x we D FS := by rw [HE]; exact ⟨_, _, _, _, _, _, _, _, _, _, hP⟩
      have hof : Fr x w0 we := (HOA.out.trans (Fr.of_below HBL.out)).trans hF
      clear hG hg hr hP hF hwe s1 s2 HE
      go_end0
      exact ⟨rfl, hend, hof⟩
    · have da : w6.cell? ⟨w4.heap.size, 1, none⟩ = some (.string ⟨#[84, 104, 114, 111, 119, 97, 98, 108, 101]⟩) := by
        rw [HQ6.out.cell]
        rfl
      have e1 : ((⟨#[76]⟩ : ByteArray) ++ ⟨#[84, 104, 114, 111, 119, 97, 98, 108, 101]⟩) = ⟨#[76, 84, 104, 114, 111, 119, 97, 98, 108, 101]⟩ := rfl
      have e2 : (⟨#[76, 84, 104, 114, 111, 119, 97, 98, 108, 101]⟩ : ByteArray) ++ ⟨#[59]⟩ = ⟨#[76, 84, 104, 114, 111, 119, 97, 98, 108, 101, 59]⟩ := rfl
      have hbs := belowA w6 (.cells #[.string ⟨#[76, 84, 104, 114, 111, 119, 97, 98, 108, 101, 59]⟩] 9)
      have h := HW6.out.below hbs
      have ho := Fr.of_below (x := x) hbs
      have ks : Blk (w6.alloc (.cells #[.string ⟨#[76, 84, 104, 114, 111, 119, 97, 98, 108, 101, 59]⟩] 9)) w6.heap.size 9 ([[76, 84, 104, 114, 111, 119, 97, 98, 108, 101, 59]].map SV).toArray := Blk.new _ _ _
      obtain ⟨w7, hws⟩ : ∃ W, w6.alloc (.cells #[.string ⟨#[76, 84, 104, 114, 111, 119, 97, 98, 108, 101, 59]⟩] 9) = W := ⟨_, rfl⟩
      rw [hws] at h ho ks
      have HWS := Lib.hid hws
      have HKS := Lib.hid ks
      clear hws ks hbs
      have HW7 := Lib.hid h
      have HO7 : Hid (Fr x w0 w7) := Lib.hid (HO6.out.trans ho)
      have HZ7 : Hid ((((((someW x.xs F (s)).nx x.xs).push ⟨187, 0, 0, [79, 111, 112, 115], [], [], []⟩).op 191 0).nx x.xs).sz (N + 3 * c + 2)) := Lib.hid ((HZ6.out).more (by omega))
      clear h ho
      go_wp2_with fail
      rw [HWS.out]
      clear da e1 e2
      refine (label_s x _ _ _ (N + 3 * c + 2) (some ⟨w6.heap.size, 0, none⟩) 1 1 [[76, 84, 104, 114, 111, 119, 97, 98, 108, 101, 59]] (Or.inr ⟨w6.heap.size, rfl, rfl, rfl, HKS.out⟩) HW7.out HZ7.out (by omega)).mono ?_
      rintro e w8 ⟨rfl, h, ho⟩
      have HW8 := Lib.hid h
      have HO8 : Hid (Fr x w0 w8) := Lib.hid (HO7.out.trans ho)
      have HZ8 : Hid (((((((someW x.xs F (s)).nx x.xs).push ⟨187, 0, 0, [79, 111, 112, 115], [], [], []⟩).op 191 0).nx x.xs).label [[76, 84, 104, 114, 111, 119, 97, 98, 108, 101, 59]]).sz (N + 3 * c + 3)) := Lib.hid ((Ws.sz_label _ HZ7.out).more (by omega))
      clear h ho
      obtain ⟨q4, hq4⟩ : ∃ q4, (((((someW x.xs F (s)).nx x.xs).push ⟨187, 0, 0, [79, 111, 112, 115], [], [], []⟩).op 191 0).nx x.xs).code.length = q4 := ⟨_, rfl⟩
      rw [hq4]
      have HQq4 := Lib.hid hq4
      clear hq4
      go_wp2_with fail
      refine (op_v x _ _ _ (N + 3 * c + 3) 87 _ _ (by first | rfl | decide | assumption) HW8.out HZ8.out (by omega)).mono ?_
      rintro e w9 ⟨rfl, h, ho⟩
      have HW9 := Lib.hid h
      have HO9 : Hid (Fr x w0 w9) := Lib.hid (HO8.out.trans ho)
      have HZ9 : Hid ((((((((someW x.xs F (s)).nx x.xs).push ⟨187, 0, 0, [79, 111, 112, 115], [], [], []⟩).op 191 0).nx x.xs).label [[76, 84, 104, 114, 111, 119, 97, 98, 108, 101, 59]]).op 87 0).sz (N + 3 * c + 4)) := Lib.hid ((Ws.sz_op _ _ HZ8.out).more (by omega))
      clear h ho
      go_wp2_with fail
      refine (HFs.out _ _ (N + 3 * c + 4) HW9.out HZ9.out (by omega)).mono ?_
      rintro e w10 ⟨rfl, h, ho⟩
      have HW10 := Lib.hid h
      have HO10 : Hid (Fr x w0 w10) := Lib.hid (HO9.out.trans ho)
      have HZ10 : Hid ((someW x.xs F (((((((someW x.xs F (s)).nx x.xs).push ⟨187, 0, 0, [79, 111, 112, 115], [], [], []⟩).op 191 0).nx x.xs).label [[76, 84, 104, 114, 111, 119, 97, 98, 108, 101, 59]]).op 87 0)).sz (N + 6 * c + 4)) := Lib.hid ((HFa.out _ _ HZ9.out).more (by omega))
      clear h ho
      go_wp2_with fail
      refine (label_s x _ _ _ (N + 6 * c + 4) none 0 0 [] (Or.inl ⟨rfl, rfl, rfl, rfl⟩) HW10.out HZ10.out (by omega)).mono ?_
      rintro e w11 ⟨rfl, h, ho⟩
      have HW11 := Lib.hid h
      have HO11 : Hid (Fr x w0 w11) := Lib.hid (HO10.out.trans ho)
      have HZ11 : Hid (((someW x.xs F (((((((someW x.xs F (s)).nx x.xs).push ⟨187, 0, 0, [79, 111, 112, 115], [], [], []⟩).op 191 0).nx x.xs).label [[76, 84, 104, 114, 111, 119, 97, 98, 108, 101, 59]]).op 87 0)).label []).sz (N + 6 * c + 5)) := Lib.hid ((Ws.sz_label [] HZ10.out).more (by omega))
      clear h ho
      obtain ⟨q5, hq5⟩ : ∃ q5, (someW x.xs F (((((((someW x.xs F (s)).nx x.xs).push ⟨187, 0, 0, [79, 111, 112, 115], [], [], []⟩).op 191 0).nx x.xs).label [[76, 84, 104, 114, 111, 119, 97, 98, 108, 101, 59]]).op 87 0)).code.length = q5 := ⟨_, rfl⟩
      rw [hq5]
      have HQq5 := Lib.hid hq5
      clear hq5
      obtain ⟨Cz, nz, cz, Tz, ntz, ctz, Mz, nmz, cmz, lmz, hD⟩ := HW11.out
      have HWA := Lib.hid hD
      have HOA := HO11
      have hglz := hD.blk.lt
      clear hD
      have c2z : w11.cell? ⟨x.g, 2, none⟩ = some (.slice Tz ntz ctz) := HWA.out.blk.cell 2
      have hbl := belowA w11 (.cells #[.int .i64 (n0 : Int), .int .i64 ((k1 : Int) + 1), .int .i64 (q4 : Int), .string ⟨#[84, 104, 114, 111, 119, 97, 98, 108, 101]⟩] 133)
      have hDl := HWA.out.below hbl
      have f2z : (w11.alloc (.cells #[.int .i64 (n0 : Int), .int .i64 ((k1 : Int) + 1), .int .i64 (q4 : Int), .string ⟨#[84, 104, 114, 111, 119, 97, 98, 108, 101]⟩] 133)).frozen? ⟨x.g, 2, none⟩ = false := hDl.blk.frozen 2
      have hntz : ntz ≤ (N + 6 * c + 5) := by
        have h1 : ((someW x.xs F (((((((someW x.xs F (s)).nx x.xs).push ⟨187, 0, 0, [79, 111, 112, 115], [], [], []⟩).op 191 0).nx x.xs).label [[76, 84, 104, 114, 111, 119, 97, 98, 108, 101, 59]]).op 87 0)).label []).traps.length = ntz := HWA.out.traps.row.1
        rw [← h1]
        exact HZ11.out.2.1
      have HTL : Hid (GotR trC 4 133 x.b0 (w11.alloc (.cells #[.int .i64 (n0 : Int), .int .i64 ((k1 : Int) + 1), .int .i64 (q4 : Int), .string ⟨#[84, 104, 114, 111, 119, 97, 98, 108, 101]⟩] 133)) Tz ntz ctz ((someW x.xs F (((((((someW x.xs F (s)).nx x.xs).push ⟨187, 0, 0, [79, 111, 112, 115], [], [], []⟩).op 191 0).nx x.xs).label [[76, 84, 104, 114, 111, 119, 97, 98, 108, 101, 59]]).op 87 0)).label []).traps) := Lib.hid hDl.traps
      have HBLK : Hid (Blk (w11.alloc (.cells #[.int .i64 (n0 : Int), .int .i64 ((k1 : Int) + 1), .int .i64 (q4 : Int), .string ⟨#[84, 104, 114, 111, 119, 97, 98, 108, 101]⟩] 133)) w11.heap.size 133 (trC (⟨(n0 : Int), (k1 : Int) + 1, (q4 : Int), [84, 104, 114, 111, 119, 97, 98, 108, 101]⟩ : TrD)).toArray) := Lib.hid (by have h := Blk.new w11 133 #[.int .i64 (n0 : Int), .int .i64 ((k1 : Int) + 1), .int .i64 (q4 : Int), .string ⟨#[84, 104, 114, 111, 119, 97, 98, 108, 101]⟩]; exact h)
      have HDL := Lib.hid hDl
      have hb0l := hDl.b0
      have HGOT := Lib.hid (ne_own hDl.traps hDl.blk (show 133 ≠ 166 by decide))
      have HBL := Lib.hid hbl
      have hgl9 := hDl.blk.lt
      clear hbl hDl
      go_wp2_with (at_builtin; refine wpList_pushT rfl _ _ rfl x.b0 Tz ntz ctz ((someW x.xs F (((((((someW x.xs F (s)).nx x.xs).push ⟨187, 0, 0, [79, 111, 112, 115], [], [], []⟩).op 191 0).nx x.xs).label [[76, 84, 104, 114, 111, 119, 97, 98, 108, 101, 59]]).op 87 0)).label []).traps rfl HTL.out _ (⟨(n0 : Int), (k1 : Int) + 1, (q4 : Int), [84, 104, 114, 111, 119, 97, 98, 108, 101]⟩ : TrD) rfl HBLK.out (by omega) hb0l ?_; intro T2 c2 wx hG hg hr; have s1 : wx.cell? ⟨x.g, 2, none⟩ = some (.slice Tz ntz ctz) := ((only_grown hg hr).cell (p := ⟨x.g, 2, none⟩) HDL.out.blk.lt HGOT.out).trans (HDL.out.blk.cell 2); have s2 : wx.frozen? ⟨x.g, 2, none⟩ = false := ((only_grown hg hr).blk HDL.out.blk HGOT.out).frozen 2)
      obtain ⟨hP, hF⟩ := HDL.out.trap_ hG hg hr
      obtain ⟨we, hwe⟩ : ∃ W, wx.setCell ⟨x.g, 2, none⟩ (.slice T2 (ntz + 1) c2) = W := ⟨_, rfl⟩
      rw [hwe] at hP hF ⊢
      have HE : FS = ((someW x.xs F (((((((someW x.xs F (s)).nx x.xs).push ⟨187, 0, 0, [79, 111, 112, 115], [], [], []⟩).op 191 0).nx x.xs).label [[76, 84, 104, 114, 111, 119, 97, 98, 108, 101, 59]]).op 87 0)).label []).trapped (⟨(n0 : Int), (k1 : Int) + 1, (q4 : Int), [84, 104, 114, 111, 119, 97, 98, 108, 101]⟩ : TrD) := by
        rw [← HFS.out]
        have z0 : s.code.length = n0 := HQq0.out
        have z1 : ((((someW x.xs F (s)).nx x.xs).push ⟨187, 0, 0, [79, 111, 112, 115], [], [], []⟩).op 191 0).code.length = k1 + 1 := HQq1.out
        have z4 : ((((someW x.xs F (s)).nx x.xs).push ⟨187, 0, 0, [79, 111, 112, 115], [], [], []⟩).op 191 0).code.length = q4 := HQq4.out
        have z5 : (someW x.xs F (((((((someW x.xs F (s)).nx x.xs).push ⟨187, 0, 0, [79, 111, 112, 115], [], [], []⟩).op 191 0).nx x.xs).label [[76, 84, 104, 114, 111, 119, 97, 98, 108, 101, 59]]).op 87 0)).code.length = q5 := HQq5.out
  
        have e3 : q4 = k1 + 1 := z4.symm.trans z1
        rw [e3]
        clear z4
        unfold guardW
        simp [HVv.out, HVa.out, trapN, z0, z1, z5]
      have hend : WrS x we D FS := by rw [HE]; exact ⟨_, _, _, _, _, _, _, _, _, _, hP⟩
      have hof : Fr x w0 we := (HOA.out.trans (Fr.of_below HBL.out)).trans hF
      clear hG hg hr hP hF hwe s1 s2 HE
      go_end0
      exact ⟨rfl, hend, hof⟩
    · have da : w6.cell? ⟨w4.heap.size, 2, none⟩ = some (.string ⟨#[77, 97, 116, 104, 70, 97, 117, 108, 116]⟩) := by
        rw [HQ6.out.cell]
        rfl
      have e1 : ((⟨#[76]⟩ : ByteArray) ++ ⟨#[77, 97, 116, 104, 70, 97, 117, 108, 116]⟩) = ⟨#[76, 77, 97, 116, 104, 70, 97, 117, 108, 116]⟩ := rfl
      have e2 : (⟨#[76, 77, 97, 116, 104, 70, 97, 117, 108, 116]⟩ : ByteArray) ++ ⟨#[59]⟩ = ⟨#[76, 77, 97, 116, 104, 70, 97, 117, 108, 116, 59]⟩ := rfl
      have hbs := belowA w6 (.cells #[.string ⟨#[76, 77, 97, 116, 104, 70, 97, 117, 108, 116, 59]⟩] 9)
      have h := HW6.out.below hbs
      have ho := Fr.of_below (x := x) hbs
      have ks : Blk (w6.alloc (.cells #[.string ⟨#[76, 77, 97, 116, 104, 70, 97, 117, 108, 116, 59]⟩] 9)) w6.heap.size 9 ([[76, 77, 97, 116, 104, 70, 97, 117, 108, 116, 59]].map SV).toArray := Blk.new _ _ _
      obtain ⟨w7, hws⟩ : ∃ W, w6.alloc (.cells #[.string ⟨#[76, 77, 97, 116, 104, 70, 97, 117, 108, 116, 59]⟩] 9) = W := ⟨_, rfl⟩
      rw [hws] at h ho ks
      have HWS := Lib.hid hws
      have HKS := Lib.hid ks
      clear hws ks hbs
      have HW7 := Lib.hid h
      have HO7 : Hid (Fr x w0 w7) := Lib.hid (HO6.out.trans ho)
      have HZ7 : Hid ((((((someW x.xs F (s)).nx x.xs).push ⟨187, 0, 0, [79, 111, 112, 115], [], [], []⟩).op 191 0).nx x.xs).sz (N + 3 * c + 2)) := Lib.hid ((HZ6.out).more (by omega))
      clear h ho
      go_wp2_with fail
      rw [HWS.out]
      clear da e1 e2
      refine (label_s x _ _ _ (N + 3 * c + 2) (some ⟨w6.heap.size, 0, none⟩) 1 1 [[76, 77, 97, 116, 104, 70, 97, 117, 108, 116, 59]] (Or.inr ⟨w6.heap.size, rfl, rfl, rfl, HKS.out⟩) HW7.out HZ7.out (by omega)).mono ?_
      rintro e w8 ⟨rfl, h, ho⟩
      have HW8 := Lib.hid h
      have HO8 : Hid (Fr x w0 w8) := Lib.hid (HO7.out.trans ho)
      have HZ8 : Hid (((((((someW x.xs F (s)).nx x.xs).push ⟨187, 0, 0, [79, 111, 112, 115], [], [], []⟩).op 191 0).nx x.xs).label [[76, 77, 97, 116, 104, 70, 97, 117, 108, 116, 59]]).sz (N + 3 * c + 3)) := Lib.hid ((Ws.sz_label _ HZ7.out).more (by omega))
      clear h ho
      obtain ⟨q4, hq4⟩ : ∃ q4, (((((someW x.xs F (s)).nx x.xs).push ⟨187, 0, 0, [79, 111, 112, 115], [], [], []⟩).op 191 0).nx x.xs).code.length = q4 := ⟨_, rfl⟩
      rw [hq4]
      have HQq4 := Lib.hid hq4
      clear hq4
      go_wp2_with fail
      refine (op_v x _ _ _ (N + 3 * c + 3) 87 _ _ (by first | rfl | decide | assumption) HW8.out HZ8.out (by omega)).mono ?_
      rintro e w9 ⟨rfl, h, ho⟩
      have HW9 := Lib.hid h
      have HO9 : Hid (Fr x w0 w9) := Lib.hid (HO8.out.trans ho)
      have HZ9 : Hid ((((((((someW x.xs F (s)).nx x.xs).push ⟨187, 0, 0, [79, 111, 112, 115], [], [], []⟩).op 191 0).nx x.xs).label [[76, 77, 97, 116, 104, 70, 97, 117, 108, 116, 59]]).op 87 0).sz (N + 3 * c + 4)) := Lib.hid ((Ws.sz_op _ _ HZ8.out).more (by omega))
      clear h ho
      go_wp2_with fail
      refine (HFs.out _ _ (N + 3 * c + 4) HW9.out HZ9.out (by omega)).mono ?_
      rintro e w10 ⟨rfl, h, ho⟩
      have HW10 := Lib.hid h
      have HO10 : Hid (Fr x w0 w10) := Lib.hid (HO9.out.trans ho)
      have HZ10 : Hid ((someW x.xs F (((((((someW x.xs F (s)).nx x.xs).push ⟨187, 0, 0, [79, 111, 112, 115], [], [], []⟩).op 191 0).nx x.xs).label [[76, 77, 97, 116, 104, 70, 97, 117, 108, 116, 59]]).op 87 0)).sz (N + 6 * c + 4)) := Lib.hid ((HFa.out _ _ HZ9.out).more (by omega))
      clear h ho
      go_wp2_with fail
      refine (label_s x _ _ _ (N + 6 * c + 4) none 0 0 [] (Or.inl ⟨rfl, rfl, rfl, rfl⟩) HW10.out HZ10.out (by omega)).mono ?_
      rintro e w11 ⟨rfl, h, ho⟩
      have HW11 := Lib.hid h
      have HO11 : Hid (Fr x w0 w11) := Lib.hid (HO10.out.trans ho)
      have HZ11 : Hid (((someW x.xs F (((((((someW x.xs F (s)).nx x.xs).push ⟨187, 0, 0, [79, 111, 112, 115], [], [], []⟩).op 191 0).nx x.xs).label [[76, 77, 97, 116, 104, 70, 97, 117, 108, 116, 59]]).op 87 0)).label []).sz (N + 6 * c + 5)) := Lib.hid ((Ws.sz_label [] HZ10.out).more (by omega))
      clear h ho
      obtain ⟨q5, hq5⟩ : ∃ q5, (someW x.xs F (((((((someW x.xs F (s)).nx x.xs).push ⟨187, 0, 0, [79, 111, 112, 115], [], [], []⟩).op 191 0).nx x.xs).label [[76, 77, 97, 116, 104, 70, 97, 117, 108, 116, 59]]).op 87 0)).code.length = q5 := ⟨_, rfl⟩
      rw [hq5]
      have HQq5 := Lib.hid hq5
      clear hq5
      obtain ⟨Cz, nz, cz, Tz, ntz, ctz, Mz, nmz, cmz, lmz, hD⟩ := HW11.out
      have HWA := Lib.hid hD
      have HOA := HO11
      have hglz := hD.blk.lt
      clear hD
      have c2z : w11.cell? ⟨x.g, 2, none⟩ = some (.slice Tz ntz ctz) := HWA.out.blk.cell 2
      have hbl := belowA w11 (.cells #[.int .i64 (n0 : Int), .int .i64 ((k1 : Int) + 1), .int .i64 (q4 : Int), .string ⟨#[77, 97, 116, 104, 70, 97, 117, 108, 116]⟩] 133)
      have hDl := HWA.out.below hbl
      have f2z : (w11.alloc (.cells #[.int .i64 (n0 : Int), .int .i64 ((k1 : Int) + 1), .int .i64 (q4 : Int), .string ⟨#[77, 97, 116, 104, 70, 97, 117, 108, 116]⟩] 133)).frozen? ⟨x.g, 2, none⟩ = false := hDl.blk.frozen 2
      have hntz : ntz ≤ (N + 6 * c + 5) := by
        have h1 : ((someW x.xs F (((((((someW x.xs F (s)).nx x.xs).push ⟨187, 0, 0, [79, 111, 112, 115], [], [], []⟩).op 191 0).nx x.xs).label [[76, 77, 97, 116, 104, 70, 97, 117, 108, 116, 59]]).op 87 0)).label []).traps.length = ntz := HWA.out.traps.row.1
        rw [← h1]
        exact HZ11.out.2.1
      have HTL : Hid (GotR trC 4 133 x.b0 (w11.alloc (.cells #[.int .i64 (n0 : Int), .int .i64 ((k1 : Int) + 1), .int .i64 (q4 : Int), .string ⟨#[77, 97, 116, 104, 70, 97, 117, 108, 116]⟩] 133)) Tz ntz ctz ((someW x.xs F (((((((someW x.xs F (s)).nx x.xs).push ⟨187, 0, 0, [79, 111, 112, 115], [], [], []⟩).op 191 0).nx x.xs).label [[76, 77, 97, 116, 104, 70, 97, 117, 108, 116, 59]]).op 87 0)).label []).traps) := Lib.hid hDl.traps
      have HBLK : Hid (Blk (w11.alloc (.cells #[.int .i64 (n0 : Int), .int .i64 ((k1 : Int) + 1), .int .i64 (q4 : Int), .string ⟨#[77, 97, 116, 104, 70, 97, 117, 108, 116]⟩] 133)) w11.heap.size 133 (trC (⟨(n0 : Int), (k1 : Int) + 1, (q4 : Int), [77, 97, 116, 104, 70, 97, 117, 108, 116]⟩ : TrD)).toArray) := Lib.hid (by have h := Blk.new w11 133 #[.int .i64 (n0 : Int), .int .i64 ((k1 : Int) + 1), .int .i64 (q4 : Int), .string ⟨#[77, 97, 116, 104, 70, 97, 117, 108, 116]⟩]; exact h)
      have HDL := Lib.hid hDl
      have hb0l := hDl.b0
      have HGOT := Lib.hid (ne_own hDl.traps hDl.blk (show 133 ≠ 166 by decide))
      have HBL := Lib.hid hbl
      have hgl9 := hDl.blk.lt
      clear hbl hDl
      go_wp2_with (at_builtin; refine wpList_pushT rfl _ _ rfl x.b0 Tz ntz ctz ((someW x.xs F (((((((someW x.xs F (s)).nx x.xs).push ⟨187, 0, 0, [79, 111, 112, 115], [], [], []⟩).op 191 0).nx x.xs).label [[76, 77, 97, 116, 104, 70, 97, 117, 108, 116, 59]]).op 87 0)).label []).traps rfl HTL.out _ (⟨(n0 : Int), (k1 : Int) + 1, (q4 : Int), [77, 97, 116, 104, 70, 97, 117, 108, 116]⟩ : TrD) rfl HBLK.out (by omega) hb0l ?_; intro T2 c2 wx hG hg hr; have s1 : wx.cell? ⟨x.g, 2, none⟩ = some (.slice Tz ntz ctz) := ((only_grown hg hr).cell (p := ⟨x.g, 2, none⟩) HDL.out.blk.lt HGOT.out).trans (HDL.out.blk.cell 2); have s2 : wx.frozen? ⟨x.g, 2, none⟩ = false := ((only_grown hg hr).blk HDL.out.blk HGOT.out).frozen 2)
      obtain ⟨hP, hF⟩ := HDL.out.trap_ hG hg hr
      obtain ⟨we, hwe⟩ : ∃ W, wx.setCell ⟨x.g, 2, none⟩ (.slice T2 (ntz + 1) c2) = W := ⟨_, rfl⟩
      rw [hwe] at hP hF ⊢
      have HE : FS = ((someW x.xs F (((((((someW x.xs F (s)).nx x.xs).push ⟨187, 0, 0, [79, 111, 112, 115], [], [], []⟩).op 191 0).nx x.xs).label [[76, 77, 97, 116, 104, 70, 97, 117, 108, 116, 59]]).op 87 0)).label []).trapped (⟨(n0 : Int), (k1 : Int) + 1, (q4 : Int), [77, 97, 116, 104, 70, 97, 117, 108, 116]⟩ : TrD) := by
        rw [← HFS.out]
        have z0 : s.code.length = n0 := HQq0.out
        have z1 : ((((someW x.xs F (s)).nx x.xs).push ⟨187, 0, 0, [79, 111, 112, 115], [], [], []⟩).op 191 0).code.length = k1 + 1 := HQq1.out
        have z4 : ((((someW x.xs F (s)).nx x.xs).push ⟨187, 0, 0, [79, 111, 112, 115], [], [], []⟩).op 191 0).code.length = q4 := HQq4.out
        have z5 : (someW x.xs F (((((((someW x.xs F (s)).nx x.xs).push ⟨187, 0, 0, [79, 111, 112, 115], [], [], []⟩).op 191 0).nx x.xs).label [[76, 77, 97, 116, 104, 70, 97, 117, 108, 116, 59]]).op 87 0)).code.length = q5 := HQq5.out
  
        have e3 : q4 = k1 + 1 := z4.symm.trans z1
        rw [e3]
        clear z4
        unfold guardW
        simp [HVv.out, HVa.out, trapN, z0, z1, z5]
      have hend : WrS x we D FS := by rw [HE]; exact ⟨_, _, _, _, _, _, _, _, _, _, hP⟩
      have hof : Fr x w0 we := (HOA.out.trans (Fr.of_below HBL.out)).trans hF
      clear hG hg hr hP hF hwe s1 s2 HE
      go_end0
      exact ⟨rfl, hend, hof⟩
    · have da : w6.cell? ⟨w4.heap.size, 3, none⟩ = some (.string ⟨#[79, 111, 112, 115]⟩) := by
        rw [HQ6.out.cell]
        rfl
      have e1 : ((⟨#[76]⟩ : ByteArray) ++ ⟨#[79, 111, 112, 115]⟩) = ⟨#[76, 79, 111, 112, 115]⟩ := rfl
      have e2 : (⟨#[76, 79, 111, 112, 115]⟩ : ByteArray) ++ ⟨#[59]⟩ = ⟨#[76, 79, 111, 112, 115, 59]⟩ := rfl
      have hbs := belowA w6 (.cells #[.string ⟨#[76, 79, 111, 112, 115, 59]⟩] 9)
      have h := HW6.out.below hbs
      have ho := Fr.of_below (x := x) hbs
      have ks : Blk (w6.alloc (.cells #[.string ⟨#[76, 79, 111, 112, 115, 59]⟩] 9)) w6.heap.size 9 ([[76, 79, 111, 112, 115, 59]].map SV).toArray := Blk.new _ _ _
      obtain ⟨w7, hws⟩ : ∃ W, w6.alloc (.cells #[.string ⟨#[76, 79, 111, 112, 115, 59]⟩] 9) = W := ⟨_, rfl⟩
      rw [hws] at h ho ks
      have HWS := Lib.hid hws
      have HKS := Lib.hid ks
      clear hws ks hbs
      have HW7 := Lib.hid h
      have HO7 : Hid (Fr x w0 w7) := Lib.hid (HO6.out.trans ho)
      have HZ7 : Hid ((((((someW x.xs F (s)).nx x.xs).push ⟨187, 0, 0, [79, 111, 112, 115], [], [], []⟩).op 191 0).nx x.xs).sz (N + 3 * c + 2)) := Lib.hid ((HZ6.out).more (by omega))
      clear h ho
      go_wp2_with fail
      rw [HWS.out]
      clear da e1 e2
      refine (label_s x _ _ _ (N + 3 * c + 2) (some ⟨w6.heap.size, 0, none⟩) 1 1 [[76, 79, 111, 112, 115, 59]] (Or.inr ⟨w6.heap.size, rfl, rfl, rfl, HKS.out⟩) HW7.out HZ7.out (by omega)).mono ?_
      rintro e w8 ⟨rfl, h, ho⟩
      have HW8 := Lib.hid h
      have HO8 : Hid (Fr x w0 w8) := Lib.hid (HO7.out.trans ho)
      have HZ8 : Hid (((((((someW x.xs F (s)).nx x.xs).push ⟨187, 0, 0, [79, 111, 112, 115], [], [], []⟩).op 191 0).nx x.xs).label [[76, 79, 111, 112, 115, 59]]).sz (N + 3 * c + 3)) := Lib.hid ((Ws.sz_label _ HZ7.out).more (by omega))
      clear h ho
      obtain ⟨q4, hq4⟩ : ∃ q4, (((((someW x.xs F (s)).nx x.xs).push ⟨187, 0, 0, [79, 111, 112, 115], [], [], []⟩).op 191 0).nx x.xs).code.length = q4 := ⟨_, rfl⟩
      rw [hq4]
      have HQq4 := Lib.hid hq4
      clear hq4
      go_wp2_with fail
      refine (op_v x _ _ _ (N + 3 * c + 3) 87 _ _ (by first | rfl | decide | assumption) HW8.out HZ8.out (by omega)).mono ?_
      rintro e w9 ⟨rfl, h, ho⟩
      have HW9 := Lib.hid h
      have HO9 : Hid (Fr x w0 w9) := Lib.hid (HO8.out.trans ho)
      have HZ9 : Hid ((((((((someW x.xs F (s)).nx x.xs).push ⟨187, 0, 0, [79, 111, 112, 115], [], [], []⟩).op 191 0).nx x.xs).label [[76, 79, 111, 112, 115, 59]]).op 87 0).sz (N + 3 * c + 4)) := Lib.hid ((Ws.sz_op _ _ HZ8.out).more (by omega))
      clear h ho
      go_wp2_with fail
      refine (HFs.out _ _ (N + 3 * c + 4) HW9.out HZ9.out (by omega)).mono ?_
      rintro e w10 ⟨rfl, h, ho⟩
      have HW10 := Lib.hid h
      have HO10 : Hid (Fr x w0 w10) := Lib.hid (HO9.out.trans ho)
      have HZ10 : Hid ((someW x.xs F (((((((someW x.xs F (s)).nx x.xs).push ⟨187, 0, 0, [79, 111, 112, 115], [], [], []⟩).op 191 0).nx x.xs).label [[76, 79, 111, 112, 115, 59]]).op 87 0)).sz (N + 6 * c + 4)) := Lib.hid ((HFa.out _ _ HZ9.out).more (by omega))
      clear h ho
      go_wp2_with fail
      refine (label_s x _ _ _ (N + 6 * c + 4) none 0 0 [] (Or.inl ⟨rfl, rfl, rfl, rfl⟩) HW10.out HZ10.out (by omega)).mono ?_
      rintro e w11 ⟨rfl, h, ho⟩
      have HW11 := Lib.hid h
      have HO11 : Hid (Fr x w0 w11) := Lib.hid (HO10.out.trans ho)
      have HZ11 : Hid (((someW x.xs F (((((((someW x.xs F (s)).nx x.xs).push ⟨187, 0, 0, [79, 111, 112, 115], [], [], []⟩).op 191 0).nx x.xs).label [[76, 79, 111, 112, 115, 59]]).op 87 0)).label []).sz (N + 6 * c + 5)) := Lib.hid ((Ws.sz_label [] HZ10.out).more (by omega))
      clear h ho
      obtain ⟨q5, hq5⟩ : ∃ q5, (someW x.xs F (((((((someW x.xs F (s)).nx x.xs).push ⟨187, 0, 0, [79, 111, 112, 115], [], [], []⟩).op 191 0).nx x.xs).label [[76, 79, 111, 112, 115, 59]]).op 87 0)).code.length = q5 := ⟨_, rfl⟩
      rw [hq5]
      have HQq5 := Lib.hid hq5
      clear hq5
      obtain ⟨Cz, nz, cz, Tz, ntz, ctz, Mz, nmz, cmz, lmz, hD⟩ := HW11.out
      have HWA := Lib.hid hD
      have HOA := HO11
      have hglz := hD.blk.lt
      clear hD
      have c2z : w11.cell? ⟨x.g, 2, none⟩ = some (.slice Tz ntz ctz) := HWA.out.blk.cell 2
      have hbl := belowA w11 (.cells #[.int .i64 (n0 : Int), .int .i64 ((k1 : Int) + 1), .int .i64 (q4 : Int), .string ⟨#[79, 111, 112, 115]⟩] 133)
      have hDl := HWA.out.below hbl
      have f2z : (w11.alloc (.cells #[.int .i64 (n0 : Int), .int .i64 ((k1 : Int) + 1), .int .i64 (q4 : Int), .string ⟨#[79, 111, 112, 115]⟩] 133)).frozen? ⟨x.g, 2, none⟩ = false := hDl.blk.frozen 2
      have hntz : ntz ≤ (N + 6 * c + 5) := by
        have h1 : ((someW x.xs F (((((((someW x.xs F (s)).nx x.xs).push ⟨187, 0, 0, [79, 111, 112, 115], [], [], []⟩).op 191 0).nx x.xs).label [[76, 79, 111, 112, 115, 59]]).op 87 0)).label []).traps.length = ntz := HWA.out.traps.row.1
        rw [← h1]
        exact HZ11.out.2.1
      have HTL : Hid (GotR trC 4 133 x.b0 (w11.alloc (.cells #[.int .i64 (n0 : Int), .int .i64 ((k1 : Int) + 1), .int .i64 (q4 : Int), .string ⟨#[79, 111, 112, 115]⟩] 133)) Tz ntz ctz ((someW x.xs F (((((((someW x.xs F (s)).nx x.xs).push ⟨187, 0, 0, [79, 111, 112, 115], [], [], []⟩).op 191 0).nx x.xs).label [[76, 79, 111, 112, 115, 59]]).op 87 0)).label []).traps) := Lib.hid hDl.traps
      have HBLK : Hid (Blk (w11.alloc (.cells #[.int .i64 (n0 : Int), .int .i64 ((k1 : Int) + 1), .int .i64 (q4 : Int), .string ⟨#[79, 111, 112, 115]⟩] 133)) w11.heap.size 133 (trC (⟨(n0 : Int), (k1 : Int) + 1, (q4 : Int), [79, 111, 112, 115]⟩ : TrD)).toArray) := Lib.hid (by have h := Blk.new w11 133 #[.int .i64 (n0 : Int), .int .i64 ((k1 : Int) + 1), .int .i64 (q4 : Int), .string ⟨#[79, 111, 112, 115]⟩]; exact h)
      have HDL := Lib.hid hDl
      have hb0l := hDl.b0
      have HGOT := Lib.hid (ne_own hDl.traps hDl.blk (show 133 ≠ 166 by decide))
      have HBL := Lib.hid hbl
      have hgl9 := hDl.blk.lt
      clear hbl hDl
      go_wp2_with (at_builtin; refine wpList_pushT rfl _ _ rfl x.b0 Tz ntz ctz ((someW x.xs F (((((((someW x.xs F (s)).nx x.xs).push ⟨187, 0, 0, [79, 111, 112, 115], [], [], []⟩).op 191 0).nx x.xs).label [[76, 79, 111, 112, 115, 59]]).op 87 0)).label []).traps rfl HTL.out _ (⟨(n0 : Int), (k1 : Int) + 1, (q4 : Int), [79, 111, 112, 115]⟩ : TrD) rfl HBLK.out (by omega) hb0l ?_; intro T2 c2 wx hG hg hr; have s1 : wx.cell? ⟨x.g, 2, none⟩ = some (.slice Tz ntz ctz) := ((only_grown hg hr).cell (p := ⟨x.g, 2, none⟩) HDL.out.blk.lt HGOT.out).trans (HDL.out.blk.cell 2); have s2 : wx.frozen? ⟨x.g, 2, none⟩ = false := ((only_grown hg hr).blk HDL.out.blk HGOT.out).frozen 2)
      obtain ⟨hP, hF⟩ := HDL.out.trap_ hG hg hr
      obtain ⟨we, hwe⟩ : ∃ W, wx.setCell ⟨x.g, 2, none⟩ (.slice T2 (ntz + 1) c2) = W := ⟨_, rfl⟩
      rw [hwe] at hP hF ⊢
      have HE : FS = ((someW x.xs F (((((((someW x.xs F (s)).nx x.xs).push ⟨187, 0, 0, [79, 111, 112, 115], [], [], []⟩).op 191 0).nx x.xs).label [[76, 79, 111, 112, 115, 59]]).op 87 0)).label []).trapped (⟨(n0 : Int), (k1 : Int) + 1, (q4 : Int), [79, 111, 112, 115]⟩ : TrD) := by
        rw [← HFS.out]
        have z0 : s.code.length = n0 := HQq0.out
        have z1 : ((((someW x.xs F (s)).nx x.xs).push ⟨187, 0, 0, [79, 111, 112, 115], [], [], []⟩).op 191 0).code.length = k1 + 1 := HQq1.out
        have z4 : ((((someW x.xs F (s)).nx x.xs).push ⟨187, 0, 0, [79, 111, 112, 115], [], [], []⟩).op 191 0).code.length = q4 := HQq4.out
        have z5 : (someW x.xs F (((((((someW x.xs F (s)).nx x.xs).push ⟨187, 0, 0, [79, 111, 112, 115], [], [], []⟩).op 191 0).nx x.xs).label [[76, 79, 111, 112, 115, 59]]).op 87 0)).code.length = q5 := HQq5.out
  
        have e3 : q4 = k1 + 1 := z4.symm.trans z1
        rw [e3]
        clear z4
        unfold guardW
        simp [HVv.out, HVa.out, trapN, z0, z1, z5]
      have hend : WrS x we D FS := by rw [HE]; exact ⟨_, _, _, _, _, _, _, _, _, _, hP⟩
      have hof : Fr x w0 we := (HOA.out.trans (Fr.of_below HBL.out)).trans hF
      clear hG hg hr hP hF hwe s1 s2 HE
      go_end0
      exact ⟨rfl, hend, hof⟩
    · have da : w6.cell? ⟨w4.heap.size, 4, none⟩ = some (.string ⟨#[78, 117, 108, 108, 70, 97, 117, 108, 116]⟩) := by
        rw [HQ6.out.cell]
        rfl
      have e1 : ((⟨#[76]⟩ : ByteArray) ++ ⟨#[78, 117, 108, 108, 70, 97, 117, 108, 116]⟩) = ⟨#[76, 78, 117, 108, 108, 70, 97, 117, 108, 116]⟩ := rfl
      have e2 : (⟨#[76, 78, 117, 108, 108, 70, 97, 117, 108, 116]⟩ : ByteArray) ++ ⟨#[59]⟩ = ⟨#[76, 78, 117, 108, 108, 70, 97, 117, 108, 116, 59]⟩ := rfl
      have hbs := belowA w6 (.cells #[.string ⟨#[76, 78, 117, 108, 108, 70, 97, 117, 108, 116, 59]⟩] 9)
      have h := HW6.out.below hbs
      have ho := Fr.of_below (x := x) hbs
      have ks : Blk (w6.alloc (.cells #[.string ⟨#[76, 78, 117, 108, 108, 70, 97, 117, 108, 116, 59]⟩] 9)) w6.heap.size 9 ([[76, 78, 117, 108, 108, 70, 97, 117, 108, 116, 59]].map SV).toArray := Blk.new _ _ _
      obtain ⟨w7, hws⟩ : ∃ W, w6.alloc (.cells #[.string ⟨#[76, 78, 117, 108, 108, 70, 97, 117, 108, 116, 59]⟩] 9) = W := ⟨_, rfl⟩
      rw [hws] at h ho ks
      have HWS := Lib.hid hws
      have HKS := Lib.hid ks
      clear hws ks hbs
      have HW7 := Lib.hid h
      have HO7 : Hid (Fr x w0 w7) := Lib.hid (HO6.out.trans ho)
      have HZ7 : Hid ((((((someW x.xs F (s)).nx x.xs).push ⟨187, 0, 0, [79, 111, 112, 115], [], [], []⟩).op 191 0).nx x.xs).sz (N + 3 * c + 2)) := Lib.hid ((HZ6.out).more (by omega))
      clear h ho
      go_wp2_with fail
      rw [HWS.out]
      clear da e1 e2
      refine (label_s x _ _ _ (N + 3 * c + 2) (some ⟨w6.heap.size, 0, none⟩) 1 1 [[76, 78, 117, 108, 108, 70, 97, 117, 108, 116, 59]] (Or.inr ⟨w6.heap.size, rfl, rfl, rfl, HKS.out⟩) HW7.out HZ7.out (by omega)).mono ?_
      rintro e w8 ⟨rfl, h, ho⟩
      have HW8 := Lib.hid h
      have HO8 : Hid (Fr x w0 w8) := Lib.hid (HO7.out.trans ho)
      have HZ8 : Hid (((((((someW x.xs F (s)).nx x.xs).push ⟨187, 0, 0, [79, 111, 112, 115], [], [], []⟩).op 191 0).nx x.xs).label [[76, 78, 117, 108, 108, 70, 97, 117, 108, 116, 59]]).sz (N + 3 * c + 3)) := Lib.hid ((Ws.sz_label _ HZ7.out).more (by omega))
      clear h ho
      obtain ⟨q4, hq4⟩ : ∃ q4, (((((someW x.xs F (s)).nx x.xs).push ⟨187, 0, 0, [79, 111, 112, 115], [], [], []⟩).op 191 0).nx x.xs).code.length = q4 := ⟨_, rfl⟩
      rw [hq4]
      have HQq4 := Lib.hid hq4
      clear hq4
      go_wp2_with fail
      refine (op_v x _ _ _ (N + 3 * c + 3) 87 _ _ (by first | rfl | decide | assumption) HW8.out HZ8.out (by omega)).mono ?_
      rintro e w9 ⟨rfl, h, ho⟩
      have HW9 := Lib.hid h
      have HO9 : Hid (Fr x w0 w9) := Lib.hid (HO8.out.trans ho)
      have HZ9 : Hid ((((((((someW x.xs F (s)).nx x.xs).push ⟨187, 0, 0, [79, 111, 112, 115], [], [], []⟩).op 191 0).nx x.xs).label [[76, 78, 117, 108, 108, 70, 97, 117, 108, 116, 59]]).op 87 0).sz (N + 3 * c + 4)) := Lib.hid ((Ws.sz_op _ _ HZ8.out).more (by omega))
      clear h ho
      go_wp2_with fail
      refine (HFs.out _ _ (N + 3 * c + 4) HW9.out HZ9.out (by omega)).mono ?_
      rintro e w10 ⟨rfl, h, ho⟩
      have HW10 := Lib.hid h
      have HO10 : Hid (Fr x w0 w10) := Lib.hid (HO9.out.trans ho)
      have HZ10 : Hid ((someW x.xs F (((((((someW x.xs F (s)).nx x.xs).push ⟨187, 0, 0, [79, 111, 112, 115], [], [], []⟩).op 191 0).nx x.xs).label [[76, 78, 117, 108, 108, 70, 97, 117, 108, 116, 59]]).op 87 0)).sz (N + 6 * c + 4)) := Lib.hid ((HFa.out _ _ HZ9.out).more (by omega))
      clear h ho
      go_wp2_with fail
      refine (label_s x _ _ _ (N + 6 * c + 4) none 0 0 [] (Or.inl ⟨rfl, rfl, rfl, rfl⟩) HW10.out HZ10.out (by omega)).mono ?_
      rintro e w11 ⟨rfl, h, ho⟩
      have HW11 := Lib.hid h
      have HO11 : Hid (Fr x w0 w11) := Lib.hid (HO10.out.trans ho)
      have HZ11 : Hid (((someW x.xs F (((((((someW x.xs F (s)).nx x.xs).push ⟨187, 0, 0, [79, 111, 112, 115], [], [], []⟩).op 191 0).nx x.xs).label [[76, 78, 117, 108, 108, 70, 97, 117, 108, 116, 59]]).op 87 0)).label []).sz (N + 6 * c + 5)) := Lib.hid ((Ws.sz_label [] HZ10.out).more (by omega))
      clear h ho
      obtain ⟨q5, hq5⟩ : ∃ q5, (someW x.xs F (((((((someW x.xs F (s)).nx x.xs).push ⟨187, 0, 0, [79, 111, 112, 115], [], [], []⟩).op 191 0).nx x.xs).label [[76, 78, 117, 108, 108, 70, 97, 117, 108, 116, 59]]).op 87 0)).code.length = q5 := ⟨_, rfl⟩
      rw [hq5]
      have HQq5 := Lib.hid hq5
      clear hq5
      obtain ⟨Cz, nz, cz, Tz, ntz, ctz, Mz, nmz, cmz, lmz, hD⟩ := HW11.out
      have HWA := Lib.hid hD
      have HOA := HO11
      have hglz := hD.blk.lt
      clear hD
      have c2z : w11.cell? ⟨x.g, 2, none⟩ = some (.slice Tz ntz ctz) := HWA.out.blk.cell 2
      have hbl := belowA w11 (.cells #[.int .i64 (n0 : Int), .int .i64 ((k1 : Int) + 1), .int .i64 (q4 : Int), .string ⟨#[78, 117, 108, 108, 70, 97, 117, 108, 116]⟩] 133)
      have hDl := HWA.out.below hbl
      have f2z : (w11.alloc (.cells #[.int .i64 (n0 : Int), .int .i64 ((k1 : Int) + 1), .int .i64 (q4 : Int), .string ⟨#[78, 117, 108, 108, 70, 97, 117, 108, 116]⟩] 133)).frozen? ⟨x.g, 2, none⟩ = false := hDl.blk.frozen 2
      have hntz : ntz ≤ (N + 6 * c + 5) := by
        have h1 : ((someW x.xs F (((((((someW x.xs F (s)).nx x.xs).push ⟨187, 0, 0, [79, 111, 112, 115], [], [], []⟩).op 191 0).nx x.xs).label [[76, 78, 117, 108, 108, 70, 97, 117, 108, 116, 59]]).op 87 0)).label []).traps.length = ntz := HWA.out.traps.row.1
        rw [← h1]
        exact HZ11.out.2.1
      have HTL : Hid (GotR trC 4 133 x.b0 (w11.alloc (.cells #[.int .i64 (n0 : Int), .int .i64 ((k1 : Int) + 1), .int .i64 (q4 : Int), .string ⟨#[78, 117, 108, 108, 70, 97, 117, 108, 116]⟩] 133)) Tz ntz ctz ((someW x.xs F (((((((someW x.xs F (s)).nx x.xs).push ⟨187, 0, 0, [79, 111, 112, 115], [], [], []⟩).op 191 0).nx x.xs).label [[76, 78, 117, 108, 108, 70, 97, 117, 108, 116, 59]]).op 87 0)).label []).traps) := Lib.hid hDl.traps
      have HBLK : Hid (Blk (w11.alloc (.cells #[.int .i64 (n0 : Int), .int .i64 ((k1 : Int) + 1), .int .i64 (q4 : Int), .string ⟨#[78, 117, 108, 108, 70, 97, 117, 108, 116]⟩] 133)) w11.heap.size 133 (trC (⟨(n0 : Int), (k1 : Int) + 1, (q4 : Int), [78, 117, 108, 108, 70, 97, 117, 108, 116]⟩ : TrD)).toArray) := Lib.hid (by have h := Blk.new w11 133 #[.int .i64 (n0 : Int), .int .i64 ((k1 : Int) + 1), .int .i64 (q4 : Int), .string ⟨#[78, 117, 108, 108, 70, 97, 117, 108, 116]⟩]; exact h)
      have HDL := Lib.hid hDl
      have hb0l := hDl.b0
      have HGOT := Lib.hid (ne_own hDl.traps hDl.blk (show 133 ≠ 166 by decide))
      have HBL := Lib.hid hbl
      have hgl9 := hDl.blk.lt
      clear hbl hDl
      go_wp2_with (at_builtin; refine wpList_pushT rfl _ _ rfl x.b0 Tz ntz ctz ((someW x.xs F (((((((someW x.xs F (s)).nx x.xs).push ⟨187, 0, 0, [79, 111, 112, 115], [], [], []⟩).op 191 0).nx x.xs).label [[76, 78, 117, 108, 108, 70, 97, 117, 108, 116, 59]]).op 87 0)).label []).traps rfl HTL.out _ (⟨(n0 : Int), (k1 : Int) + 1, (q4 : Int), [78, 117, 108, 108, 70, 97, 117, 108, 116]⟩ : TrD) rfl HBLK.out (by omega) hb0l ?_; intro T2 c2 wx hG hg hr; have s1 : wx.cell? ⟨x.g, 2, none⟩ = some (.slice Tz ntz ctz) := ((only_grown hg hr).cell (p := ⟨x.g, 2, none⟩) HDL.out.blk.lt HGOT.out).trans (HDL.out.blk.cell 2); have s2 : wx.frozen? ⟨x.g, 2, none⟩ = false := ((only_grown hg hr).blk HDL.out.blk HGOT.out).frozen 2)
      obtain ⟨hP, hF⟩ := HDL.out.trap_ hG hg hr
      obtain ⟨we, hwe⟩ : ∃ W, wx.setCell ⟨x.g, 2, none⟩ (.slice T2 (ntz + 1) c2) = W := ⟨_, rfl⟩
      rw [hwe] at hP hF ⊢
      have HE : FS = ((someW x.xs F (((((((someW x.xs F (s)).nx x.xs).push ⟨187, 0, 0, [79, 111, 112, 115], [], [], []⟩).op 191 0).nx x.xs).label [[76, 78, 117, 108, 108, 70, 97, 117, 108, 116, 59]]).op 87 0)).label []).trapped (⟨(n0 : Int), (k1 : Int) + 1, (q4 : Int), [78, 117, 108, 108, 70, 97, 117, 108, 116]⟩ : TrD) := by
        rw [← HFS.out]
        have z0 : s.code.length = n0 := HQq0.out
        have z1 : ((((someW x.xs F (s)).nx x.xs).push ⟨187, 0, 0, [79, 111, 112, 115], [], [], []⟩).op 191 0).code.length = k1 + 1 := HQq1.out
        have z4 : ((((someW x.xs F (s)).nx x.xs).push ⟨187, 0, 0, [79, 111, 112, 115], [], [], []⟩).op 191 0).code.length = q4 := HQq4.out
        have z5 : (someW x.xs F (((((((someW x.xs F (s)).nx x.xs).push ⟨187, 0, 0, [79, 111, 112, 115], [], [], []⟩).op 191 0).nx x.xs).label [[76, 78, 117, 108, 108, 70, 97, 117, 108, 116, 59]]).op 87 0)).code.length = q5 := HQq5.out
  
        have e3 : q4 = k1 + 1 := z4.symm.trans z1
        rw [e3]
        clear z4
        unfold guardW
        simp [HVv.out, HVa.out, trapN, z0, z1, z5]
      have hend : WrS x we D FS := by rw [HE]; exact ⟨_, _, _, _, _, _, _, _, _, _, hP⟩
      have hof : Fr x w0 we := (HOA.out.trans (Fr.of_below HBL.out)).trans hF
      clear hG hg hr hP hF hwe s1 s2 HE
      go_end0
      exact ⟨rfl, hend, hof⟩
  · go_wp2_with fail
    refine (op_v x _ _ _ (N + 3 * c + 0) 0 _ _ (by first | rfl | decide | assumption) HW2.out HZ2.out (by omega)).mono ?_
    rintro e w3 ⟨rfl, h, ho⟩
    have HW3 := Lib.hid h
    have HO3 : Hid (Fr x w0 w3) := Lib.hid (HO2.out.trans ho)
    have HZ3 : Hid ((((someW x.xs F (s)).nx x.xs).op 0 0).sz (N + 3 * c + 1)) := Lib.hid ((Ws.sz_op _ _ HZ2.out).more (by omega))
    clear h ho
    obtain ⟨Cq, nq, cq, Tq, ntq, ctq, Mq, nmq, cmq, lmq, hD⟩ := HW3.out
    have hlq : (((someW x.xs F (s)).nx x.xs).op 0 0).code.length = nq := hD.code.row.1
    have hglq := hD.blk.lt
    have hcq := hD.code.row.2.1
    have hcq2 := hD.code.row.2.2.1
    unfold maxLen at hcq2
    have hlp := len_op ((someW x.xs F (s)).nx x.xs) 0 0
    obtain ⟨k1, rfl⟩ : ∃ k1, nq = k1 + 1 := ⟨nq - 1, by omega⟩
    have c1q : w3.cell? ⟨x.g, 1, none⟩ = some (.slice Cq (k1 + 1) cq) := hD.blk.cell 1
    obtain ⟨bq, oq, iq, rfl, hbq, -, hiq, hcell⟩ := hD.code.row.at_ (i := k1) (by omega)
    have hiq2 : iq = ⟨0, 0, 0, [], [], [], []⟩ := by
      have h1 : (((someW x.xs F (s)).nx x.xs).code ++ [(⟨0, 0, 0, [], [], [], []⟩ : InD)])[k1]? = some iq := hiq
      rw [List.getElem?_append_right (by omega), show k1 - ((someW x.xs F (s)).nx x.xs).code.length = 0 by omega] at h1
      simpa using h1.symm
    have d0q : w3.cell? ⟨bq, oq + k1 * 7, none⟩ = some (.int .u8 0) := by
      have := hcell 0 (by decide)
      rw [hiq2] at this
      simpa [inC] using this
    have HQq1 := Lib.hid hlq
    clear hD hlq hlp hiq hcell hiq2
    go_wp2_with fail
    refine (branch_s x _ _ _ (N + 3 * c + 1) 167 _ rfl HW3.out HZ3.out (by omega)).mono ?_
    rintro e w4 ⟨rfl, h, ho⟩
    have HW4 := Lib.hid h
    have HO4 : Hid (Fr x w0 w4) := Lib.hid (HO3.out.trans ho)
    have HZ4 : Hid (((((someW x.xs F (s)).nx x.xs).op 0 0).op 167 0).sz (N + 3 * c + 2)) := Lib.hid ((Ws.sz_op _ _ HZ3.out).more (by omega))
    clear h ho
    obtain ⟨q3, hq3⟩ : ∃ q3, (((someW x.xs F (s)).nx x.xs).op 0 0).code.length = q3 := ⟨_, rfl⟩
    rw [hq3]
    have HQq3 := Lib.hid hq3
    clear hq3
    have t4 := HW4.out.t
    have hbt := belowA w4 (.cells #[.string ⟨#[]⟩, .string ⟨#[84, 104, 114, 111, 119, 97, 98, 108, 101]⟩, .string ⟨#[77, 97, 116, 104, 70, 97, 117, 108, 116]⟩, .string ⟨#[79, 111, 112, 115]⟩, .string ⟨#[78, 117, 108, 108, 70, 97, 117, 108, 116]⟩] 9)
    have kb4 := Blk.new w4 9 #[.string ⟨#[]⟩, .string ⟨#[84, 104, 114, 111, 119, 97, 98, 108, 101]⟩, .string ⟨#[77, 97, 116, 104, 70, 97, 117, 108, 116]⟩, .string ⟨#[79, 111, 112, 115]⟩, .string ⟨#[78, 117, 108, 108, 70, 97, 117, 108, 116]⟩]
    have h := HW4.out.below hbt
    have ho := Fr.of_below (x := x) hbt
    obtain ⟨w5, hw4⟩ : ∃ W, w4.alloc (.cells #[.string ⟨#[]⟩, .string ⟨#[84, 104, 114, 111, 119, 97, 98, 108, 101]⟩, .string ⟨#[77, 97, 116, 104, 70, 97, 117, 108, 116]⟩, .string ⟨#[79, 111, 112, 115]⟩, .string ⟨#[78, 117, 108, 108, 70, 97, 117, 108, 116]⟩] 9) = W := ⟨_, rfl⟩
    rw [hw4] at h ho kb4
    have HWW4 := Lib.hid hw4
    have HKB4 := Lib.hid kb4
    have t4b := h.t
    rw [← hw4] at t4b
    have hgl4 := HW4.out.lt
    clear hw4 kb4 hbt
    have HW5 := Lib.hid h
    have HO5 : Hid (Fr x w0 w5) := Lib.hid (HO4.out.trans ho)
    have HZ5 : Hid (((((someW x.xs F (s)).nx x.xs).op 0 0).op 167 0).sz (N + 3 * c + 2)) := Lib.hid ((HZ4.out).more (by omega))
    clear h ho
    go_wp2_with fail
    rw [HWW4.out]
    clear t4 t4b 
    refine (next_s x _ _ _ 5 _ HW5.out (by omega) (by omega) rfl).mono ?_
    rintro e w6 ⟨rfl, h, ho⟩
    have HQ6 := Lib.hid (ho.2 _ _ _ HKB4.out (by unfold WE; decide))
    have HW6 := Lib.hid h
    have HO6 : Hid (Fr x w0 w6) := Lib.hid (HO5.out.trans ho)
    have HZ6 : Hid ((((((someW x.xs F (s)).nx x.xs).op 0 0).op 167 0).nx x.xs).sz (N + 3 * c + 2)) := Lib.hid ((Ws.sz_nx x.xs HZ5.out).more (by omega))
    clear h ho
    obtain ⟨a, ha⟩ : ∃ a, nxV x.xs 5 ((((someW x.xs F (s)).nx x.xs).op 0 0).op 167 0).at_ = a := ⟨_, rfl⟩
    have ba : a < 5 := by rw [← ha]; exact nxV_lt (by omega)
    rw [ha]
    have HVa := Lib.hid ha
    have la : w4.heap.size < w6.heap.size := HQ6.out.lt
    clear ha
    have hcs : a = 0 ∨ a = 1 ∨ a = 2 ∨ a = 3 ∨ a = 4 := by omega
    clear ba
    rcases hcs with rfl | rfl | rfl | rfl | rfl
    · have da : w6.cell? ⟨w4.heap.size, 0, none⟩ = some (.string ⟨#[]⟩) := by
        rw [HQ6.out.cell]
        rfl
      have e1 : ((⟨#[76]⟩ : ByteArray) ++ ⟨#[84, 104, 114, 111, 119, 97, 98, 108, 101]⟩) = ⟨#[76, 84, 104, 114, 111, 119, 97, 98, 108, 101]⟩ := rfl
      have e2 : (⟨#[76, 84, 104, 114, 111, 119, 97, 98, 108, 101]⟩ : ByteArray) ++ ⟨#[59]⟩ = ⟨#[76, 84, 104, 114, 111, 119, 97, 98, 108, 101, 59]⟩ := rfl
      have hbs := belowA w6 (.cells #[.string ⟨#[76, 84, 104, 114, 111, 119, 97, 98, 108, 101, 59]⟩] 9)
      have h := HW6.out.below hbs
      have ho := Fr.of_below (x := x) hbs
      have ks : Blk (w6.alloc (.cells #[.string ⟨#[76, 84, 104, 114, 111, 119, 97, 98, 108, 101, 59]⟩] 9)) w6.heap.size 9 ([[76, 84, 104, 114, 111, 119, 97, 98, 108, 101, 59]].map SV).toArray := Blk.new _ _ _
      obtain ⟨w7, hws⟩ : ∃ W, w6.alloc (.cells #[.string ⟨#[76, 84, 104, 114, 111, 119, 97, 98, 108, 101, 59]⟩] 9) = W := ⟨_, rfl⟩
      rw [hws] at h ho ks
      have HWS := Lib.hid hws
      have HKS := Lib.hid ks
      clear hws ks hbs
      have HW7 := Lib.hid h
      have HO7 : Hid (Fr x w0 w7) := Lib.hid (HO6.out.trans ho)
      have HZ7 : Hid ((((((someW x.xs F (s)).nx x.xs).op 0 0).op 167 0).nx x.xs).sz (N + 3 * c + 2)) := Lib.hid ((HZ6.out).more (by omega))
      clear h ho
      go_wp2_with fail
      rw [HWS.out]
      clear da e1 e2
      refine (label_s x _ _ _ (N + 3 * c + 2) (some ⟨w6.heap.size, 0, none⟩) 1 1 [[76, 84, 104, 114, 111, 119, 97, 98, 108, 101, 59]] (Or.inr ⟨w6.heap.size, rfl, rfl, rfl, HKS.out⟩) HW7.out HZ7.out (by omega)).mono ?_
      rintro e w8 ⟨rfl, h, ho⟩
      have HW8 := Lib.hid h
      have HO8 : Hid (Fr x w0 w8) := Lib.hid (HO7.out.trans ho)
      have HZ8 : Hid (((((((someW x.xs F (s)).nx x.xs).op 0 0).op 167 0).nx x.xs).label [[76, 84, 104, 114, 111, 119, 97, 98, 108, 101, 59]]).sz (N + 3 * c + 3)) := Lib.hid ((Ws.sz_label _ HZ7.out).more (by omega))
      clear h ho
      obtain ⟨q4, hq4⟩ : ∃ q4, (((((someW x.xs F (s)).nx x.xs).op 0 0).op 167 0).nx x.xs).code.length = q4 := ⟨_, rfl⟩
      rw [hq4]
      have HQq4 := Lib.hid hq4
      clear hq4
      go_wp2_with fail
      refine (op_v x _ _ _ (N + 3 * c + 3) 87 _ _ (by first | rfl | decide | assumption) HW8.out HZ8.out (by omega)).mono ?_
      rintro e w9 ⟨rfl, h, ho⟩
      have HW9 := Lib.hid h
      have HO9 : Hid (Fr x w0 w9) := Lib.hid (HO8.out.trans ho)
      have HZ9 : Hid ((((((((someW x.xs F (s)).nx x.xs).op 0 0).op 167 0).nx x.xs).label [[76, 84, 104, 114, 111, 119, 97, 98, 108, 101, 59]]).op 87 0).sz (N + 3 * c + 4)) := Lib.hid ((Ws.sz_op _ _ HZ8.out).more (by omega))
      clear h ho
      go_wp2_with fail
      refine (HFs.out _ _ (N + 3 * c + 4) HW9.out HZ9.out (by omega)).mono ?_
      rintro e w10 ⟨rfl, h, ho⟩
      have HW10 := Lib.hid h
      have HO10 : Hid (Fr x w0 w10) := Lib.hid (HO9.out.trans ho)
      have HZ10 : Hid ((someW x.xs F (((((((someW x.xs F (s)).nx x.xs).op 0 0).op 167 0).nx x.xs).label [[76, 84, 104, 114, 111, 119, 97, 98, 108, 101, 59]]).op 87 0)).sz (N + 6 * c + 4)) := Lib.hid ((HFa.out _ _ HZ9.out).more (by omega))
      clear h ho
      go_wp2_with fail
      refine (label_s x _ _ _ (N + 6 * c + 4) none 0 0 [] (Or.inl ⟨rfl, rfl, rfl, rfl⟩) HW10.out HZ10.out (by omega)).mono ?_
      rintro e w11 ⟨rfl, h, ho⟩
      have HW11 := Lib.hid h
      have HO11 : Hid (Fr x w0 w11) := Lib.hid (HO10.out.trans ho)
      have HZ11 : Hid (((someW x.xs F (((((((someW x.xs F (s)).nx x.xs).op 0 0).op 167 0).nx x.xs).label [[76, 84, 104, 114, 111, 119, 97, 98, 108, 101, 59]]).op 87 0)).label []).sz (N + 6 * c + 5)) := Lib.hid ((Ws.sz_label [] HZ10.out).more (by omega))
      clear h ho
      obtain ⟨q5, hq5⟩ : ∃ q5, (someW x.xs F (((((((someW x.xs F (s)).nx x.xs).op 0 0).op 167 0).nx x.xs).label [[76, 84, 104, 114, 111, 119, 97, 98, 108, 101, 59]]).op 87 0)).code.length = q5 := ⟨_, rfl⟩
      rw [hq5]
      have HQq5 := Lib.hid hq5
      clear hq5
      obtain ⟨Cz, nz, cz, Tz, ntz, ctz, Mz, nmz, cmz, lmz, hD⟩ := HW11.out
      have hlz : ((someW x.xs F (((((((someW x.xs F (s)).nx x.xs).op 0 0).op 167 0).nx x.xs).label [[76, 84, 104, 114, 111, 119, 97, 98, 108, 101, 59]]).op 87 0)).label []).code.length = nz := hD.code.row.1
      have hpl : q3 < nz := by
        have g1 := HQq3.out
        have g2 := HFg.out (((((((someW x.xs F (s)).nx x.xs).op 0 0).op 167 0).nx x.xs).label [[76, 84, 104, 114, 111, 119, 97, 98, 108, 101, 59]]).op 87 0)
        have g3 := len_label (someW x.xs F (((((((someW x.xs F (s)).nx x.xs).op 0 0).op 167 0).nx x.xs).label [[76, 84, 104, 114, 111, 119, 97, 98, 108, 101, 59]]).op 87 0)) []
        simp only [len_op, len_nx, len_label, len_push] at g1 g2
        omega
      obtain ⟨gc, hgc⟩ : ∃ gc, Cz = some ⟨gc, 0, none⟩ := by
        rcases hD.code.here with h0 | ⟨g, cur, h1, _⟩
        · exact absurd (hD.code.isNil h0).1 (by omega)
        · exact ⟨g, h1⟩
      subst hgc
      have c1z : w11.cell? ⟨x.g, 1, none⟩ = some (.slice (some ⟨gc, 0, none⟩) nz cz) := hD.blk.cell 1
      have hcz1 := hD.code.row.2.1
      have hcz2 := hD.code.row.2.2.1
      unfold maxLen at hcz2
      have hbc : ∃ v, w11.cell? ⟨gc, q3 * 7 + 1, none⟩ = some v := by
        obtain ⟨b', o', y, e', _, _, hy, hc⟩ := hD.code.row.at_ hpl
        cases e'
        have := hc 1 (by decide)
        rw [Nat.zero_add] at this
        exact ⟨_, this⟩
      obtain ⟨vc, hvc⟩ := hbc
      obtain ⟨hfz, hgne⟩ : w11.frozen? ⟨gc, q3 * 7 + 1, none⟩ = false ∧ x.g ≠ gc := by
        obtain ⟨cur, hb, _⟩ := gotR_block hD.code (show (Value.slice (some ⟨gc, 0, none⟩) nz cz).ownBlock = some gc from rfl)
        exact ⟨hb.frozen _, Blk.ne_ hD.blk hb (by decide)⟩
      obtain ⟨hP, hF⟩ := hD.aim_ hpl (q5 : Int)
      have HWA : Hid (WrD x (w11.setCell ⟨gc, q3 * 7 + 1, none⟩ (.int .i64 (q5 : Int))) D (((someW x.xs F (((((((someW x.xs F (s)).nx x.xs).op 0 0).op 167 0).nx x.xs).label [[76, 84, 104, 114, 111, 119, 97, 98, 108, 101, 59]]).op 87 0)).label []).aim q3 (q5 : Int)) (some ⟨gc, 0, none⟩) nz cz Tz ntz ctz Mz nmz cmz lmz) := Lib.hid hP
      have HOA := Lib.hid (HO11.out.trans hF)
      have hglz := hD.blk.lt
      have hq3p : decide ((0 : Int) ≤ (q3 : Int)) = true := by simp
      clear hD hP hF
      have c2z : (w11.setCell ⟨gc, q3 * 7 + 1, none⟩ (.int .i64 (q5 : Int))).cell? ⟨x.g, 2, none⟩ = some (.slice Tz ntz ctz) := HWA.out.blk.cell 2
      have hbl := belowA (w11.setCell ⟨gc, q3 * 7 + 1, none⟩ (.int .i64 (q5 : Int))) (.cells #[.int .i64 (n0 : Int), .int .i64 ((k1 : Int) + 1), .int .i64 (q4 : Int), .string ⟨#[]⟩] 133)
      have hDl := HWA.out.below hbl
      have f2z : ((w11.setCell ⟨gc, q3 * 7 + 1, none⟩ (.int .i64 (q5 : Int))).alloc (.cells #[.int .i64 (n0 : Int), .int .i64 ((k1 : Int) + 1), .int .i64 (q4 : Int), .string ⟨#[]⟩] 133)).frozen? ⟨x.g, 2, none⟩ = false := hDl.blk.frozen 2
      have hntz : ntz ≤ (N + 6 * c + 5) := by
        have h1 : (((someW x.xs F (((((((someW x.xs F (s)).nx x.xs).op 0 0).op 167 0).nx x.xs).label [[76, 84, 104, 114, 111, 119, 97, 98, 108, 101, 59]]).op 87 0)).label []).aim q3 (q5 : Int)).traps.length = ntz := HWA.out.traps.row.1
        rw [← h1]
        exact HZ11.out.2.1
      have HTL : Hid (GotR trC 4 133 x.b0 ((w11.setCell ⟨gc, q3 * 7 + 1, none⟩ (.int .i64 (q5 : Int))).alloc (.cells #[.int .i64 (n0 : Int), .int .i64 ((k1 : Int) + 1), .int .i64 (q4 : Int), .string ⟨#[]⟩] 133)) Tz ntz ctz (((someW x.xs F (((((((someW x.xs F (s)).nx x.xs).op 0 0).op 167 0).nx x.xs).label [[76, 84, 104, 114, 111, 119, 97, 98, 108, 101, 59]]).op 87 0)).label []).aim q3 (q5 : Int)).traps) := Lib.hid hDl.traps
      have HBLK : Hid (Blk ((w11.setCell ⟨gc, q3 * 7 + 1, none⟩ (.int .i64 (q5 : Int))).alloc (.cells #[.int .i64 (n0 : Int), .int .i64 ((k1 : Int) + 1), .int .i64 (q4 : Int), .string ⟨#[]⟩] 133)) w11.heap.size 133 (trC (⟨(n0 : Int), (k1 : Int) + 1, (q4 : Int), []⟩ : TrD)).toArray) := Lib.hid (by have h := Blk.new (w11.setCell ⟨gc, q3 * 7 + 1, none⟩ (.int .i64 (q5 : Int))) 133 #[.int .i64 (n0 : Int), .int .i64 ((k1 : Int) + 1), .int .i64 (q4 : Int), .string ⟨#[]⟩]; rwa [show ((w11.setCell ⟨gc, q3 * 7 + 1, none⟩ (.int .i64 (q5 : Int)))).heap.size = w11.heap.size by simp] at h)
      have HDL := Lib.hid hDl
      have hb0l := hDl.b0
      have HGOT := Lib.hid (ne_own hDl.traps hDl.blk (show 133 ≠ 166 by decide))
      have HBL := Lib.hid hbl
      have hgl9 := hDl.blk.lt
      clear hbl hDl
      go_wp2_with (at_builtin; refine wpList_pushT rfl _ _ rfl x.b0 Tz ntz ctz (((someW x.xs F (((((((someW x.xs F (s)).nx x.xs).op 0 0).op 167 0).nx x.xs).label [[76, 84, 104, 114, 111, 119, 97, 98, 108, 101, 59]]).op 87 0)).label []).aim q3 (q5 : Int)).traps rfl HTL.out _ (⟨(n0 : Int), (k1 : Int) + 1, (q4 : Int), []⟩ : TrD) rfl HBLK.out (by omega) hb0l ?_; intro T2 c2 wx hG hg hr; have s1 : wx.cell? ⟨x.g, 2, none⟩ = some (.slice Tz ntz ctz) := ((only_grown hg hr).cell (p := ⟨x.g, 2, none⟩) HDL.out.blk.lt HGOT.out).trans (HDL.out.blk.cell 2); have s2 : wx.frozen? ⟨x.g, 2, none⟩ = false := ((only_grown hg hr).blk HDL.out.blk HGOT.out).frozen 2)
      obtain ⟨hP, hF⟩ := HDL.out.trap_ hG hg hr
      obtain ⟨we, hwe⟩ : ∃ W, wx.setCell ⟨x.g, 2, none⟩ (.slice T2 (ntz + 1) c2) = W := ⟨_, rfl⟩
      rw [hwe] at hP hF ⊢
      have HE : FS = (((someW x.xs F (((((((someW x.xs F (s)).nx x.xs).op 0 0).op 167 0).nx x.xs).label [[76, 84, 104, 114, 111, 119, 97, 98, 108, 101, 59]]).op 87 0)).label []).aim q3 (q5 : Int)).trapped (⟨(n0 : Int), (k1 : Int) + 1, (q4 : Int), []⟩ : TrD) := by
        rw [← HFS.out]
        have z0 : s.code.length = n0 := HQq0.out
        have z1 : (((someW x.xs F (s)).nx x.xs).op 0 0).code.length = k1 + 1 := HQq1.out
        have z4 : ((((someW x.xs F (s)).nx x.xs).op 0 0).op 167 0).code.length = q4 := HQq4.out
        have z5 : (someW x.xs F (((((((someW x.xs F (s)).nx x.xs).op 0 0).op 167 0).nx x.xs).label [[76, 84, 104, 114, 111, 119, 97, 98, 108, 101, 59]]).op 87 0)).code.length = q5 := HQq5.out
        have z3 : (((someW x.xs F (s)).nx x.xs).op 0 0).code.length = q3 := HQq3.out
        have e3 : q3 = k1 + 1 := z3.symm.trans z1
        rw [e3]
        clear z3
        unfold guardW
        simp [HVv.out, HVa.out, trapN, z0, z1, z4, z5]
      have hend : WrS x we D FS := by rw [HE]; exact ⟨_, _, _, _, _, _, _, _, _, _, hP⟩
      have hof : Fr x w0 we := (HOA.out.trans (Fr.of_below HBL.out)).trans hF
      clear hG hg hr hP hF hwe s1 s2 HE
      go_end0
      exact ⟨rfl, hend, hof⟩
    · have da : w6.cell? ⟨w4.heap.size, 1, none⟩ = some (.string ⟨#[84, 104, 114, 111, 119, 97, 98, 108, 101]⟩) := by
        rw [HQ6.out.cell]
        rfl
      have e1 : ((⟨#[76]⟩ : ByteArray) ++ ⟨#[84, 104, 114, 111, 119, 97, 98, 108, 101]⟩) = ⟨#[76, 84, 104, 114, 111, 119, 97, 98, 108, 101]⟩ := rfl
      have e2 : (⟨#[76, 84, 104, 114, 111, 119, 97, 98, 108, 101]⟩ : ByteArray) ++ ⟨#[59]⟩ = ⟨#[76, 84, 104, 114, 111, 119, 97, 98, 108, 101, 59]⟩ := rfl
      have hbs := belowA w6 (.cells #[.string ⟨#[76, 84, 104, 114, 111, 119, 97, 98, 108, 101, 59]⟩] 9)
      have h := HW6.out.below hbs
      have ho := Fr.of_below (x := x) hbs
      have ks : Blk (w6.alloc (.cells #[.string ⟨#[76, 84, 104, 114, 111, 119, 97, 98, 108, 101, 59]⟩] 9)) w6.heap.size 9 ([[76, 84, 104, 114, 111, 119, 97, 98, 108, 101, 59]].map SV).toArray := Blk.new _ _ _
      obtain ⟨w7, hws⟩ : ∃ W, w6.alloc (.cells #[.string ⟨#[76, 84, 104, 114, 111, 119, 97, 98, 108, 101, 59]⟩] 9) = W := ⟨_, rfl⟩
      rw [hws] at h ho ks
      have HWS := Lib.hid hws
      have HKS := Lib.hid ks
      clear hws ks hbs
      have HW7 := Lib.hid h
      have HO7 : Hid (Fr x w0 w7) := Lib.hid (HO6.out.trans ho)
      have HZ7 : Hid ((((((someW x.xs F (s)).nx x.xs).op 0 0).op 167 0).nx x.xs).sz (N + 3 * c + 2)) := Lib.hid ((HZ6.out).more (by omega))
      clear h ho
      go_wp2_with fail
      rw [HWS.out]
      clear da e1 e2
      refine (label_s x _ _ _ (N + 3 * c + 2) (some ⟨w6.heap.size, 0, none⟩) 1 1 [[76, 84, 104, 114, 111, 119, 97, 98, 108, 101, 59]] (Or.inr ⟨w6.heap.size, rfl, rfl, rfl, HKS.out⟩) HW7.out HZ7.out (by omega)).mono ?_
      rintro e w8 ⟨rfl, h, ho⟩
      have HW8 := Lib.hid h
      have HO8 : Hid (Fr x w0 w8) := Lib.hid (HO7.out.trans ho)
      have HZ8 : Hid (((((((someW x.xs F (s)).nx x.xs).op 0 0).op 167 0).nx x.xs).label [[76, 84, 104, 114, 111, 119, 97, 98, 108, 101, 59]]).sz (N + 3 * c + 3)) := Lib.hid ((Ws.sz_label _ HZ7.out).more (by omega))
      clear h ho
      obtain ⟨q4, hq4⟩ : ∃ q4, (((((someW x.xs F (s)).nx x.xs).op 0 0).op 167 0).nx x.xs).code.length = q4 := ⟨_, rfl⟩
      rw [hq4]
      have HQq4 := Lib.hid hq4
      clear hq4
      go_wp2_with fail
      refine (op_v x _ _ _ (N + 3 * c + 3) 87 _ _ (by first | rfl | decide | assumption) HW8.out HZ8.out (by omega)).mono ?_
      rintro e w9 ⟨rfl, h, ho⟩
      have HW9 := Lib.hid h
      have HO9 : Hid (Fr x w0 w9) := Lib.hid (HO8.out.trans ho)
      have HZ9 : Hid ((((((((someW x.xs F (s)).nx x.xs).op 0 0).op 167 0).nx x.xs).label [[76, 84, 104, 114, 111, 119, 97, 98, 108, 101, 59]]).op 87 0).sz (N + 3 * c + 4)) := Lib.hid ((Ws.sz_op _ _ HZ8.out).more (by omega))
      clear h ho
      go_wp2_with fail
      refine (HFs.out _ _ (N + 3 * c + 4) HW9.out HZ9.out (by omega)).mono ?_
      rintro e w10 ⟨rfl, h, ho⟩
      have HW10 := Lib.hid h
      have HO10 : Hid (Fr x w0 w10) := Lib.hid (HO9.out.trans ho)
      have HZ10 : Hid ((someW x.xs F (((((((someW x.xs F (s)).nx x.xs).op 0 0).op 167 0).nx x.xs).label [[76, 84, 104, 114, 111, 119, 97, 98, 108, 101, 59]]).op 87 0)).sz (N + 6 * c + 4)) := Lib.hid ((HFa.out _ _ HZ9.out).more (by omega))
      clear h ho
      go_wp2_with fail
      refine (label_s x _ _ _ (N + 6 * c + 4) none 0 0 [] (Or.inl ⟨rfl, rfl, rfl, rfl⟩) HW10.out HZ10.out (by omega)).mono ?_
      rintro e w11 ⟨rfl, h, ho⟩
      have HW11 := Lib.hid h
      have HO11 : Hid (Fr x w0 w11) := Lib.hid (HO10.out.trans ho)
      have HZ11 : Hid (((someW x.xs F (((((((someW x.xs F (s)).nx x.xs).op 0 0).op 167 0).nx x.xs).label [[76, 84, 104, 114, 111, 119, 97, 98, 108, 101, 59]]).op 87 0)).label []).sz (N + 6 * c + 5)) := Lib.hid ((Ws.sz_label [] HZ10.out).more (by omega))
      clear h ho
      obtain ⟨q5, hq5⟩ : ∃ q5, (someW x.xs F (((((((someW x.xs F (s)).nx x.xs).op 0 0).op 167 0).nx x.xs).label [[76, 84, 104, 114, 111, 119, 97, 98, 108, 101, 59]]).op 87 0)).code.length = q5 := ⟨_, rfl⟩
      rw [hq5]
      have HQq5 := Lib.hid hq5
      clear hq5
      obtain ⟨Cz, nz, cz, Tz, ntz, ctz, Mz, nmz, cmz, lmz, hD⟩ := HW11.out
      have hlz : ((someW x.xs F (((((((someW x.xs F (s)).nx x.xs).op 0 0).op 167 0).nx x.xs).label [[76, 84, 104, 114, 111, 119, 97, 98, 108, 101, 59]]).op 87 0)).label []).code.length = nz := hD.code.row.1
      have hpl : q3 < nz := by
        have g1 := HQq3.out
        have g2 := HFg.out (((((((someW x.xs F (s)).nx x.xs).op 0 0).op 167 0).nx x.xs).label [[76, 84, 104, 114, 111, 119, 97, 98, 108, 101, 59]]).op 87 0)
        have g3 := len_label (someW x.xs F (((((((someW x.xs F (s)).nx x.xs).op 0 0).op 167 0).nx x.xs).label [[76, 84, 104, 114, 111, 119, 97, 98, 108, 101, 59]]).op 87 0)) []
        simp only [len_op, len_nx, len_label, len_push] at g1 g2
        omega
      obtain ⟨gc, hgc⟩ : ∃ gc, Cz = some ⟨gc, 0, none⟩ := by
        rcases hD.code.here with h0 | ⟨g, cur, h1, _⟩
        · exact absurd (hD.code.isNil h0).1 (by omega)
        · exact ⟨g, h1⟩
      subst hgc
      have c1z : w11.cell? ⟨x.g, 1, none⟩ = some (.slice (some ⟨gc, 0, none⟩) nz cz) := hD.blk.cell 1
      have hcz1 := hD.code.row.2.1
      have hcz2 := hD.code.row.2.2.1
      unfold maxLen at hcz2
      have hbc : ∃ v, w11.cell? ⟨gc, q3 * 7 + 1, none⟩ = some v := by
        obtain ⟨b', o', y, e', _, _, hy, hc⟩ := hD.code.row.at_ hpl
        cases e'
        have := hc 1 (by decide)
        rw [Nat.zero_add] at this
        exact ⟨_, this⟩
      obtain ⟨vc, hvc⟩ := hbc
      obtain ⟨hfz, hgne⟩ : w11.frozen? ⟨gc, q3 * 7 + 1, none⟩ = false ∧ x.g ≠ gc := by
        obtain ⟨cur, hb, _⟩ := gotR_block hD.code (show (Value.slice (some ⟨gc, 0, none⟩) nz cz).ownBlock = some gc from rfl)
        exact ⟨hb.frozen _, Blk.ne_ hD.blk hb (by decide)⟩
      obtain ⟨hP, hF⟩ := hD.aim_ hpl (q5 : Int)
      have HWA : Hid (WrD x (w11.setCell ⟨gc, q3 * 7 + 1, none⟩ (.int .i64 (q5 : Int))) D (((someW x.xs F (((((((someW x.xs F (s)).nx x.xs).op 0 0).op 167 0).nx x.xs).label [[76, 84, 104, 114, 111, 119, 97, 98, 108, 101, 59]]).op 87 0)).label []).aim q3 (q5 : Int)) (some ⟨gc, 0, none⟩) nz cz Tz ntz ctz Mz nmz cmz lmz) := Lib.hid hP
      have HOA := Lib.hid (HO11.out.trans hF)
      have hglz := hD.blk.lt
      have hq3p : decide ((0 : Int) ≤ (q3 : Int)) = true := by simp
      clear hD hP hF
      have c2z : (w11.setCell ⟨gc, q3 * 7 + 1, none⟩ (.int .i64 (q5 : Int))).cell? ⟨x.g, 2, none⟩ = some (.slice Tz ntz ctz) := HWA.out.blk.cell 2
      have hbl := belowA (w11.setCell ⟨gc, q3 * 7 + 1, none⟩ (.int .i64 (q5 : Int))) (.cells #[.int .i64 (n0 : Int), .int .i64 ((k1 : Int) + 1), .int .i64 (q4 : Int), .string ⟨#[84, 104, 114, 111, 119, 97, 98, 108, 101]⟩] 133)
      have hDl := HWA.out.below hbl
      have f2z : ((w11.setCell ⟨gc, q3 * 7 + 1, none⟩ (.int .i64 (q5 : Int))).alloc (.cells #[.int .i64 (n0 : Int), .int .i64 ((k1 : Int) + 1), .int .i64 (q4 : Int), .string ⟨#[84, 104, 114, 111, 119, 97, 98, 108, 101]⟩] 133)).frozen? ⟨x.g, 2, none⟩ = false := hDl.blk.frozen 2
      have hntz : ntz ≤ (N + 6 * c + 5) := by
        have h1 : (((someW x.xs F (((((((someW x.xs F (s)).nx x.xs).op 0 0).op 167 0).nx x.xs).label [[76, 84, 104, 114, 111, 119, 97, 98, 108, 101, 59]]).op 87 0)).label []).aim q3 (q5 : Int)).traps.length = ntz := HWA.out.traps.row.1
        rw [← h1]
        exact HZ11.out.2.1
      have HTL : Hid (GotR trC 4 133 x.b0 ((w11.setCell ⟨gc, q3 * 7 + 1, none⟩ (.int .i64 (q5 : Int))).alloc (.cells #[.int .i64 (n0 : Int), .int .i64 ((k1 : Int) + 1), .int .i64 (q4 : Int), .string ⟨#[84, 104, 114, 111, 119, 97, 98, 108, 101]⟩] 133)) Tz ntz ctz (((someW x.xs F (((((((someW x.xs F (s)).nx x.xs).op 0 0).op 167 0).nx x.xs).label [[76, 84, 104, 114, 111, 119, 97, 98, 108, 101, 59]]).op 87 0)).label []).aim q3 (q5 : Int)).traps) := Lib.hid hDl.traps
      have HBLK : Hid (Blk ((w11.setCell ⟨gc, q3 * 7 + 1, none⟩ (.int .i64 (q5 : Int))).alloc (.cells #[.int .i64 (n0 : Int), .int .i64 ((k1 : Int) + 1), .int .i64 (q4 : Int), .string ⟨#[84, 104, 114, 111, 119, 97, 98, 108, 101]⟩] 133)) w11.heap.size 133 (trC (⟨(n0 : Int), (k1 : Int) + 1, (q4 : Int), [84, 104, 114, 111, 119, 97, 98, 108, 101]⟩ : TrD)).toArray) := Lib.hid (by have h := Blk.new (w11.setCell ⟨gc, q3 * 7 + 1, none⟩ (.int .i64 (q5 : Int))) 133 #[.int .i64 (n0 : Int), .int .i64 ((k1 : Int) + 1), .int .i64 (q4 : Int), .string ⟨#[84, 104, 114, 111, 119, 97, 98, 108, 101]⟩]; rwa [show ((w11.setCell ⟨gc, q3 * 7 + 1, none⟩ (.int .i64 (q5 : Int)))).heap.size = w11.heap.size by simp] at h)
      have HDL := Lib.hid hDl
      have hb0l := hDl.b0
      have HGOT := Lib.hid (ne_own hDl.traps hDl.blk (show 133 ≠ 166 by decide))
      have HBL := Lib.hid hbl
      have hgl9 := hDl.blk.lt
      clear hbl hDl
      go_wp2_with (at_builtin; refine wpList_pushT rfl _ _ rfl x.b0 Tz ntz ctz (((someW x.xs F (((((((someW x.xs F (s)).nx x.xs).op 0 0).op 167 0).nx x.xs).label [[76, 84, 104, 114, 111, 119, 97, 98, 108, 101, 59]]).op 87 0)).label []).aim q3 (q5 : Int)).traps rfl HTL.out _ (⟨(n0 : Int), (k1 : Int) + 1, (q4 : Int), [84, 104, 114, 111, 119, 97, 98, 108, 101]⟩ : TrD) rfl HBLK.out (by omega) hb0l ?_; intro T2 c2 wx hG hg hr; have s1 : wx.cell? ⟨x.g, 2, none⟩ = some (.slice Tz ntz ctz) := ((only_grown hg hr).cell (p := ⟨x.g, 2, none⟩) HDL.out.blk.lt HGOT.out).trans (HDL.out.blk.cell 2); have s2 : wx.frozen? ⟨x.g, 2, none⟩ = false := ((only_grown hg hr).blk HDL.out.blk HGOT.out).frozen 2)
      obtain ⟨hP, hF⟩ := HDL.out.trap_ hG hg hr
      obtain ⟨we, hwe⟩ : ∃ W, wx.setCell ⟨x.g, 2, none⟩ (.slice T2 (ntz + 1) c2) = W := ⟨_, rfl⟩
      rw [hwe] at hP hF ⊢
      have HE : FS = (((someW x.xs F (((((((someW x.xs F (s)).nx x.xs).op 0 0).op 167 0).nx x.xs).label [[76, 84, 104, 114, 111, 119, 97, 98, 108, 101, 59]]).op 87 0)).label []).aim q3 (q5 : Int)).trapped (⟨(n0 : Int), (k1 : Int) + 1, (q4 : Int), [84, 104, 114, 111, 119, 97, 98, 108, 101]⟩ : TrD) := by
        rw [← HFS.out]
        have z0 : s.code.length = n0 := HQq0.out
        have z1 : (((someW x.xs F (s)).nx x.xs).op 0 0).code.length = k1 + 1 := HQq1.out
        have z4 : ((((someW x.xs F (s)).nx x.xs).op 0 0).op 167 0).code.length = q4 := HQq4.out
        have z5 : (someW x.xs F (((((((someW x.xs F (s)).nx x.xs).op 0 0).op 167 0).nx x.xs).label [[76, 84, 104, 114, 111, 119, 97, 98, 108, 101, 59]]).op 87 0)).code.length = q5 := HQq5.out
        have z3 : (((someW x.xs F (s)).nx x.xs).op 0 0).code.length = q3 := HQq3.out
        have e3 : q3 = k1 + 1 := z3.symm.trans z1
        rw [e3]
        clear z3
        unfold guardW
        simp [HVv.out, HVa.out, trapN, z0, z1, z4, z5]
      have hend : WrS x we D FS := by rw [HE]; exact ⟨_, _, _, _, _, _, _, _, _, _, hP⟩
      have hof : Fr x w0 we := (HOA.out.trans (Fr.of_below HBL.out)).trans hF
      clear hG hg hr hP hF hwe s1 s2 HE
      go_end0
      exact ⟨rfl, hend, hof⟩
    · have da : w6.cell? ⟨w4.heap.size, 2, none⟩ = some (.string ⟨#[77, 97, 116, 104, 70, 97, 117, 108, 116]⟩) := by
        rw [HQ6.out.cell]
        rfl
      have e1 : ((⟨#[76]⟩ : ByteArray) ++ ⟨#[77, 97, 116, 104, 70, 97, 117, 108, 116]⟩) = ⟨#[76, 77, 97, 116, 104, 70, 97, 117, 108, 116]⟩ := rfl
      have e2 : (⟨#[76, 77, 97, 116, 104, 70, 97, 117, 108, 116]⟩ : ByteArray) ++ ⟨#[59]⟩ = ⟨#[76, 77, 97, 116, 104, 70, 97, 117, 108, 116, 59]⟩ := rfl
      have hbs := belowA w6 (.cells #[.string ⟨#[76, 77, 97, 116, 104, 70, 97, 117, 108, 116, 59]⟩] 9)
      have h := HW6.out.below hbs
      have ho := Fr.of_below (x := x) hbs
      have ks : Blk (w6.alloc (.cells #[.string ⟨#[76, 77, 97, 116, 104, 70, 97, 117, 108, 116, 59]⟩] 9)) w6.heap.size 9 ([[76, 77, 97, 116, 104, 70, 97, 117, 108, 116, 59]].map SV).toArray := Blk.new _ _ _
      obtain ⟨w7, hws⟩ : ∃ W, w6.alloc (.cells #[.string ⟨#[76, 77, 97, 116, 104, 70, 97, 117, 108, 116, 59]⟩] 9) = W := ⟨_, rfl⟩
      rw [hws] at h ho ks
      have HWS := Lib.hid hws
      have HKS := Lib.hid ks
      clear hws ks hbs
      have HW7 := Lib.hid h
      have HO7 : Hid (Fr x w0 w7) := Lib.hid (HO6.out.trans ho)
      have HZ7 : Hid ((((((someW x.xs F (s)).nx x.xs).op 0 0).op 167 0).nx x.xs).sz (N + 3 * c + 2)) := Lib.hid ((HZ6.out).more (by omega))
      clear h ho
      go_wp2_with fail
      rw [HWS.out]
      clear da e1 e2
      refine (label_s x _ _ _ (N + 3 * c + 2) (some ⟨w6.heap.size, 0, none⟩) 1 1 [[76, 77, 97, 116, 104, 70, 97, 117, 108, 116, 59]] (Or.inr ⟨w6.heap.size, rfl, rfl, rfl, HKS.out⟩) HW7.out HZ7.out (by omega)).mono ?_
      rintro e w8 ⟨rfl, h, ho⟩
      have HW8 := Lib.hid h
      have HO8 : Hid (Fr x w0 w8) := Lib.hid (HO7.out.trans ho)
      have HZ8 : Hid (((((((someW x.xs F (s)).nx x.xs).op 0 0).op 167 0).nx x.xs).label [[76, 77, 97, 116, 104, 70, 97, 117, 108, 116, 59]]).sz (N + 3 * c + 3)) := Lib.hid ((Ws.sz_label _ HZ7.out).more (by omega))
      clear h ho
      obtain ⟨q4, hq4⟩ : ∃ q4, (((((someW x.xs F (s)).nx x.xs).op 0 0).op 167 0).nx x.xs).code.length = q4 := ⟨_, rfl⟩
      rw [hq4]
      have HQq4 := Lib.hid hq4
      clear hq4
      go_wp2_with fail
      refine (op_v x _ _ _ (N + 3 * c + 3) 87 _ _ (by first | rfl | decide | assumption) HW8.out HZ8.out (by omega)).mono ?_
      rintro e w9 ⟨rfl, h, ho⟩
      have HW9 := Lib.hid h
      have HO9 : Hid (Fr x w0 w9) := Lib.hid (HO8.out.trans ho)
      have HZ9 : Hid ((((((((someW x.xs F (s)).nx x.xs).op 0 0).op 167 0).nx x.xs).label [[76, 77, 97, 116, 104, 70, 97, 117, 108, 116, 59]]).op 87 0).sz (N + 3 * c + 4)) := Lib.hid ((Ws.sz_op _ _ HZ8.out).more (by omega))
      clear h ho
      go_wp2_with fail
      refine (HFs.out _ _ (N + 3 * c + 4) HW9.out HZ9.out (by omega)).mono ?_
      rintro e w10 ⟨rfl, h, ho⟩
      have HW10 := Lib.hid h
      have HO10 : Hid (Fr x w0 w10) := Lib.hid (HO9.out.trans ho)
      have HZ10 : Hid ((someW x.xs F (((((((someW x.xs F (s)).nx x.xs).op 0 0).op 167 0).nx x.xs).label [[76, 77, 97, 116, 104, 70, 97, 117, 108, 116, 59]]).op 87 0)).sz (N + 6 * c + 4)) := Lib.hid ((HFa.out _ _ HZ9.out).more (by omega))
      clear h ho
      go_wp2_with fail
      refine (label_s x _ _ _ (N + 6 * c + 4) none 0 0 [] (Or.inl ⟨rfl, rfl, rfl, rfl⟩) HW10.out HZ10.out (by omega)).mono ?_
      rintro e w11 ⟨rfl, h, ho⟩
      have HW11 := Lib.hid h
      have HO11 : Hid (Fr x w0 w11) := Lib.hid (HO10.out.trans ho)
      have HZ11 : Hid (((someW x.xs F (((((((someW x.xs F (s)).nx x.xs).op 0 0).op 167 0).nx x.xs).label [[76, 77, 97, 116, 104, 70, 97, 117, 108, 116, 59]]).op 87 0)).label []).sz (N + 6 * c + 5)) := Lib.hid ((Ws.sz_label [] HZ10.out).more (by omega))
      clear h ho
      obtain ⟨q5, hq5⟩ : ∃ q5, (someW x.xs F (((((((someW x.xs F (s)).nx x.xs).op 0 0).op 167 0).nx x.xs).label [[76, 77, 97, 116, 104, 70, 97, 117, 108, 116, 59]]).op 87 0)).code.length = q5 := ⟨_, rfl⟩
      rw [hq5]
      have HQq5 := Lib.hid hq5
      clear hq5
      obtain ⟨Cz, nz, cz, Tz, ntz, ctz, Mz, nmz, cmz, lmz, hD⟩ := HW11.out
      have hlz : ((someW x.xs F (((((((someW x.xs F (s)).nx x.xs).op 0 0).op 167 0).nx x.xs).label [[76, 77, 97, 116, 104, 70, 97, 117, 108, 116, 59]]).op 87 0)).label []).code.length = nz := hD.code.row.1
      have hpl : q3 < nz := by
        have g1 := HQq3.out
        have g2 := HFg.out (((((((someW x.xs F (s)).nx x.xs).op 0 0).op 167 0).nx x.xs).label [[76, 77, 97, 116, 104, 70, 97, 117, 108, 116, 59]]).op 87 0)
        have g3 := len_label (someW x.xs F (((((((someW x.xs F (s)).nx x.xs).op 0 0).op 167 0).nx x.xs).label [[76, 77, 97, 116, 104, 70, 97, 117, 108, 116, 59]]).op 87 0)) []
        simp only [len_op, len_nx, len_label, len_push] at g1 g2
        omega
      obtain ⟨gc, hgc⟩ : ∃ gc, Cz = some ⟨gc, 0, none⟩ := by
        rcases hD.code.here with h0 | ⟨g, cur, h1, _⟩
        · exact absurd (hD.code.isNil h0).1 (by omega)
        · exact ⟨g, h1⟩
      subst hgc
      have c1z : w11.cell? ⟨x.g, 1, none⟩ = some (.slice (some ⟨gc, 0, none⟩) nz cz) := hD.blk.cell 1
      have hcz1 := hD.code.row.2.1
      have hcz2 := hD.code.row.2.2.1
      unfold maxLen at hcz2
      have hbc : ∃ v, w11.cell? ⟨gc, q3 * 7 + 1, none⟩ = some v := by
        obtain ⟨b', o', y, e', _, _, hy, hc⟩ := hD.code.row.at_ hpl
        cases e'
        have := hc 1 (by decide)
        rw [Nat.zero_add] at this
        exact ⟨_, this⟩
      obtain ⟨vc, hvc⟩ := hbc
      obtain ⟨hfz, hgne⟩ : w11.frozen? ⟨gc, q3 * 7 + 1, none⟩ = false ∧ x.g ≠ gc := by
        obtain ⟨cur, hb, _⟩ := gotR_block hD.code (show (Value.slice (some ⟨gc, 0, none⟩) nz cz).ownBlock = some gc from rfl)
        exact ⟨hb.frozen _, Blk.ne_ hD.blk hb (by decide)⟩
      obtain ⟨hP, hF⟩ := hD.aim_ hpl (q5 : Int)
      have HWA : Hid (WrD x (w11.setCell ⟨gc, q3 * 7 + 1, none⟩ (.int .i64 (q5 : Int))) D (((someW x.xs F (((((((someW x.xs F (s)).nx x.xs).op 0 0).op 167 0).nx x.xs).label [[76, 77, 97, 116, 104, 70, 97, 117, 108, 116, 59]]).op 87 0)).label []).aim q3 (q5 : Int)) (some ⟨gc, 0, none⟩) nz cz Tz ntz ctz Mz nmz cmz lmz) := Lib.hid hP
      have HOA := Lib.hid (HO11.out.trans hF)
      have hglz := hD.blk.lt
      have hq3p : decide ((0 : Int) ≤ (q3 : Int)) = true := by simp
      clear hD hP hF
      have c2z : (w11.setCell ⟨gc, q3 * 7 + 1, none⟩ (.int .i64 (q5 : Int))).cell? ⟨x.g, 2, none⟩ = some (.slice Tz ntz ctz) := HWA.out.blk.cell 2
      have hbl := belowA (w11.setCell ⟨gc, q3 * 7 + 1, none⟩ (.int .i64 (q5 : Int))) (.cells #[.int .i64 (n0 : Int), .int .i64 ((k1 : Int) + 1), .int .i64 (q4 : Int), .string ⟨#[77, 97, 116, 104, 70, 97, 117, 108, 116]⟩] 133)
      have hDl := HWA.out.below hbl
      have f2z : ((w11.setCell ⟨gc, q3 * 7 + 1, none⟩ (.int .i64 (q5 : Int))).alloc (.cells #[.int .i64 (n0 : Int), .int .i64 ((k1 : Int) + 1), .int .i64 (q4 : Int), .string ⟨#[77, 97, 116, 104, 70, 97, 117, 108, 116]⟩] 133)).frozen? ⟨x.g, 2, none⟩ = false := hDl.blk.frozen 2
      have hntz : ntz ≤ (N + 6 * c + 5) := by
        have h1 : (((someW x.xs F (((((((someW x.xs F (s)).nx x.xs).op 0 0).op 167 0).nx x.xs).label [[76, 77, 97, 116, 104, 70, 97, 117, 108, 116, 59]]).op 87 0)).label []).aim q3 (q5 : Int)).traps.length = ntz := HWA.out.traps.row.1
        rw [← h1]
        exact HZ11.out.2.1
      have HTL : Hid (GotR trC 4 133 x.b0 ((w11.setCell ⟨gc, q3 * 7 + 1, none⟩ (.int .i64 (q5 : Int))).alloc (.cells #[.int .i64 (n0 : Int), .int .i64 ((k1 : Int) + 1), .int .i64 (q4 : Int), .string ⟨#[77, 97, 116, 104, 70, 97, 117, 108, 116]⟩] 133)) Tz ntz ctz (((someW x.xs F (((((((someW x.xs F (s)).nx x.xs).op 0 0).op 167 0).nx x.xs).label [[76, 77, 97, 116, 104, 70, 97, 117, 108, 116, 59]]).op 87 0)).label []).aim q3 (q5 : Int)).traps) := Lib.hid hDl.traps
      have HBLK : Hid (Blk ((w11.setCell ⟨gc, q3 * 7 + 1, none⟩ (.int .i64 (q5 : Int))).alloc (.cells #[.int .i64 (n0 : Int), .int .i64 ((k1 : Int) + 1), .int .i64 (q4 : Int), .string ⟨#[77, 97, 116, 104, 70, 97, 117, 108, 116]⟩] 133)) w11.heap.size 133 (trC (⟨(n0 : Int), (k1 : Int) + 1, (q4 : Int), [77, 97, 116, 104, 70, 97, 117, 108, 116]⟩ : TrD)).toArray) := Lib.hid (by have h := Blk.new (w11.setCell ⟨gc, q3 * 7 + 1, none⟩ (.int .i64 (q5 : Int))) 133 #[.int .i64 (n0 : Int), .int .i64 ((k1 : Int) + 1), .int .i64 (q4 : Int), .string ⟨#[77, 97, 116, 104, 70, 97, 117, 108, 116]⟩]; rwa [show ((w11.setCell ⟨gc, q3 * 7 + 1, none⟩ (.int .i64 (q5 : Int)))).heap.size = w11.heap.size by simp] at h)
      have HDL := Lib.hid hDl
      have hb0l := hDl.b0
      have HGOT := Lib.hid (ne_own hDl.traps hDl.blk (show 133 ≠ 166 by decide))
      have HBL := Lib.hid hbl
      have hgl9 := hDl.blk.lt
      clear hbl hDl
      go_wp2_with (at_builtin; refine wpList_pushT rfl _ _ rfl x.b0 Tz ntz ctz (((someW x.xs F (((((((someW x.xs F (s)).nx x.xs).op 0 0).op 167 0).nx x.xs).label [[76, 77, 97, 116, 104, 70, 97, 117, 108, 116, 59]]).op 87 0)).label []).aim q3 (q5 : Int)).traps rfl HTL.out _ (⟨(n0 : Int), (k1 : Int) + 1, (q4 : Int), [77, 97, 116, 104, 70, 97, 117, 108, 116]⟩ : TrD) rfl HBLK.out (by omega) hb0l ?_; intro T2 c2 wx hG hg hr; have s1 : wx.cell? ⟨x.g, 2, none⟩ = some (.slice Tz ntz ctz) := ((only_grown hg hr).cell (p := ⟨x.g, 2, none⟩) HDL.out.blk.lt HGOT.out).trans (HDL.out.blk.cell 2); have s2 : wx.frozen? ⟨x.g, 2, none⟩ = false := ((only_grown hg hr).blk HDL.out.blk HGOT.out).frozen 2)
      obtain ⟨hP, hF⟩ := HDL.out.trap_ hG hg hr
      obtain ⟨we, hwe⟩ : ∃ W, wx.setCell ⟨x.g, 2, none⟩ (.slice T2 (ntz + 1) c2) = W := ⟨_, rfl⟩
      rw [hwe] at hP hF ⊢
      have HE : FS = (((someW x.xs F (((((((someW x.xs F (s)).nx x.xs).op 0 0).op 167 0).nx x.xs).label [[76, 77, 97, 116, 104, 70, 97, 117, 108, 116, 59]]).op 87 0)).label []).aim q3 (q5 : Int)).trapped (⟨(n0 : Int), (k1 : Int) + 1, (q4 : Int), [77, 97, 116, 104, 70, 97, 117, 108, 116]⟩ : TrD) := by
        rw [← HFS.out]
        have z0 : s.code.length = n0 := HQq0.out
        have z1 : (((someW x.xs F (s)).nx x.xs).op 0 0).code.length = k1 + 1 := HQq1.out
        have z4 : ((((someW x.xs F (s)).nx x.xs).op 0 0).op 167 0).code.length = q4 := HQq4.out
        have z5 : (someW x.xs F (((((((someW x.xs F (s)).nx x.xs).op 0 0).op 167 0).nx x.xs).label [[76, 77, 97, 116, 104, 70, 97, 117, 108, 116, 59]]).op 87 0)).code.length = q5 := HQq5.out
        have z3 : (((someW x.xs F (s)).nx x.xs).op 0 0).code.length = q3 := HQq3.out
        have e3 : q3 = k1 + 1 := z3.symm.trans z1
        rw [e3]
        clear z3
        unfold guardW
        simp [HVv.out, HVa.out, trapN, z0, z1, z4, z5]
      have hend : WrS x we D FS := by rw [HE]; exact ⟨_, _, _, _, _, _, _, _, _, _, hP⟩
      have hof : Fr x w0 we := (HOA.out.trans (Fr.of_below HBL.out)).trans hF
      clear hG hg hr hP hF hwe s1 s2 HE
      go_end0
      exact ⟨rfl, hend, hof⟩
    · have da : w6.cell? ⟨w4.heap.size, 3, none⟩ = some (.string ⟨#[79, 111, 112, 115]⟩) := by
        rw [HQ6.out.cell]
        rfl
      have e1 : ((⟨#[76]⟩ : ByteArray) ++ ⟨#[79, 111, 112, 115]⟩) = ⟨#[76, 79, 111, 112, 115]⟩ := rfl
      have e2 : (⟨#[76, 79, 111, 112, 115]⟩ : ByteArray) ++ ⟨#[59]⟩ = ⟨#[76, 79, 111, 112, 115, 59]⟩ := rfl
      have hbs := belowA w6 (.cells #[.string ⟨#[76, 79, 111, 112, 115, 59]⟩] 9)
      have h := HW6.out.below hbs
      have ho := Fr.of_below (x := x) hbs
      have ks : Blk (w6.alloc (.cells #[.string ⟨#[76, 79, 111, 112, 115, 59]⟩] 9)) w6.heap.size 9 ([[76, 79, 111, 112, 115, 59]].map SV).toArray := Blk.new _ _ _
      obtain ⟨w7, hws⟩ : ∃ W, w6.alloc (.cells #[.string ⟨#[76, 79, 111, 112, 115, 59]⟩] 9) = W := ⟨_, rfl⟩
      rw [hws] at h ho ks
      have HWS := Lib.hid hws
      have HKS := Lib.hid ks
      clear hws ks hbs
      have HW7 := Lib.hid h
      have HO7 : Hid (Fr x w0 w7) := Lib.hid (HO6.out.trans ho)
      have HZ7 : Hid ((((((someW x.xs F (s)).nx x.xs).op 0 0).op 167 0).nx x.xs).sz (N + 3 * c + 2)) := Lib.hid ((HZ6.out).more (by omega))
      clear h ho
      go_wp2_with fail
      rw [HWS.out]
      clear da e1 e2
      refine (label_s x _ _ _ (N + 3 * c + 2) (some ⟨w6.heap.size, 0, none⟩) 1 1 [[76, 79, 111, 112, 115, 59]] (Or.inr ⟨w6.heap.size, rfl, rfl, rfl, HKS.out⟩) HW7.out HZ7.out (by omega)).mono ?_
      rintro e w8 ⟨rfl, h, ho⟩
      have HW8 := Lib.hid h
      have HO8 : Hid (Fr x w0 w8) := Lib.hid (HO7.out.trans ho)
      have HZ8 : Hid (((((((someW x.xs F (s)).nx x.xs).op 0 0).op 167 0).nx x.xs).label [[76, 79, 111, 112, 115, 59]]).sz (N + 3 * c + 3)) := Lib.hid ((Ws.sz_label _ HZ7.out).more (by omega))
      clear h ho
      obtain ⟨q4, hq4⟩ : ∃ q4, (((((someW x.xs F (s)).nx x.xs).op 0 0).op 167 0).nx x.xs).code.length = q4 := ⟨_, rfl⟩
      rw [hq4]
      have HQq4 := Lib.hid hq4
      clear hq4
      go_wp2_with fail
      refine (op_v x _ _ _ (N + 3 * c + 3) 87 _ _ (by first | rfl | decide | assumption) HW8.out HZ8.out (by omega)).mono ?_
      rintro e w9 ⟨rfl, h, ho⟩
      have HW9 := Lib.hid h
      have HO9 : Hid (Fr x w0 w9) := Lib.hid (HO8.out.trans ho)
      have HZ9 : Hid ((((((((someW x.xs F (s)).nx x.xs).op 0 0).op 167 0).nx x.xs).label [[76, 79, 111, 112, 115, 59]]).op 87 0).sz (N + 3 * c + 4)) := Lib.hid ((Ws.sz_op _ _ HZ8.out).more (by omega))
      clear h ho
      go_wp2_with fail
      refine (HFs.out _ _ (N + 3 * c + 4) HW9.out HZ9.out (by omega)).mono ?_
      rintro e w10 ⟨rfl, h, ho⟩
      have HW10 := Lib.hid h
      have HO10 : Hid (Fr x w0 w10) := Lib.hid (HO9.out.trans ho)
      have HZ10 : Hid ((someW x.xs F (((((((someW x.xs F (s)).nx x.xs).op 0 0).op 167 0).nx x.xs).label [[76, 79, 111, 112, 115, 59]]).op 87 0)).sz (N + 6 * c + 4)) := Lib.hid ((HFa.out _ _ HZ9.out).more (by omega))
      clear h ho
      go_wp2_with fail
      refine (label_s x _ _ _ (N + 6 * c + 4) none 0 0 [] (Or.inl ⟨rfl, rfl, rfl, rfl⟩) HW10.out HZ10.out (by omega)).mono ?_
      rintro e w11 ⟨rfl, h, ho⟩
      have HW11 := Lib.hid h
      have HO11 : Hid (Fr x w0 w11) := Lib.hid (HO10.out.trans ho)
      have HZ11 : Hid (((someW x.xs F (((((((someW x.xs F (s)).nx x.xs).op 0 0).op 167 0).nx x.xs).label [[76, 79, 111, 112, 115, 59]]).op 87 0)).label []).sz (N + 6 * c + 5)) := Lib.hid ((Ws.sz_label [] HZ10.out).more (by omega))
      clear h ho
      obtain ⟨q5, hq5⟩ : ∃ q5, (someW x.xs F (((((((someW x.xs F (s)).nx x.xs).op 0 0).op 167 0).nx x.xs).label [[76, 79, 111, 112, 115, 59]]).op 87 0)).code.length = q5 := ⟨_, rfl⟩
      rw [hq5]
      have HQq5 := Lib.hid hq5
      clear hq5
      obtain ⟨Cz, nz, cz, Tz, ntz, ctz, Mz, nmz, cmz, lmz, hD⟩ := HW11.out
      have hlz : ((someW x.xs F (((((((someW x.xs F (s)).nx x.xs).op 0 0).op 167 0).nx x.xs).label [[76, 79, 111, 112, 115, 59]]).op 87 0)).label []).code.length = nz := hD.code.row.1
      have hpl : q3 < nz := by
        have g1 := HQq3.out
        have g2 := HFg.out (((((((someW x.xs F (s)).nx x.xs).op 0 0).op 167 0).nx x.xs).label [[76, 79, 111, 112, 115, 59]]).op 87 0)
        have g3 := len_label (someW x.xs F (((((((someW x.xs F (s)).nx x.xs).op 0 0).op 167 0).nx x.xs).label [[76, 79, 111, 112, 115, 59]]).op 87 0)) []
        simp only [len_op, len_nx, len_label, len_push] at g1 g2
        omega
      obtain ⟨gc, hgc⟩ : ∃ gc, Cz = some ⟨gc, 0, none⟩ := by
        rcases hD.code.here with h0 | ⟨g, cur, h1, _⟩
        · exact absurd (hD.code.isNil h0).1 (by omega)
        · exact ⟨g, h1⟩
      subst hgc
      have c1z : w11.cell? ⟨x.g, 1, none⟩ = some (.slice (some ⟨gc, 0, none⟩) nz cz) := hD.blk.cell 1
      have hcz1 := hD.code.row.2.1
      have hcz2 := hD.code.row.2.2.1
      unfold maxLen at hcz2
      have hbc : ∃ v, w11.cell? ⟨gc, q3 * 7 + 1, none⟩ = some v := by
        obtain ⟨b', o', y, e', _, _, hy, hc⟩ := hD.code.row.at_ hpl
        cases e'
        have := hc 1 (by decide)
        rw [Nat.zero_add] at this
        exact ⟨_, this⟩
      obtain ⟨vc, hvc⟩ := hbc
      obtain ⟨hfz, hgne⟩ : w11.frozen? ⟨gc, q3 * 7 + 1, none⟩ = false ∧ x.g ≠ gc := by
        obtain ⟨cur, hb, _⟩ := gotR_block hD.code (show (Value.slice (some ⟨gc, 0, none⟩) nz cz).ownBlock = some gc from rfl)
        exact ⟨hb.frozen _, Blk.ne_ hD.blk hb (by decide)⟩
      obtain ⟨hP, hF⟩ := hD.aim_ hpl (q5 : Int)
      have HWA : Hid (WrD x (w11.setCell ⟨gc, q3 * 7 + 1, none⟩ (.int .i64 (q5 : Int))) D (((someW x.xs F (((((((someW x.xs F (s)).nx x.xs).op 0 0).op 167 0).nx x.xs).label [[76, 79, 111, 112, 115, 59]]).op 87 0)).label []).aim q3 (q5 : Int)) (some ⟨gc, 0, none⟩) nz cz Tz ntz ctz Mz nmz cmz lmz) := Lib.hid hP
      have HOA := Lib.hid (HO11.out.trans hF)
      have hglz := hD.blk.lt
      have hq3p : decide ((0 : Int) ≤ (q3 : Int)) = true := by simp
      clear hD hP hF
      have c2z : (w11.setCell ⟨gc, q3 * 7 + 1, none⟩ (.int .i64 (q5 : Int))).cell? ⟨x.g, 2, none⟩ = some (.slice Tz ntz ctz) := HWA.out.blk.cell 2
      have hbl := belowA (w11.setCell ⟨gc, q3 * 7 + 1, none⟩ (.int .i64 (q5 : Int))) (.cells #[.int .i64 (n0 : Int), .int .i64 ((k1 : Int) + 1), .int .i64 (q4 : Int), .string ⟨#[79, 111, 112, 115]⟩] 133)
      have hDl := HWA.out.below hbl
      have f2z : ((w11.setCell ⟨gc, q3 * 7 + 1, none⟩ (.int .i64 (q5 : Int))).alloc (.cells #[.int .i64 (n0 : Int), .int .i64 ((k1 : Int) + 1), .int .i64 (q4 : Int), .string ⟨#[79, 111, 112, 115]⟩] 133)).frozen? ⟨x.g, 2, none⟩ = false := hDl.blk.frozen 2
      have hntz : ntz ≤ (N + 6 * c + 5) := by
        have h1 : (((someW x.xs F (((((((someW x.xs F (s)).nx x.xs).op 0 0).op 167 0).nx x.xs).label [[76, 79, 111, 112, 115, 59]]).op 87 0)).label []).aim q3 (q5 : Int)).traps.length = ntz := HWA.out.traps.row.1
        rw [← h1]
        exact HZ11.out.2.1
      have HTL : Hid (GotR trC 4 133 x.b0 ((w11.setCell ⟨gc, q3 * 7 + 1, none⟩ (.int .i64 (q5 : Int))).alloc (.cells #[.int .i64 (n0 : Int), .int .i64 ((k1 : Int) + 1), .int .i64 (q4 : Int), .string ⟨#[79, 111, 112, 115]⟩] 133)) Tz ntz ctz (((someW x.xs F (((((((someW x.xs F (s)).nx x.xs).op 0 0).op 167 0).nx x.xs).label [[76, 79, 111, 112, 115, 59]]).op 87 0)).label []).aim q3 (q5 : Int)).traps) := Lib.hid hDl.traps
      have HBLK : Hid (Blk ((w11.setCell ⟨gc, q3 * 7 + 1, none⟩ (.int .i64 (q5 : Int))).alloc (.cells #[.int .i64 (n0 : Int), .int .i64 ((k1 : Int) + 1), .int .i64 (q4 : Int), .string ⟨#[79, 111, 112, 115]⟩] 133)) w11.heap.size 133 (trC (⟨(n0 : Int), (k1 : Int) + 1, (q4 : Int), [79, 111, 112, 115]⟩ : TrD)).toArray) := Lib.hid (by have h := Blk.new (w11.setCell ⟨gc, q3 * 7 + 1, none⟩ (.int .i64 (q5 : Int))) 133 #[.int .i64 (n0 : Int), .int .i64 ((k1 : Int) + 1), .int .i64 (q4 : Int), .string ⟨#[79, 111, 112, 115]⟩]; rwa [show ((w11.setCell ⟨gc, q3 * 7 + 1, none⟩ (.int .i64 (q5 : Int)))).heap.size = w11.heap.size by simp] at h)
      have HDL := Lib.hid hDl
      have hb0l := hDl.b0
      have HGOT := Lib.hid (ne_own hDl.traps hDl.blk (show 133 ≠ 166 by decide))
      have HBL := Lib.hid hbl
      have hgl9 := hDl.blk.lt
      clear hbl hDl
      go_wp2_with (at_builtin; refine wpList_pushT rfl _ _ rfl x.b0 Tz ntz ctz (((someW x.xs F (((((((someW x.xs F (s)).nx x.xs).op 0 0).op 167 0).nx x.xs).label [[76, 79, 111, 112, 115, 59]]).op 87 0)).label []).aim q3 (q5 : Int)).traps rfl HTL.out _ (⟨(n0 : Int), (k1 : Int) + 1, (q4 : Int), [79, 111, 112, 115]⟩ : TrD) rfl HBLK.out (by omega) hb0l ?_; intro T2 c2 wx hG hg hr; have s1 : wx.cell? ⟨x.g, 2, none⟩ = some (.slice Tz ntz ctz) := ((only_grown hg hr).cell (p := ⟨x.g, 2, none⟩) HDL.out.blk.lt HGOT.out).trans (HDL.out.blk.cell 2); have s2 : wx.frozen? ⟨x.g, 2, none⟩ = false := ((only_grown hg hr).blk HDL.out.blk HGOT.out).frozen 2)
      obtain ⟨hP, hF⟩ := HDL.out.trap_ hG hg hr
      obtain ⟨we, hwe⟩ : ∃ W, wx.setCell ⟨x.g, 2, none⟩ (.slice T2 (ntz + 1) c2) = W := ⟨_, rfl⟩
      rw [hwe] at hP hF ⊢
      have HE : FS = (((someW x.xs F (((((((someW x.xs F (s)).nx x.xs).op 0 0).op 167 0).nx x.xs).label [[76, 79, 111, 112, 115, 59]]).op 87 0)).label []).aim q3 (q5 : Int)).trapped (⟨(n0 : Int), (k1 : Int) + 1, (q4 : Int), [79, 111, 112, 115]⟩ : TrD) := by
        rw [← HFS.out]
        have z0 : s.code.length = n0 := HQq0.out
        have z1 : (((someW x.xs F (s)).nx x.xs).op 0 0).code.length = k1 + 1 := HQq1.out
        have z4 : ((((someW x.xs F (s)).nx x.xs).op 0 0).op 167 0).code.length = q4 := HQq4.out
        have z5 : (someW x.xs F (((((((someW x.xs F (s)).nx x.xs).op 0 0).op 167 0).nx x.xs).label [[76, 79, 111, 112, 115, 59]]).op 87 0)).code.length = q5 := HQq5.out
        have z3 : (((someW x.xs F (s)).nx x.xs).op 0 0).code.length = q3 := HQq3.out
        have e3 : q3 = k1 + 1 := z3.symm.trans z1
        rw [e3]
        clear z3
        unfold guardW
        simp [HVv.out, HVa.out, trapN, z0, z1, z4, z5]
      have hend : WrS x we D FS := by rw [HE]; exact ⟨_, _, _, _, _, _, _, _, _, _, hP⟩
      have hof : Fr x w0 we := (HOA.out.trans (Fr.of_below HBL.out)).trans hF
      clear hG hg hr hP hF hwe s1 s2 HE
      go_end0
      exact ⟨rfl, hend, hof⟩
    · have da : w6.cell? ⟨w4.heap.size, 4, none⟩ = some (.string ⟨#[78, 117, 108, 108, 70, 97, 117, 108, 116]⟩) := by
        rw [HQ6.out.cell]
        rfl
      have e1 : ((⟨#[76]⟩ : ByteArray) ++ ⟨#[78, 117, 108, 108, 70, 97, 117, 108, 116]⟩) = ⟨#[76, 78, 117, 108, 108, 70, 97, 117, 108, 116]⟩ := rfl
      have e2 : (⟨#[76, 78, 117, 108, 108, 70, 97, 117, 108, 116]⟩ : ByteArray) ++ ⟨#[59]⟩ = ⟨#[76, 78, 117, 108, 108, 70, 97, 117, 108, 116, 59]⟩ := rfl
      have hbs := belowA w6 (.cells #[.string ⟨#[76, 78, 117, 108, 108, 70, 97, 117, 108, 116, 59]⟩] 9)
      have h := HW6.out.below hbs
      have ho := Fr.of_below (x := x) hbs
      have ks : Blk (w6.alloc (.cells #[.string ⟨#[76, 78, 117, 108, 108, 70, 97, 117, 108, 116, 59]⟩] 9)) w6.heap.size 9 ([[76, 78, 117, 108, 108, 70, 97, 117, 108, 116, 59]].map SV).toArray := Blk.new _ _ _
      obtain ⟨w7, hws⟩ : ∃ W, w6.alloc (.cells #[.string ⟨#[76, 78, 117, 108, 108, 70, 97, 117, 108, 116, 59]⟩] 9) = W := ⟨_, rfl⟩
      rw [hws] at h ho ks
      have HWS := Lib.hid hws
      have HKS := Lib.hid ks
      clear hws ks hbs
      have HW7 := Lib.hid h
      have HO7 : Hid (Fr x w0 w7) := Lib.hid (HO6.out.trans ho)
      have HZ7 : Hid ((((((someW x.xs F (s)).nx x.xs).op 0 0).op 167 0).nx x.xs).sz (N + 3 * c + 2)) := Lib.hid ((HZ6.out).more (by omega))
      clear h ho
      go_wp2_with fail
      rw [HWS.out]
      clear da e1 e2
      refine (label_s x _ _ _ (N + 3 * c + 2) (some ⟨w6.heap.size, 0, none⟩) 1 1 [[76, 78, 117, 108, 108, 70, 97, 117, 108, 116, 59]] (Or.inr ⟨w6.heap.size, rfl, rfl, rfl, HKS.out⟩) HW7.out HZ7.out (by omega)).mono ?_
      rintro e w8 ⟨rfl, h, ho⟩
      have HW8 := Lib.hid h
      have HO8 : Hid (Fr x w0 w8) := Lib.hid (HO7.out.trans ho)
      have HZ8 : Hid (((((((someW x.xs F (s)).nx x.xs).op 0 0).op 167 0).nx x.xs).label [[76, 78, 117, 108, 108, 70, 97, 117, 108, 116, 59]]).sz (N + 3 * c + 3)) := Lib.hid ((Ws.sz_label _ HZ7.out).more (by omega))
      clear h ho
      obtain ⟨q4, hq4⟩ : ∃ q4, (((((someW x.xs F (s)).nx x.xs).op 0 0).op 167 0).nx x.xs).code.length = q4 := ⟨_, rfl⟩
      rw [hq4]
      have HQq4 := Lib.hid hq4
      clear hq4
      go_wp2_with fail
      refine (op_v x _ _ _ (N + 3 * c + 3) 87 _ _ (by first | rfl | decide | assumption) HW8.out HZ8.out (by omega)).mono ?_
      rintro e w9 ⟨rfl, h, ho⟩
      have HW9 := Lib.hid h
      have HO9 : Hid (Fr x w0 w9) := Lib.hid (HO8.out.trans ho)
      have HZ9 : Hid ((((((((someW x.xs F (s)).nx x.xs).op 0 0).op 167 0).nx x.xs).label [[76, 78, 117, 108, 108, 70, 97, 117, 108, 116, 59]]).op 87 0).sz (N + 3 * c + 4)) := Lib.hid ((Ws.sz_op _ _ HZ8.out).more (by omega))
      clear h ho
      go_wp2_with fail
      refine (HFs.out _ _ (N + 3 * c + 4) HW9.out HZ9.out (by omega)).mono ?_
      rintro e w10 ⟨rfl, h, ho⟩
      have HW10 := Lib.hid h
      have HO10 : Hid (Fr x w0 w10) := Lib.hid (HO9.out.trans ho)
      have HZ10 : Hid ((someW x.xs F (((((((someW x.xs F (s)).nx x.xs).op 0 0).op 167 0).nx x.xs).label [[76, 78, 117, 108, 108, 70, 97, 117, 108, 116, 59]]).op 87 0)).sz (N + 6 * c + 4)) := Lib.hid ((HFa.out _ _ HZ9.out).more (by omega))
      clear h ho
      go_wp2_with fail
      refine (label_s x _ _ _ (N + 6 * c + 4) none 0 0 [] (Or.inl ⟨rfl, rfl, rfl, rfl⟩) HW10.out HZ10.out (by omega)).mono ?_
      rintro e w11 ⟨rfl, h, ho⟩
      have HW11 := Lib.hid h
      have HO11 : Hid (Fr x w0 w11) := Lib.hid (HO10.out.trans ho)
      have HZ11 : Hid (((someW x.xs F (((((((someW x.xs F (s)).nx x.xs).op 0 0).op 167 0).nx x.xs).label [[76, 78, 117, 108, 108, 70, 97, 117, 108, 116, 59]]).op 87 0)).label []).sz (N + 6 * c + 5)) := Lib.hid ((Ws.sz_label [] HZ10.out).more (by omega))
      clear h ho
      obtain ⟨q5, hq5⟩ : ∃ q5, (someW x.xs F (((((((someW x.xs F (s)).nx x.xs).op 0 0).op 167 0).nx x.xs).label [[76, 78, 117, 108, 108, 70, 97, 117, 108, 116, 59]]).op 87 0)).code.length = q5 := ⟨_, rfl⟩
      rw [hq5]
      have HQq5 := Lib.hid hq5
      clear hq5
      obtain ⟨Cz, nz, cz, Tz, ntz, ctz, Mz, nmz, cmz, lmz, hD⟩ := HW11.out
      have hlz : ((someW x.xs F (((((((someW x.xs F (s)).nx x.xs).op 0 0).op 167 0).nx x.xs).label [[76, 78, 117, 108, 108, 70, 97, 117, 108, 116, 59]]).op 87 0)).label []).code.length = nz := hD.code.row.1
      have hpl : q3 < nz := by
        have g1 := HQq3.out
        have g2 := HFg.out (((((((someW x.xs F (s)).nx x.xs).op 0 0).op 167 0).nx x.xs).label [[76, 78, 117, 108, 108, 70, 97, 117, 108, 116, 59]]).op 87 0)
        have g3 := len_label (someW x.xs F (((((((someW x.xs F (s)).nx x.xs).op 0 0).op 167 0).nx x.xs).label [[76, 78, 117, 108, 108, 70, 97, 117, 108, 116, 59]]).op 87 0)) []
        simp only [len_op, len_nx, len_label, len_push] at g1 g2
        omega
      obtain ⟨gc, hgc⟩ : ∃ gc, Cz = some ⟨gc, 0, none⟩ := by
        rcases hD.code.here with h0 | ⟨g, cur, h1, _⟩
        · exact absurd (hD.code.isNil h0).1 (by omega)
        · exact ⟨g, h1⟩
      subst hgc
      have c1z : w11.cell? ⟨x.g, 1, none⟩ = some (.slice (some ⟨gc, 0, none⟩) nz cz) := hD.blk.cell 1
      have hcz1 := hD.code.row.2.1
      have hcz2 := hD.code.row.2.2.1
      unfold maxLen at hcz2
      have hbc : ∃ v, w11.cell? ⟨gc, q3 * 7 + 1, none⟩ = some v := by
        obtain ⟨b', o', y, e', _, _, hy, hc⟩ := hD.code.row.at_ hpl
        cases e'
        have := hc 1 (by decide)
        rw [Nat.zero_add] at this
        exact ⟨_, this⟩
      obtain ⟨vc, hvc⟩ := hbc
      obtain ⟨hfz, hgne⟩ : w11.frozen? ⟨gc, q3 * 7 + 1, none⟩ = false ∧ x.g ≠ gc := by
        obtain ⟨cur, hb, _⟩ := gotR_block hD.code (show (Value.slice (some ⟨gc, 0, none⟩) nz cz).ownBlock = some gc from rfl)
        exact ⟨hb.frozen _, Blk.ne_ hD.blk hb (by decide)⟩
      obtain ⟨hP, hF⟩ := hD.aim_ hpl (q5 : Int)
      have HWA : Hid (WrD x (w11.setCell ⟨gc, q3 * 7 + 1, none⟩ (.int .i64 (q5 : Int))) D (((someW x.xs F (((((((someW x.xs F (s)).nx x.xs).op 0 0).op 167 0).nx x.xs).label [[76, 78, 117, 108, 108, 70, 97, 117, 108, 116, 59]]).op 87 0)).label []).aim q3 (q5 : Int)) (some ⟨gc, 0, none⟩) nz cz Tz ntz ctz Mz nmz cmz lmz) := Lib.hid hP
      have HOA := Lib.hid (HO11.out.trans hF)
      have hglz := hD.blk.lt
      have hq3p : decide ((0 : Int) ≤ (q3 : Int)) = true := by simp
      clear hD hP hF
      have c2z : (w11.setCell ⟨gc, q3 * 7 + 1, none⟩ (.int .i64 (q5 : Int))).cell? ⟨x.g, 2, none⟩ = some (.slice Tz ntz ctz) := HWA.out.blk.cell 2
      have hbl := belowA (w11.setCell ⟨gc, q3 * 7 + 1, none⟩ (.int .i64 (q5 : Int))) (.cells #[.int .i64 (n0 : Int), .int .i64 ((k1 : Int) + 1), .int .i64 (q4 : Int), .string ⟨#[78, 117, 108, 108, 70, 97, 117, 108, 116]⟩] 133)
      have hDl := HWA.out.below hbl
      have f2z : ((w11.setCell ⟨gc, q3 * 7 + 1, none⟩ (.int .i64 (q5 : Int))).alloc (.cells #[.int .i64 (n0 : Int), .int .i64 ((k1 : Int) + 1), .int .i64 (q4 : Int), .string ⟨#[78, 117, 108, 108, 70, 97, 117, 108, 116]⟩] 133)).frozen? ⟨x.g, 2, none⟩ = false := hDl.blk.frozen 2
      have hntz : ntz ≤ (N + 6 * c + 5) := by
        have h1 : (((someW x.xs F (((((((someW x.xs F (s)).nx x.xs).op 0 0).op 167 0).nx x.xs).label [[76, 78, 117, 108, 108, 70, 97, 117, 108, 116, 59]]).op 87 0)).label []).aim q3 (q5 : Int)).traps.length = ntz := HWA.out.traps.row.1
        rw [← h1]
        exact HZ11.out.2.1
      have HTL : Hid (GotR trC 4 133 x.b0 ((w11.setCell ⟨gc, q3 * 7 + 1, none⟩ (.int .i64 (q5 : Int))).alloc (.cells #[.int .i64 (n0 : Int), .int .i64 ((k1 : Int) + 1), .int .i64 (q4 : Int), .string ⟨#[78, 117, 108, 108, 70, 97, 117, 108, 116]⟩] 133)) Tz ntz ctz (((someW x.xs F (((((((someW x.xs F (s)).nx x.xs).op 0 0).op 167 0).nx x.xs).label [[76, 78, 117, 108, 108, 70, 97, 117, 108, 116, 59]]).op 87 0)).label []).aim q3 (q5 : Int)).traps) := Lib.hid hDl.traps
      have HBLK : Hid (Blk ((w11.setCell ⟨gc, q3 * 7 + 1, none⟩ (.int .i64 (q5 : Int))).alloc (.cells #[.int .i64 (n0 : Int), .int .i64 ((k1 : Int) + 1), .int .i64 (q4 : Int), .string ⟨#[78, 117, 108, 108, 70, 97, 117, 108, 116]⟩] 133)) w11.heap.size 133 (trC (⟨(n0 : Int), (k1 : Int) + 1, (q4 : Int), [78, 117, 108, 108, 70, 97, 117, 108, 116]⟩ : TrD)).toArray) := Lib.hid (by have h := Blk.new (w11.setCell ⟨gc, q3 * 7 + 1, none⟩ (.int .i64 (q5 : Int))) 133 #[.int .i64 (n0 : Int), .int .i64 ((k1 : Int) + 1), .int .i64 (q4 : Int), .string ⟨#[78, 117, 108, 108, 70, 97, 117, 108, 116]⟩]; rwa [show ((w11.setCell ⟨gc, q3 * 7 + 1, none⟩ (.int .i64 (q5 : Int)))).heap.size = w11.heap.size by simp] at h)
      have HDL := Lib.hid hDl
      have hb0l := hDl.b0
      have HGOT := Lib.hid (ne_own hDl.traps hDl.blk (show 133 ≠ 166 by decide))
      have HBL := Lib.hid hbl
      have hgl9 := hDl.blk.lt
      clear hbl hDl
      go_wp2_with (at_builtin; refine wpList_pushT rfl _ _ rfl x.b0 Tz ntz ctz (((someW x.xs F (((((((someW x.xs F (s)).nx x.xs).op 0 0).op 167 0).nx x.xs).label [[76, 78, 117, 108, 108, 70, 97, 117, 108, 116, 59]]).op 87 0)).label []).aim q3 (q5 : Int)).traps rfl HTL.out _ (⟨(n0 : Int), (k1 : Int) + 1, (q4 : Int), [78, 117, 108, 108, 70, 97, 117, 108, 116]⟩ : TrD) rfl HBLK.out (by omega) hb0l ?_; intro T2 c2 wx hG hg hr; have s1 : wx.cell? ⟨x.g, 2, none⟩ = some (.slice Tz ntz ctz) := ((only_grown hg hr).cell (p := ⟨x.g, 2, none⟩) HDL.out.blk.lt HGOT.out).trans (HDL.out.blk.cell 2); have s2 : wx.frozen? ⟨x.g, 2, none⟩ = false := ((only_grown hg hr).blk HDL.out.blk HGOT.out).frozen 2)
      obtain ⟨hP, hF⟩ := HDL.out.trap_ hG hg hr
      obtain ⟨we, hwe⟩ : ∃ W, wx.setCell ⟨x.g, 2, none⟩ (.slice T2 (ntz + 1) c2) = W := ⟨_, rfl⟩
      rw [hwe] at hP hF ⊢
      have HE : FS = (((someW x.xs F (((((((someW x.xs F (s)).nx x.xs).op 0 0).op 167 0).nx x.xs).label [[76, 78, 117, 108, 108, 70, 97, 117, 108, 116, 59]]).op 87 0)).label []).aim q3 (q5 : Int)).trapped (⟨(n0 : Int), (k1 : Int) + 1, (q4 : Int), [78, 117, 108, 108, 70, 97, 117, 108, 116]⟩ : TrD) := by
        rw [← HFS.out]
        have z0 : s.code.length = n0 := HQq0.out
        have z1 : (((someW x.xs F (s)).nx x.xs).op 0 0).code.length = k1 + 1 := HQq1.out
        have z4 : ((((someW x.xs F (s)).nx x.xs).op 0 0).op 167 0).code.length = q4 := HQq4.out
        have z5 : (someW x.xs F (((((((someW x.xs F (s)).nx x.xs).op 0 0).op 167 0).nx x.xs).label [[76, 78, 117, 108, 108, 70, 97, 117, 108, 116, 59]]).op 87 0)).code.length = q5 := HQq5.out
        have z3 : (((someW x.xs F (s)).nx x.xs).op 0 0).code.length = q3 := HQq3.out
        have e3 : q3 = k1 + 1 := z3.symm.trans z1
        rw [e3]
        clear z3
        unfold guardW
        simp [HVv.out, HVa.out, trapN, z0, z1, z4, z5]
      have hend : WrS x we D FS := by rw [HE]; exact ⟨_, _, _, _, _, _, _, _, _, _, hP⟩
      have hof : Fr x w0 we := (HOA.out.trans (Fr.of_below HBL.out)).trans hF
      clear hG hg hr hP hF hwe s1 s2 HE
      go_end0
      exact ⟨rfl, hend, hof⟩

end Go.Proofs.YtdkkpcbebhgbiaaGreatDoor
