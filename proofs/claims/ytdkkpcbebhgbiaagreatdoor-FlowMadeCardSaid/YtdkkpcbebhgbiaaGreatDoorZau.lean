/- The walks over flow.isFormed, isPlaced; printed by gen/gen_og.py. -/
import Derived.Test.YtdkkpcbebhgbiaaGreatDoorZat
import Derived.Test.YtdkkpcbebhgbiaaGreatDoorZaj
namespace Go.Proofs.YtdkkpcbebhgbiaaGreatDoor
set_option maxRecDepth 100000
open Go.RowKit

/-- A method's rows as they lie. -/
def MeAt (w : World) (m : MeD) (Ac : Option Addr) (nc cc : Nat) (At : Option Addr) (nt ct : Nat) (Ap : Option Addr) (np cp : Nat) : Prop := RowS inT w Empty Ac nc cc m.code ∧ RowS trT w Empty At nt ct m.traps ∧ RowS mpT w Empty Ap np cp m.maps
theorem MeAt.below {w w' : World} {m : MeD} {Ac : Option Addr} {nc cc : Nat} {At : Option Addr} {nt ct : Nat} {Ap : Option Addr} {np cp : Nat} (h : MeAt w m Ac nc cc At nt ct Ap np cp) (q : Below w.heap.size w w') : MeAt w' m Ac nc cc At nt ct Ap np cp := ⟨h.1.below q, h.2.1.below q, h.2.2.below q⟩
def meA (m : MeD) (Ac : Option Addr) (nc cc : Nat) (At : Option Addr) (nt ct : Nat) (Ap : Option Addr) (np cp : Nat) : Array Value := #[.bool m.static, .string (strB m.name), .string (strB m.desc), .int .i64 m.stack, .int .i64 m.locals, .slice Ac nc cc, .slice At nt ct, .slice Ap np cp]
theorem all_not_any {α : Type} (p : α → Bool) : ∀ l : List α, (!l.any fun x => !p x) = l.all p
  | [] => rfl
  | x :: r => by
    rw [List.any_cons, List.all_cons, Bool.not_or, Bool.not_not, all_not_any p r]

set_option maxHeartbeats 2000000 in
theorem flFormed_any (m : MeD) (Ac : Option Addr) (nc cc : Nat) (At : Option Addr) (nt ct : Nat) (Ap : Option Addr) (np cp : Nat) (w : World) (h : MeAt w m Ac nc cc At nt ct Ap np cp) (hd : m.desc.length ≤ 1000000) (hT : Spans w) :
    Calls Tryz.prog 101 #[.agg #[.bool m.static, .string (strB m.name), .string (strB m.desc), .int .i64 m.stack, .int .i64 m.locals, .slice Ac nc cc, .slice At nt ct, .slice Ap np cp]] w fun e w' => e = .returned (.bool (formedB m)) ∧ Below w.heap.size w w' := by
  obtain ⟨hco, htr, hma⟩ := h
  obtain ⟨W1, hW1⟩ : ∃ W1, w.alloc (.cells #[.bool m.static, .string (strB m.name), .string (strB m.desc), .int .i64 m.stack, .int .i64 m.locals, .slice Ac nc cc, .slice At nt ct, .slice Ap np cp] 41) = W1 := ⟨_, rfl⟩
  have hbb : Below w.heap.size w W1 := by rw [← hW1]; exact (Below.refl _ _).alloc (Nat.le_refl _) _
  have k0 : Blk W1 w.heap.size 41 #[.bool m.static, .string (strB m.name), .string (strB m.desc), .int .i64 m.stack, .int .i64 m.locals, .slice Ac nc cc, .slice At nt ct, .slice Ap np cp] := by rw [← hW1]; exact Blk.new w _ _
  have hsz : w.heap.size < W1.heap.size := k0.lt
  have K1 : Hid (∀ W : World, Below W1.heap.size W1 W → W.cell? ⟨w.heap.size, 0, none⟩ = some (.bool m.static) ∧ W.cell? ⟨w.heap.size, 1, none⟩ = some (.string (strB m.name)) ∧ W.cell? ⟨w.heap.size, 2, none⟩ = some (.string (strB m.desc)) ∧ W.cell? ⟨w.heap.size, 3, none⟩ = some (.int .i64 m.stack) ∧ W.cell? ⟨w.heap.size, 4, none⟩ = some (.int .i64 m.locals) ∧ W.cell? ⟨w.heap.size, 5, none⟩ = some (.slice Ac nc cc) ∧ W.cell? ⟨w.heap.size, 6, none⟩ = some (.slice At nt ct) ∧ W.cell? ⟨w.heap.size, 7, none⟩ = some (.slice Ap np cp)) := Lib.hid (fun W h => ⟨(k0.of (h.block _ hsz)).cell 0, (k0.of (h.block _ hsz)).cell 1, (k0.of (h.block _ hsz)).cell 2, (k0.of (h.block _ hsz)).cell 3, (k0.of (h.block _ hsz)).cell 4, (k0.of (h.block _ hsz)).cell 5, (k0.of (h.block _ hsz)).cell 6, (k0.of (h.block _ hsz)).cell 7⟩)
  have HCO := Lib.hid (hco.below hbb)
  have HTR := Lib.hid (htr.below hbb)
  have HMA := Lib.hid (hma.below hbb)
  have HT := Lib.hid (hT.below hbb)
  have HBB := Lib.hid hbb
  have HW1 := Lib.hid hW1
  have hnc := hco.2.1
  have hcc := hco.2.2.1
  have hnt := htr.2.1
  have hct := htr.2.2.1
  have hnp := hma.2.1
  have hcp := hma.2.2.1
  unfold maxLen at hcc hct hcp
  have HLC := Lib.hid hco.1
  have CM := Lib.hid (method_any m.desc W1 hd)
  have CS := Lib.hid (fun (W : World) => flUpTo_any m.stack 64 W rfl)
  have CL := Lib.hid (fun (W : World) => flUpTo_any m.locals 64 W rfl)
  have CE := Lib.hid (fun (W : World) (q : Below W1.heap.size W1 W) => flHasEnd_any Ac nc cc m.code W (HCO.out.below q))
  have CC : Hid (∀ (W : World), Below W1.heap.size W1 W → inI m.locals 65 = true → Calls Tryz.prog 156 #[.slice Ac nc cc, .func (.func 154) #[] #[.pointer (some ⟨w.heap.size, 0, none⟩)]] W fun e w' => e = .returned (.bool (m.code.any fun x => !rightB x m.locals)) ∧ Below W.heap.size W w') := Lib.hid (fun W q hl => by
    have hl2 : 0 ≤ m.locals ∧ m.locals ≤ 64 := by
      unfold inI at hl
      simp only [Bool.and_eq_true, decide_eq_true_eq] at hl
      omega
    exact containsIn_any 154 ⟨w.heap.size, 0, none⟩ (fun x => !rightB x m.locals) Ac nc cc m.code W (HCO.out.below q) (enters_of Tryz.func154 (by kernel_rfl) rfl) (fun x _ W' q' _ => flFormed1_any x w.heap.size m.locals W' hl2 ((HT.out.below q).below q') (K1.out W' (q.trans (q'.mono q.size))).2.2.2.2.1))
  have HE : Hid (formedB m = ((((methodF m.desc).isSome && inI m.stack 65) && inI m.locals 65) && endB m.code && (!m.code.any fun x => !rightB x m.locals))) := Lib.hid (by rw [all_not_any]; rfl)
  unfold MethD at CM
  have HME : Hid (mErr (methodF m.desc) = if (methodF m.desc).isSome then 0 else 8) := Lib.hid rfl
  generalize hr : methodF m.desc = r at *
  clear hr
  obtain ⟨p0, p1, p2, p3, p4, p5, p6, p7⟩ := K1.out _ (Below.refl _ _)
  clear hco htr hma hT hbb k0 hW1
  cases hs : r.isSome with
  | false =>
    rw [hs] at HE HME
    go_enter Tryz.func101, Tryz.ntmps101
    go_wp2_with fail
    rw [HW1.out]
    go_wp2_with fail
    refine CM.out.mono ?_
    rintro e w1 ⟨⟨A0, n0, c0, rfl, -⟩, hb⟩
    rw [HME.out]
    have HB1 := Lib.hid hb
    obtain ⟨q0, q1, q2, q3, q4, q5, q6, q7⟩ := K1.out _ hb
    clear p0 p1 p2 p3 p4 p5 p6 p7 hb
    go_wp2
    go_ret
    exact ⟨by rw [HE.out]; rfl, HBB.out.trans (HB1.out.mono HBB.out.size)⟩
  | true =>
    rw [hs] at HE HME
    cases h1 : inI m.stack 65 with
    | false =>
      rw [h1] at HE CS
      go_enter Tryz.func101, Tryz.ntmps101
      go_wp2_with fail
      rw [HW1.out]
      go_wp2_with fail
      refine CM.out.mono ?_
      rintro e w1 ⟨⟨A0, n0, c0, rfl, -⟩, hb⟩
      rw [HME.out]
      have HB1 := Lib.hid hb
      obtain ⟨q0, q1, q2, q3, q4, q5, q6, q7⟩ := K1.out _ hb
      clear p0 p1 p2 p3 p4 p5 p6 p7 hb
      go_wp2_with fail
      refine (CS.out _).mono ?_
      rintro e w2 ⟨rfl, rfl⟩
      go_wp2
      go_ret
      exact ⟨by rw [HE.out]; rfl, HBB.out.trans (HB1.out.mono HBB.out.size)⟩
    | true =>
      rw [h1] at HE CS
      cases h2 : inI m.locals 65 with
      | false =>
        rw [h2] at HE CL
        go_enter Tryz.func101, Tryz.ntmps101
        go_wp2_with fail
        rw [HW1.out]
        go_wp2_with fail
        refine CM.out.mono ?_
        rintro e w1 ⟨⟨A0, n0, c0, rfl, -⟩, hb⟩
        rw [HME.out]
        have HB1 := Lib.hid hb
        obtain ⟨q0, q1, q2, q3, q4, q5, q6, q7⟩ := K1.out _ hb
        clear p0 p1 p2 p3 p4 p5 p6 p7 hb
        go_wp2_with fail
        refine (CS.out _).mono ?_
        rintro e w2 ⟨rfl, rfl⟩
        go_wp2_with fail
        refine (CL.out _).mono ?_
        rintro e w2 ⟨rfl, rfl⟩
        go_wp2
        go_ret
        exact ⟨by rw [HE.out]; rfl, HBB.out.trans (HB1.out.mono HBB.out.size)⟩
      | true =>
        have CC2 := Lib.hid (fun W q => CC.out W q h2)
        rw [h2] at HE CL
        clear CC
        cases h3 : endB m.code with
        | false =>
          rw [h3] at HE CE
          go_enter Tryz.func101, Tryz.ntmps101
          go_wp2_with fail
          rw [HW1.out]
          go_wp2_with fail
          refine CM.out.mono ?_
          rintro e w1 ⟨⟨A0, n0, c0, rfl, -⟩, hb⟩
          rw [HME.out]
          have HB1 := Lib.hid hb
          obtain ⟨q0, q1, q2, q3, q4, q5, q6, q7⟩ := K1.out _ hb
          clear p0 p1 p2 p3 p4 p5 p6 p7 hb
          go_wp2_with fail
          refine (CS.out _).mono ?_
          rintro e w2 ⟨rfl, rfl⟩
          go_wp2_with fail
          refine (CL.out _).mono ?_
          rintro e w2 ⟨rfl, rfl⟩
          go_wp2_with fail
          refine (CE.out _ HB1.out).mono ?_
          rintro e w2 ⟨rfl, rfl⟩
          go_wp2
          go_ret
          exact ⟨by rw [HE.out]; rfl, HBB.out.trans (HB1.out.mono HBB.out.size)⟩
        | true =>
          rw [h3] at HE CE
          go_enter Tryz.func101, Tryz.ntmps101
          go_wp2_with fail
          rw [HW1.out]
          go_wp2_with fail
          refine CM.out.mono ?_
          rintro e w1 ⟨⟨A0, n0, c0, rfl, -⟩, hb⟩
          rw [HME.out]
          have HB1 := Lib.hid hb
          obtain ⟨q0, q1, q2, q3, q4, q5, q6, q7⟩ := K1.out _ hb
          clear p0 p1 p2 p3 p4 p5 p6 p7 hb
          go_wp2_with fail
          refine (CS.out _).mono ?_
          rintro e w2 ⟨rfl, rfl⟩
          go_wp2_with fail
          refine (CL.out _).mono ?_
          rintro e w2 ⟨rfl, rfl⟩
          go_wp2_with fail
          refine (CE.out _ HB1.out).mono ?_
          rintro e w2 ⟨rfl, rfl⟩
          go_wp2_with fail
          refine (CC2.out _ HB1.out).mono ?_
          rintro e w2 ⟨rfl, hb2⟩
          have HB2 := Lib.hid (HB1.out.trans (hb2.mono HB1.out.size))
          clear hb2
          go_wp2
          go_ret
          exact ⟨by rw [HE.out]; rfl, HBB.out.trans (HB2.out.mono HBB.out.size)⟩

set_option maxHeartbeats 2000000 in
theorem flPlaced_any (m : MeD) (Ac : Option Addr) (nc cc : Nat) (At : Option Addr) (nt ct : Nat) (Ap : Option Addr) (np cp : Nat) (w : World) (h : MeAt w m Ac nc cc At nt ct Ap np cp) (hT : Spans w) :
    Calls Tryz.prog 102 #[.agg #[.bool m.static, .string (strB m.name), .string (strB m.desc), .int .i64 m.stack, .int .i64 m.locals, .slice Ac nc cc, .slice At nt ct, .slice Ap np cp]] w fun e w' => e = .returned (.bool (placedB m)) ∧ Below w.heap.size w w' := by
  obtain ⟨hco, htr, hma⟩ := h
  obtain ⟨W1, hW1⟩ : ∃ W1, w.alloc (.cells #[.bool m.static, .string (strB m.name), .string (strB m.desc), .int .i64 m.stack, .int .i64 m.locals, .slice Ac nc cc, .slice At nt ct, .slice Ap np cp] 41) = W1 := ⟨_, rfl⟩
  have hbb : Below w.heap.size w W1 := by rw [← hW1]; exact (Below.refl _ _).alloc (Nat.le_refl _) _
  have k0 : Blk W1 w.heap.size 41 #[.bool m.static, .string (strB m.name), .string (strB m.desc), .int .i64 m.stack, .int .i64 m.locals, .slice Ac nc cc, .slice At nt ct, .slice Ap np cp] := by rw [← hW1]; exact Blk.new w _ _
  have hsz : w.heap.size < W1.heap.size := k0.lt
  have K1 : Hid (∀ W : World, Below W1.heap.size W1 W → W.cell? ⟨w.heap.size, 0, none⟩ = some (.bool m.static) ∧ W.cell? ⟨w.heap.size, 1, none⟩ = some (.string (strB m.name)) ∧ W.cell? ⟨w.heap.size, 2, none⟩ = some (.string (strB m.desc)) ∧ W.cell? ⟨w.heap.size, 3, none⟩ = some (.int .i64 m.stack) ∧ W.cell? ⟨w.heap.size, 4, none⟩ = some (.int .i64 m.locals) ∧ W.cell? ⟨w.heap.size, 5, none⟩ = some (.slice Ac nc cc) ∧ W.cell? ⟨w.heap.size, 6, none⟩ = some (.slice At nt ct) ∧ W.cell? ⟨w.heap.size, 7, none⟩ = some (.slice Ap np cp)) := Lib.hid (fun W h => ⟨(k0.of (h.block _ hsz)).cell 0, (k0.of (h.block _ hsz)).cell 1, (k0.of (h.block _ hsz)).cell 2, (k0.of (h.block _ hsz)).cell 3, (k0.of (h.block _ hsz)).cell 4, (k0.of (h.block _ hsz)).cell 5, (k0.of (h.block _ hsz)).cell 6, (k0.of (h.block _ hsz)).cell 7⟩)
  have HCO := Lib.hid (hco.below hbb)
  have HTR := Lib.hid (htr.below hbb)
  have HMA := Lib.hid (hma.below hbb)
  have HT := Lib.hid (hT.below hbb)
  have HBB := Lib.hid hbb
  have HW1 := Lib.hid hW1
  have hnc := hco.2.1
  have hcc := hco.2.2.1
  have hnt := htr.2.1
  have hct := htr.2.2.1
  have hnp := hma.2.1
  have hcp := hma.2.2.1
  unfold maxLen at hcc hct hcp
  have HLC := Lib.hid hco.1
  have hnl := hco.1
  obtain ⟨W2, hW2⟩ : ∃ W2, W1.alloc (.cells #[.int .i64 (nc : Int)] 3) = W2 := ⟨_, rfl⟩
  have hb2 : Below W1.heap.size W1 W2 := by rw [← hW2]; exact (Below.refl _ _).alloc (Nat.le_refl _) _
  have hs1 : W1.heap.size = w.heap.size + 1 := by rw [← hW1]; simp
  have k2 : Blk W2 (w.heap.size + 1) 3 #[.int .i64 (nc : Int)] := by rw [← hs1, ← hW2]; exact Blk.new W1 _ _
  have K2 : Hid (∀ W : World, Below W2.heap.size W2 W → W.cell? ⟨w.heap.size + 1, 0, none⟩ = some (.int .i64 (nc : Int))) := Lib.hid (fun W h => (k2.of (h.block _ k2.lt)).cell 0)
  have HB2 := Lib.hid hb2
  have HW2 := Lib.hid hW2
  have C1 : Hid (∀ (W : World), Below W2.heap.size W2 W → Calls Tryz.prog 156 #[.slice Ac nc cc, .func (.func 157) #[] #[.pointer (some ⟨w.heap.size + 1, 0, none⟩)]] W fun e w' => e = .returned (.bool (m.code.any (astrayB nc))) ∧ Below W.heap.size W w') := Lib.hid (fun W q =>
    containsIn_any 157 ⟨w.heap.size + 1, 0, none⟩ (astrayB nc) Ac nc cc m.code W ((HCO.out.below HB2.out).below q) (enters_of Tryz.func157 (by kernel_rfl) rfl) (fun x _ W' q' _ => flPlaced1_any x (w.heap.size + 1) nc W' (by omega) (((HT.out.below HB2.out).below q).below q') (K2.out W' (q.trans (q'.mono q.size)))))
  have C2 : Hid (∀ (W : World), Below W2.heap.size W2 W → Calls Tryz.prog 159 #[.slice At nt ct, .func (.func 158) #[] #[.pointer (some ⟨w.heap.size + 1, 0, none⟩)]] W fun e w' => e = .returned (.bool (m.traps.any (wrongB nc))) ∧ Below W.heap.size W w') := Lib.hid (fun W q =>
    containsTr_any 158 ⟨w.heap.size + 1, 0, none⟩ (wrongB nc) At nt ct m.traps W ((HTR.out.below HB2.out).below q) (enters_of Tryz.func158 (by kernel_rfl) rfl) (fun x _ W' q' _ => flPlaced2_any x (w.heap.size + 1) nc W' (K2.out W' (q.trans (q'.mono q.size)))))
  have C3 := Lib.hid (fun (W : World) (q : Below W2.heap.size W2 W) => flRising_any Ap np cp m.maps nc W ((HMA.out.below HB2.out).below q))
  have HE : Hid (placedB m = (!m.code.any (astrayB nc) && !m.traps.any (wrongB nc) && risingB nc (-1) m.maps)) := Lib.hid (by unfold placedB; rw [hnl])
  obtain ⟨p0, p1, p2, p3, p4, p5, p6, p7⟩ := K1.out _ (Below.refl _ _)
  obtain ⟨r0, r1, r2, r3, r4, r5, r6, r7⟩ := K1.out _ hb2
  have r8 := K2.out _ (Below.refl _ _)
  clear hco htr hma hT hbb k0 hW1 hb2 k2 hW2 hnl hs1
  cases h1 : m.code.any (astrayB nc) with
  | true =>
    rw [h1] at HE C1
    go_enter Tryz.func102, Tryz.ntmps102
    go_wp2_with fail
    rw [HW1.out]
    go_wp2_with fail
    rw [HW2.out]
    go_wp2_with fail
    refine (C1.out _ (Below.refl _ _)).mono ?_
    rintro e w3 ⟨rfl, hb⟩
    have HB3 := Lib.hid hb
    obtain ⟨q0, q1, q2, q3, q4, q5, q6, q7⟩ := K1.out _ (HB2.out.trans (hb.mono HB2.out.size))
    have q8 := K2.out _ hb
    clear p0 p1 p2 p3 p4 p5 p6 p7 r0 r1 r2 r3 r4 r5 r6 r7 r8 hb
    go_wp2
    go_ret
    exact ⟨by rw [HE.out]; rfl, HBB.out.trans ((HB2.out.trans (HB3.out.mono HB2.out.size)).mono HBB.out.size)⟩
  | false =>
    rw [h1] at HE C1
    cases h2 : m.traps.any (wrongB nc) with
    | true =>
      rw [h2] at HE C2
      go_enter Tryz.func102, Tryz.ntmps102
      go_wp2_with fail
      rw [HW1.out]
      go_wp2_with fail
      rw [HW2.out]
      go_wp2_with fail
      refine (C1.out _ (Below.refl _ _)).mono ?_
      rintro e w3 ⟨rfl, hb⟩
      have HB3 := Lib.hid hb
      obtain ⟨q0, q1, q2, q3, q4, q5, q6, q7⟩ := K1.out _ (HB2.out.trans (hb.mono HB2.out.size))
      have q8 := K2.out _ hb
      clear p0 p1 p2 p3 p4 p5 p6 p7 r0 r1 r2 r3 r4 r5 r6 r7 r8 hb
      go_wp2_with fail
      refine (C2.out _ HB3.out).mono ?_
      rintro e w4 ⟨rfl, hb⟩
      have HB4 := Lib.hid (HB3.out.trans (hb.mono HB3.out.size))
      obtain ⟨s0, s1, s2, s3, s4, s5, s6, s7⟩ := K1.out _ (HB2.out.trans (HB4.out.mono HB2.out.size))
      have s8 := K2.out _ HB4.out
      clear q0 q1 q2 q3 q4 q5 q6 q7 q8 hb
      go_wp2
      go_ret
      exact ⟨by rw [HE.out]; rfl, HBB.out.trans ((HB2.out.trans (HB4.out.mono HB2.out.size)).mono HBB.out.size)⟩
    | false =>
      rw [h2] at HE C2
      go_enter Tryz.func102, Tryz.ntmps102
      go_wp2_with fail
      rw [HW1.out]
      go_wp2_with fail
      rw [HW2.out]
      go_wp2_with fail
      refine (C1.out _ (Below.refl _ _)).mono ?_
      rintro e w3 ⟨rfl, hb⟩
      have HB3 := Lib.hid hb
      obtain ⟨q0, q1, q2, q3, q4, q5, q6, q7⟩ := K1.out _ (HB2.out.trans (hb.mono HB2.out.size))
      have q8 := K2.out _ hb
      clear p0 p1 p2 p3 p4 p5 p6 p7 r0 r1 r2 r3 r4 r5 r6 r7 r8 hb
      go_wp2_with fail
      refine (C2.out _ HB3.out).mono ?_
      rintro e w4 ⟨rfl, hb⟩
      have HB4 := Lib.hid (HB3.out.trans (hb.mono HB3.out.size))
      obtain ⟨s0, s1, s2, s3, s4, s5, s6, s7⟩ := K1.out _ (HB2.out.trans (HB4.out.mono HB2.out.size))
      have s8 := K2.out _ HB4.out
      clear q0 q1 q2 q3 q4 q5 q6 q7 q8 hb
      go_wp2_with fail
      refine (C3.out _ HB4.out).mono ?_
      rintro e w5 ⟨rfl, hb⟩
      have HB5 := Lib.hid (HB4.out.trans (hb.mono HB4.out.size))
      clear hb
      go_wp2
      go_ret
      exact ⟨by rw [HE.out]; rfl, HBB.out.trans ((HB2.out.trans (HB5.out.mono HB2.out.size)).mono HBB.out.size)⟩

end Go.Proofs.YtdkkpcbebhgbiaaGreatDoor
