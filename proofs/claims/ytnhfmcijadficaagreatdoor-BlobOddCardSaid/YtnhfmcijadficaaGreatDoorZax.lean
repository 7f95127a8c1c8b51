/- The walk over a plan's open. -/
import Derived.Test.YtnhfmcijadficaaGreatDoorZaw
import Derived.Deep.RegionHeld3
import Derived.Test.YtnhfmcijadficaaGreatDoorZac
namespace Go.Proofs.YtnhfmcijadficaaGreatDoor
set_option maxRecDepth 100000
open Go.RowKit

/-- A plan behind an open of sector i, which was as s. -/
def PV.opened (P : PV) (i Z : Nat) (s : Sc) : PV :=
  ⟨P.l.set i ⟨2, lastQ P.l + 1, if s.st = 1 then s.er + 1 else s.er⟩, ⟨(i : Int), ((i * Z + 12 : Nat) : Int), ((Z - 12 : Nat) : Int), 0⟩, P.sts ++ [.open_ i (lastQ P.l + 1).toNat]⟩

theorem FS.plan {w w' : World} {p c e Z L g base : Nat} {ss : List (Nat × List UInt8)} (h : FS w p c e Z L ss) (o : PO g base w w') (hTh : ∀ q, Three p c e q → q < base ∧ q ≠ g) : FS w' p c e Z L ss := by
  have hn : ∀ q, Three p c e q → ¬ PlanT g base q := fun q h1 h2 => by
    have := hTh q h1
    rcases h2 with h2 | h2 <;> omega
  exact h.of o.only (hn p (Or.inl rfl)) (hn c (Or.inr (Or.inl rfl))) (hn e (Or.inr (Or.inr rfl)))
theorem PlanAt.drew {w : World} {g base p mb Z : Nat} {vk : Value} {R : PP} {P : PV} (h : PlanAt w g base p mb Z vk R P) : PlanAt w.drew g base p mb Z vk R P :=
  h.only (Only.refl Empty w).drew (fun h => h) (fun _ _ _ h => h)

/-- How a plan's open ends, where a sector can be opened. -/
def Opened (g base p mb Z : Nat) (vk : Value) (P : PV) (i : Nat) (s : Sc) (w w' : World) (e1 : Ending) : Prop :=
  e1 = .returned (.bool true) ∧ (∃ R', PlanAt w' g base p mb Z vk R' (P.opened i Z s)) ∧ PO g base w w'

set_option maxHeartbeats 1000000 in
theorem pOpen_dirty (g base p c e mb Z L : Nat) (vk : Value) (R : PP) (P : PV) (i : Nat) (s : Sc) (ss : List (Nat × List UInt8)) (w : World) (hP : PlanAt w g base p mb Z vk R P) (hs : FS w p c e Z L ss) (hTh : ∀ q, Three p c e q → q < base ∧ q ≠ g) (hq : Q32 P.l) (hn : P.l.length ≤ 64) (hst : P.sts.length ≤ 1000000)
    (hbase : base ≤ w.heap.size) (hbest : best (opensB (L : Int)) Sc.er P.l P.l.length = some i) (hi : P.l[i]? = some s) (her : 0 ≤ s.er ∧ s.er ≤ 2097152) (hlq : ¬ lastQ P.l = 4294967295) (hst1 : (s.st == 1) = true) (hss : ss.length = P.l.length) :
    Calls Tryz.prog 126 #[.pointer (some ⟨g, 0, none⟩)] w fun e1 w' => Opened g base p mb Z vk P i s w w' e1 := by
  obtain ⟨A, cap, As, cs⟩ := R
  have hilt : i < P.l.length := (List.getElem?_eq_some_iff.1 hi).1
  have hz := hs.bz
  have hq32 := lastQ_le P.l hq
  have hit : i * Z ≤ 4194304 := by
    have h1 : i * Z ≤ ss.length * Z := Nat.mul_le_mul_right _ (by omega)
    omega
  have HP := Lib.hid hP
  have HS := Lib.hid hs
  have HTh := Lib.hid hTh
  have HQ := Lib.hid hq
  have Hbest := Lib.hid hbest
  have Hi := Lib.hid hi
  have hopd : Hid (P.opened i Z s = ⟨P.l.set i ⟨2, lastQ P.l + 1, s.er + 1⟩, ⟨(i : Int), ((i * Z + 12 : Nat) : Int), ((Z - 12 : Nat) : Int), 0⟩, P.sts ++ [.open_ i (lastQ P.l + 1).toNat]⟩) := Lib.hid (by
    unfold PV.opened
    rw [if_pos (by simpa using hst1)])
  obtain ⟨Q, hQ⟩ : ∃ Q : Int, Q = lastQ P.l := ⟨_, rfl⟩
  have hns : Hid (nsV P.l = .tuple #[.int .u32 (Q + 1), .bool true]) := Lib.hid (by unfold nsV; rw [if_neg hlq, hQ])
  rw [← hQ] at hopd hq32 hlq
  have hQ1 : 0 ≤ Q + 1 ∧ Q + 1 ≤ 4294967295 := by omega
  obtain ⟨n, hne⟩ : ∃ n, n = P.l.length := ⟨_, rfl⟩
  obtain ⟨T, hT⟩ : ∃ T, T = i * Z := ⟨_, rfl⟩
  obtain ⟨V, hV⟩ : ∃ V, V = Z - 12 := ⟨_, rfl⟩
  rw [← hT, ← hV] at hopd
  rw [← hT] at hit
  have HT := Lib.hid hT
  have HV := Lib.hid hV
  have c2 : w.cell? ⟨g, 2, none⟩ = some (.slice A n cap) := by rw [hne]; exact hP.blk.cell 2
  have hO0 : Hid (∀ W, Only Empty w W → W.cell? ⟨g, 2, none⟩ = some (.slice A n cap)) := Lib.hid (fun W hW => by rw [hne]; exact (hW.blk hP.blk (fun h => h)).cell 2)
  have Hlim := Lib.hid (fun W (hW : Only Empty w W) => limit_any g p c e Z L _ ss W (hW.blk hP.blk (fun h => h)) rfl (hs.of hW (fun h => h) (fun h => h) (fun h => h)))
  have Hnx := Lib.hid (fun W (hW : Only Empty w W) => next_any A n cap P.l (L : Int) W (by rw [hne]; exact hP.secs.row.only hW (fun _ _ h => h)) (by omega) (some i) (by rw [hne]; exact hbest))
  have hpv : placeV (some i) = .int .i64 (i : Int) := rfl
  have hin : i < n := by omega
  have hncap : n ≤ cap := by rw [hne]; exact hP.secs.row.2.1
  simp only [hpv, Option.isSome_some] at Hnx
  have Hne := Lib.hid hne
  clear hP hs hTh hq hbest hi hz hT hV hQ hlq hne hpv hss
  go_enter Tryz.func126, Tryz.ntmps126
  go_wp2_with fail
  have hD := (Only.refl Empty w).drew
  have hs1 := hO0.out _ hD
  have HD := Lib.hid hD
  clear hD
  first | (go_region_held3 (fun W => W.cell? ⟨g, 2, none⟩ = some (.slice A n cap)) (first | with_reducible exact hs1 | with_reducible exact hs10 | with_reducible exact hs11)
    (first | (go_at_call 125; (with_reducible refine (Hlim.out _ HD.out).mono ?_); rintro e10 w10 ⟨rfl, hb10⟩; have hO10 := HD.out.trans (Only.of_below (S := Empty) hb10); have hs10 := hO0.out _ hO10)
           | (go_at_call 160; (with_reducible refine (Hnx.out _ hO10).mono ?_); rintro e11 w11 ⟨rfl, hb11⟩; have hO11 := hO10.trans (Only.of_below (S := Empty) hb11); have hs11 := hO0.out _ hO11))) | fail
  have HP11 := Lib.hid (HP.out.only hO11 (fun h => h) (fun _ _ _ h => h))
  have HS11 := Lib.hid (HS.out.of hO11 (fun h => h) (fun h => h) (fun h => h))
  have HO11 := Lib.hid (PO.of_empty (g := g) (base := base) hO11)
  have hnx := nextSeq_any g base p mb Z vk _ P w11 HP11.out HQ.out (by omega)
  rw [hns.out] at hnx
  have HNS := Lib.hid hnx
  clear hO11 hs1 hb10 hO10 hs10 hb11 hnx Hnx Hlim hO0 HD c2
  go_wp2_with fail
  refine HNS.out.mono ?_
  rintro e12 w12 ⟨rfl, hb12⟩
  have HP12 := Lib.hid (HP11.out.below hb12)
  have HS12 := Lib.hid (HS11.out.below hb12)
  have HO12 := Lib.hid (HO11.out.trans (PO.of_below (g := g) (base := base) hb12))
  obtain ⟨b, cur, hA, hb, hB, hbg, hcl⟩ := HP12.out.gs hilt
  simp only at hA
  subst hA
  have d0 := hcl s Hi.out 0 (by omega)
  have d1 := hcl s Hi.out 1 (by omega)
  have d2 := hcl s Hi.out 2 (by omega)
  simp [Sc.cells] at d0 d1 d2
  have f0 := hB.frozen (i * 3)
  have f1 := hB.frozen (i * 3 + 1)
  have f2 := hB.frozen (i * 3 + 2)
  have c2 : w12.cell? ⟨g, 2, none⟩ = some (.slice (some ⟨b, 0, none⟩) n cap) := by rw [Hne.out]; exact HP12.out.blk.cell 2
  have hset := HP12.out.set_sec hilt rfl hb hB ⟨2, Q + 1, s.er + 1⟩
  have Hset := Lib.hid hset
  have hgl := HP12.out.blk.lt
  have hbl := hB.lt
  clear hb12 hset hcl hB
  go_wp2_with fail
  obtain ⟨w13, h13⟩ : ∃ w13, w13 = ((w12.setCell ⟨b, i * 3, none⟩ (.int .i64 2)).setCell ⟨b, i * 3 + 1, none⟩ (.int .u32 (Q + 1))).setCell ⟨b, i * 3 + 2, none⟩ (.int .i64 (s.er + 1)) := ⟨_, rfl⟩
  rw [← h13] at Hset ⊢
  have HP13 := Lib.hid Hset.out.1.drew
  have HO13 := Lib.hid (HO12.out.trans Hset.out.2).drew
  clear h13 Hset d0 d1 d2 f0 f1 f2 c2 hgl hbl HP12 HP11 HP hst1 HNS
  have hsz13 : base ≤ w13.drew.heap.size := Nat.le_trans hbase HO13.out.size
  obtain ⟨As2, cs2, w14, hrun, hP14, hO14, c8b, f8b, -⟩ := HP13.out.step_run (.open_ i (Q + 1).toNat) (Nat.le_trans hst (by decide)) hsz13
  have hv : Stp.v p Z (.open_ i (Q + 1).toNat) = .func (.func 162) #[.agg #[.pointer (some ⟨p, 0, none⟩), .int .i64 (i : Int), .int .u32 (Q + 1)]] #[] := by
    show Value.func _ #[.agg #[_, _, .int .u32 (((Q + 1).toNat : Nat) : Int)]] _ = _
    rw [Int.toNat_of_nonneg hQ1.1]
  rw [hv] at hrun
  have c0 : w13.cell? ⟨g, 0, none⟩ = some (.pointer (some ⟨p, 0, none⟩)) := HP13.out.blk.cell 0
  have c8 : w13.cell? ⟨g, 8, none⟩ = some (.slice As P.sts.length cs) := HP13.out.blk.cell 8
  have hgl : g < w13.heap.size := HP13.out.blk.lt
  replace hrun : (Builtin.append_ #[93, 93] 93 #[.slice As P.sts.length cs, .slice (some ⟨w13.heap.size, 0, none⟩) 1 1]).run Tryz.prog (w13.alloc (.cells #[.func (.func 162) #[.agg #[.pointer (some ⟨p, 0, none⟩), .int .i64 (i : Int), .int .u32 (Q + 1)]] #[]] 150)).drew = .ok (.slice As2 (P.sts.length + 1) cs2) w14 := hrun
  simp only at hrun c8b hP14 hO14
  obtain ⟨k, hk⟩ : ∃ k, k = P.sts.length := ⟨_, rfl⟩
  rw [← hk] at hrun c8 c8b hP14 hO14 hst
  have Hk := Lib.hid hk
  have HP14 := Lib.hid hP14
  have HO14 := Lib.hid (HO13.out.trans hO14)
  clear hv hk hP14 hO14
  go_region_law (refine step_append_eq (ts := 93) rfl (.tmp 62) (.tmp 71) rfl rfl rfl rfl hrun ?_)
  all_goals
    obtain ⟨w15, h15⟩ : ∃ w15, w15 = w14.setCell ⟨g, 8, none⟩ (.slice As2 (k + 1) cs2) := ⟨_, rfl⟩
    rw [← h15] at HP14 HO14 ⊢
    have HS15 := Lib.hid (HS.out.plan HO14.out HTh.out)
    have e0 : w15.cell? ⟨g, 0, none⟩ = some (.pointer (some ⟨p, 0, none⟩)) := HP14.out.blk.cell 0
    have hgz := geo_field1 (ss.length : Int) (Z : Int) (L : Int)
    have hmul : (i : Int) * (Z : Int) = (T : Int) := by rw [HT.out]; simp
    clear h15 hrun c0 c8 c8b f8b hgl hsz13
    go_wp2_with fail
    refine HS15.out.geo.mono ?_
    rintro e16 w16 ⟨rfl, hb16⟩
    have HP16 := Lib.hid (HP14.out.below hb16)
    have HO16 := Lib.hid (HO14.out.trans (PO.of_below (g := g) (base := base) hb16))
    have e1 : w16.cell? ⟨g, 0, none⟩ = some (.pointer (some ⟨p, 0, none⟩)) := HP16.out.blk.cell 0
    have Hbe := Lib.hid (behind_any p c e Z L ss w16 (HS15.out.below hb16))
    rw [← HV.out] at Hbe
    clear hb16 e0
    go_wp2_with fail
    refine Hbe.out.mono ?_
    rintro e17 w17 ⟨rfl, hb17⟩
    have HP17 := Lib.hid (HP16.out.below hb17)
    have HO17 := Lib.hid (HO16.out.trans (PO.of_below (g := g) (base := base) hb17))
    have q4 : w17.cell? ⟨g, 4, none⟩ = some (.int .i64 P.h.sec) := HP17.out.blk.cell 4
    have q5 : w17.cell? ⟨g, 5, none⟩ = some (.int .i64 P.h.next) := HP17.out.blk.cell 5
    have q6 : w17.cell? ⟨g, 6, none⟩ = some (.int .i64 P.h.left) := HP17.out.blk.cell 6
    have q7 : w17.cell? ⟨g, 7, none⟩ = some (.int .u32 P.h.txn) := HP17.out.blk.cell 7
    have r4 := HP17.out.blk.frozen 4
    have r5 := HP17.out.blk.frozen 5
    have r6 := HP17.out.blk.frozen 6
    have r7 := HP17.out.blk.frozen 7
    have hsh := HP17.out.set_head ⟨(i : Int), ((T + 12 : Nat) : Int), (V : Int), 0⟩
    have hT12 : ((T + 12 : Nat) : Int) = (T : Int) + 12 := by simp
    rw [hT12] at hsh hopd
    have Hsh := Lib.hid hsh
    have hgl17 := HP17.out.blk.lt
    clear hb17 e1 hsh Hbe
    go_wp2_with fail
    go_ret
    exact ⟨rfl, ⟨_, by rw [hopd.out]; exact Hsh.out.1⟩, HO17.out.trans Hsh.out.2⟩

end Go.Proofs.YtnhfmcijadficaaGreatDoor

/- The walk over a plan's lay. -/
namespace Go.Proofs.YtnhfmcijadficaaGreatDoor
set_option maxRecDepth 100000
open Go.RowKit

theorem PlanAt.cell_ {w : World} {g base p mb Z : Nat} {vk : Value} {R : PP} {P : PV} (h : PlanAt w g base p mb Z vk R P) (j : Nat) (v : Value) (x : HeadV) (e : ∀ vs vst, (planC p mb vs vk P.h vst).setIfInBounds j v = planC p mb vs vk x vst) :
    PlanAt (w.setCell ⟨g, j, none⟩ v) g base p mb Z vk R { P with h := x } ∧ PO g base w (w.setCell ⟨g, j, none⟩ v) := by
  have hO : Only (· = g) w (w.setCell ⟨g, j, none⟩ v) := (Only.refl (· = g) w).setCell (p := ⟨g, j, none⟩) (Or.inl rfl) _
  refine ⟨⟨?_, h.secs.far Sc.cells_len h.blk (by decide) hO, h.sts.far (stp_len p Z) h.blk (by decide) hO⟩, hO.mono (fun q _ hq => Or.inl hq), Keep.of_block h.blk (Or.inl rfl) hO⟩
  have h1 := h.blk.set_ j v
  rw [e] at h1
  exact h1

/-- A plan behind a commit that was laid in its head. -/
def PV.laid (P : PV) (k o t : Nat) (A : Option Addr) (n cap : Nat) (l : List Ch) : PV :=
  ⟨P.l, ⟨P.h.sec, P.h.next + (roomL l : Int), P.h.left - (roomL l : Int), P.h.txn + 1⟩, P.sts ++ [.lay k o t A n cap l]⟩

set_option maxHeartbeats 1000000 in
theorem pLay_any (g base p mb Z : Nat) (vk : Value) (R : PP) (P : PV) (k o t : Nat) (A : Option Addr) (n cap : Nat) (l : List Ch) (w : World) (hP : PlanAt w g base p mb Z vk R P) (hlen : l.length = n) (hC : ∀ W, PO g base w W → Chs W Empty A n cap l) (hF : Fair l) (hn : n ≤ 1024) (hst : P.sts.length ≤ 1000000) (hbase : base ≤ w.heap.size)
    (hnx : P.h.next = ((k * Z + o : Nat) : Int)) (ht : P.h.txn + 1 = (t : Int)) (ht1 : 0 ≤ P.h.txn) (ht2 : P.h.txn ≤ 4294901759) (hkz : k * Z + o ≤ 4194304) (hlf : 0 ≤ P.h.left ∧ P.h.left ≤ 65536) :
    Calls Tryz.prog 48 #[.pointer (some ⟨g, 0, none⟩), .slice A n cap] w fun e1 w' => e1 = .returned (.tuple #[]) ∧ (∃ R', PlanAt w' g base p mb Z vk R' (P.laid k o t A n cap l)) ∧ PO g base w w' := by
  obtain ⟨RA, Rc, As, cs⟩ := R
  obtain ⟨pl, ⟨hsec, hnext, hleft, htxn⟩, sts⟩ := P
  simp only at hst hnx ht ht1 ht2 hlf
  have HP := Lib.hid hP
  have HC := Lib.hid hC
  have HF := Lib.hid hF
  have hrl := roomL_le l hF
  rw [hlen] at hrl
  have hlaid : Hid (PV.laid ⟨pl, ⟨hsec, hnext, hleft, htxn⟩, sts⟩ k o t A n cap l = ⟨pl, ⟨hsec, hnext + (roomL l : Int), hleft - (roomL l : Int), htxn + 1⟩, sts ++ [.lay k o t A n cap l]⟩) := Lib.hid rfl
  have Hro := Lib.hid (fun W (hW : PO g base w W) => roomOf_any A n cap l W (hC W hW) hF hn)
  obtain ⟨M, hM⟩ : ∃ M, M = roomL l := ⟨_, rfl⟩
  rw [← hM] at hlaid Hro hrl
  have c7 : w.cell? ⟨g, 7, none⟩ = some (.int .u32 htxn) := hP.blk.cell 7
  have f7 := hP.blk.frozen 7
  have hgl := hP.blk.lt
  have Hnx := Lib.hid hnx
  have Ht := Lib.hid ht
  have hkb := hnx
  have hh1 := hP.cell_ 7 (.int .u32 (htxn + 1)) ⟨hsec, hnext, hleft, htxn + 1⟩ (fun vs vst => by simp [planC])
  obtain ⟨w1, hw1⟩ : ∃ w1, w1 = w.setCell ⟨g, 7, none⟩ (.int .u32 (htxn + 1)) := ⟨_, rfl⟩
  rw [← hw1] at hh1
  have Hh1 := Lib.hid hh1
  have hbn : 0 ≤ hnext ∧ hnext ≤ 4194304 := by omega
  clear hP hC hF hM hnx hh1 hkb ht hlen
  go_enter Tryz.func48, Tryz.ntmps48
  go_wp2_with fail
  rw [← hw1]
  have HP1 := Lib.hid Hh1.out.1.drew
  have HO1 := Lib.hid Hh1.out.2.drew
  have hsz1 : base ≤ w1.drew.heap.size := Nat.le_trans hbase HO1.out.size
  obtain ⟨As2, cs2, w2, hrun, hP2, hO2, c8b, f8b, hB2⟩ := HP1.out.step_run (.lay k o t A n cap l) (Nat.le_trans hst (by decide)) hsz1
  have hv : Stp.v p Z (.lay k o t A n cap l) = .func (.func 91) #[.agg #[.pointer (some ⟨p, 0, none⟩), .int .i64 hnext, .int .u32 (htxn + 1), .slice A n cap]] #[] := by
    show Value.func _ #[.agg #[_, .int .i64 ((k * Z + o : Nat) : Int), .int .u32 (t : Int), _]] _ = _
    rw [← Hnx.out, ← Ht.out]
  rw [hv] at hrun
  have c0 : w1.cell? ⟨g, 0, none⟩ = some (.pointer (some ⟨p, 0, none⟩)) := HP1.out.blk.cell 0
  have c5 : w1.cell? ⟨g, 5, none⟩ = some (.int .i64 hnext) := HP1.out.blk.cell 5
  have c7b : w1.cell? ⟨g, 7, none⟩ = some (.int .u32 (htxn + 1)) := HP1.out.blk.cell 7
  have c8 : w1.cell? ⟨g, 8, none⟩ = some (.slice As sts.length cs) := HP1.out.blk.cell 8
  have hgl1 : g < w1.heap.size := HP1.out.blk.lt
  replace hrun : (Builtin.append_ #[93, 93] 93 #[.slice As sts.length cs, .slice (some ⟨w1.heap.size, 0, none⟩) 1 1]).run Tryz.prog (w1.alloc (.cells #[.func (.func 91) #[.agg #[.pointer (some ⟨p, 0, none⟩), .int .i64 hnext, .int .u32 (htxn + 1), .slice A n cap]] #[]] 150)).drew = .ok (.slice As2 (sts.length + 1) cs2) w2 := hrun
  simp only at c8b hP2 hO2
  obtain ⟨q, hq⟩ : ∃ q, q = sts.length := ⟨_, rfl⟩
  rw [← hq] at hrun c8 c8b hP2 hO2 hst
  have HP2 := Lib.hid hP2
  have HO2 := Lib.hid (HO1.out.trans hO2)
  have hsA : w1.cell? ⟨g, 0, none⟩ = some (.pointer (some ⟨p, 0, none⟩)) ∧ w1.cell? ⟨g, 5, none⟩ = some (.int .i64 hnext) ∧ w1.cell? ⟨g, 7, none⟩ = some (.int .u32 (htxn + 1)) := ⟨c0, c5, c7b⟩
  have hs1 : w1.drew.cell? ⟨g, 0, none⟩ = some (.pointer (some ⟨p, 0, none⟩)) ∧ w1.drew.cell? ⟨g, 5, none⟩ = some (.int .i64 hnext) ∧ w1.drew.cell? ⟨g, 7, none⟩ = some (.int .u32 (htxn + 1)) := hsA
  have HsAl : Hid (∀ o : Obj, (w1.alloc o).drew.cell? ⟨g, 0, none⟩ = some (.pointer (some ⟨p, 0, none⟩)) ∧ (w1.alloc o).drew.cell? ⟨g, 5, none⟩ = some (.int .i64 hnext) ∧ (w1.alloc o).drew.cell? ⟨g, 7, none⟩ = some (.int .u32 (htxn + 1))) := Lib.hid (fun o => by
    have hb := HP1.out.blk.alloc o
    exact ⟨hb.cell 0, hb.cell 5, hb.cell 7⟩)
  have hs2 : w2.cell? ⟨g, 0, none⟩ = some (.pointer (some ⟨p, 0, none⟩)) ∧ w2.cell? ⟨g, 5, none⟩ = some (.int .i64 hnext) ∧ w2.cell? ⟨g, 7, none⟩ = some (.int .u32 (htxn + 1)) := ⟨hB2.cell 0, hB2.cell 5, hB2.cell 7⟩
  have hs3 : (w2.setCell ⟨g, 8, none⟩ (.slice As2 (q + 1) cs2)).cell? ⟨g, 0, none⟩ = some (.pointer (some ⟨p, 0, none⟩)) ∧ (w2.setCell ⟨g, 8, none⟩ (.slice As2 (q + 1) cs2)).cell? ⟨g, 5, none⟩ = some (.int .i64 hnext) ∧ (w2.setCell ⟨g, 8, none⟩ (.slice As2 (q + 1) cs2)).cell? ⟨g, 7, none⟩ = some (.int .u32 (htxn + 1)) := ⟨HP2.out.blk.cell 0, HP2.out.blk.cell 5, HP2.out.blk.cell 7⟩
  clear hv hq hP2 hO2 c7 f7 hgl hw1 hB2 hsA
  refine wp_region_held_drew (S := fun W => W.cell? ⟨g, 0, none⟩ = some (.pointer (some ⟨p, 0, none⟩)) ∧ W.cell? ⟨g, 5, none⟩ = some (.int .i64 hnext) ∧ W.cell? ⟨g, 7, none⟩ = some (.int .u32 (htxn + 1))) (by kernel_rfl) hs1 (fun hHeld => ?_)
  refine take_yes 0 14 ?_ rfl rfl (by kernel_rfl) (by kernel_rfl) (by kernel_rfl) (fun _ _ _ h => h) (by kernel_rfl) ?_ (by assumption) ?_; rotate_left; (focus (intro w hSw; (try dsimp only at hSw); go_simp; all_goals with_reducible rfl)); simp only [Act.put, List.setIfInBounds_toArray, List.set_cons_zero, List.set_cons_succ]
  refine take_yes 1 15 ?_ rfl rfl (by kernel_rfl) (by kernel_rfl) (by kernel_rfl) (fun _ _ _ h => h) (by kernel_rfl) ?_ (by assumption) ?_; rotate_left; (focus (intro w hSw; (try dsimp only at hSw); go_simp; all_goals with_reducible rfl)); simp only [Act.put, List.setIfInBounds_toArray, List.set_cons_zero, List.set_cons_succ]
  refine take_yes 2 16 ?_ rfl rfl (by kernel_rfl) (by kernel_rfl) (by kernel_rfl) (fun _ _ _ h => h) (by kernel_rfl) ?_ (by assumption) ?_; rotate_left; (focus (intro w hSw; (try dsimp only at hSw); go_simp; all_goals with_reducible rfl)); simp only [Act.put, List.setIfInBounds_toArray, List.set_cons_zero, List.set_cons_succ]
  refine take_yes 3 17 ?_ rfl rfl (by kernel_rfl) (by kernel_rfl) (by kernel_rfl) (fun _ _ _ h => h) (by kernel_rfl) ?_ (by assumption) ?_; rotate_left; (focus (intro w hSw; (try dsimp only at hSw); go_simp; all_goals with_reducible rfl)); simp only [Act.put, List.setIfInBounds_toArray, List.set_cons_zero, List.set_cons_succ]
  refine take_yes 5 19 ?_ rfl rfl (by kernel_rfl) (by kernel_rfl) (by kernel_rfl) (fun _ _ _ h => h) (by kernel_rfl) ?_ (by assumption) ?_; rotate_left; (focus (intro w hSw; (try dsimp only at hSw); go_simp; all_goals with_reducible rfl)); simp only [Act.put, List.setIfInBounds_toArray, List.set_cons_zero, List.set_cons_succ]
  refine take_yes 6 20 ?_ rfl rfl (by kernel_rfl) (by kernel_rfl) (by kernel_rfl) (fun _ _ _ h => h) (by kernel_rfl) ?_ (by assumption) ?_; rotate_left; (focus (intro w hSw; (try dsimp only at hSw); go_simp; all_goals with_reducible rfl)); simp only [Act.put, List.setIfInBounds_toArray, List.set_cons_zero, List.set_cons_succ]
  refine take_yes 7 21 ?_ rfl rfl (by kernel_rfl) (by kernel_rfl) (by kernel_rfl) (fun _ _ _ h => h) (by kernel_rfl) ?_ (by assumption) ?_; rotate_left; (focus (intro w hSw; (try dsimp only at hSw); go_simp; all_goals with_reducible rfl)); simp only [Act.put, List.setIfInBounds_toArray, List.set_cons_zero, List.set_cons_succ]
  refine take_yes 8 22 ?_ rfl rfl (by kernel_rfl) (by kernel_rfl) (by kernel_rfl) (fun _ _ _ h => h) (by kernel_rfl) ?_ (by assumption) ?_; rotate_left; (focus (intro w hSw; (try dsimp only at hSw); go_simp; all_goals with_reducible rfl)); simp only [Act.put, List.setIfInBounds_toArray, List.set_cons_zero, List.set_cons_succ]
  refine take_yes 9 23 ?_ rfl rfl (by kernel_rfl) (by kernel_rfl) (by kernel_rfl) (fun _ _ _ h => h) (by kernel_rfl) ?_ (by assumption) ?_; rotate_left; (focus (intro w hSw; (try dsimp only at hSw); go_simp; all_goals with_reducible rfl)); simp only [Act.put, List.setIfInBounds_toArray, List.set_cons_zero, List.set_cons_succ]
  refine take_yes 10 24 ?_ rfl rfl (by kernel_rfl) (by kernel_rfl) (by kernel_rfl) (fun _ _ _ h => h) (by kernel_rfl) ?_ (by assumption) ?_; rotate_left; (focus (intro w hSw; (try dsimp only at hSw); go_simp; all_goals with_reducible rfl)); simp only [Act.put, List.setIfInBounds_toArray, List.set_cons_zero, List.set_cons_succ]
  refine take_yes 11 25 ?_ rfl rfl (by kernel_rfl) (by kernel_rfl) (by kernel_rfl) (fun _ _ _ h => h) (by kernel_rfl) ?_ (by assumption) ?_; rotate_left; (focus (intro w hSw; (try dsimp only at hSw); go_simp; all_goals with_reducible rfl)); simp only [Act.put, List.setIfInBounds_toArray, List.set_cons_zero, List.set_cons_succ]
  refine take_yes 12 26 ?_ rfl rfl (by kernel_rfl) (by kernel_rfl) (by kernel_rfl) (fun _ _ _ h => h) (by kernel_rfl) ?_ (by assumption) ?_; rotate_left; (focus (intro w hSw; (try dsimp only at hSw); go_simp; all_goals with_reducible rfl)); simp only [Act.put, List.setIfInBounds_toArray, List.set_cons_zero, List.set_cons_succ]
  refine take_yes 13 27 ?_ rfl rfl (by kernel_rfl) (by kernel_rfl) (by kernel_rfl) (fun _ _ _ h => h) (by kernel_rfl) ?_ (by assumption) ?_; rotate_left; (focus (intro w hSw; (try dsimp only at hSw); go_simp; all_goals with_reducible rfl)); simp only [Act.put, List.setIfInBounds_toArray, List.set_cons_zero, List.set_cons_succ]
  refine take_yes 14 28 ?_ rfl rfl (by kernel_rfl) (by kernel_rfl) (by kernel_rfl) (fun _ _ _ h => h) (by kernel_rfl) ?_ (by assumption) ?_; rotate_left; (focus (intro w hSw; (try dsimp only at hSw); go_simp; all_goals with_reducible rfl)); simp only [Act.put, List.setIfInBounds_toArray, List.set_cons_zero, List.set_cons_succ]
  refine take_yes 15 29 ?_ rfl rfl (by kernel_rfl) (by kernel_rfl) (by kernel_rfl) (fun _ _ _ h => h) (by kernel_rfl) ?_ (by assumption) ?_; rotate_left; (focus (intro w hSw; (try dsimp only at hSw); go_simp; all_goals with_reducible rfl)); simp only [Act.put, List.setIfInBounds_toArray, List.set_cons_zero, List.set_cons_succ]
  refine take_yes 16 30 ?_ rfl rfl (by kernel_rfl) (by kernel_rfl) (by kernel_rfl) (fun _ _ _ h => h) (by kernel_rfl) ?_ (by assumption) ?_; rotate_left; (focus (intro w hSw; (try dsimp only at hSw); go_simp; all_goals with_reducible rfl)); simp only [Act.put, List.setIfInBounds_toArray, List.set_cons_zero, List.set_cons_succ]
  refine take_yes 17 31 ?_ rfl rfl (by kernel_rfl) (by kernel_rfl) (by kernel_rfl) (fun _ _ _ h => h) (by kernel_rfl) ?_ (by assumption) ?_; rotate_left; (focus (intro w hSw; (try dsimp only at hSw); go_simp; all_goals with_reducible rfl)); simp only [Act.put, List.setIfInBounds_toArray, List.set_cons_zero, List.set_cons_succ]
  refine take_yes 18 32 ?_ rfl rfl (by kernel_rfl) (by kernel_rfl) (by kernel_rfl) (fun _ _ _ h => h) (by kernel_rfl) ?_ (by assumption) ?_; rotate_left; (focus (intro w hSw; (try dsimp only at hSw); go_simp; all_goals with_reducible rfl)); simp only [Act.put, List.setIfInBounds_toArray, List.set_cons_zero, List.set_cons_succ]
  refine take_yes 19 33 ?_ rfl rfl (by kernel_rfl) (by kernel_rfl) (by kernel_rfl) (fun _ _ _ h => h) (by kernel_rfl) ?_ (by assumption) ?_; rotate_left; (focus (intro w hSw; (try dsimp only at hSw); go_simp; all_goals with_reducible rfl)); simp only [Act.put, List.setIfInBounds_toArray, List.set_cons_zero, List.set_cons_succ]
  refine take_yes 20 34 ?_ rfl rfl (by kernel_rfl) (by kernel_rfl) (by kernel_rfl) (fun _ _ _ h => h) (by kernel_rfl) ?_ (by assumption) ?_; rotate_left; (focus (intro w hSw; (try dsimp only at hSw); go_simp; all_goals with_reducible rfl)); simp only [Act.put, List.setIfInBounds_toArray, List.set_cons_zero, List.set_cons_succ]
  refine take_yes 21 35 ?_ rfl rfl (by kernel_rfl) (by kernel_rfl) (by kernel_rfl) (fun _ _ _ h => h) (by kernel_rfl) ?_ (by assumption) ?_; rotate_left; (focus (intro w hSw; (try dsimp only at hSw); go_simp; all_goals with_reducible rfl)); simp only [Act.put, List.setIfInBounds_toArray, List.set_cons_zero, List.set_cons_succ]
  refine wpAnyH_ready (rs := [4, 22]) (by kernel_rfl) (by simp) ?_
  refine AllReadyH.cons rfl (fun K hK => ?_) (AllReadyH.cons rfl (fun K hK => ?_) AllReadyH.nil)
  · go_simp
    refine hK.out _ _ hs1 (fun _ => ?_)
    clear hK K
    try simp only [Act.put, List.setIfInBounds_toArray, List.set_cons_zero, List.set_cons_succ]
    refine wpAnyH_ready (rs := [22]) (by kernel_rfl) (by simp) ?_
    refine AllReadyH.cons rfl (fun K hK => ?_) AllReadyH.nil
    go_simp
    refine hK.out _ _ (HsAl.out _) (fun _ => ?_)
    clear hK K
    try simp only [Act.put, List.setIfInBounds_toArray, List.set_cons_zero, List.set_cons_succ]
    refine wpAnyH_ready (rs := [23]) (by kernel_rfl) (by simp) ?_
    refine AllReadyH.cons rfl (fun K hK => ?_) AllReadyH.nil
    refine step_append_eq (ts := 93) rfl (.tmp 18) (.tmp 36) rfl rfl rfl rfl hrun ?_
    refine hK.out _ _ hs2 (fun _ => ?_)
    clear hK K
    try simp only [Act.put, List.setIfInBounds_toArray, List.set_cons_zero, List.set_cons_succ]
    refine take_yes 24 38 ?_ rfl rfl (by kernel_rfl) (by kernel_rfl) (by kernel_rfl) (fun _ _ _ h => h) (by kernel_rfl) ?_ (by assumption) ?_; rotate_left; (focus (intro w hSw; (try dsimp only at hSw); go_simp; all_goals with_reducible rfl)); simp only [Act.put, List.setIfInBounds_toArray, List.set_cons_zero, List.set_cons_succ]
    refine take_yes 25 39 ?_ rfl rfl (by kernel_rfl) (by kernel_rfl) (by kernel_rfl) (fun _ _ _ h => h) (by kernel_rfl) ?_ (by assumption) ?_; rotate_left; (focus (intro w hSw; (try dsimp only at hSw); go_simp; all_goals with_reducible rfl)); simp only [Act.put, List.setIfInBounds_toArray, List.set_cons_zero, List.set_cons_succ]
    refine wpAnyH_ready (rs := [26]) (by kernel_rfl) (by simp) ?_
    refine AllReadyH.cons rfl (fun K hK => ?_) AllReadyH.nil
    go_simp
    refine hK.out _ _ (hs3) (fun _ => ?_)
    clear hK K
    try simp only [Act.put, List.setIfInBounds_toArray, List.set_cons_zero, List.set_cons_succ]
    refine wpAnyH_done (by kernel_rfl) ?_ _
    obtain ⟨w3, h3⟩ : ∃ w3, w3 = w2.setCell ⟨g, 8, none⟩ (.slice As2 (q + 1) cs2) := ⟨_, rfl⟩
    rw [← h3] at HP2 HO2 ⊢
    clear h3 hrun c0 c5 c7b c8 c8b f8b hgl1 hsz1 hs1 HsAl hs2 hs3 hHeld
    have Hr3 := Lib.hid (Hro.out w3 HO2.out)
    go_wp2_with fail
    refine Hr3.out.mono ?_
    rintro e4 w4 ⟨rfl, hb4⟩
    have HP4 := Lib.hid (HP2.out.below hb4)
    have HO4 := Lib.hid (HO2.out.trans (PO.of_below (g := g) (base := base) hb4))
    have q5 : w4.cell? ⟨g, 5, none⟩ = some (.int .i64 hnext) := HP4.out.blk.cell 5
    have q6 : w4.cell? ⟨g, 6, none⟩ = some (.int .i64 hleft) := HP4.out.blk.cell 6
    have r5 := HP4.out.blk.frozen 5
    have r6 := HP4.out.blk.frozen 6
    have hgl4 := HP4.out.blk.lt
    have h5 := HP4.out.cell_ 5 (.int .i64 (hnext + (M : Int))) ⟨hsec, hnext + (M : Int), hleft, htxn + 1⟩ (fun vs vst => by simp [planC])
    have h6 := h5.1.cell_ 6 (.int .i64 (hleft - (M : Int))) ⟨hsec, hnext + (M : Int), hleft - (M : Int), htxn + 1⟩ (fun vs vst => by simp [planC])
    have HE := Lib.hid (And.intro h6.1 ((HO4.out.trans h5.2).trans h6.2))
    clear hb4 h5 h6 Hr3 Hro
    go_wp2_with fail
    go_end0
    refine ⟨rfl, ⟨⟨RA, Rc, As2, cs2⟩, ?_⟩, HE.out.2⟩
    rw [hlaid.out]
    exact HE.out.1

  · go_simp
    refine hK.out _ _ (HsAl.out _) (fun _ => ?_)
    clear hK K
    try simp only [Act.put, List.setIfInBounds_toArray, List.set_cons_zero, List.set_cons_succ]
    refine wpAnyH_ready (rs := [4]) (by kernel_rfl) (by simp) ?_
    refine AllReadyH.cons rfl (fun K hK => ?_) AllReadyH.nil
    go_simp
    refine hK.out _ _ (HsAl.out _) (fun _ => ?_)
    clear hK K
    try simp only [Act.put, List.setIfInBounds_toArray, List.set_cons_zero, List.set_cons_succ]
    refine wpAnyH_ready (rs := [23]) (by kernel_rfl) (by simp) ?_
    refine AllReadyH.cons rfl (fun K hK => ?_) AllReadyH.nil
    refine step_append_eq (ts := 93) rfl (.tmp 18) (.tmp 36) rfl rfl rfl rfl hrun ?_
    refine hK.out _ _ hs2 (fun _ => ?_)
    clear hK K
    try simp only [Act.put, List.setIfInBounds_toArray, List.set_cons_zero, List.set_cons_succ]
    refine take_yes 24 38 ?_ rfl rfl (by kernel_rfl) (by kernel_rfl) (by kernel_rfl) (fun _ _ _ h => h) (by kernel_rfl) ?_ (by assumption) ?_; rotate_left; (focus (intro w hSw; (try dsimp only at hSw); go_simp; all_goals with_reducible rfl)); simp only [Act.put, List.setIfInBounds_toArray, List.set_cons_zero, List.set_cons_succ]
    refine take_yes 25 39 ?_ rfl rfl (by kernel_rfl) (by kernel_rfl) (by kernel_rfl) (fun _ _ _ h => h) (by kernel_rfl) ?_ (by assumption) ?_; rotate_left; (focus (intro w hSw; (try dsimp only at hSw); go_simp; all_goals with_reducible rfl)); simp only [Act.put, List.setIfInBounds_toArray, List.set_cons_zero, List.set_cons_succ]
    refine wpAnyH_ready (rs := [26]) (by kernel_rfl) (by simp) ?_
    refine AllReadyH.cons rfl (fun K hK => ?_) AllReadyH.nil
    go_simp
    refine hK.out _ _ (hs3) (fun _ => ?_)
    clear hK K
    try simp only [Act.put, List.setIfInBounds_toArray, List.set_cons_zero, List.set_cons_succ]
    refine wpAnyH_done (by kernel_rfl) ?_ _
    obtain ⟨w3, h3⟩ : ∃ w3, w3 = w2.setCell ⟨g, 8, none⟩ (.slice As2 (q + 1) cs2) := ⟨_, rfl⟩
    rw [← h3] at HP2 HO2 ⊢
    clear h3 hrun c0 c5 c7b c8 c8b f8b hgl1 hsz1 hs1 HsAl hs2 hs3 hHeld
    have Hr3 := Lib.hid (Hro.out w3 HO2.out)
    go_wp2_with fail
    refine Hr3.out.mono ?_
    rintro e4 w4 ⟨rfl, hb4⟩
    have HP4 := Lib.hid (HP2.out.below hb4)
    have HO4 := Lib.hid (HO2.out.trans (PO.of_below (g := g) (base := base) hb4))
    have q5 : w4.cell? ⟨g, 5, none⟩ = some (.int .i64 hnext) := HP4.out.blk.cell 5
    have q6 : w4.cell? ⟨g, 6, none⟩ = some (.int .i64 hleft) := HP4.out.blk.cell 6
    have r5 := HP4.out.blk.frozen 5
    have r6 := HP4.out.blk.frozen 6
    have hgl4 := HP4.out.blk.lt
    have h5 := HP4.out.cell_ 5 (.int .i64 (hnext + (M : Int))) ⟨hsec, hnext + (M : Int), hleft, htxn + 1⟩ (fun vs vst => by simp [planC])
    have h6 := h5.1.cell_ 6 (.int .i64 (hleft - (M : Int))) ⟨hsec, hnext + (M : Int), hleft - (M : Int), htxn + 1⟩ (fun vs vst => by simp [planC])
    have HE := Lib.hid (And.intro h6.1 ((HO4.out.trans h5.2).trans h6.2))
    clear hb4 h5 h6 Hr3 Hro
    go_wp2_with fail
    go_end0
    refine ⟨rfl, ⟨⟨RA, Rc, As2, cs2⟩, ?_⟩, HE.out.2⟩
    rw [hlaid.out]
    exact HE.out.1

end Go.Proofs.YtnhfmcijadficaaGreatDoor

/- The walks over blob's letGo and a plan's letGo. -/
namespace Go.Proofs.YtnhfmcijadficaaGreatDoor
set_option maxRecDepth 100000
open Go.RowKit

/-- The steps by which a sector is let go. -/
def goSts (L i : Nat) (s : Sc) : List Stp := if (L : Int) ≤ s.er then [.void i] else [.void i, .erase i]
/-- A plan behind them. -/
def PV.letGo (P : PV) (L i : Nat) (s : Sc) : PV := ⟨P.l.set i (if (L : Int) ≤ s.er then ⟨1, 0, s.er⟩ else ⟨0, 0, s.er + 1⟩), P.h, P.sts ++ goSts L i s⟩

set_option maxHeartbeats 1000000 in
theorem letGo_any (p c e Z L i : Nat) (s : Sc) (ss : List (Nat × List UInt8)) (w : World) (hs : FS w p c e Z L ss) :
    Calls Tryz.prog 42 #[.pointer (some ⟨p, 0, none⟩), .int .i64 (i : Int), .agg #[.int .i64 s.st, .int .u32 s.q, .int .i64 s.er]] w fun e1 w' => (∃ b, e1 = .returned (.slice (some ⟨b, 0, none⟩) (goSts L i s).length (goSts L i s).length) ∧ RowSl (Stp.cells p Z) 1 w' Empty (some ⟨b, 0, none⟩) (goSts L i s).length (goSts L i s).length (goSts L i s)) ∧ Below w.heap.size w w' := by
  obtain ⟨st, q, er⟩ := s
  simp only
  have hg := geo_field2 (ss.length : Int) (Z : Int) (L : Int)
  have HS := Lib.hid hs
  have HC : Hid (∀ W, Only Empty ((w.alloc (.cells #[.int .i64 st, .int .u32 q, .int .i64 er] 96)).alloc (.cells #[.pointer (some ⟨p, 0, none⟩), .int .i64 (i : Int), .int .u32 0] 152)) W → W.cell? ⟨w.heap.size, 2, none⟩ = some (.int .i64 er)) :=
    Lib.hid (fun W hW => (hW.blk ((Blk.new w 96 #[.int .i64 st, .int .u32 q, .int .i64 er]).alloc _) (fun h => h)).cell 2)
  have HB2 : Hid (∀ W, Only Empty ((w.alloc (.cells #[.int .i64 st, .int .u32 q, .int .i64 er] 96)).alloc (.cells #[.pointer (some ⟨p, 0, none⟩), .int .i64 (i : Int), .int .u32 0] 152)) W → FS W p c e Z L ss ∧ Below w.heap.size w W ∧ Blk W (w.heap.size + 1) 152 #[.pointer (some ⟨p, 0, none⟩), .int .i64 (i : Int), .int .u32 0]) :=
    Lib.hid (fun W hW => by
      have h1 := (Below.refl w.heap.size w).alloc (Nat.le_refl _) (.cells #[.int .i64 st, .int .u32 q, .int .i64 er] 96)
      have h2 := h1.alloc (by simp) (.cells #[.pointer (some ⟨p, 0, none⟩), .int .i64 (i : Int), .int .u32 0] 152)
      have h3 : Below w.heap.size w W := h2.trans (hW.below (by simp; omega) (fun _ _ h => h))
      have h4 := hW.blk (Blk.new (w.alloc (.cells #[.int .i64 st, .int .u32 q, .int .i64 er] 96)) 152 #[.pointer (some ⟨p, 0, none⟩), .int .i64 (i : Int), .int .u32 0]) (fun h => h)
      exact ⟨hs.below h3, h3, by simpa using h4⟩)
  clear hs
  go_enter Tryz.func42, Tryz.ntmps42
  go_wp2_with fail
  have hD := (Only.refl Empty ((w.alloc (.cells #[.int .i64 st, .int .u32 q, .int .i64 er] 96)).alloc (.cells #[.pointer (some ⟨p, 0, none⟩), .int .i64 (i : Int), .int .u32 0] 152))).drew
  have hs1 := HC.out _ hD
  have HD := Lib.hid hD
  clear hD
  first | (go_region_held3 (fun W => W.cell? ⟨w.heap.size, 2, none⟩ = some (.int .i64 er)) (first | with_reducible exact hs1 | with_reducible exact hs10)
    ((go_at_call 39; (with_reducible refine ((HB2.out _ HD.out).1.geo).mono ?_); rintro e10 w10 ⟨rfl, hb10⟩; have hO10 := HD.out.trans (Only.of_below (S := Empty) hb10); have hs10 := HC.out _ hO10))) | fail
  have hB := HB2.out _ hO10
  have hc := hB.2.2
  have t0 := hc.cell 0
  have t1 := hc.cell 1
  have t2 := hc.cell 2
  have hml := hc.lt
  simp at t0 t1 t2
  have HB := Lib.hid hB.2.1
  clear hb10 hO10 hs10 hs1 hB hc HD HB2 HC
  by_cases hL : (L : Int) ≤ er
  · have hL2 : ¬ er < (L : Int) := by omega
    have He : Hid (goSts L i ⟨st, q, er⟩ = [.void i]) := Lib.hid (if_pos hL)
    have Hr := Lib.hid (RowSl.lit (stp_len p Z) w10 Empty 150 [.void i] 1 [Stp.v p Z (.void i)] rfl rfl (by decide) (fun h => h))
    have Hal := Lib.hid ((Below.refl w10.heap.size w10).alloc (Nat.le_refl _) (.cells #[Stp.v p Z (.void i)] 150))
    go_wp2_with fail
    go_ret
    refine ⟨⟨w10.heap.size, ?_, ?_⟩, HB.out.trans (Hal.out.mono HB.out.size)⟩
    · rw [He.out]; rfl
    · rw [He.out]; exact Hr.out
  · have hL2 : er < (L : Int) := by omega
    have He : Hid (goSts L i ⟨st, q, er⟩ = [.void i, .erase i]) := Lib.hid (if_neg hL)
    have Hr := Lib.hid (RowSl.lit (stp_len p Z) w10 Empty 150 [.void i, .erase i] 2 [Stp.v p Z (.void i), Stp.v p Z (.erase i)] rfl rfl (by decide) (fun h => h))
    have Hal := Lib.hid ((Below.refl w10.heap.size w10).alloc (Nat.le_refl _) (.cells #[Stp.v p Z (.void i), Stp.v p Z (.erase i)] 150))
    go_wp2_with fail
    go_ret
    refine ⟨⟨w10.heap.size, ?_, ?_⟩, HB.out.trans (Hal.out.mono HB.out.size)⟩
    · rw [He.out]; rfl
    · rw [He.out]; exact Hr.out

section
variable {w w' : World} {g base p mb Z : Nat} {vk : Value} {R : PP} {P : PV}
/-- append of steps that lie in a row, as an equation; what is then stored. -/
theorem PlanAt.steps_run (h : PlanAt w g base p mb Z vk R P) {b n : Nat} {l : List Stp} (hrow : RowSl (Stp.cells p Z) 1 w Empty (some ⟨b, 0, none⟩) n n l) (hn : P.sts.length + n ≤ 16777216) (hbase : base ≤ w.heap.size) :
    ∃ As cs w2, (Builtin.append_ #[93, 93] 93 #[.slice R.As P.sts.length R.cs, .slice (some ⟨b, 0, none⟩) n n]).run Tryz.prog w = .ok (.slice As (P.sts.length + n) cs) w2 ∧
      PlanAt (w2.setCell ⟨g, 8, none⟩ (.slice As (P.sts.length + n) cs)) g base p mb Z vk { R with As := As, cs := cs } { P with sts := P.sts ++ l } ∧ PO g base w (w2.setCell ⟨g, 8, none⟩ (.slice As (P.sts.length + n) cs)) ∧ PO g base w w2 ∧
      Blk w2 g 109 (planC p mb (.slice R.A P.l.length R.cap) vk P.h (.slice R.As P.sts.length R.cs)) ∧ GotR Sc.cells 3 96 base w2 R.A P.l.length R.cap P.l := by
  obtain ⟨As, cs, w2, hr, hG, hgr, hro⟩ := run_append_rows (stp_len p Z) (stp_one p Z) (by decide) 93 150 _ 8 Tryz.underlying93 Tryz.infoStep (by simp [Value.cells]) (by decide) 93 base R.As P.sts.length R.cs P.sts h.sts _ n n l hrow hn hbase
  have h2 := h.grow_steps (w' := w2) (row := (Value.slice R.As P.sts.length R.cs).ownBlock) (fun q h => h) hgr
  have e : (P.sts ++ l).length = P.sts.length + n := by rw [List.length_append, hrow.1]
  have h3 := plan_steps (R := R) (P := P) h2.1 h2.2 (As := As) (cs := cs) (sts := P.sts ++ l) (by rw [e]; exact hG)
  rw [e] at h3
  have hO1 : PO g base w w2 := ⟨Only.of_grown hgr (fun k e _ => Or.inr (hro k e)), by
    rcases h.sts.own.2 with ⟨hnil, _⟩ | ⟨g', cap', cur, hv, hbase, hb, _⟩
    · rw [hnil] at hgr
      exact Keep.of_empty (Only.of_grown hgr (fun k e _ => by cases e))
    · have hB : Blk w g' 150 cur := hb
      rw [hv] at hgr
      exact Keep.of_block hB (Or.inr (Or.inr rfl)) (Only.of_grown hgr (fun k e _ => by cases e; rfl))⟩
  exact ⟨As, cs, w2, hr, h3.1, hO1.trans h3.2, hO1, h2.1, h2.2⟩
end

end Go.Proofs.YtnhfmcijadficaaGreatDoor
