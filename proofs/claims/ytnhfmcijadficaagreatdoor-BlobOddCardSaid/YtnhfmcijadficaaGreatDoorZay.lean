/- The walk over a plan's open. -/
import Derived.Test.YtnhfmcijadficaaGreatDoorZax
import Derived.Deep.RegionHeld3
import Derived.Test.YtnhfmcijadficaaGreatDoorZaw
import Derived.Test.YtnhfmcijadficaaGreatDoorZav
import Derived.OwnWalk
namespace Go.Proofs.YtnhfmcijadficaaGreatDoor
set_option maxRecDepth 100000
open Go.RowKit

/-- A plan behind an open of sector i, which was as s. -/
def PV.opened (P : PV) (i Z : Nat) (s : Sc) : PV :=
  ⟨P.l.set i ⟨2, lastQ P.l + 1, if s.st = 1 then s.er + 1 else s.er⟩, ⟨(i : Int), ((i * Z + 12 : Nat) : Int), ((Z - 12 : Nat) : Int), 0⟩, P.sts ++ [.open_ i (lastQ P.l + 1).toNat]⟩

theorem FS.plan {w w' : World} {p c e Z L g base : Nat} {ss : List (Nat × List UInt8)} (h : FS w p c e Z L ss) (o : PO g base w w') (hTh : ∀ q, Three p c e q → q < base ∧ q ≠ g) : FS w' p c e Z L ss := by
  have hn : ∀ q, Three p c e q → ¬ PlanT g base q := fun q h1 h2 => by
    have := hTh q h1
    rcases h2 with h2 | h2 <;> omega
  exact h.of o.only (hn p (Or.inl rfl)) (hn c (Or.inr (Or.inl rfl))) (hn e (Or.inr (Or.inr rfl)))
theorem PlanAt.drew {w : World} {g base p mb Z : Nat} {vk : Value} {R : PP} {P : PV} (h : PlanAt w g base p mb Z vk R P) : PlanAt w.drew g base p mb Z vk R P :=
  h.only (Only.refl Empty w).drew (fun h => h) (fun _ _ _ h => h)

/-- How a plan's open ends, where a sector can be opened. -/
def Opened (g base p mb Z : Nat) (vk : Value) (P : PV) (i : Nat) (s : Sc) (w w' : World) (e1 : Ending) : Prop :=
  e1 = .returned (.bool true) ∧ (∃ R', PlanAt w' g base p mb Z vk R' (P.opened i Z s)) ∧ PO g base w w'

set_option maxHeartbeats 1000000 in
theorem pOpen_dirty (g base p c e mb Z L : Nat) (vk : Value) (R : PP) (P : PV) (i : Nat) (s : Sc) (ss : List (Nat × List UInt8)) (w : World) (hP : PlanAt w g base p mb Z vk R P) (hs : FS w p c e Z L ss) (hTh : ∀ q, Three p c e q → q < base ∧ q ≠ g) (hq : Q32 P.l) (hn : P.l.length ≤ 64) (hst : P.sts.length ≤ 1000000)
    (hbase : base ≤ w.heap.size) (hbest : best (opensB (L : Int)) Sc.er P.l P.l.length = some i) (hi : P.l[i]? = some s) (her : 0 ≤ s.er ∧ s.er ≤ 2097152) (hlq : ¬ lastQ P.l = 4294967295) (hst1 : (s.st == 1) = true) (hss : ss.length = P.l.length) :
    Calls Tryz.prog 126 #[.pointer (some ⟨g, 0, none⟩)] w fun e1 w' => Opened g base p mb Z vk P i s w w' e1 := by
  obtain ⟨A, cap, As, cs⟩ := R
  have hilt : i < P.l.length := (List.getElem?_eq_some_iff.1 hi).1
  have hz := hs.bz
  have hq32 := lastQ_le P.l hq
  have hit : i * Z ≤ 4194304 := by
    have h1 : i * Z ≤ ss.length * Z := Nat.mul_le_mul_right _ (by omega)
    omega
  have HP := Lib.hid hP
  have HS := Lib.hid hs
  have HTh := Lib.hid hTh
  have HQ := Lib.hid hq
  have Hbest := Lib.hid hbest
  have Hi := Lib.hid hi
  have hopd : Hid (P.opened i Z s = ⟨P.l.set i ⟨2, lastQ P.l + 1, s.er + 1⟩, ⟨(i : Int), ((i * Z + 12 : Nat) : Int), ((Z - 12 : Nat) : Int), 0⟩, P.sts ++ [.open_ i (lastQ P.l + 1).toNat]⟩) := Lib.hid (by
    unfold PV.opened
    rw [if_pos (by simpa using hst1)])
  obtain ⟨Q, hQ⟩ : ∃ Q : Int, Q = lastQ P.l := ⟨_, rfl⟩
  have hns : Hid (nsV P.l = .tuple #[.int .u32 (Q + 1), .bool true]) := Lib.hid (by unfold nsV; rw [if_neg hlq, hQ])
  rw [← hQ] at hopd hq32 hlq
  have hQ1 : 0 ≤ Q + 1 ∧ Q + 1 ≤ 4294967295 := by omega
  obtain ⟨n, hne⟩ : ∃ n, n = P.l.length := ⟨_, rfl⟩
  obtain ⟨T, hT⟩ : ∃ T, T = i * Z := ⟨_, rfl⟩
  obtain ⟨V, hV⟩ : ∃ V, V = Z - 12 := ⟨_, rfl⟩
  rw [← hT, ← hV] at hopd
  rw [← hT] at hit
  have HT := Lib.hid hT
  have HV := Lib.hid hV
  have c2 : w.cell? ⟨g, 2, none⟩ = some (.slice A n cap) := by rw [hne]; exact hP.blk.cell 2
  have hO0 : Hid (∀ W, Only Empty w W → W.cell? ⟨g, 2, none⟩ = some (.slice A n cap)) := Lib.hid (fun W hW => by rw [hne]; exact (hW.blk hP.blk (fun h => h)).cell 2)
  have Hlim := Lib.hid (fun W (hW : Only Empty w W) => limit_any g p c e Z L _ ss W (hW.blk hP.blk (fun h => h)) rfl (hs.of hW (fun h => h) (fun h => h) (fun h => h)))
  have Hnx := Lib.hid (fun W (hW : Only Empty w W) => next_any A n cap P.l (L : Int) W (by rw [hne]; exact hP.secs.row.only hW (fun _ _ h => h)) (by omega) (some i) (by rw [hne]; exact hbest))
  have hpv : placeV (some i) = .int .i64 (i : Int) := rfl
  have hin : i < n := by omega
  have hncap : n ≤ cap := by rw [hne]; exact hP.secs.row.2.1
  simp only [hpv, Option.isSome_some] at Hnx
  have Hne := Lib.hid hne
  clear hP hs hTh hq hbest hi hz hT hV hQ hlq hne hpv hss
  go_enter Tryz.func126, Tryz.ntmps126
  go_wp2_with fail
  have hD := (Only.refl Empty w).drew
  have hs1 := hO0.out _ hD
  have HD := Lib.hid hD
  clear hD
  first | (go_region_held3 (fun W => W.cell? ⟨g, 2, none⟩ = some (.slice A n cap)) (first | with_reducible exact hs1 | with_reducible exact hs10 | with_reducible exact hs11)
    (first | (go_at_call 125; (with_reducible refine (Hlim.out _ HD.out).mono ?_); rintro e10 w10 ⟨rfl, hb10⟩; have hO10 := HD.out.trans (Only.of_below (S := Empty) hb10); have hs10 := hO0.out _ hO10)
           | (go_at_call 160; (with_reducible refine (Hnx.out _ hO10).mono ?_); rintro e11 w11 ⟨rfl, hb11⟩; have hO11 := hO10.trans (Only.of_below (S := Empty) hb11); have hs11 := hO0.out _ hO11))) | fail
  have HP11 := Lib.hid (HP.out.only hO11 (fun h => h) (fun _ _ _ h => h))
  have HS11 := Lib.hid (HS.out.of hO11 (fun h => h) (fun h => h) (fun h => h))
  have HO11 := Lib.hid (PO.of_empty (g := g) (base := base) hO11)
  have hnx := nextSeq_any g base p mb Z vk _ P w11 HP11.out HQ.out (by omega)
  rw [hns.out] at hnx
  have HNS := Lib.hid hnx
  clear hO11 hs1 hb10 hO10 hs10 hb11 hnx Hnx Hlim hO0 HD c2
  go_wp2_with fail
  refine HNS.out.mono ?_
  rintro e12 w12 ⟨rfl, hb12⟩
  have HP12 := Lib.hid (HP11.out.below hb12)
  have HS12 := Lib.hid (HS11.out.below hb12)
  have HO12 := Lib.hid (HO11.out.trans (PO.of_below (g := g) (base := base) hb12))
  obtain ⟨b, cur, hA, hb, hB, hbg, hcl⟩ := HP12.out.gs hilt
  simp only at hA
  subst hA
  have d0 := hcl s Hi.out 0 (by omega)
  have d1 := hcl s Hi.out 1 (by omega)
  have d2 := hcl s Hi.out 2 (by omega)
  simp [Sc.cells] at d0 d1 d2
  have f0 := hB.frozen (i * 3)
  have f1 := hB.frozen (i * 3 + 1)
  have f2 := hB.frozen (i * 3 + 2)
  have c2 : w12.cell? ⟨g, 2, none⟩ = some (.slice (some ⟨b, 0, none⟩) n cap) := by rw [Hne.out]; exact HP12.out.blk.cell 2
  have hset := HP12.out.set_sec hilt rfl hb hB ⟨2, Q + 1, s.er + 1⟩
  have Hset := Lib.hid hset
  have hgl := HP12.out.blk.lt
  have hbl := hB.lt
  clear hb12 hset hcl hB
  go_wp2_with fail
  obtain ⟨w13, h13⟩ : ∃ w13, w13 = ((w12.setCell ⟨b, i * 3, none⟩ (.int .i64 2)).setCell ⟨b, i * 3 + 1, none⟩ (.int .u32 (Q + 1))).setCell ⟨b, i * 3 + 2, none⟩ (.int .i64 (s.er + 1)) := ⟨_, rfl⟩
  rw [← h13] at Hset ⊢
  have HP13 := Lib.hid Hset.out.1.drew
  have HO13 := Lib.hid (HO12.out.trans Hset.out.2).drew
  clear h13 Hset d0 d1 d2 f0 f1 f2 c2 hgl hbl HP12 HP11 HP hst1 HNS
  have hsz13 : base ≤ w13.drew.heap.size := Nat.le_trans hbase HO13.out.size
  obtain ⟨As2, cs2, w14, hrun, hP14, hO14, c8b, f8b, -⟩ := HP13.out.step_run (.open_ i (Q + 1).toNat) (Nat.le_trans hst (by decide)) hsz13
  have hv : Stp.v p Z (.open_ i (Q + 1).toNat) = .func (.func 162) #[.agg #[.pointer (some ⟨p, 0, none⟩), .int .i64 (i : Int), .int .u32 (Q + 1)]] #[] := by
    show Value.func _ #[.agg #[_, _, .int .u32 (((Q + 1).toNat : Nat) : Int)]] _ = _
    rw [Int.toNat_of_nonneg hQ1.1]
  rw [hv] at hrun
  have c0 : w13.cell? ⟨g, 0, none⟩ = some (.pointer (some ⟨p, 0, none⟩)) := HP13.out.blk.cell 0
  have c8 : w13.cell? ⟨g, 8, none⟩ = some (.slice As P.sts.length cs) := HP13.out.blk.cell 8
  have hgl : g < w13.heap.size := HP13.out.blk.lt
  replace hrun : (Builtin.append_ #[93, 93] 93 #[.slice As P.sts.length cs, .slice (some ⟨w13.heap.size, 0, none⟩) 1 1]).run Tryz.prog (w13.alloc (.cells #[.func (.func 162) #[.agg #[.pointer (some ⟨p, 0, none⟩), .int .i64 (i : Int), .int .u32 (Q + 1)]] #[]] 150)).drew = .ok (.slice As2 (P.sts.length + 1) cs2) w14 := hrun
  simp only at hrun c8b hP14 hO14
  obtain ⟨k, hk⟩ : ∃ k, k = P.sts.length := ⟨_, rfl⟩
  rw [← hk] at hrun c8 c8b hP14 hO14 hst
  have Hk := Lib.hid hk
  have HP14 := Lib.hid hP14
  have HO14 := Lib.hid (HO13.out.trans hO14)
  clear hv hk hP14 hO14
  go_region_law (refine step_append_eq (ts := 93) rfl (.tmp 62) (.tmp 71) rfl rfl rfl rfl hrun ?_)
  all_goals
    obtain ⟨w15, h15⟩ : ∃ w15, w15 = w14.setCell ⟨g, 8, none⟩ (.slice As2 (k + 1) cs2) := ⟨_, rfl⟩
    rw [← h15] at HP14 HO14 ⊢
    have HS15 := Lib.hid (HS.out.plan HO14.out HTh.out)
    have e0 : w15.cell? ⟨g, 0, none⟩ = some (.pointer (some ⟨p, 0, none⟩)) := HP14.out.blk.cell 0
    have hgz := geo_field1 (ss.length : Int) (Z : Int) (L : Int)
    have hmul : (i : Int) * (Z : Int) = (T : Int) := by rw [HT.out]; simp
    clear h15 hrun c0 c8 c8b f8b hgl hsz13
    go_wp2_with fail
    refine HS15.out.geo.mono ?_
    rintro e16 w16 ⟨rfl, hb16⟩
    have HP16 := Lib.hid (HP14.out.below hb16)
    have HO16 := Lib.hid (HO14.out.trans (PO.of_below (g := g) (base := base) hb16))
    have e1 : w16.cell? ⟨g, 0, none⟩ = some (.pointer (some ⟨p, 0, none⟩)) := HP16.out.blk.cell 0
    have Hbe := Lib.hid (behind_any p c e Z L ss w16 (HS15.out.below hb16))
    rw [← HV.out] at Hbe
    clear hb16 e0
    go_wp2_with fail
    refine Hbe.out.mono ?_
    rintro e17 w17 ⟨rfl, hb17⟩
    have HP17 := Lib.hid (HP16.out.below hb17)
    have HO17 := Lib.hid (HO16.out.trans (PO.of_below (g := g) (base := base) hb17))
    have q4 : w17.cell? ⟨g, 4, none⟩ = some (.int .i64 P.h.sec) := HP17.out.blk.cell 4
    have q5 : w17.cell? ⟨g, 5, none⟩ = some (.int .i64 P.h.next) := HP17.out.blk.cell 5
    have q6 : w17.cell? ⟨g, 6, none⟩ = some (.int .i64 P.h.left) := HP17.out.blk.cell 6
    have q7 : w17.cell? ⟨g, 7, none⟩ = some (.int .u32 P.h.txn) := HP17.out.blk.cell 7
    have r4 := HP17.out.blk.frozen 4
    have r5 := HP17.out.blk.frozen 5
    have r6 := HP17.out.blk.frozen 6
    have r7 := HP17.out.blk.frozen 7
    have hsh := HP17.out.set_head ⟨(i : Int), ((T + 12 : Nat) : Int), (V : Int), 0⟩
    have hT12 : ((T + 12 : Nat) : Int) = (T : Int) + 12 := by simp
    rw [hT12] at hsh hopd
    have Hsh := Lib.hid hsh
    have hgl17 := HP17.out.blk.lt
    clear hb17 e1 hsh Hbe
    go_wp2_with fail
    go_ret
    exact ⟨rfl, ⟨_, by rw [hopd.out]; exact Hsh.out.1⟩, HO17.out.trans Hsh.out.2⟩

end Go.Proofs.YtnhfmcijadficaaGreatDoor

/- A plan's open where the sector is blank, and where none can be opened. -/
namespace Go.Proofs.YtnhfmcijadficaaGreatDoor
set_option maxRecDepth 100000
open Go.RowKit

set_option maxHeartbeats 1000000 in
theorem pOpen_blank (g base p c e mb Z L : Nat) (vk : Value) (R : PP) (P : PV) (i : Nat) (s : Sc) (ss : List (Nat × List UInt8)) (w : World) (hP : PlanAt w g base p mb Z vk R P) (hs : FS w p c e Z L ss) (hTh : ∀ q, Three p c e q → q < base ∧ q ≠ g) (hq : Q32 P.l) (hn : P.l.length ≤ 64) (hst : P.sts.length ≤ 1000000)
    (hbase : base ≤ w.heap.size) (hbest : best (opensB (L : Int)) Sc.er P.l P.l.length = some i) (hi : P.l[i]? = some s) (her : 0 ≤ s.er ∧ s.er ≤ 2097152) (hlq : ¬ lastQ P.l = 4294967295) (hst1 : (s.st == 1) = false) (hss : ss.length = P.l.length) :
    Calls Tryz.prog 126 #[.pointer (some ⟨g, 0, none⟩)] w fun e1 w' => Opened g base p mb Z vk P i s w w' e1 := by
  obtain ⟨A, cap, As, cs⟩ := R
  have hilt : i < P.l.length := (List.getElem?_eq_some_iff.1 hi).1
  have hz := hs.bz
  have hq32 := lastQ_le P.l hq
  have hit : i * Z ≤ 4194304 := by
    have h1 : i * Z ≤ ss.length * Z := Nat.mul_le_mul_right _ (by omega)
    omega
  have HP := Lib.hid hP
  have HS := Lib.hid hs
  have HTh := Lib.hid hTh
  have HQ := Lib.hid hq
  have Hbest := Lib.hid hbest
  have Hi := Lib.hid hi
  have hopd : Hid (P.opened i Z s = ⟨P.l.set i ⟨2, lastQ P.l + 1, s.er⟩, ⟨(i : Int), ((i * Z + 12 : Nat) : Int), ((Z - 12 : Nat) : Int), 0⟩, P.sts ++ [.open_ i (lastQ P.l + 1).toNat]⟩) := Lib.hid (by
    unfold PV.opened
    rw [if_neg (by simpa using hst1)])
  obtain ⟨Q, hQ⟩ : ∃ Q : Int, Q = lastQ P.l := ⟨_, rfl⟩
  have hns : Hid (nsV P.l = .tuple #[.int .u32 (Q + 1), .bool true]) := Lib.hid (by unfold nsV; rw [if_neg hlq, hQ])
  rw [← hQ] at hopd hq32 hlq
  have hQ1 : 0 ≤ Q + 1 ∧ Q + 1 ≤ 4294967295 := by omega
  obtain ⟨n, hne⟩ : ∃ n, n = P.l.length := ⟨_, rfl⟩
  obtain ⟨T, hT⟩ : ∃ T, T = i * Z := ⟨_, rfl⟩
  obtain ⟨V, hV⟩ : ∃ V, V = Z - 12 := ⟨_, rfl⟩
  rw [← hT, ← hV] at hopd
  rw [← hT] at hit
  have HT := Lib.hid hT
  have HV := Lib.hid hV
  have c2 : w.cell? ⟨g, 2, none⟩ = some (.slice A n cap) := by rw [hne]; exact hP.blk.cell 2
  have hO0 : Hid (∀ W, Only Empty w W → W.cell? ⟨g, 2, none⟩ = some (.slice A n cap)) := Lib.hid (fun W hW => by rw [hne]; exact (hW.blk hP.blk (fun h => h)).cell 2)
  have Hlim := Lib.hid (fun W (hW : Only Empty w W) => limit_any g p c e Z L _ ss W (hW.blk hP.blk (fun h => h)) rfl (hs.of hW (fun h => h) (fun h => h) (fun h => h)))
  have Hnx := Lib.hid (fun W (hW : Only Empty w W) => next_any A n cap P.l (L : Int) W (by rw [hne]; exact hP.secs.row.only hW (fun _ _ h => h)) (by omega) (some i) (by rw [hne]; exact hbest))
  have hpv : placeV (some i) = .int .i64 (i : Int) := rfl
  have hin : i < n := by omega
  have hncap : n ≤ cap := by rw [hne]; exact hP.secs.row.2.1
  simp only [hpv, Option.isSome_some] at Hnx
  have Hne := Lib.hid hne
  clear hP hs hTh hq hbest hi hz hT hV hQ hlq hne hpv hss
  go_enter Tryz.func126, Tryz.ntmps126
  go_wp2_with fail
  have hD := (Only.refl Empty w).drew
  have hs1 := hO0.out _ hD
  have HD := Lib.hid hD
  clear hD
  first | (go_region_held3 (fun W => W.cell? ⟨g, 2, none⟩ = some (.slice A n cap)) (first | with_reducible exact hs1 | with_reducible exact hs10 | with_reducible exact hs11)
    (first | (go_at_call 125; (with_reducible refine (Hlim.out _ HD.out).mono ?_); rintro e10 w10 ⟨rfl, hb10⟩; have hO10 := HD.out.trans (Only.of_below (S := Empty) hb10); have hs10 := hO0.out _ hO10)
           | (go_at_call 160; (with_reducible refine (Hnx.out _ hO10).mono ?_); rintro e11 w11 ⟨rfl, hb11⟩; have hO11 := hO10.trans (Only.of_below (S := Empty) hb11); have hs11 := hO0.out _ hO11))) | fail
  have HP11 := Lib.hid (HP.out.only hO11 (fun h => h) (fun _ _ _ h => h))
  have HS11 := Lib.hid (HS.out.of hO11 (fun h => h) (fun h => h) (fun h => h))
  have HO11 := Lib.hid (PO.of_empty (g := g) (base := base) hO11)
  have hnx := nextSeq_any g base p mb Z vk _ P w11 HP11.out HQ.out (by omega)
  rw [hns.out] at hnx
  have HNS := Lib.hid hnx
  clear hO11 hs1 hb10 hO10 hs10 hb11 hnx Hnx Hlim hO0 HD c2
  go_wp2_with fail
  refine HNS.out.mono ?_
  rintro e12 w12 ⟨rfl, hb12⟩
  have HP12 := Lib.hid (HP11.out.below hb12)
  have HS12 := Lib.hid (HS11.out.below hb12)
  have HO12 := Lib.hid (HO11.out.trans (PO.of_below (g := g) (base := base) hb12))
  obtain ⟨b, cur, hA, hb, hB, hbg, hcl⟩ := HP12.out.gs hilt
  simp only at hA
  subst hA
  have d0 := hcl s Hi.out 0 (by omega)
  have d1 := hcl s Hi.out 1 (by omega)
  have d2 := hcl s Hi.out 2 (by omega)
  simp [Sc.cells] at d0 d1 d2
  have f0 := hB.frozen (i * 3)
  have f1 := hB.frozen (i * 3 + 1)
  have f2 := hB.frozen (i * 3 + 2)
  have c2 : w12.cell? ⟨g, 2, none⟩ = some (.slice (some ⟨b, 0, none⟩) n cap) := by rw [Hne.out]; exact HP12.out.blk.cell 2
  have hset := HP12.out.set_sec hilt rfl hb hB ⟨2, Q + 1, s.er⟩
  have Hset := Lib.hid hset
  have hgl := HP12.out.blk.lt
  have hbl := hB.lt
  clear hb12 hset hcl hB
  go_wp2_with fail
  obtain ⟨w13, h13⟩ : ∃ w13, w13 = ((w12.setCell ⟨b, i * 3, none⟩ (.int .i64 2)).setCell ⟨b, i * 3 + 1, none⟩ (.int .u32 (Q + 1))).setCell ⟨b, i * 3 + 2, none⟩ (.int .i64 (s.er)) := ⟨_, rfl⟩
  rw [← h13] at Hset ⊢
  have HP13 := Lib.hid Hset.out.1.drew
  have HO13 := Lib.hid (HO12.out.trans Hset.out.2).drew
  clear h13 Hset d0 d1 d2 f0 f1 f2 c2 hgl hbl HP12 HP11 HP hst1 HNS
  have hsz13 : base ≤ w13.drew.heap.size := Nat.le_trans hbase HO13.out.size
  obtain ⟨As2, cs2, w14, hrun, hP14, hO14, c8b, f8b, -⟩ := HP13.out.step_run (.open_ i (Q + 1).toNat) (Nat.le_trans hst (by decide)) hsz13
  have hv : Stp.v p Z (.open_ i (Q + 1).toNat) = .func (.func 162) #[.agg #[.pointer (some ⟨p, 0, none⟩), .int .i64 (i : Int), .int .u32 (Q + 1)]] #[] := by
    show Value.func _ #[.agg #[_, _, .int .u32 (((Q + 1).toNat : Nat) : Int)]] _ = _
    rw [Int.toNat_of_nonneg hQ1.1]
  rw [hv] at hrun
  have c0 : w13.cell? ⟨g, 0, none⟩ = some (.pointer (some ⟨p, 0, none⟩)) := HP13.out.blk.cell 0
  have c8 : w13.cell? ⟨g, 8, none⟩ = some (.slice As P.sts.length cs) := HP13.out.blk.cell 8
  have hgl : g < w13.heap.size := HP13.out.blk.lt
  replace hrun : (Builtin.append_ #[93, 93] 93 #[.slice As P.sts.length cs, .slice (some ⟨w13.heap.size, 0, none⟩) 1 1]).run Tryz.prog (w13.alloc (.cells #[.func (.func 162) #[.agg #[.pointer (some ⟨p, 0, none⟩), .int .i64 (i : Int), .int .u32 (Q + 1)]] #[]] 150)).drew = .ok (.slice As2 (P.sts.length + 1) cs2) w14 := hrun
  simp only at hrun c8b hP14 hO14
  obtain ⟨k, hk⟩ : ∃ k, k = P.sts.length := ⟨_, rfl⟩
  rw [← hk] at hrun c8 c8b hP14 hO14 hst
  have Hk := Lib.hid hk
  have HP14 := Lib.hid hP14
  have HO14 := Lib.hid (HO13.out.trans hO14)
  clear hv hk hP14 hO14
  go_region_law (refine step_append_eq (ts := 93) rfl (.tmp 62) (.tmp 71) rfl rfl rfl rfl hrun ?_)
  all_goals
    obtain ⟨w15, h15⟩ : ∃ w15, w15 = w14.setCell ⟨g, 8, none⟩ (.slice As2 (k + 1) cs2) := ⟨_, rfl⟩
    rw [← h15] at HP14 HO14 ⊢
    have HS15 := Lib.hid (HS.out.plan HO14.out HTh.out)
    have e0 : w15.cell? ⟨g, 0, none⟩ = some (.pointer (some ⟨p, 0, none⟩)) := HP14.out.blk.cell 0
    have hgz := geo_field1 (ss.length : Int) (Z : Int) (L : Int)
    have hmul : (i : Int) * (Z : Int) = (T : Int) := by rw [HT.out]; simp
    clear h15 hrun c0 c8 c8b f8b hgl hsz13
    go_wp2_with fail
    refine HS15.out.geo.mono ?_
    rintro e16 w16 ⟨rfl, hb16⟩
    have HP16 := Lib.hid (HP14.out.below hb16)
    have HO16 := Lib.hid (HO14.out.trans (PO.of_below (g := g) (base := base) hb16))
    have e1 : w16.cell? ⟨g, 0, none⟩ = some (.pointer (some ⟨p, 0, none⟩)) := HP16.out.blk.cell 0
    have Hbe := Lib.hid (behind_any p c e Z L ss w16 (HS15.out.below hb16))
    rw [← HV.out] at Hbe
    clear hb16 e0
    go_wp2_with fail
    refine Hbe.out.mono ?_
    rintro e17 w17 ⟨rfl, hb17⟩
    have HP17 := Lib.hid (HP16.out.below hb17)
    have HO17 := Lib.hid (HO16.out.trans (PO.of_below (g := g) (base := base) hb17))
    have q4 : w17.cell? ⟨g, 4, none⟩ = some (.int .i64 P.h.sec) := HP17.out.blk.cell 4
    have q5 : w17.cell? ⟨g, 5, none⟩ = some (.int .i64 P.h.next) := HP17.out.blk.cell 5
    have q6 : w17.cell? ⟨g, 6, none⟩ = some (.int .i64 P.h.left) := HP17.out.blk.cell 6
    have q7 : w17.cell? ⟨g, 7, none⟩ = some (.int .u32 P.h.txn) := HP17.out.blk.cell 7
    have r4 := HP17.out.blk.frozen 4
    have r5 := HP17.out.blk.frozen 5
    have r6 := HP17.out.blk.frozen 6
    have r7 := HP17.out.blk.frozen 7
    have hsh := HP17.out.set_head ⟨(i : Int), ((T + 12 : Nat) : Int), (V : Int), 0⟩
    have hT12 : ((T + 12 : Nat) : Int) = (T : Int) + 12 := by simp
    rw [hT12] at hsh hopd
    have Hsh := Lib.hid hsh
    have hgl17 := HP17.out.blk.lt
    clear hb17 e1 hsh Hbe
    go_wp2_with fail
    go_ret
    exact ⟨rfl, ⟨_, by rw [hopd.out]; exact Hsh.out.1⟩, HO17.out.trans Hsh.out.2⟩


set_option maxHeartbeats 1000000 in
theorem pOpen_no (g base p c e mb Z L : Nat) (vk : Value) (R : PP) (P : PV) (ss : List (Nat × List UInt8)) (w : World) (hP : PlanAt w g base p mb Z vk R P) (hs : FS w p c e Z L ss) (hq : Q32 P.l) (hn : P.l.length ≤ 64) (r : Option Nat)
    (hbest : best (opensB (L : Int)) Sc.er P.l P.l.length = r) (hno : r = none ∨ lastQ P.l = 4294967295) :
    Calls Tryz.prog 126 #[.pointer (some ⟨g, 0, none⟩)] w fun e1 w' => e1 = .returned (.bool false) ∧ Below w.heap.size w w' := by
  obtain ⟨A, cap, As, cs⟩ := R
  obtain ⟨sn, sb, hns, hor⟩ : ∃ (sn : Int) (sb : Bool), nsV P.l = .tuple #[.int .u32 sn, .bool sb] ∧ (r.isSome = false ∨ sb = false) := by
    unfold nsV
    by_cases h : lastQ P.l = 4294967295
    · rw [if_pos h]
      exact ⟨0, false, rfl, Or.inr rfl⟩
    · rw [if_neg h]
      rcases hno with rfl | h2
      · exact ⟨_, true, rfl, Or.inl rfl⟩
      · exact absurd h2 h
  have HP := Lib.hid hP
  have HQ := Lib.hid hq
  obtain ⟨n, hne⟩ : ∃ n, n = P.l.length := ⟨_, rfl⟩
  have c2 : w.cell? ⟨g, 2, none⟩ = some (.slice A n cap) := by rw [hne]; exact hP.blk.cell 2
  have hO0 : Hid (∀ W, Only Empty w W → W.cell? ⟨g, 2, none⟩ = some (.slice A n cap)) := Lib.hid (fun W hW => by rw [hne]; exact (hW.blk hP.blk (fun h => h)).cell 2)
  have Hlim := Lib.hid (fun W (hW : Only Empty w W) => limit_any g p c e Z L _ ss W (hW.blk hP.blk (fun h => h)) rfl (hs.of hW (fun h => h) (fun h => h) (fun h => h)))
  have Hnx := Lib.hid (fun W (hW : Only Empty w W) => next_any A n cap P.l (L : Int) W (by rw [hne]; exact hP.secs.row.only hW (fun _ _ h => h)) (by omega) r (by rw [hne]; exact hbest))
  obtain ⟨pv, hpv⟩ : ∃ pv, placeV r = .int .i64 pv := by cases r <;> exact ⟨_, rfl⟩
  obtain ⟨rb, hrb⟩ : ∃ rb, rb = r.isSome := ⟨_, rfl⟩
  rw [hpv, ← hrb] at Hnx
  rw [← hrb] at hor
  have Hns := Lib.hid hns
  clear hP hs hq hbest hno hne hpv hrb hns
  go_enter Tryz.func126, Tryz.ntmps126
  go_wp2_with fail
  have hD := (Only.refl Empty w).drew
  have hs1 := hO0.out _ hD
  have HD := Lib.hid hD
  clear hD
  first | (go_region_held3 (fun W => W.cell? ⟨g, 2, none⟩ = some (.slice A n cap)) (first | with_reducible exact hs1 | with_reducible exact hs10 | with_reducible exact hs11)
    (first | (go_at_call 125; (with_reducible refine (Hlim.out _ HD.out).mono ?_); rintro e10 w10 ⟨rfl, hb10⟩; have hO10 := HD.out.trans (Only.of_below (S := Empty) hb10); have hs10 := hO0.out _ hO10)
           | (go_at_call 160; (with_reducible refine (Hnx.out _ hO10).mono ?_); rintro e11 w11 ⟨rfl, hb11⟩; have hO11 := hO10.trans (Only.of_below (S := Empty) hb11); have hs11 := hO0.out _ hO11))) | fail
  have HP11 := Lib.hid (HP.out.only hO11 (fun h => h) (fun _ _ _ h => h))
  have HO11 := Lib.hid (hO11.below (B := w.heap.size) (Nat.le_refl _) (fun _ _ h => h))
  have hnx := nextSeq_any g base p mb Z vk _ P w11 HP11.out HQ.out (by omega)
  rw [Hns.out] at hnx
  have HNS := Lib.hid hnx
  clear hO11 hs1 hb10 hO10 hs10 hb11 hnx Hnx Hlim hO0 HD c2
  rcases hor with rfl | rfl
  · go_wp2_with fail
    refine HNS.out.mono ?_
    rintro e12 w12 ⟨rfl, hb12⟩
    have HB12 := Lib.hid (HO11.out.trans (hb12.mono HO11.out.size))
    clear hb12
    go_wp2_with fail
    go_ret
    exact ⟨rfl, HB12.out⟩
  · cases rb
    · go_wp2_with fail
      refine HNS.out.mono ?_
      rintro e12 w12 ⟨rfl, hb12⟩
      have HB12 := Lib.hid (HO11.out.trans (hb12.mono HO11.out.size))
      clear hb12
      go_wp2_with fail
      go_ret
      exact ⟨rfl, HB12.out⟩
    · go_wp2_with fail
      refine HNS.out.mono ?_
      rintro e12 w12 ⟨rfl, hb12⟩
      have HB12 := Lib.hid (HO11.out.trans (hb12.mono HO11.out.size))
      clear hb12
      go_wp2_with fail
      go_ret
      exact ⟨rfl, HB12.out⟩

theorem pOpen_yes (g base p c e mb Z L : Nat) (vk : Value) (R : PP) (P : PV) (i : Nat) (s : Sc) (ss : List (Nat × List UInt8)) (w : World) (hP : PlanAt w g base p mb Z vk R P) (hs : FS w p c e Z L ss) (hTh : ∀ q, Three p c e q → q < base ∧ q ≠ g) (hq : Q32 P.l) (hn : P.l.length ≤ 64) (hst : P.sts.length ≤ 1000000)
    (hbase : base ≤ w.heap.size) (hbest : best (opensB (L : Int)) Sc.er P.l P.l.length = some i) (hi : P.l[i]? = some s) (her : 0 ≤ s.er ∧ s.er ≤ 2097152) (hlq : ¬ lastQ P.l = 4294967295) (hss : ss.length = P.l.length) :
    Calls Tryz.prog 126 #[.pointer (some ⟨g, 0, none⟩)] w fun e1 w' => Opened g base p mb Z vk P i s w w' e1 := by
  cases h : s.st == 1
  · exact pOpen_blank g base p c e mb Z L vk R P i s ss w hP hs hTh hq hn hst hbase hbest hi her hlq h hss
  · exact pOpen_dirty g base p c e mb Z L vk R P i s ss w hP hs hTh hq hn hst hbase hbest hi her hlq h hss

end Go.Proofs.YtnhfmcijadficaaGreatDoor

/- Rows of rows of strings: a plan's keys by sectors; the walk over blob's keysBySector. -/
namespace Go.Proofs.YtnhfmcijadficaaGreatDoor
set_option maxRecDepth 100000
open Go.RowKit Go.Maps

/-- One row of keys. -/
structure Kr where
  A : Option Addr
  cap : Nat
  ks : List (List UInt8)
def Kr.cells (k : Kr) : List Value := [.slice k.A k.ks.length k.cap]
theorem kr_len (k : Kr) : k.cells.length = 1 := rfl
theorem kr_one (k : Kr) : ∀ v ∈ k.cells, v.oneCell' = true := by
  intro v hv
  simp only [Kr.cells, List.mem_cons, List.not_mem_nil, or_false] at hv
  subst hv
  rfl

/-- Rows of keys of a call's own, each in a block of its own. -/
structure KeysAt (w : World) (base bi : Nat) (A : Option Addr) (cap : Nat) (K : List Kr) : Prop where
  le : base ≤ bi
  outer : GotR Kr.cells 1 67 base w A K.length cap K
  inner : ∀ (i : Nat) (k : Kr), K[i]? = some k → Strs bi w k.A k.ks.length k.cap k.ks
  apart : ∀ (i j : Nat) (a b : Kr), K[i]? = some a → K[j]? = some b → i ≠ j → a.A = none ∨ a.A ≠ b.A

section
variable {w w' : World} {base bi cap : Nat} {A : Option Addr} {K : List Kr}
theorem KeysAt.only {T : Nat → Prop} (h : KeysAt w base bi A cap K) (q : Only T w w') (hT : ∀ i, base ≤ i → i < w.heap.size → ¬ T i) : KeysAt w' base bi A cap K :=
  ⟨h.le, h.outer.only kr_len q hT, fun i k hk => (h.inner i k hk).only strC_len q (fun j h1 h2 => hT j (Nat.le_trans h.le h1) h2), h.apart⟩
theorem KeysAt.below (h : KeysAt w base bi A cap K) (q : Below w.heap.size w w') : KeysAt w' base bi A cap K := h.only (Only.of_below (S := Empty) q) (fun _ _ _ h => h)
theorem strs_addr {n c : Nat} {B : Option Addr} {l : List (List UInt8)} (h : Strs base w B n c l) : B = none ∨ ∃ g, B = some ⟨g, 0, none⟩ ∧ base ≤ g ∧ g < w.heap.size := by
  rcases h.here with h | ⟨g, cur, he, hb, hB, _⟩
  · exact Or.inl h
  · exact Or.inr ⟨g, he, hb, hB.lt⟩

theorem GotR.kept_ {α : Type} {cells : α → List Value} {k n cap base : Nat} {t : TypeId} {w w' : World} {A : Option Addr} {l : List α} {row : Option Nat} (hk : ∀ f, (cells f).length = k) (h : GotR cells k t base w A n cap l) (hg : w.grownBy w' row) (hne : (Value.slice A n cap).ownBlock = none ∨ (Value.slice A n cap).ownBlock ≠ row) :
    GotR cells k t base w' A n cap l := by
  obtain ⟨A', c', he, hG⟩ := GotR.of_own hk (h.own.kept hg hne) h.row.1
  cases he
  exact hG
theorem flat_set1 {α : Type} {cells : α → List Value} (hk : ∀ f, (cells f).length = 1) (l : List α) (i : Nat) (x : α) (v : Value) (hv : cells x = [v]) : (l.set i x).flatMap cells = (l.flatMap cells).set i v := by
  induction l generalizing i with
  | nil => rfl
  | cons a l ih =>
    obtain ⟨u, hu⟩ := List.length_eq_one_iff.1 (hk a)
    cases i with
    | zero => rw [List.set_cons_zero, List.flatMap_cons, List.flatMap_cons, hv, hu]; rfl
    | succ i => rw [List.set_cons_succ, List.flatMap_cons, List.flatMap_cons, ih, hu]; rfl
theorem GotR.set1 {α : Type} {cells : α → List Value} {t : TypeId} {w : World} {base g n cap : Nat} {l : List α} (hk : ∀ f, (cells f).length = 1) (h : GotR cells 1 t base w (some ⟨g, 0, none⟩) n cap l) (i : Nat) (x : α) (v : Value) (hv : cells x = [v]) :
    GotR cells 1 t base (w.setCell ⟨g, i, none⟩ v) (some ⟨g, 0, none⟩) n cap (l.set i x) := by
  have hl := h.row.1
  rcases h.own.2 with ⟨hnil, _⟩ | ⟨g', cap', cur, hv', hbase, hb, h1, h2, h3, h4⟩
  · cases hnil
  · cases hv'
    have hb2 : Blk w g t cur := hb
    have hb3 := hb2.set_ i v
    have hown : (w.setCell ⟨g, i, none⟩ v).ownsRow base t 1 (.slice (some ⟨g, 0, none⟩) n cap) n ((l.set i x).flatMap cells) := by
      refine ⟨by rw [rows_len hk, List.length_set, hl], Or.inr ⟨g, cap, _, rfl, hbase, hb3, h1, h2, by simp [h3], ?_⟩⟩
      rw [Array.toList_setIfInBounds, List.take_set, h4, flat_set1 hk l i x v hv]
    obtain ⟨A', c', he, hG⟩ := GotR.of_own hk hown (by rw [List.length_set, hl])
    cases he
    exact hG
theorem own_block (A : Option Addr) (n c : Nat) : (Value.slice A n c).ownBlock = A.map (·.block) := by cases A <;> rfl

theorem GotR.cell1 {α : Type} {cells : α → List Value} {t : TypeId} {w : World} {base g n cap i : Nat} {l : List α} {x : α} {v : Value} (h : GotR cells 1 t base w (some ⟨g, 0, none⟩) n cap l) (hi : l[i]? = some x) (hv : cells x = [v]) : w.cell? ⟨g, i, none⟩ = some v ∧ w.frozen? ⟨g, i, none⟩ = false ∧ g < w.heap.size := by
  have hil : i < n := by have := (List.getElem?_eq_some_iff.1 hi).1; have := h.row.1; omega
  rcases h.here with hn | ⟨g', cur, he, _, hB, _⟩
  · cases hn
  · cases he
    obtain ⟨b, o, he2, _, _, hc⟩ := h.row.2.2.2 (by omega)
    cases he2
    have h1 := hc i x hi 0 (by omega)
    rw [hv, Nat.mul_one, Nat.zero_add, Nat.add_zero] at h1
    exact ⟨h1, hB.frozen i, hB.lt⟩
theorem KeysAt.grow {w1 : World} {g i : Nat} {k : Kr} (h : KeysAt w base bi A cap K) (hA : A = some ⟨g, 0, none⟩) (hk : K[i]? = some k) (hg : w.grownBy w1 (Value.slice k.A k.ks.length k.cap).ownBlock) : GotR Kr.cells 1 67 base w1 (some ⟨g, 0, none⟩) K.length cap K := by
  subst hA
  have hki := h.inner i k hk
  exact h.outer.kept_ kr_len hg (by
    refine Or.inr fun he => ?_
    rw [own_block] at he
    rw [own_block] at he
    rcases hki.here with hn | ⟨q, cur, hq, _, hB, _⟩
    · rw [hn] at he; cases he
    · rw [hq] at he
      rcases h.outer.here with hn | ⟨q2, cur2, hq2, _, hB2, _⟩
      · cases hn
      · cases hq2
        simp at he
        subst he
        exact (Blk.ne_ hB hB2 (by decide)) rfl)

/-- One row of keys has another key, and is stored: w1 is the world behind the append, whose row grew. -/
theorem KeysAt.put {w1 : World} {g i c' : Nat} {A' : Option Addr} {k : Kr} {x : List (List UInt8)} {m : Nat} (h : KeysAt w base bi A cap K) (hA : A = some ⟨g, 0, none⟩) (hk : K[i]? = some k) (hG : Strs bi w1 A' (k.ks.length + m) c' (k.ks ++ x)) (hx : x.length = m) (hg : w.grownBy w1 (Value.slice k.A k.ks.length k.cap).ownBlock)
    (hloc : (Value.slice A' (k.ks.length + m) c').ownBlock = (Value.slice k.A k.ks.length k.cap).ownBlock ∨ ∃ q, (Value.slice A' (k.ks.length + m) c').ownBlock = some q ∧ w.heap.size ≤ q) :
    KeysAt (w1.setCell ⟨g, i, none⟩ (.slice A' (k.ks.length + m) c')) base bi A cap (K.set i ⟨A', c', k.ks ++ x⟩) := by
  have hlen : (k.ks ++ x).length = k.ks.length + m := by rw [List.length_append, hx]
  have hil : i < K.length := (List.getElem?_eq_some_iff.1 hk).1
  subst hA
  have hki := h.inner i k hk
  have hout1 : GotR Kr.cells 1 67 base w1 (some ⟨g, 0, none⟩) K.length cap K := h.outer.kept_ kr_len hg (by
    refine Or.inr fun he => ?_
    rw [own_block] at he
    rw [own_block] at he
    rcases hki.here with hn | ⟨q, cur, hq, _, hB, _⟩
    · rw [hn] at he; cases he
    · rw [hq] at he
      rcases h.outer.here with hn | ⟨q2, cur2, hq2, _, hB2, _⟩
      · cases hn
      · cases hq2
        simp at he
        subst he
        exact (Blk.ne_ hB hB2 (by decide)) rfl)
  obtain ⟨cur2, hB2⟩ : ∃ cur2, Blk w1 g 67 cur2 := by
    rcases hout1.here with hn | ⟨q2, cur2, hq2, _, hB2, _⟩
    · cases hn
    · cases hq2
      exact ⟨cur2, hB2⟩
  have hO : Only (· = g) w1 (w1.setCell ⟨g, i, none⟩ (.slice A' (k.ks.length + m) c')) := (Only.refl (· = g) w1).setCell (p := ⟨g, i, none⟩) (Or.inl rfl) _
  refine ⟨h.le, ?_, ?_, ?_⟩
  · rw [List.length_set]
    exact hout1.set1 kr_len i _ _ (by unfold Kr.cells; rw [hlen])
  · intro j q hq
    by_cases hij : i = j
    · subst hij
      rw [List.getElem?_set_self hil] at hq
      cases hq
      show Strs bi _ A' (k.ks ++ x).length c' (k.ks ++ x)
      rw [hlen]
      exact hG.far strC_len hB2 (by decide) hO
    · rw [List.getElem?_set_ne hij] at hq
      have hj := h.inner j q hq
      refine (hj.kept_ strC_len hg ?_).far strC_len hB2 (by decide) hO
      rw [own_block, own_block]
      rcases h.apart j i q k hq hk (fun e => hij e.symm) with hn | hn
      · rw [hn]; exact Or.inl rfl
      · refine Or.inr fun he => hn ?_
        rcases strs_addr hj with h1 | ⟨a, h1, _, _⟩
        · rw [h1] at he ⊢
          rcases strs_addr hki with h2 | ⟨b, h2, _, _⟩
          · rw [h2]
          · rw [h2] at he; cases he
        · rcases strs_addr hki with h2 | ⟨b, h2, _, _⟩
          · rw [h1, h2] at he; cases he
          · rw [h1, h2] at he ⊢
            simp at he
            rw [he]
  · intro a b qa qb ha hb hab
    have hnew : ∀ j q, K[j]? = some q → j ≠ i → A' = none ∨ A' ≠ q.A := fun j q hq hji => by
      rcases strs_addr hG with h1 | ⟨n1, h1, _, _⟩
      · exact Or.inl h1
      · refine Or.inr fun he => ?_
        rcases hloc with hl | ⟨q2, hl, hl2⟩
        · rw [own_block, own_block, h1] at hl
          rcases h.apart i j k q hk hq (fun e => hji e.symm) with hn | hn
          · rw [hn] at hl; cases hl
          · refine hn ?_
            rcases strs_addr hki with h2 | ⟨n2, h2, _, _⟩
            · rw [h2] at hl; cases hl
            · rw [h2] at hl
              simp at hl
              rw [h2, ← hl, ← h1, he]
        · rw [own_block, h1] at hl
          simp at hl
          rcases strs_addr (h.inner j q hq) with h2 | ⟨n2, h2, _, h3⟩
          · rw [h1, h2] at he; cases he
          · rw [h1, h2] at he
            simp at he
    by_cases hia : i = a
    · subst hia
      rw [List.getElem?_set_self hil] at ha
      rw [List.getElem?_set_ne hab] at hb
      cases ha
      exact hnew b qb hb (fun e => hab e.symm)
    · rw [List.getElem?_set_ne hia] at ha
      by_cases hib : i = b
      · subst hib
        rw [List.getElem?_set_self hil] at hb
        cases hb
        rcases hnew a qa ha (fun e => hia e.symm) with hn | hn
        · rcases strs_addr (h.inner a qa ha) with h2 | ⟨n2, h2, _, h3⟩
          · exact Or.inl h2
          · refine Or.inr ?_
            show qa.A ≠ A'
            rw [h2, hn]
            exact fun h => by cases h
        · exact Or.inr (fun e => hn e.symm)
      · rw [List.getElem?_set_ne hib] at hb
        exact h.apart a b qa qb ha hb hab
end

end Go.Proofs.YtnhfmcijadficaaGreatDoor
