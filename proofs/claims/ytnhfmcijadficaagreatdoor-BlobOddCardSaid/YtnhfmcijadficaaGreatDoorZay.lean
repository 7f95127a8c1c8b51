/- The walk over a plan's letGo. (Printed by gen/gen_ky.py.) -/
import Derived.Test.YtnhfmcijadficaaGreatDoorZax
import Derived.Test.YtnhfmcijadficaaGreatDoorZaa
import Derived.Shelf.Sort.Plain
import Derived.Shelf.Slices.In.SortNone
import Derived.Test.YtnhfmcijadficaaGreatDoorZam
namespace Go.Proofs.YtnhfmcijadficaaGreatDoor
set_option maxRecDepth 100000
open Go.RowKit

set_option maxHeartbeats 4000000 in
theorem pLetGo_any (g base p c e mb Z L : Nat) (vk : Value) (R : PP) (P : PV) (i : Nat) (s : Sc) (ss : List (Nat × List UInt8)) (w : World) (hP : PlanAt w g base p mb Z vk R P) (hs : FS w p c e Z L ss) (hTh : ∀ q, Three p c e q → q < base ∧ q ≠ g) (hn : P.l.length ≤ 64) (hst : P.sts.length ≤ 1000000)
    (hbase : base ≤ w.heap.size) (hi : P.l[i]? = some s) (her : 0 ≤ s.er ∧ s.er ≤ 2097152) :
    Calls Tryz.prog 165 #[.pointer (some ⟨g, 0, none⟩), .int .i64 (i : Int)] w fun e1 w' => e1 = .returned (.tuple #[]) ∧ (∃ R', PlanAt w' g base p mb Z vk R' (P.letGo L i s)) ∧ PO g base w w' := by
  obtain ⟨A, cap, As, cs⟩ := R
  have hilt : i < P.l.length := (List.getElem?_eq_some_iff.1 hi).1
  obtain ⟨b, cur, hA, hb, hB, hbg, hcl⟩ := hP.gs hilt
  simp only at hA
  subst hA
  obtain ⟨st, q, er⟩ := s
  simp only at her
  have hcapm : P.l.length ≤ cap := hP.secs.row.2.1
  obtain ⟨m, hm⟩ : ∃ m, m = P.l.length := ⟨_, rfl⟩
  obtain ⟨k, hk⟩ : ∃ k, k = P.sts.length := ⟨_, rfl⟩
  obtain ⟨n2, hn2⟩ : ∃ n2, n2 = (goSts L i ⟨st, q, er⟩).length := ⟨_, rfl⟩
  have hn22 : n2 ≤ 2 := by rw [hn2]; unfold goSts; split <;> simp
  have Hm := Lib.hid hm
  have Hk := Lib.hid hk
  have Hn2 := Lib.hid hn2
  have hsD := hs.of (Only.refl Empty w).drew (fun h => h) (fun h => h) (fun h => h)
  have Hlg := Lib.hid (letGo_any p c e Z L i ⟨st, q, er⟩ ss w.drew hsD)
  rw [← hn2] at Hlg
  simp only at Hlg
  have HP1 := Lib.hid hP.drew
  have HSS : Hid (∀ W {vst : Value}, PO g base w.drew W → Blk W g 109 (planC p mb (.slice (some ⟨b, 0, none⟩) P.l.length cap) vk P.h vst) → GotR Sc.cells 3 96 base W (some ⟨b, 0, none⟩) P.l.length cap P.l → W.cell? ⟨g, 0, none⟩ = some (.pointer (some ⟨p, 0, none⟩)) ∧ W.cell? ⟨g, 2, none⟩ = some (.slice (some ⟨b, 0, none⟩) m cap) ∧ W.cell? ⟨b, i * 3, none⟩ = some (.int .i64 st) ∧ W.cell? ⟨b, i * 3 + 1, none⟩ = some (.int .u32 q) ∧ W.cell? ⟨b, i * 3 + 2, none⟩ = some (.int .i64 er)) := Lib.hid (fun W vst _ h1 h2 => by
    obtain ⟨b2, o2, he2, _, _, hc⟩ := h2.row.2.2.2 (by omega)
    cases he2
    have d0 := hc i _ hi 0 (by omega)
    have d1 := hc i _ hi 1 (by omega)
    have d2 := hc i _ hi 2 (by omega)
    simp [Sc.cells] at d0 d1 d2
    exact ⟨h1.cell 0, by rw [hm]; exact h1.cell 2, d0, d1, d2⟩)
  have hs1 := HSS.out w.drew (PO.refl _ _ _) HP1.out.blk HP1.out.secs
  have c8 : w.drew.cell? ⟨g, 8, none⟩ = some (.slice As k cs) := by rw [hk]; exact HP1.out.blk.cell 8
  have hgl : g < w.drew.heap.size := HP1.out.blk.lt
  have hst2 : k ≤ 1000000 := by rw [hk]; exact hst
  have him : i < m := by rw [hm]; exact hilt
  have hmcap : m ≤ cap := by rw [hm]; exact hcapm
  have hit : i * 3 ≤ 192 := by omega
  have Hrest : Hid (∀ W R2, PlanAt W g base p mb Z vk R2 { P with sts := P.sts ++ goSts L i ⟨st, q, er⟩ } → PO g base w.drew W → True) := Lib.hid (fun _ _ _ _ => trivial)
  have HS := Lib.hid hsD
  have HTh := Lib.hid hTh
  have Hi := Lib.hid hi
  clear hTh hP hs hi hB hcl hm hk hn2 hilt hcapm hst hsD hn
  go_enter Tryz.func165, Tryz.ntmps165
  go_wp2_with fail
  refine wp_region_held_drew (S := fun W => W.cell? ⟨g, 0, none⟩ = some (.pointer (some ⟨p, 0, none⟩)) ∧ W.cell? ⟨g, 2, none⟩ = some (.slice (some ⟨b, 0, none⟩) m cap) ∧ W.cell? ⟨b, i * 3, none⟩ = some (.int .i64 st) ∧ W.cell? ⟨b, i * 3 + 1, none⟩ = some (.int .u32 q) ∧ W.cell? ⟨b, i * 3 + 2, none⟩ = some (.int .i64 er)) (by kernel_rfl) hs1 (fun hHeld => ?_)
  refine take_yes 0 5 ?_ rfl rfl (by kernel_rfl) (by kernel_rfl) (by kernel_rfl) (fun _ _ _ h => h) (by kernel_rfl) ?_ (by assumption) ?_; rotate_left; (focus (intro w hSw; (try dsimp only at hSw); go_simp; all_goals with_reducible rfl)); simp only [Act.put, List.setIfInBounds_toArray, List.set_cons_zero, List.set_cons_succ]
  refine take_yes 1 6 ?_ rfl rfl (by kernel_rfl) (by kernel_rfl) (by kernel_rfl) (fun _ _ _ h => h) (by kernel_rfl) ?_ (by assumption) ?_; rotate_left; (focus (intro w hSw; (try dsimp only at hSw); go_simp; all_goals with_reducible rfl)); simp only [Act.put, List.setIfInBounds_toArray, List.set_cons_zero, List.set_cons_succ]
  refine take_yes 2 7 ?_ rfl rfl (by kernel_rfl) (by kernel_rfl) (by kernel_rfl) (fun _ _ _ h => h) (by kernel_rfl) ?_ (by assumption) ?_; rotate_left; (focus (intro w hSw; (try dsimp only at hSw); go_simp; all_goals with_reducible rfl)); simp only [Act.put, List.setIfInBounds_toArray, List.set_cons_zero, List.set_cons_succ]
  refine take_yes 3 8 ?_ rfl rfl (by kernel_rfl) (by kernel_rfl) (by kernel_rfl) (fun _ _ _ h => h) (by kernel_rfl) ?_ (by assumption) ?_; rotate_left; (focus (intro w hSw; (try dsimp only at hSw); go_simp; all_goals with_reducible rfl)); simp only [Act.put, List.setIfInBounds_toArray, List.set_cons_zero, List.set_cons_succ]
  refine take_yes 5 10 ?_ rfl rfl (by kernel_rfl) (by kernel_rfl) (by kernel_rfl) (fun _ _ _ h => h) (by kernel_rfl) ?_ (by assumption) ?_; rotate_left; (focus (intro w hSw; (try dsimp only at hSw); go_simp; all_goals with_reducible rfl)); simp only [Act.put, List.setIfInBounds_toArray, List.set_cons_zero, List.set_cons_succ]
  refine take_yes 6 11 ?_ rfl rfl (by kernel_rfl) (by kernel_rfl) (by kernel_rfl) (fun _ _ _ h => h) (by kernel_rfl) ?_ (by assumption) ?_; rotate_left; (focus (intro w hSw; (try dsimp only at hSw); go_simp; all_goals with_reducible rfl)); simp only [Act.put, List.setIfInBounds_toArray, List.set_cons_zero, List.set_cons_succ]
  refine take_yes 7 12 ?_ rfl rfl (by kernel_rfl) (by kernel_rfl) (by kernel_rfl) (fun _ _ _ h => h) (by kernel_rfl) ?_ (by assumption) ?_; rotate_left; (focus (intro w hSw; (try dsimp only at hSw); go_simp; all_goals with_reducible rfl)); simp only [Act.put, List.setIfInBounds_toArray, List.set_cons_zero, List.set_cons_succ]
  refine take_yes 8 13 ?_ rfl rfl (by kernel_rfl) (by kernel_rfl) (by kernel_rfl) (fun _ _ _ h => h) (by kernel_rfl) ?_ (by assumption) ?_; rotate_left; (focus (intro w hSw; (try dsimp only at hSw); go_simp; all_goals with_reducible rfl)); simp only [Act.put, List.setIfInBounds_toArray, List.set_cons_zero, List.set_cons_succ]
  refine take_yes 9 14 ?_ rfl rfl (by kernel_rfl) (by kernel_rfl) (by kernel_rfl) (fun _ _ _ h => h) (by kernel_rfl) ?_ (by assumption) ?_; rotate_left; (focus (intro w hSw; (try dsimp only at hSw); go_simp; all_goals with_reducible rfl)); simp only [Act.put, List.setIfInBounds_toArray, List.set_cons_zero, List.set_cons_succ]
  refine take_yes 10 15 ?_ rfl rfl (by kernel_rfl) (by kernel_rfl) (by kernel_rfl) (fun _ _ _ h => h) (by kernel_rfl) ?_ (by assumption) ?_; rotate_left; (focus (intro w hSw; (try dsimp only at hSw); go_simp; all_goals with_reducible rfl)); simp only [Act.put, List.setIfInBounds_toArray, List.set_cons_zero, List.set_cons_succ]
  refine take_yes 11 16 ?_ rfl rfl (by kernel_rfl) (by kernel_rfl) (by kernel_rfl) (fun _ _ _ h => h) (by kernel_rfl) ?_ (by assumption) ?_; rotate_left; (focus (intro w hSw; (try dsimp only at hSw); go_simp; all_goals with_reducible rfl)); simp only [Act.put, List.setIfInBounds_toArray, List.set_cons_zero, List.set_cons_succ]
  refine take_yes 12 17 ?_ rfl rfl (by kernel_rfl) (by kernel_rfl) (by kernel_rfl) (fun _ _ _ h => h) (by kernel_rfl) ?_ (by assumption) ?_; rotate_left; (focus (intro w hSw; (try dsimp only at hSw); go_simp; all_goals with_reducible rfl)); simp only [Act.put, List.setIfInBounds_toArray, List.set_cons_zero, List.set_cons_succ]
  refine take_yes 13 18 ?_ rfl rfl (by kernel_rfl) (by kernel_rfl) (by kernel_rfl) (fun _ _ _ h => h) (by kernel_rfl) ?_ (by assumption) ?_; rotate_left; (focus (intro w hSw; (try dsimp only at hSw); go_simp; all_goals with_reducible rfl)); simp only [Act.put, List.setIfInBounds_toArray, List.set_cons_zero, List.set_cons_succ]
  refine take_yes 14 19 ?_ rfl rfl (by kernel_rfl) (by kernel_rfl) (by kernel_rfl) (fun _ _ _ h => h) (by kernel_rfl) ?_ (by assumption) ?_; rotate_left; (focus (intro w hSw; (try dsimp only at hSw); go_simp; all_goals with_reducible rfl)); simp only [Act.put, List.setIfInBounds_toArray, List.set_cons_zero, List.set_cons_succ]
  refine take_yes 15 20 ?_ rfl rfl (by kernel_rfl) (by kernel_rfl) (by kernel_rfl) (fun _ _ _ h => h) (by kernel_rfl) ?_ (by assumption) ?_; rotate_left; (focus (intro w hSw; (try dsimp only at hSw); go_simp; all_goals with_reducible rfl)); simp only [Act.put, List.setIfInBounds_toArray, List.set_cons_zero, List.set_cons_succ]
  refine take_yes 16 21 ?_ rfl rfl (by kernel_rfl) (by kernel_rfl) (by kernel_rfl) (fun _ _ _ h => h) (by kernel_rfl) ?_ (by assumption) ?_; rotate_left; (focus (intro w hSw; (try dsimp only at hSw); go_simp; all_goals with_reducible rfl)); simp only [Act.put, List.setIfInBounds_toArray, List.set_cons_zero, List.set_cons_succ]
  refine wpAnyH_ready (rs := [4, 17]) (by kernel_rfl) (by simp) ?_
  refine AllReadyH.cons rfl (fun K hK => ?_) (AllReadyH.cons rfl (fun K hK => ?_) AllReadyH.nil)
  · go_simp
    refine hK.out _ _ hs1 (fun _ => ?_)
    clear hK K
    try simp only [Act.put, List.setIfInBounds_toArray, List.set_cons_zero, List.set_cons_succ]
    refine wpAnyH_ready (rs := [17]) (by kernel_rfl) (by simp) ?_
    refine AllReadyH.cons rfl (fun K hK => ?_) AllReadyH.nil
    go_simp
    go_at_call 42
    (with_reducible refine Hlg.out.mono ?_)
    rintro e10 w10 ⟨⟨b10, rfl, hrow10⟩, hb10⟩
    have HP10 := Lib.hid (HP1.out.below hb10)
    have HO10 := Lib.hid (PO.of_below (g := g) (base := base) hb10)
    obtain ⟨As2, cs2, w11, hrun, hP11, hO11, hO11b, hB11, hG11⟩ := HP10.out.steps_run hrow10 (by have := Hk.out; omega) (Nat.le_trans hbase hb10.size)
    simp only at hrun hP11 hO11 hO11b hB11 hG11
    rw [← Hk.out] at hrun hP11 hO11
    rw [← Hk.out] at hB11
    have HP11 := Lib.hid hP11
    have HO11 := Lib.hid (HO10.out.trans hO11)
    have hs10 := HSS.out _ (HO10.out) HP10.out.blk HP10.out.secs
    have hs11 := HSS.out _ (HO10.out.trans hO11b) (by rw [Hk.out] at hB11; exact hB11) hG11
    have hs12 := HSS.out _ HO11.out HP11.out.blk (HP11.out.secs)
    have c8b : w11.cell? ⟨g, 8, none⟩ = some (.slice As k cs) := hB11.cell 8
    have f8b := hB11.frozen 8
    have hgl11 := hB11.lt
    have c8a : w10.cell? ⟨g, 8, none⟩ = some (.slice As k cs) := by rw [Hk.out]; exact HP10.out.blk.cell 8
    clear hrow10 hb10 hP11 hO11 hO11b hB11 hG11
    go_wp2_with fail
    refine hK.out _ _ hs10 (fun _ => ?_)
    clear hK K
    try simp only [Act.put, List.setIfInBounds_toArray, List.set_cons_zero, List.set_cons_succ]
    refine wpAnyH_ready (rs := [18]) (by kernel_rfl) (by simp) ?_
    refine AllReadyH.cons rfl (fun K hK => ?_) AllReadyH.nil
    refine step_append_eq (ts := 93) rfl (.tmp 9) (.tmp 22) rfl rfl rfl rfl hrun ?_
    refine hK.out _ _ hs11 (fun _ => ?_)
    clear hK K
    try simp only [Act.put, List.setIfInBounds_toArray, List.set_cons_zero, List.set_cons_succ]
    refine take_yes 19 24 ?_ rfl rfl (by kernel_rfl) (by kernel_rfl) (by kernel_rfl) (fun _ _ _ h => h) (by kernel_rfl) ?_ (by assumption) ?_; rotate_left; (focus (intro w hSw; (try dsimp only at hSw); go_simp; all_goals with_reducible rfl)); simp only [Act.put, List.setIfInBounds_toArray, List.set_cons_zero, List.set_cons_succ]
    refine take_yes 20 25 ?_ rfl rfl (by kernel_rfl) (by kernel_rfl) (by kernel_rfl) (fun _ _ _ h => h) (by kernel_rfl) ?_ (by assumption) ?_; rotate_left; (focus (intro w hSw; (try dsimp only at hSw); go_simp; all_goals with_reducible rfl)); simp only [Act.put, List.setIfInBounds_toArray, List.set_cons_zero, List.set_cons_succ]
    refine wpAnyH_ready (rs := [21]) (by kernel_rfl) (by simp) ?_
    refine AllReadyH.cons rfl (fun K hK => ?_) AllReadyH.nil
    go_simp
    refine hK.out _ _ (hs12) (fun _ => ?_)
    clear hK K
    try simp only [Act.put, List.setIfInBounds_toArray, List.set_cons_zero, List.set_cons_succ]
    refine wpAnyH_done (by kernel_rfl) ?_ _
    obtain ⟨w12, h12⟩ : ∃ w12, w12 = w11.setCell ⟨g, 8, none⟩ (.slice As2 (k + n2) cs2) := ⟨_, rfl⟩
    rw [← h12] at HP11 HO11 ⊢
    clear h12 hrun hs10 hs11 hs12 c8b f8b hgl11 c8a HP10 HO10
    have Hend := Lib.hid (Hrest.out w12 _ HP11.out HO11.out)
    have d0 : w12.cell? ⟨g, 2, none⟩ = some (.slice (some ⟨b, 0, none⟩) m cap) := by rw [Hm.out]; exact HP11.out.blk.cell 2
    obtain ⟨bq, cur, hA, hb2, hB, hbg2, hcl⟩ := HP11.out.gs (i := i) (by rw [← Hm.out]; exact him)
    cases hA
    have d1 := hcl _ Hi.out 2 (by omega)
    simp [Sc.cells] at d1
    have HB := Lib.hid hB
    clear hcl hB Hend hbg2 hb2
    go_wp2_with fail
    have HF12 := Lib.hid (HS.out.plan HO11.out HTh.out)
    have Hlim := Lib.hid (limit_any g p c e Z L _ ss w12 HP11.out.blk rfl HF12.out)
    refine Hlim.out.mono ?_
    rintro e13 w13 ⟨rfl, hb13⟩
    have HP13 := Lib.hid (HP11.out.below hb13)
    have HO13 := Lib.hid (HO11.out.trans (PO.of_below (g := g) (base := base) hb13))
    have HB13 := Lib.hid (HB.out.of (hb13.block b HB.out.lt))
    have f0 := HB13.out.frozen (i * 3)
    have f1 := HB13.out.frozen (i * 3 + 1)
    have f2 := HB13.out.frozen (i * 3 + 2)
    have d0 : w13.cell? ⟨g, 2, none⟩ = some (.slice (some ⟨b, 0, none⟩) m cap) := by rw [Hm.out]; exact HP13.out.blk.cell 2
    have hs13 := HSS.out w13 HO13.out HP13.out.blk HP13.out.secs
    obtain ⟨-, -, d1, d2, d3⟩ := hs13
    have hbl := HB13.out.lt
    have hilt : i < P.l.length := by rw [← Hm.out]; exact him
    by_cases hL : (L : Int) ≤ er
    · have hL2 : ¬ er < (L : Int) := by omega
      have hset := HP13.out.set_sec (i := i) hilt rfl hb HB13.out ⟨1, 0, er⟩
      have Hset := Lib.hid hset
      have HL := Lib.hid hL
      clear hb13 hset Hlim hL
      go_wp2_with fail
      go_end0
      refine ⟨rfl, ?_, ((PO.refl g base w).drew.trans HO13.out).trans Hset.out.2⟩
      have h2 := Hset.out.1
      exact ⟨_, by unfold PV.letGo; rw [if_pos (show (L : Int) ≤ er by have := HL.out; omega)]; exact h2⟩
    · have hL2 : er < (L : Int) := by omega
      have hset := HP13.out.set_sec (i := i) hilt rfl hb HB13.out ⟨0, 0, er + 1⟩
      have Hset := Lib.hid hset
      have HL := Lib.hid hL
      clear hb13 hset Hlim hL
      go_wp2_with fail
      go_end0
      refine ⟨rfl, ?_, ((PO.refl g base w).drew.trans HO13.out).trans Hset.out.2⟩
      have h2 := Hset.out.1
      exact ⟨_, by unfold PV.letGo; rw [if_neg (show ¬ (L : Int) ≤ er by have := HL.out; omega)]; exact h2⟩

  · go_simp
    go_at_call 42
    (with_reducible refine Hlg.out.mono ?_)
    rintro e10 w10 ⟨⟨b10, rfl, hrow10⟩, hb10⟩
    have HP10 := Lib.hid (HP1.out.below hb10)
    have HO10 := Lib.hid (PO.of_below (g := g) (base := base) hb10)
    obtain ⟨As2, cs2, w11, hrun, hP11, hO11, hO11b, hB11, hG11⟩ := HP10.out.steps_run hrow10 (by have := Hk.out; omega) (Nat.le_trans hbase hb10.size)
    simp only at hrun hP11 hO11 hO11b hB11 hG11
    rw [← Hk.out] at hrun hP11 hO11
    rw [← Hk.out] at hB11
    have HP11 := Lib.hid hP11
    have HO11 := Lib.hid (HO10.out.trans hO11)
    have hs10 := HSS.out _ (HO10.out) HP10.out.blk HP10.out.secs
    have hs11 := HSS.out _ (HO10.out.trans hO11b) (by rw [Hk.out] at hB11; exact hB11) hG11
    have hs12 := HSS.out _ HO11.out HP11.out.blk (HP11.out.secs)
    have c8b : w11.cell? ⟨g, 8, none⟩ = some (.slice As k cs) := hB11.cell 8
    have f8b := hB11.frozen 8
    have hgl11 := hB11.lt
    have c8a : w10.cell? ⟨g, 8, none⟩ = some (.slice As k cs) := by rw [Hk.out]; exact HP10.out.blk.cell 8
    clear hrow10 hb10 hP11 hO11 hO11b hB11 hG11
    go_wp2_with fail
    refine hK.out _ _ hs10 (fun _ => ?_)
    clear hK K
    try simp only [Act.put, List.setIfInBounds_toArray, List.set_cons_zero, List.set_cons_succ]
    refine wpAnyH_ready (rs := [4]) (by kernel_rfl) (by simp) ?_
    refine AllReadyH.cons rfl (fun K hK => ?_) AllReadyH.nil
    go_simp
    refine hK.out _ _ (hs10) (fun _ => ?_)
    clear hK K
    try simp only [Act.put, List.setIfInBounds_toArray, List.set_cons_zero, List.set_cons_succ]
    refine wpAnyH_ready (rs := [18]) (by kernel_rfl) (by simp) ?_
    refine AllReadyH.cons rfl (fun K hK => ?_) AllReadyH.nil
    refine step_append_eq (ts := 93) rfl (.tmp 9) (.tmp 22) rfl rfl rfl rfl hrun ?_
    refine hK.out _ _ hs11 (fun _ => ?_)
    clear hK K
    try simp only [Act.put, List.setIfInBounds_toArray, List.set_cons_zero, List.set_cons_succ]
    refine take_yes 19 24 ?_ rfl rfl (by kernel_rfl) (by kernel_rfl) (by kernel_rfl) (fun _ _ _ h => h) (by kernel_rfl) ?_ (by assumption) ?_; rotate_left; (focus (intro w hSw; (try dsimp only at hSw); go_simp; all_goals with_reducible rfl)); simp only [Act.put, List.setIfInBounds_toArray, List.set_cons_zero, List.set_cons_succ]
    refine take_yes 20 25 ?_ rfl rfl (by kernel_rfl) (by kernel_rfl) (by kernel_rfl) (fun _ _ _ h => h) (by kernel_rfl) ?_ (by assumption) ?_; rotate_left; (focus (intro w hSw; (try dsimp only at hSw); go_simp; all_goals with_reducible rfl)); simp only [Act.put, List.setIfInBounds_toArray, List.set_cons_zero, List.set_cons_succ]
    refine wpAnyH_ready (rs := [21]) (by kernel_rfl) (by simp) ?_
    refine AllReadyH.cons rfl (fun K hK => ?_) AllReadyH.nil
    go_simp
    refine hK.out _ _ (hs12) (fun _ => ?_)
    clear hK K
    try simp only [Act.put, List.setIfInBounds_toArray, List.set_cons_zero, List.set_cons_succ]
    refine wpAnyH_done (by kernel_rfl) ?_ _
    obtain ⟨w12, h12⟩ : ∃ w12, w12 = w11.setCell ⟨g, 8, none⟩ (.slice As2 (k + n2) cs2) := ⟨_, rfl⟩
    rw [← h12] at HP11 HO11 ⊢
    clear h12 hrun hs10 hs11 hs12 c8b f8b hgl11 c8a HP10 HO10
    have Hend := Lib.hid (Hrest.out w12 _ HP11.out HO11.out)
    have d0 : w12.cell? ⟨g, 2, none⟩ = some (.slice (some ⟨b, 0, none⟩) m cap) := by rw [Hm.out]; exact HP11.out.blk.cell 2
    obtain ⟨bq, cur, hA, hb2, hB, hbg2, hcl⟩ := HP11.out.gs (i := i) (by rw [← Hm.out]; exact him)
    cases hA
    have d1 := hcl _ Hi.out 2 (by omega)
    simp [Sc.cells] at d1
    have HB := Lib.hid hB
    clear hcl hB Hend hbg2 hb2
    go_wp2_with fail
    have HF12 := Lib.hid (HS.out.plan HO11.out HTh.out)
    have Hlim := Lib.hid (limit_any g p c e Z L _ ss w12 HP11.out.blk rfl HF12.out)
    refine Hlim.out.mono ?_
    rintro e13 w13 ⟨rfl, hb13⟩
    have HP13 := Lib.hid (HP11.out.below hb13)
    have HO13 := Lib.hid (HO11.out.trans (PO.of_below (g := g) (base := base) hb13))
    have HB13 := Lib.hid (HB.out.of (hb13.block b HB.out.lt))
    have f0 := HB13.out.frozen (i * 3)
    have f1 := HB13.out.frozen (i * 3 + 1)
    have f2 := HB13.out.frozen (i * 3 + 2)
    have d0 : w13.cell? ⟨g, 2, none⟩ = some (.slice (some ⟨b, 0, none⟩) m cap) := by rw [Hm.out]; exact HP13.out.blk.cell 2
    have hs13 := HSS.out w13 HO13.out HP13.out.blk HP13.out.secs
    obtain ⟨-, -, d1, d2, d3⟩ := hs13
    have hbl := HB13.out.lt
    have hilt : i < P.l.length := by rw [← Hm.out]; exact him
    by_cases hL : (L : Int) ≤ er
    · have hL2 : ¬ er < (L : Int) := by omega
      have hset := HP13.out.set_sec (i := i) hilt rfl hb HB13.out ⟨1, 0, er⟩
      have Hset := Lib.hid hset
      have HL := Lib.hid hL
      clear hb13 hset Hlim hL
      go_wp2_with fail
      go_end0
      refine ⟨rfl, ?_, ((PO.refl g base w).drew.trans HO13.out).trans Hset.out.2⟩
      have h2 := Hset.out.1
      exact ⟨_, by unfold PV.letGo; rw [if_pos (show (L : Int) ≤ er by have := HL.out; omega)]; exact h2⟩
    · have hL2 : er < (L : Int) := by omega
      have hset := HP13.out.set_sec (i := i) hilt rfl hb HB13.out ⟨0, 0, er + 1⟩
      have Hset := Lib.hid hset
      have HL := Lib.hid hL
      clear hb13 hset Hlim hL
      go_wp2_with fail
      go_end0
      refine ⟨rfl, ?_, ((PO.refl g base w).drew.trans HO13.out).trans Hset.out.2⟩
      have h2 := Hset.out.1
      exact ⟨_, by unfold PV.letGo; rw [if_neg (show ¬ (L : Int) ≤ er by have := HL.out; omega)]; exact h2⟩

end Go.Proofs.YtnhfmcijadficaaGreatDoor

/- The library's sort of strings, laid at this program: its functions' and types' numbers, and that the bodies are those. -/
namespace Go.Proofs.YtnhfmcijadficaaGreatDoor
set_option maxRecDepth 100000
open Go.RowKit Go.Sort

/-- The numbers here of the sort's functions and types. -/
def sortRen : Go.Shelf.Ren := ⟨fun | 125 => 122 | 128 => 155 | 129 => 156 | 190 => 82 | 258 => 121 | 302 => 146 | 303 => 147 | 304 => 148 | 305 => 149 | 306 => 150 | 307 => 151 | 308 => 152 | 309 => 153 | 310 => 154 | 329 => 178 | 330 => 179 | 333 => 177 | 334 => 180 | 335 => 181 | 336 => 182 | 344 => 202 | n => n, fun | 0 => 0 | 3 => 3 | 4 => 4 | 5 => 5 | 9 => 9 | 31 => 67 | 46 => 195 | 51 => 45 | 53 => 168 | 131 => 172 | 182 => 226 | 183 => 227 | 218 => 256 | 222 => 260 | 228 => 274 | 229 => 275 | n => n, fun n => n⟩
theorem sortLays : Lays.n190 Tryz.prog sortRen := {
  mixed := by kernel_rfl,
  f125 := Tryz.func122.trans (congrArg some (by kernel_rfl)),
  f128 := Tryz.func155.trans (congrArg some (by kernel_rfl)),
  f129 := Tryz.func156.trans (congrArg some (by kernel_rfl)),
  f190 := Tryz.func82.trans (congrArg some (by kernel_rfl)),
  f258 := Tryz.func121.trans (congrArg some (by kernel_rfl)),
  f302 := Tryz.func146.trans (congrArg some (by kernel_rfl)),
  f303 := Tryz.func147.trans (congrArg some (by kernel_rfl)),
  f304 := Tryz.func148.trans (congrArg some (by kernel_rfl)),
  f305 := Tryz.func149.trans (congrArg some (by kernel_rfl)),
  f306 := Tryz.func150.trans (congrArg some (by kernel_rfl)),
  f307 := Tryz.func151.trans (congrArg some (by kernel_rfl)),
  f308 := Tryz.func152.trans (congrArg some (by kernel_rfl)),
  f309 := Tryz.func153.trans (congrArg some (by kernel_rfl)),
  f310 := Tryz.func154.trans (congrArg some (by kernel_rfl)),
  f329 := Tryz.func178.trans (congrArg some (by kernel_rfl)),
  f330 := Tryz.func179.trans (congrArg some (by kernel_rfl)),
  f333 := Tryz.func177.trans (congrArg some (by kernel_rfl)),
  f334 := Tryz.func180.trans (congrArg some (by kernel_rfl)),
  f335 := Tryz.func181.trans (congrArg some (by kernel_rfl)),
  f336 := Tryz.func182.trans (congrArg some (by kernel_rfl)),
  f344 := Tryz.func202.trans (congrArg some (by kernel_rfl)),
  t0 := Tryz.underlying0,
  a0 := Tryz.isAgg0,
  z0 := Tryz.sizeOf0,
  v0 := Tryz.zeroValue0,
  t3 := Tryz.underlying3,
  a3 := Tryz.isAgg3,
  z3 := Tryz.sizeOf3,
  v3 := Tryz.zeroValue3,
  t4 := Tryz.underlying4,
  a4 := Tryz.isAgg4,
  z4 := Tryz.sizeOf4,
  v4 := Tryz.zeroValue4,
  t5 := Tryz.underlying5,
  a5 := Tryz.isAgg5,
  z5 := Tryz.sizeOf5,
  v5 := Tryz.zeroValue5,
  t9 := Tryz.underlying9,
  a9 := Tryz.isAgg9,
  z9 := Tryz.sizeOf9,
  v9 := Tryz.zeroValue9,
  t31 := Tryz.underlying67,
  a31 := Tryz.isAgg67,
  z31 := Tryz.sizeOf67,
  v31 := Tryz.zeroValue67,
  t46 := Tryz.underlying195,
  a46 := Tryz.isAgg195,
  z46 := Tryz.sizeOf195,
  v46 := Tryz.zeroValue195,
  t51 := Tryz.underlying45,
  a51 := Tryz.isAgg45,
  z51 := Tryz.sizeOf45,
  v51 := Tryz.zeroValue45,
  t53 := Tryz.underlying168,
  a53 := Tryz.isAgg168,
  z53 := Tryz.sizeOf168,
  v53 := Tryz.zeroValue168,
  t131 := Tryz.underlying172,
  a131 := Tryz.isAgg172,
  z131 := Tryz.sizeOf172,
  v131 := Tryz.zeroValue172,
  t182 := Tryz.underlying226,
  a182 := Tryz.isAgg226,
  z182 := Tryz.sizeOf226,
  v182 := Tryz.zeroValue226,
  t183 := Tryz.underlying227,
  a183 := Tryz.isAgg227,
  z183 := Tryz.sizeOf227,
  v183 := Tryz.zeroValue227,
  t218 := Tryz.underlying256,
  a218 := Tryz.isAgg256,
  z218 := Tryz.sizeOf256,
  v218 := Tryz.zeroValue256,
  t222 := Tryz.underlying260,
  a222 := Tryz.isAgg260,
  z222 := Tryz.sizeOf260,
  v222 := Tryz.zeroValue260,
  t228 := Tryz.underlying274,
  a228 := Tryz.isAgg274,
  z228 := Tryz.sizeOf274,
  v228 := Tryz.zeroValue274,
  t229 := Tryz.underlying275,
  a229 := Tryz.isAgg275,
  z229 := Tryz.sizeOf275,
  v229 := Tryz.zeroValue275 }

end Go.Proofs.YtnhfmcijadficaaGreatDoor

/- The walks over the document's Right and Same. -/
namespace Go.Proofs.YtnhfmcijadficaaGreatDoor
set_option maxRecDepth 100000
open Go.RowKit

theorem str_list (s : ByteArray) : s.toList = s.data.toList := by
  have e : s = strB s.data.toList := by
    apply ByteArray.ext
    simp [strB]
  have h := strB_toList s.data.toList
  rw [← e] at h
  exact h
theorem str_empty (s : ByteArray) (h : s.size = 0) : s = strB [] := by
  apply ByteArray.ext
  have : s.data.size = 0 := h
  rw [Array.eq_empty_of_size_eq_zero this]
  rfl


end Go.Proofs.YtnhfmcijadficaaGreatDoor
