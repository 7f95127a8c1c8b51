/- The walk over a plan's letGo. (Printed by gen/gen_ky.py.) -/
import Derived.Test.YtidbipbangifbaaGreatDoorZbe
import Derived.Test.YtidbipbangifbaaGreatDoorZav
import Derived.Test.YtidbipbangifbaaGreatDoorZau
namespace Go.Proofs.YtidbipbangifbaaGreatDoor
set_option maxRecDepth 100000
open Go.RowKit

set_option maxHeartbeats 4000000 in
theorem pLetGo_any (g base p c e mb Z L : Nat) (vk : Value) (R : PP) (P : PV) (i : Nat) (s : Sc) (ss : List (Nat × List UInt8)) (w : World) (hP : PlanAt w g base p mb Z vk R P) (hs : FS w p c e Z L ss) (hTh : ∀ q, Three p c e q → q < base ∧ q ≠ g) (hn : P.l.length ≤ 64) (hst : P.sts.length ≤ 1000000)
    (hbase : base ≤ w.heap.size) (hi : P.l[i]? = some s) (her : 0 ≤ s.er ∧ s.er ≤ 2097152) :
    Calls Tryz.prog 170 #[.pointer (some ⟨g, 0, none⟩), .int .i64 (i : Int)] w fun e1 w' => e1 = .returned (.tuple #[]) ∧ (∃ R', PlanAt w' g base p mb Z vk R' (P.letGo L i s)) ∧ PO g base w w' := by
  obtain ⟨A, cap, As, cs⟩ := R
  have hilt : i < P.l.length := (List.getElem?_eq_some_iff.1 hi).1
  obtain ⟨b, cur, hA, hb, hB, hbg, hcl⟩ := hP.gs hilt
  simp only at hA
  subst hA
  obtain ⟨st, q, er⟩ := s
  simp only at her
  have hcapm : P.l.length ≤ cap := hP.secs.row.2.1
  obtain ⟨m, hm⟩ : ∃ m, m = P.l.length := ⟨_, rfl⟩
  obtain ⟨k, hk⟩ : ∃ k, k = P.sts.length := ⟨_, rfl⟩
  obtain ⟨n2, hn2⟩ : ∃ n2, n2 = (goSts L i ⟨st, q, er⟩).length := ⟨_, rfl⟩
  have hn22 : n2 ≤ 2 := by rw [hn2]; unfold goSts; split <;> simp
  have Hm := Lib.hid hm
  have Hk := Lib.hid hk
  have Hn2 := Lib.hid hn2
  have hsD := hs.of (Only.refl Empty w).drew (fun h => h) (fun h => h) (fun h => h)
  have Hlg := Lib.hid (letGo_any p c e Z L i ⟨st, q, er⟩ ss w.drew hsD)
  rw [← hn2] at Hlg
  simp only at Hlg
  have HP1 := Lib.hid hP.drew
  have HSS : Hid (∀ W {vst : Value}, PO g base w.drew W → Blk W g 144 (planC p mb (.slice (some ⟨b, 0, none⟩) P.l.length cap) vk P.h vst) → GotR Sc.cells 3 81 base W (some ⟨b, 0, none⟩) P.l.length cap P.l → W.cell? ⟨g, 0, none⟩ = some (.pointer (some ⟨p, 0, none⟩)) ∧ W.cell? ⟨g, 2, none⟩ = some (.slice (some ⟨b, 0, none⟩) m cap) ∧ W.cell? ⟨b, i * 3, none⟩ = some (.int .i64 st) ∧ W.cell? ⟨b, i * 3 + 1, none⟩ = some (.int .u32 q) ∧ W.cell? ⟨b, i * 3 + 2, none⟩ = some (.int .i64 er)) := Lib.hid (fun W vst _ h1 h2 => by
    obtain ⟨b2, o2, he2, _, _, hc⟩ := h2.row.2.2.2 (by omega)
    cases he2
    have d0 := hc i _ hi 0 (by omega)
    have d1 := hc i _ hi 1 (by omega)
    have d2 := hc i _ hi 2 (by omega)
    simp [Sc.cells] at d0 d1 d2
    exact ⟨h1.cell 0, by rw [hm]; exact h1.cell 2, d0, d1, d2⟩)
  have hs1 := HSS.out w.drew (PO.refl _ _ _) HP1.out.blk HP1.out.secs
  have c8 : w.drew.cell? ⟨g, 8, none⟩ = some (.slice As k cs) := by rw [hk]; exact HP1.out.blk.cell 8
  have hgl : g < w.drew.heap.size := HP1.out.blk.lt
  have hst2 : k ≤ 1000000 := by rw [hk]; exact hst
  have him : i < m := by rw [hm]; exact hilt
  have hmcap : m ≤ cap := by rw [hm]; exact hcapm
  have hit : i * 3 ≤ 192 := by omega
  have Hrest : Hid (∀ W R2, PlanAt W g base p mb Z vk R2 { P with sts := P.sts ++ goSts L i ⟨st, q, er⟩ } → PO g base w.drew W → True) := Lib.hid (fun _ _ _ _ => trivial)
  have HS := Lib.hid hsD
  have HTh := Lib.hid hTh
  have Hi := Lib.hid hi
  clear hTh hP hs hi hB hcl hm hk hn2 hilt hcapm hst hsD hn
  go_enter Tryz.func170, Tryz.ntmps170
  go_wp2_with fail
  refine wp_region_held_drew (S := fun W => W.cell? ⟨g, 0, none⟩ = some (.pointer (some ⟨p, 0, none⟩)) ∧ W.cell? ⟨g, 2, none⟩ = some (.slice (some ⟨b, 0, none⟩) m cap) ∧ W.cell? ⟨b, i * 3, none⟩ = some (.int .i64 st) ∧ W.cell? ⟨b, i * 3 + 1, none⟩ = some (.int .u32 q) ∧ W.cell? ⟨b, i * 3 + 2, none⟩ = some (.int .i64 er)) (by kernel_rfl) hs1 (fun hHeld => ?_)
  refine take_yes 0 5 ?_ rfl rfl (by kernel_rfl) (by kernel_rfl) (by kernel_rfl) (fun _ _ _ h => h) (by kernel_rfl) ?_ (by assumption) ?_; rotate_left; (focus (intro w hSw; (try dsimp only at hSw); go_simp; all_goals with_reducible rfl)); simp only [Act.put, List.setIfInBounds_toArray, List.set_cons_zero, List.set_cons_succ]
  refine take_yes 1 6 ?_ rfl rfl (by kernel_rfl) (by kernel_rfl) (by kernel_rfl) (fun _ _ _ h => h) (by kernel_rfl) ?_ (by assumption) ?_; rotate_left; (focus (intro w hSw; (try dsimp only at hSw); go_simp; all_goals with_reducible rfl)); simp only [Act.put, List.setIfInBounds_toArray, List.set_cons_zero, List.set_cons_succ]
  refine take_yes 2 7 ?_ rfl rfl (by kernel_rfl) (by kernel_rfl) (by kernel_rfl) (fun _ _ _ h => h) (by kernel_rfl) ?_ (by assumption) ?_; rotate_left; (focus (intro w hSw; (try dsimp only at hSw); go_simp; all_goals with_reducible rfl)); simp only [Act.put, List.setIfInBounds_toArray, List.set_cons_zero, List.set_cons_succ]
  refine take_yes 3 8 ?_ rfl rfl (by kernel_rfl) (by kernel_rfl) (by kernel_rfl) (fun _ _ _ h => h) (by kernel_rfl) ?_ (by assumption) ?_; rotate_left; (focus (intro w hSw; (try dsimp only at hSw); go_simp; all_goals with_reducible rfl)); simp only [Act.put, List.setIfInBounds_toArray, List.set_cons_zero, List.set_cons_succ]
  refine take_yes 5 10 ?_ rfl rfl (by kernel_rfl) (by kernel_rfl) (by kernel_rfl) (fun _ _ _ h => h) (by kernel_rfl) ?_ (by assumption) ?_; rotate_left; (focus (intro w hSw; (try dsimp only at hSw); go_simp; all_goals with_reducible rfl)); simp only [Act.put, List.setIfInBounds_toArray, List.set_cons_zero, List.set_cons_succ]
  refine take_yes 6 11 ?_ rfl rfl (by kernel_rfl) (by kernel_rfl) (by kernel_rfl) (fun _ _ _ h => h) (by kernel_rfl) ?_ (by assumption) ?_; rotate_left; (focus (intro w hSw; (try dsimp only at hSw); go_simp; all_goals with_reducible rfl)); simp only [Act.put, List.setIfInBounds_toArray, List.set_cons_zero, List.set_cons_succ]
  refine take_yes 7 12 ?_ rfl rfl (by kernel_rfl) (by kernel_rfl) (by kernel_rfl) (fun _ _ _ h => h) (by kernel_rfl) ?_ (by assumption) ?_; rotate_left; (focus (intro w hSw; (try dsimp only at hSw); go_simp; all_goals with_reducible rfl)); simp only [Act.put, List.setIfInBounds_toArray, List.set_cons_zero, List.set_cons_succ]
  refine take_yes 8 13 ?_ rfl rfl (by kernel_rfl) (by kernel_rfl) (by kernel_rfl) (fun _ _ _ h => h) (by kernel_rfl) ?_ (by assumption) ?_; rotate_left; (focus (intro w hSw; (try dsimp only at hSw); go_simp; all_goals with_reducible rfl)); simp only [Act.put, List.setIfInBounds_toArray, List.set_cons_zero, List.set_cons_succ]
  refine take_yes 9 14 ?_ rfl rfl (by kernel_rfl) (by kernel_rfl) (by kernel_rfl) (fun _ _ _ h => h) (by kernel_rfl) ?_ (by assumption) ?_; rotate_left; (focus (intro w hSw; (try dsimp only at hSw); go_simp; all_goals with_reducible rfl)); simp only [Act.put, List.setIfInBounds_toArray, List.set_cons_zero, List.set_cons_succ]
  refine take_yes 10 15 ?_ rfl rfl (by kernel_rfl) (by kernel_rfl) (by kernel_rfl) (fun _ _ _ h => h) (by kernel_rfl) ?_ (by assumption) ?_; rotate_left; (focus (intro w hSw; (try dsimp only at hSw); go_simp; all_goals with_reducible rfl)); simp only [Act.put, List.setIfInBounds_toArray, List.set_cons_zero, List.set_cons_succ]
  refine take_yes 11 16 ?_ rfl rfl (by kernel_rfl) (by kernel_rfl) (by kernel_rfl) (fun _ _ _ h => h) (by kernel_rfl) ?_ (by assumption) ?_; rotate_left; (focus (intro w hSw; (try dsimp only at hSw); go_simp; all_goals with_reducible rfl)); simp only [Act.put, List.setIfInBounds_toArray, List.set_cons_zero, List.set_cons_succ]
  refine take_yes 12 17 ?_ rfl rfl (by kernel_rfl) (by kernel_rfl) (by kernel_rfl) (fun _ _ _ h => h) (by kernel_rfl) ?_ (by assumption) ?_; rotate_left; (focus (intro w hSw; (try dsimp only at hSw); go_simp; all_goals with_reducible rfl)); simp only [Act.put, List.setIfInBounds_toArray, List.set_cons_zero, List.set_cons_succ]
  refine take_yes 13 18 ?_ rfl rfl (by kernel_rfl) (by kernel_rfl) (by kernel_rfl) (fun _ _ _ h => h) (by kernel_rfl) ?_ (by assumption) ?_; rotate_left; (focus (intro w hSw; (try dsimp only at hSw); go_simp; all_goals with_reducible rfl)); simp only [Act.put, List.setIfInBounds_toArray, List.set_cons_zero, List.set_cons_succ]
  refine take_yes 14 19 ?_ rfl rfl (by kernel_rfl) (by kernel_rfl) (by kernel_rfl) (fun _ _ _ h => h) (by kernel_rfl) ?_ (by assumption) ?_; rotate_left; (focus (intro w hSw; (try dsimp only at hSw); go_simp; all_goals with_reducible rfl)); simp only [Act.put, List.setIfInBounds_toArray, List.set_cons_zero, List.set_cons_succ]
  refine take_yes 15 20 ?_ rfl rfl (by kernel_rfl) (by kernel_rfl) (by kernel_rfl) (fun _ _ _ h => h) (by kernel_rfl) ?_ (by assumption) ?_; rotate_left; (focus (intro w hSw; (try dsimp only at hSw); go_simp; all_goals with_reducible rfl)); simp only [Act.put, List.setIfInBounds_toArray, List.set_cons_zero, List.set_cons_succ]
  refine take_yes 16 21 ?_ rfl rfl (by kernel_rfl) (by kernel_rfl) (by kernel_rfl) (fun _ _ _ h => h) (by kernel_rfl) ?_ (by assumption) ?_; rotate_left; (focus (intro w hSw; (try dsimp only at hSw); go_simp; all_goals with_reducible rfl)); simp only [Act.put, List.setIfInBounds_toArray, List.set_cons_zero, List.set_cons_succ]
  refine wpAnyH_ready (rs := [4, 17]) (by kernel_rfl) (by simp) ?_
  refine AllReadyH.cons rfl (fun K hK => ?_) (AllReadyH.cons rfl (fun K hK => ?_) AllReadyH.nil)
  · go_simp
    refine hK.out _ _ hs1 (fun _ => ?_)
    clear hK K
    try simp only [Act.put, List.setIfInBounds_toArray, List.set_cons_zero, List.set_cons_succ]
    refine wpAnyH_ready (rs := [17]) (by kernel_rfl) (by simp) ?_
    refine AllReadyH.cons rfl (fun K hK => ?_) AllReadyH.nil
    go_simp
    go_at_call 33
    (with_reducible refine Hlg.out.mono ?_)
    rintro e10 w10 ⟨⟨b10, rfl, hrow10⟩, hb10⟩
    have HP10 := Lib.hid (HP1.out.below hb10)
    have HO10 := Lib.hid (PO.of_below (g := g) (base := base) hb10)
    obtain ⟨As2, cs2, w11, hrun, hP11, hO11, hO11b, hB11, hG11⟩ := HP10.out.steps_run hrow10 (by have := Hk.out; omega) (Nat.le_trans hbase hb10.size)
    simp only at hrun hP11 hO11 hO11b hB11 hG11
    rw [← Hk.out] at hrun hP11 hO11
    rw [← Hk.out] at hB11
    have HP11 := Lib.hid hP11
    have HO11 := Lib.hid (HO10.out.trans hO11)
    have hs10 := HSS.out _ (HO10.out) HP10.out.blk HP10.out.secs
    have hs11 := HSS.out _ (HO10.out.trans hO11b) (by rw [Hk.out] at hB11; exact hB11) hG11
    have hs12 := HSS.out _ HO11.out HP11.out.blk (HP11.out.secs)
    have c8b : w11.cell? ⟨g, 8, none⟩ = some (.slice As k cs) := hB11.cell 8
    have f8b := hB11.frozen 8
    have hgl11 := hB11.lt
    have c8a : w10.cell? ⟨g, 8, none⟩ = some (.slice As k cs) := by rw [Hk.out]; exact HP10.out.blk.cell 8
    clear hrow10 hb10 hP11 hO11 hO11b hB11 hG11
    go_wp2_with fail
    refine hK.out _ _ hs10 (fun _ => ?_)
    clear hK K
    try simp only [Act.put, List.setIfInBounds_toArray, List.set_cons_zero, List.set_cons_succ]
    refine wpAnyH_ready (rs := [18]) (by kernel_rfl) (by simp) ?_
    refine AllReadyH.cons rfl (fun K hK => ?_) AllReadyH.nil
    refine step_append_eq (ts := 78) rfl (.tmp 9) (.tmp 22) rfl rfl rfl rfl hrun ?_
    refine hK.out _ _ hs11 (fun _ => ?_)
    clear hK K
    try simp only [Act.put, List.setIfInBounds_toArray, List.set_cons_zero, List.set_cons_succ]
    refine take_yes 19 24 ?_ rfl rfl (by kernel_rfl) (by kernel_rfl) (by kernel_rfl) (fun _ _ _ h => h) (by kernel_rfl) ?_ (by assumption) ?_; rotate_left; (focus (intro w hSw; (try dsimp only at hSw); go_simp; all_goals with_reducible rfl)); simp only [Act.put, List.setIfInBounds_toArray, List.set_cons_zero, List.set_cons_succ]
    refine take_yes 20 25 ?_ rfl rfl (by kernel_rfl) (by kernel_rfl) (by kernel_rfl) (fun _ _ _ h => h) (by kernel_rfl) ?_ (by assumption) ?_; rotate_left; (focus (intro w hSw; (try dsimp only at hSw); go_simp; all_goals with_reducible rfl)); simp only [Act.put, List.setIfInBounds_toArray, List.set_cons_zero, List.set_cons_succ]
    refine wpAnyH_ready (rs := [21]) (by kernel_rfl) (by simp) ?_
    refine AllReadyH.cons rfl (fun K hK => ?_) AllReadyH.nil
    go_simp
    refine hK.out _ _ (hs12) (fun _ => ?_)
    clear hK K
    try simp only [Act.put, List.setIfInBounds_toArray, List.set_cons_zero, List.set_cons_succ]
    refine wpAnyH_done (by kernel_rfl) ?_ _
    obtain ⟨w12, h12⟩ : ∃ w12, w12 = w11.setCell ⟨g, 8, none⟩ (.slice As2 (k + n2) cs2) := ⟨_, rfl⟩
    rw [← h12] at HP11 HO11 ⊢
    clear h12 hrun hs10 hs11 hs12 c8b f8b hgl11 c8a HP10 HO10
    have Hend := Lib.hid (Hrest.out w12 _ HP11.out HO11.out)
    have d0 : w12.cell? ⟨g, 2, none⟩ = some (.slice (some ⟨b, 0, none⟩) m cap) := by rw [Hm.out]; exact HP11.out.blk.cell 2
    obtain ⟨bq, cur, hA, hb2, hB, hbg2, hcl⟩ := HP11.out.gs (i := i) (by rw [← Hm.out]; exact him)
    cases hA
    have d1 := hcl _ Hi.out 2 (by omega)
    simp [Sc.cells] at d1
    have HB := Lib.hid hB
    clear hcl hB Hend hbg2 hb2
    go_wp2_with fail
    have HF12 := Lib.hid (HS.out.plan HO11.out HTh.out)
    have Hlim := Lib.hid (limit_any g p c e Z L _ ss w12 HP11.out.blk rfl HF12.out)
    refine Hlim.out.mono ?_
    rintro e13 w13 ⟨rfl, hb13⟩
    have HP13 := Lib.hid (HP11.out.below hb13)
    have HO13 := Lib.hid (HO11.out.trans (PO.of_below (g := g) (base := base) hb13))
    have HB13 := Lib.hid (HB.out.of (hb13.block b HB.out.lt))
    have f0 := HB13.out.frozen (i * 3)
    have f1 := HB13.out.frozen (i * 3 + 1)
    have f2 := HB13.out.frozen (i * 3 + 2)
    have d0 : w13.cell? ⟨g, 2, none⟩ = some (.slice (some ⟨b, 0, none⟩) m cap) := by rw [Hm.out]; exact HP13.out.blk.cell 2
    have hs13 := HSS.out w13 HO13.out HP13.out.blk HP13.out.secs
    obtain ⟨-, -, d1, d2, d3⟩ := hs13
    have hbl := HB13.out.lt
    have hilt : i < P.l.length := by rw [← Hm.out]; exact him
    by_cases hL : (L : Int) ≤ er
    · have hL2 : ¬ er < (L : Int) := by omega
      have hset := HP13.out.set_sec (i := i) hilt rfl hb HB13.out ⟨1, 0, er⟩
      have Hset := Lib.hid hset
      have HL := Lib.hid hL
      clear hb13 hset Hlim hL
      go_wp2_with fail
      go_end0
      refine ⟨rfl, ?_, ((PO.refl g base w).drew.trans HO13.out).trans Hset.out.2⟩
      have h2 := Hset.out.1
      exact ⟨_, by unfold PV.letGo; rw [if_pos (show (L : Int) ≤ er by have := HL.out; omega)]; exact h2⟩
    · have hL2 : er < (L : Int) := by omega
      have hset := HP13.out.set_sec (i := i) hilt rfl hb HB13.out ⟨0, 0, er + 1⟩
      have Hset := Lib.hid hset
      have HL := Lib.hid hL
      clear hb13 hset Hlim hL
      go_wp2_with fail
      go_end0
      refine ⟨rfl, ?_, ((PO.refl g base w).drew.trans HO13.out).trans Hset.out.2⟩
      have h2 := Hset.out.1
      exact ⟨_, by unfold PV.letGo; rw [if_neg (show ¬ (L : Int) ≤ er by have := HL.out; omega)]; exact h2⟩

  · go_simp
    go_at_call 33
    (with_reducible refine Hlg.out.mono ?_)
    rintro e10 w10 ⟨⟨b10, rfl, hrow10⟩, hb10⟩
    have HP10 := Lib.hid (HP1.out.below hb10)
    have HO10 := Lib.hid (PO.of_below (g := g) (base := base) hb10)
    obtain ⟨As2, cs2, w11, hrun, hP11, hO11, hO11b, hB11, hG11⟩ := HP10.out.steps_run hrow10 (by have := Hk.out; omega) (Nat.le_trans hbase hb10.size)
    simp only at hrun hP11 hO11 hO11b hB11 hG11
    rw [← Hk.out] at hrun hP11 hO11
    rw [← Hk.out] at hB11
    have HP11 := Lib.hid hP11
    have HO11 := Lib.hid (HO10.out.trans hO11)
    have hs10 := HSS.out _ (HO10.out) HP10.out.blk HP10.out.secs
    have hs11 := HSS.out _ (HO10.out.trans hO11b) (by rw [Hk.out] at hB11; exact hB11) hG11
    have hs12 := HSS.out _ HO11.out HP11.out.blk (HP11.out.secs)
    have c8b : w11.cell? ⟨g, 8, none⟩ = some (.slice As k cs) := hB11.cell 8
    have f8b := hB11.frozen 8
    have hgl11 := hB11.lt
    have c8a : w10.cell? ⟨g, 8, none⟩ = some (.slice As k cs) := by rw [Hk.out]; exact HP10.out.blk.cell 8
    clear hrow10 hb10 hP11 hO11 hO11b hB11 hG11
    go_wp2_with fail
    refine hK.out _ _ hs10 (fun _ => ?_)
    clear hK K
    try simp only [Act.put, List.setIfInBounds_toArray, List.set_cons_zero, List.set_cons_succ]
    refine wpAnyH_ready (rs := [4]) (by kernel_rfl) (by simp) ?_
    refine AllReadyH.cons rfl (fun K hK => ?_) AllReadyH.nil
    go_simp
    refine hK.out _ _ (hs10) (fun _ => ?_)
    clear hK K
    try simp only [Act.put, List.setIfInBounds_toArray, List.set_cons_zero, List.set_cons_succ]
    refine wpAnyH_ready (rs := [18]) (by kernel_rfl) (by simp) ?_
    refine AllReadyH.cons rfl (fun K hK => ?_) AllReadyH.nil
    refine step_append_eq (ts := 78) rfl (.tmp 9) (.tmp 22) rfl rfl rfl rfl hrun ?_
    refine hK.out _ _ hs11 (fun _ => ?_)
    clear hK K
    try simp only [Act.put, List.setIfInBounds_toArray, List.set_cons_zero, List.set_cons_succ]
    refine take_yes 19 24 ?_ rfl rfl (by kernel_rfl) (by kernel_rfl) (by kernel_rfl) (fun _ _ _ h => h) (by kernel_rfl) ?_ (by assumption) ?_; rotate_left; (focus (intro w hSw; (try dsimp only at hSw); go_simp; all_goals with_reducible rfl)); simp only [Act.put, List.setIfInBounds_toArray, List.set_cons_zero, List.set_cons_succ]
    refine take_yes 20 25 ?_ rfl rfl (by kernel_rfl) (by kernel_rfl) (by kernel_rfl) (fun _ _ _ h => h) (by kernel_rfl) ?_ (by assumption) ?_; rotate_left; (focus (intro w hSw; (try dsimp only at hSw); go_simp; all_goals with_reducible rfl)); simp only [Act.put, List.setIfInBounds_toArray, List.set_cons_zero, List.set_cons_succ]
    refine wpAnyH_ready (rs := [21]) (by kernel_rfl) (by simp) ?_
    refine AllReadyH.cons rfl (fun K hK => ?_) AllReadyH.nil
    go_simp
    refine hK.out _ _ (hs12) (fun _ => ?_)
    clear hK K
    try simp only [Act.put, List.setIfInBounds_toArray, List.set_cons_zero, List.set_cons_succ]
    refine wpAnyH_done (by kernel_rfl) ?_ _
    obtain ⟨w12, h12⟩ : ∃ w12, w12 = w11.setCell ⟨g, 8, none⟩ (.slice As2 (k + n2) cs2) := ⟨_, rfl⟩
    rw [← h12] at HP11 HO11 ⊢
    clear h12 hrun hs10 hs11 hs12 c8b f8b hgl11 c8a HP10 HO10
    have Hend := Lib.hid (Hrest.out w12 _ HP11.out HO11.out)
    have d0 : w12.cell? ⟨g, 2, none⟩ = some (.slice (some ⟨b, 0, none⟩) m cap) := by rw [Hm.out]; exact HP11.out.blk.cell 2
    obtain ⟨bq, cur, hA, hb2, hB, hbg2, hcl⟩ := HP11.out.gs (i := i) (by rw [← Hm.out]; exact him)
    cases hA
    have d1 := hcl _ Hi.out 2 (by omega)
    simp [Sc.cells] at d1
    have HB := Lib.hid hB
    clear hcl hB Hend hbg2 hb2
    go_wp2_with fail
    have HF12 := Lib.hid (HS.out.plan HO11.out HTh.out)
    have Hlim := Lib.hid (limit_any g p c e Z L _ ss w12 HP11.out.blk rfl HF12.out)
    refine Hlim.out.mono ?_
    rintro e13 w13 ⟨rfl, hb13⟩
    have HP13 := Lib.hid (HP11.out.below hb13)
    have HO13 := Lib.hid (HO11.out.trans (PO.of_below (g := g) (base := base) hb13))
    have HB13 := Lib.hid (HB.out.of (hb13.block b HB.out.lt))
    have f0 := HB13.out.frozen (i * 3)
    have f1 := HB13.out.frozen (i * 3 + 1)
    have f2 := HB13.out.frozen (i * 3 + 2)
    have d0 : w13.cell? ⟨g, 2, none⟩ = some (.slice (some ⟨b, 0, none⟩) m cap) := by rw [Hm.out]; exact HP13.out.blk.cell 2
    have hs13 := HSS.out w13 HO13.out HP13.out.blk HP13.out.secs
    obtain ⟨-, -, d1, d2, d3⟩ := hs13
    have hbl := HB13.out.lt
    have hilt : i < P.l.length := by rw [← Hm.out]; exact him
    by_cases hL : (L : Int) ≤ er
    · have hL2 : ¬ er < (L : Int) := by omega
      have hset := HP13.out.set_sec (i := i) hilt rfl hb HB13.out ⟨1, 0, er⟩
      have Hset := Lib.hid hset
      have HL := Lib.hid hL
      clear hb13 hset Hlim hL
      go_wp2_with fail
      go_end0
      refine ⟨rfl, ?_, ((PO.refl g base w).drew.trans HO13.out).trans Hset.out.2⟩
      have h2 := Hset.out.1
      exact ⟨_, by unfold PV.letGo; rw [if_pos (show (L : Int) ≤ er by have := HL.out; omega)]; exact h2⟩
    · have hL2 : er < (L : Int) := by omega
      have hset := HP13.out.set_sec (i := i) hilt rfl hb HB13.out ⟨0, 0, er + 1⟩
      have Hset := Lib.hid hset
      have HL := Lib.hid hL
      clear hb13 hset Hlim hL
      go_wp2_with fail
      go_end0
      refine ⟨rfl, ?_, ((PO.refl g base w).drew.trans HO13.out).trans Hset.out.2⟩
      have h2 := Hset.out.1
      exact ⟨_, by unfold PV.letGo; rw [if_neg (show ¬ (L : Int) ≤ er by have := HL.out; omega)]; exact h2⟩

end Go.Proofs.YtidbipbangifbaaGreatDoor

/- A plan's open where the sector is blank, and where none can be opened. -/
namespace Go.Proofs.YtidbipbangifbaaGreatDoor
set_option maxRecDepth 100000
open Go.RowKit

set_option maxHeartbeats 1000000 in
theorem pOpen_blank (g base p c e mb Z L : Nat) (vk : Value) (R : PP) (P : PV) (i : Nat) (s : Sc) (ss : List (Nat × List UInt8)) (w : World) (hP : PlanAt w g base p mb Z vk R P) (hs : FS w p c e Z L ss) (hTh : ∀ q, Three p c e q → q < base ∧ q ≠ g) (hq : Q32 P.l) (hn : P.l.length ≤ 64) (hst : P.sts.length ≤ 1000000)
    (hbase : base ≤ w.heap.size) (hbest : best (opensB (L : Int)) Sc.er P.l P.l.length = some i) (hi : P.l[i]? = some s) (her : 0 ≤ s.er ∧ s.er ≤ 2097152) (hlq : ¬ lastQ P.l = 4294967295) (hst1 : (s.st == 1) = false) (hss : ss.length = P.l.length) :
    Calls Tryz.prog 134 #[.pointer (some ⟨g, 0, none⟩)] w fun e1 w' => Opened g base p mb Z vk P i s w w' e1 := by
  obtain ⟨A, cap, As, cs⟩ := R
  have hilt : i < P.l.length := (List.getElem?_eq_some_iff.1 hi).1
  have hz := hs.bz
  have hq32 := lastQ_le P.l hq
  have hit : i * Z ≤ 4194304 := by
    have h1 : i * Z ≤ ss.length * Z := Nat.mul_le_mul_right _ (by omega)
    omega
  have HP := Lib.hid hP
  have HS := Lib.hid hs
  have HTh := Lib.hid hTh
  have HQ := Lib.hid hq
  have Hbest := Lib.hid hbest
  have Hi := Lib.hid hi
  have hopd : Hid (P.opened i Z s = ⟨P.l.set i ⟨2, lastQ P.l + 1, s.er⟩, ⟨(i : Int), ((i * Z + 12 : Nat) : Int), ((Z - 12 : Nat) : Int), 0⟩, P.sts ++ [.open_ i (lastQ P.l + 1).toNat]⟩) := Lib.hid (by
    unfold PV.opened
    rw [if_neg (by simpa using hst1)])
  obtain ⟨Q, hQ⟩ : ∃ Q : Int, Q = lastQ P.l := ⟨_, rfl⟩
  have hns : Hid (nsV P.l = .tuple #[.int .u32 (Q + 1), .bool true]) := Lib.hid (by unfold nsV; rw [if_neg hlq, hQ])
  rw [← hQ] at hopd hq32 hlq
  have hQ1 : 0 ≤ Q + 1 ∧ Q + 1 ≤ 4294967295 := by omega
  obtain ⟨n, hne⟩ : ∃ n, n = P.l.length := ⟨_, rfl⟩
  obtain ⟨T, hT⟩ : ∃ T, T = i * Z := ⟨_, rfl⟩
  obtain ⟨V, hV⟩ : ∃ V, V = Z - 12 := ⟨_, rfl⟩
  rw [← hT, ← hV] at hopd
  rw [← hT] at hit
  have HT := Lib.hid hT
  have HV := Lib.hid hV
  have c2 : w.cell? ⟨g, 2, none⟩ = some (.slice A n cap) := by rw [hne]; exact hP.blk.cell 2
  have hO0 : Hid (∀ W, Only Empty w W → W.cell? ⟨g, 2, none⟩ = some (.slice A n cap)) := Lib.hid (fun W hW => by rw [hne]; exact (hW.blk hP.blk (fun h => h)).cell 2)
  have Hlim := Lib.hid (fun W (hW : Only Empty w W) => limit_any g p c e Z L _ ss W (hW.blk hP.blk (fun h => h)) rfl (hs.of hW (fun h => h) (fun h => h) (fun h => h)))
  have Hnx := Lib.hid (fun W (hW : Only Empty w W) => next_any A n cap P.l (L : Int) W (by rw [hne]; exact hP.secs.row.only hW (fun _ _ h => h)) (by omega) (some i) (by rw [hne]; exact hbest))
  have hpv : placeV (some i) = .int .i64 (i : Int) := rfl
  have hin : i < n := by omega
  have hncap : n ≤ cap := by rw [hne]; exact hP.secs.row.2.1
  simp only [hpv, Option.isSome_some] at Hnx
  have Hne := Lib.hid hne
  clear hP hs hTh hq hbest hi hz hT hV hQ hlq hne hpv hss
  go_enter Tryz.func134, Tryz.ntmps134
  go_wp2_with fail
  have hD := (Only.refl Empty w).drew
  have hs1 := hO0.out _ hD
  have HD := Lib.hid hD
  clear hD
  first | (go_region_held3 (fun W => W.cell? ⟨g, 2, none⟩ = some (.slice A n cap)) (first | with_reducible exact hs1 | with_reducible exact hs10 | with_reducible exact hs11)
    (first | (go_at_call 133; (with_reducible refine (Hlim.out _ HD.out).mono ?_); rintro e10 w10 ⟨rfl, hb10⟩; have hO10 := HD.out.trans (Only.of_below (S := Empty) hb10); have hs10 := hO0.out _ hO10)
           | (go_at_call 165; (with_reducible refine (Hnx.out _ hO10).mono ?_); rintro e11 w11 ⟨rfl, hb11⟩; have hO11 := hO10.trans (Only.of_below (S := Empty) hb11); have hs11 := hO0.out _ hO11))) | fail
  have HP11 := Lib.hid (HP.out.only hO11 (fun h => h) (fun _ _ _ h => h))
  have HS11 := Lib.hid (HS.out.of hO11 (fun h => h) (fun h => h) (fun h => h))
  have HO11 := Lib.hid (PO.of_empty (g := g) (base := base) hO11)
  have hnx := nextSeq_any g base p mb Z vk _ P w11 HP11.out HQ.out (by omega)
  rw [hns.out] at hnx
  have HNS := Lib.hid hnx
  clear hO11 hs1 hb10 hO10 hs10 hb11 hnx Hnx Hlim hO0 HD c2
  go_wp2_with fail
  refine HNS.out.mono ?_
  rintro e12 w12 ⟨rfl, hb12⟩
  have HP12 := Lib.hid (HP11.out.below hb12)
  have HS12 := Lib.hid (HS11.out.below hb12)
  have HO12 := Lib.hid (HO11.out.trans (PO.of_below (g := g) (base := base) hb12))
  obtain ⟨b, cur, hA, hb, hB, hbg, hcl⟩ := HP12.out.gs hilt
  simp only at hA
  subst hA
  have d0 := hcl s Hi.out 0 (by omega)
  have d1 := hcl s Hi.out 1 (by omega)
  have d2 := hcl s Hi.out 2 (by omega)
  simp [Sc.cells] at d0 d1 d2
  have f0 := hB.frozen (i * 3)
  have f1 := hB.frozen (i * 3 + 1)
  have f2 := hB.frozen (i * 3 + 2)
  have c2 : w12.cell? ⟨g, 2, none⟩ = some (.slice (some ⟨b, 0, none⟩) n cap) := by rw [Hne.out]; exact HP12.out.blk.cell 2
  have hset := HP12.out.set_sec hilt rfl hb hB ⟨2, Q + 1, s.er⟩
  have Hset := Lib.hid hset
  have hgl := HP12.out.blk.lt
  have hbl := hB.lt
  clear hb12 hset hcl hB
  go_wp2_with fail
  obtain ⟨w13, h13⟩ : ∃ w13, w13 = ((w12.setCell ⟨b, i * 3, none⟩ (.int .i64 2)).setCell ⟨b, i * 3 + 1, none⟩ (.int .u32 (Q + 1))).setCell ⟨b, i * 3 + 2, none⟩ (.int .i64 (s.er)) := ⟨_, rfl⟩
  rw [← h13] at Hset ⊢
  have HP13 := Lib.hid Hset.out.1.drew
  have HO13 := Lib.hid (HO12.out.trans Hset.out.2).drew
  clear h13 Hset d0 d1 d2 f0 f1 f2 c2 hgl hbl HP12 HP11 HP hst1 HNS
  have hsz13 : base ≤ w13.drew.heap.size := Nat.le_trans hbase HO13.out.size
  obtain ⟨As2, cs2, w14, hrun, hP14, hO14, c8b, f8b, -⟩ := HP13.out.step_run (.open_ i (Q + 1).toNat) (Nat.le_trans hst (by decide)) hsz13
  have hv : Stp.v p Z (.open_ i (Q + 1).toNat) = .func (.func 167) #[.agg #[.pointer (some ⟨p, 0, none⟩), .int .i64 (i : Int), .int .u32 (Q + 1)]] #[] := by
    show Value.func _ #[.agg #[_, _, .int .u32 (((Q + 1).toNat : Nat) : Int)]] _ = _
    rw [Int.toNat_of_nonneg hQ1.1]
  rw [hv] at hrun
  have c0 : w13.cell? ⟨g, 0, none⟩ = some (.pointer (some ⟨p, 0, none⟩)) := HP13.out.blk.cell 0
  have c8 : w13.cell? ⟨g, 8, none⟩ = some (.slice As P.sts.length cs) := HP13.out.blk.cell 8
  have hgl : g < w13.heap.size := HP13.out.blk.lt
  replace hrun : (Builtin.append_ #[78, 78] 78 #[.slice As P.sts.length cs, .slice (some ⟨w13.heap.size, 0, none⟩) 1 1]).run Tryz.prog (w13.alloc (.cells #[.func (.func 167) #[.agg #[.pointer (some ⟨p, 0, none⟩), .int .i64 (i : Int), .int .u32 (Q + 1)]] #[]] 132)).drew = .ok (.slice As2 (P.sts.length + 1) cs2) w14 := hrun
  simp only at hrun c8b hP14 hO14
  obtain ⟨k, hk⟩ : ∃ k, k = P.sts.length := ⟨_, rfl⟩
  rw [← hk] at hrun c8 c8b hP14 hO14 hst
  have Hk := Lib.hid hk
  have HP14 := Lib.hid hP14
  have HO14 := Lib.hid (HO13.out.trans hO14)
  clear hv hk hP14 hO14
  go_region_law (refine step_append_eq (ts := 78) rfl (.tmp 62) (.tmp 71) rfl rfl rfl rfl hrun ?_)
  all_goals
    obtain ⟨w15, h15⟩ : ∃ w15, w15 = w14.setCell ⟨g, 8, none⟩ (.slice As2 (k + 1) cs2) := ⟨_, rfl⟩
    rw [← h15] at HP14 HO14 ⊢
    have HS15 := Lib.hid (HS.out.plan HO14.out HTh.out)
    have e0 : w15.cell? ⟨g, 0, none⟩ = some (.pointer (some ⟨p, 0, none⟩)) := HP14.out.blk.cell 0
    have hgz := geo_field1 (ss.length : Int) (Z : Int) (L : Int)
    have hmul : (i : Int) * (Z : Int) = (T : Int) := by rw [HT.out]; simp
    clear h15 hrun c0 c8 c8b f8b hgl hsz13
    go_wp2_with fail
    refine HS15.out.geo.mono ?_
    rintro e16 w16 ⟨rfl, hb16⟩
    have HP16 := Lib.hid (HP14.out.below hb16)
    have HO16 := Lib.hid (HO14.out.trans (PO.of_below (g := g) (base := base) hb16))
    have e1 : w16.cell? ⟨g, 0, none⟩ = some (.pointer (some ⟨p, 0, none⟩)) := HP16.out.blk.cell 0
    have Hbe := Lib.hid (behind_any p c e Z L ss w16 (HS15.out.below hb16))
    rw [← HV.out] at Hbe
    clear hb16 e0
    go_wp2_with fail
    refine Hbe.out.mono ?_
    rintro e17 w17 ⟨rfl, hb17⟩
    have HP17 := Lib.hid (HP16.out.below hb17)
    have HO17 := Lib.hid (HO16.out.trans (PO.of_below (g := g) (base := base) hb17))
    have q4 : w17.cell? ⟨g, 4, none⟩ = some (.int .i64 P.h.sec) := HP17.out.blk.cell 4
    have q5 : w17.cell? ⟨g, 5, none⟩ = some (.int .i64 P.h.next) := HP17.out.blk.cell 5
    have q6 : w17.cell? ⟨g, 6, none⟩ = some (.int .i64 P.h.left) := HP17.out.blk.cell 6
    have q7 : w17.cell? ⟨g, 7, none⟩ = some (.int .u32 P.h.txn) := HP17.out.blk.cell 7
    have r4 := HP17.out.blk.frozen 4
    have r5 := HP17.out.blk.frozen 5
    have r6 := HP17.out.blk.frozen 6
    have r7 := HP17.out.blk.frozen 7
    have hsh := HP17.out.set_head ⟨(i : Int), ((T + 12 : Nat) : Int), (V : Int), 0⟩
    have hT12 : ((T + 12 : Nat) : Int) = (T : Int) + 12 := by simp
    rw [hT12] at hsh hopd
    have Hsh := Lib.hid hsh
    have hgl17 := HP17.out.blk.lt
    clear hb17 e1 hsh Hbe
    go_wp2_with fail
    go_ret
    exact ⟨rfl, ⟨_, by rw [hopd.out]; exact Hsh.out.1⟩, HO17.out.trans Hsh.out.2⟩


set_option maxHeartbeats 1000000 in
theorem pOpen_no (g base p c e mb Z L : Nat) (vk : Value) (R : PP) (P : PV) (ss : List (Nat × List UInt8)) (w : World) (hP : PlanAt w g base p mb Z vk R P) (hs : FS w p c e Z L ss) (hq : Q32 P.l) (hn : P.l.length ≤ 64) (r : Option Nat)
    (hbest : best (opensB (L : Int)) Sc.er P.l P.l.length = r) (hno : r = none ∨ lastQ P.l = 4294967295) :
    Calls Tryz.prog 134 #[.pointer (some ⟨g, 0, none⟩)] w fun e1 w' => e1 = .returned (.bool false) ∧ Below w.heap.size w w' := by
  obtain ⟨A, cap, As, cs⟩ := R
  obtain ⟨sn, sb, hns, hor⟩ : ∃ (sn : Int) (sb : Bool), nsV P.l = .tuple #[.int .u32 sn, .bool sb] ∧ (r.isSome = false ∨ sb = false) := by
    unfold nsV
    by_cases h : lastQ P.l = 4294967295
    · rw [if_pos h]
      exact ⟨0, false, rfl, Or.inr rfl⟩
    · rw [if_neg h]
      rcases hno with rfl | h2
      · exact ⟨_, true, rfl, Or.inl rfl⟩
      · exact absurd h2 h
  have HP := Lib.hid hP
  have HQ := Lib.hid hq
  obtain ⟨n, hne⟩ : ∃ n, n = P.l.length := ⟨_, rfl⟩
  have c2 : w.cell? ⟨g, 2, none⟩ = some (.slice A n cap) := by rw [hne]; exact hP.blk.cell 2
  have hO0 : Hid (∀ W, Only Empty w W → W.cell? ⟨g, 2, none⟩ = some (.slice A n cap)) := Lib.hid (fun W hW => by rw [hne]; exact (hW.blk hP.blk (fun h => h)).cell 2)
  have Hlim := Lib.hid (fun W (hW : Only Empty w W) => limit_any g p c e Z L _ ss W (hW.blk hP.blk (fun h => h)) rfl (hs.of hW (fun h => h) (fun h => h) (fun h => h)))
  have Hnx := Lib.hid (fun W (hW : Only Empty w W) => next_any A n cap P.l (L : Int) W (by rw [hne]; exact hP.secs.row.only hW (fun _ _ h => h)) (by omega) r (by rw [hne]; exact hbest))
  obtain ⟨pv, hpv⟩ : ∃ pv, placeV r = .int .i64 pv := by cases r <;> exact ⟨_, rfl⟩
  obtain ⟨rb, hrb⟩ : ∃ rb, rb = r.isSome := ⟨_, rfl⟩
  rw [hpv, ← hrb] at Hnx
  rw [← hrb] at hor
  have Hns := Lib.hid hns
  clear hP hs hq hbest hno hne hpv hrb hns
  go_enter Tryz.func134, Tryz.ntmps134
  go_wp2_with fail
  have hD := (Only.refl Empty w).drew
  have hs1 := hO0.out _ hD
  have HD := Lib.hid hD
  clear hD
  first | (go_region_held3 (fun W => W.cell? ⟨g, 2, none⟩ = some (.slice A n cap)) (first | with_reducible exact hs1 | with_reducible exact hs10 | with_reducible exact hs11)
    (first | (go_at_call 133; (with_reducible refine (Hlim.out _ HD.out).mono ?_); rintro e10 w10 ⟨rfl, hb10⟩; have hO10 := HD.out.trans (Only.of_below (S := Empty) hb10); have hs10 := hO0.out _ hO10)
           | (go_at_call 165; (with_reducible refine (Hnx.out _ hO10).mono ?_); rintro e11 w11 ⟨rfl, hb11⟩; have hO11 := hO10.trans (Only.of_below (S := Empty) hb11); have hs11 := hO0.out _ hO11))) | fail
  have HP11 := Lib.hid (HP.out.only hO11 (fun h => h) (fun _ _ _ h => h))
  have HO11 := Lib.hid (hO11.below (B := w.heap.size) (Nat.le_refl _) (fun _ _ h => h))
  have hnx := nextSeq_any g base p mb Z vk _ P w11 HP11.out HQ.out (by omega)
  rw [Hns.out] at hnx
  have HNS := Lib.hid hnx
  clear hO11 hs1 hb10 hO10 hs10 hb11 hnx Hnx Hlim hO0 HD c2
  rcases hor with rfl | rfl
  · go_wp2_with fail
    refine HNS.out.mono ?_
    rintro e12 w12 ⟨rfl, hb12⟩
    have HB12 := Lib.hid (HO11.out.trans (hb12.mono HO11.out.size))
    clear hb12
    go_wp2_with fail
    go_ret
    exact ⟨rfl, HB12.out⟩
  · cases rb
    · go_wp2_with fail
      refine HNS.out.mono ?_
      rintro e12 w12 ⟨rfl, hb12⟩
      have HB12 := Lib.hid (HO11.out.trans (hb12.mono HO11.out.size))
      clear hb12
      go_wp2_with fail
      go_ret
      exact ⟨rfl, HB12.out⟩
    · go_wp2_with fail
      refine HNS.out.mono ?_
      rintro e12 w12 ⟨rfl, hb12⟩
      have HB12 := Lib.hid (HO11.out.trans (hb12.mono HO11.out.size))
      clear hb12
      go_wp2_with fail
      go_ret
      exact ⟨rfl, HB12.out⟩

theorem pOpen_yes (g base p c e mb Z L : Nat) (vk : Value) (R : PP) (P : PV) (i : Nat) (s : Sc) (ss : List (Nat × List UInt8)) (w : World) (hP : PlanAt w g base p mb Z vk R P) (hs : FS w p c e Z L ss) (hTh : ∀ q, Three p c e q → q < base ∧ q ≠ g) (hq : Q32 P.l) (hn : P.l.length ≤ 64) (hst : P.sts.length ≤ 1000000)
    (hbase : base ≤ w.heap.size) (hbest : best (opensB (L : Int)) Sc.er P.l P.l.length = some i) (hi : P.l[i]? = some s) (her : 0 ≤ s.er ∧ s.er ≤ 2097152) (hlq : ¬ lastQ P.l = 4294967295) (hss : ss.length = P.l.length) :
    Calls Tryz.prog 134 #[.pointer (some ⟨g, 0, none⟩)] w fun e1 w' => Opened g base p mb Z vk P i s w w' e1 := by
  cases h : s.st == 1
  · exact pOpen_blank g base p c e mb Z L vk R P i s ss w hP hs hTh hq hn hst hbase hbest hi her hlq h hss
  · exact pOpen_dirty g base p c e mb Z L vk R P i s ss w hP hs hTh hq hn hst hbase hbest hi her hlq h hss

end Go.Proofs.YtidbipbangifbaaGreatDoor

/- What a sector's bytes tell, behind each step. -/
namespace Go.Proofs.YtidbipbangifbaaGreatDoor
set_option maxRecDepth 100000
open Go.RowKit

theorem parse_take (xs : List UInt8) (h : 12 ≤ xs.length) : parseC xs = parseC (xs.take 12) ∧ parseH xs = parseH (xs.take 12) := by
  have hl : (xs.take 12).length = 12 := by rw [List.length_take]; omega
  have e1 : (xs.take 12).take 2 = xs.take 2 := by rw [List.take_take]; rfl
  have e2 : (xs.take 12).take 6 = xs.take 6 := by rw [List.take_take]; rfl
  have e3 : ((xs.take 12).drop 6).take 2 = (xs.drop 6).take 2 := by rw [List.drop_take, List.take_take]; rfl
  have e4 : ((xs.take 12).drop 2).take 4 = (xs.drop 2).take 4 := by rw [List.drop_take, List.take_take]; rfl
  have e5 : (xs.take 12)[8]? = xs[8]? := by rw [List.getElem?_take, if_pos (by omega)]
  have e6 : (xs.take 12)[9]? = xs[9]? := by rw [List.getElem?_take, if_pos (by omega)]
  have hC : parseC xs = parseC (xs.take 12) := by
    unfold parseC
    rw [if_neg (show ¬ xs.length < 12 by omega), if_neg (show ¬ (xs.take 12).length < 12 by omega), e1, e2, e3]
  refine ⟨hC, ?_⟩
  unfold parseH
  rw [← hC, e4, e5, e6]
theorem st_take {xs ys : List UInt8} (h : 12 ≤ xs.length) (h2 : 12 ≤ ys.length) (he : xs.take 12 = ys.take 12) : stU xs = stU ys ∧ stQ xs = stQ ys := by
  have a := parse_take xs h
  have b := parse_take ys h2
  have hu : stU xs = stU ys := by unfold stU; rw [a.1, a.2, b.1, b.2, he]
  refine ⟨hu, ?_⟩
  unfold stQ
  rw [hu, a.2, b.2, he]
theorem stU_void2 {xs : List UInt8} (h : xs[9]? = some 0) : stU xs = false := by
  unfold stU parseH
  by_cases hc : parseC xs = 0
  · rw [if_pos hc, h]
    simp
  · simp [hc]
theorem stU_mark2 {xs : List UInt8} (h : xs[0]? = some 255) : stU xs = false := by
  have h2 : xs.take 2 ≠ [67, 66] := by
    intro e
    have e0 := congrArg (fun l => l[0]?) e
    simp only [List.getElem?_take] at e0
    rw [if_pos (by omega), h] at e0
    simp at e0
  have hc : parseC xs ≠ 0 := by
    unfold parseC
    rw [if_neg h2]
    split <;> decide
  unfold stU
  simp [hc]
theorem stQ_lt (xs : List UInt8) : 0 ≤ stQ xs ∧ stQ xs ≤ 4294967295 := by
  unfold stQ
  split
  · unfold parseH
    split
    · have h1 := getV_lt ((xs.drop 2).take 4)
      have h2 : ((xs.drop 2).take 4).length ≤ 4 := by rw [List.length_take]; omega
      have h3 : 256 ^ ((xs.drop 2).take 4).length ≤ 256 ^ 4 := Nat.pow_le_pow_right (by omega) h2
      simp only
      have : (256 : Nat) ^ 4 = 4294967296 := by decide
      omega
    · simp
  · omega
theorem stS_cases (xs : List UInt8) : (stS xs = 2 ∧ stU xs = true) ∨ (stS xs = 0 ∧ stU xs = false ∧ xs.count 255 = xs.length) ∨ (stS xs = 1 ∧ stU xs = false ∧ ¬ xs.count 255 = xs.length) := by
  unfold stS
  cases h : stU xs
  · by_cases h2 : xs.count 255 = xs.length
    · exact Or.inr (Or.inl ⟨by simp [h2], rfl, h2⟩)
    · exact Or.inr (Or.inr ⟨by simp [h2], rfl, h2⟩)
  · exact Or.inl ⟨by simp, rfl⟩

theorem openB_all (Z s : Nat) (h : 12 ≤ Z) : (openB Z s).length = Z ∧ (∀ j, (openB Z s)[j]? = if j = 8 then some 0 else if j < 8 then (headB s)[j]? else if j < Z then some 255 else none) := by
  have h1 : (splice (List.replicate Z 255) 0 (headB s)).length = Z := by rw [splice_len _ _ _ (by rw [headB_len]; simp; omega), List.length_replicate]
  refine ⟨?_, fun j => ?_⟩
  · unfold openB
    rw [splice_len _ _ _ (by rw [h1]; simp; omega), h1]
  · unfold openB
    rw [splice_get _ _ _ _ (by rw [h1]; simp; omega), splice_get _ _ _ _ (by rw [headB_len]; simp; omega), headB_len, List.getElem?_replicate]
    by_cases h8 : j = 8
    · subst h8; rfl
    · rw [if_neg h8, if_neg (by simp; omega)]
      by_cases hl : j < 8
      · rw [if_pos (by omega), if_pos hl, Nat.sub_zero]
      · rw [if_neg (by omega), if_neg hl]
theorem openB_take (Z s : Nat) (h : 12 ≤ Z) : (openB Z s).take 12 = headB s ++ [0, 255, 255, 255] := by
  apply List.ext_getElem?
  intro j
  rw [List.getElem?_take, (openB_all Z s h).2, List.getElem?_append, headB_len]
  by_cases h1 : j < 8
  · rw [if_pos (by omega), if_neg (by omega), if_pos h1, if_pos h1]
  · by_cases h2 : j < 12
    · rw [if_pos h2]
      have h3 : j = 8 ∨ j = 9 ∨ j = 10 ∨ j = 11 := by omega
      rcases h3 with rfl | rfl | rfl | rfl
      · rfl
      · rw [if_neg (by omega), if_neg h1, if_pos (by omega), if_neg h1]; rfl
      · rw [if_neg (by omega), if_neg h1, if_pos (by omega), if_neg h1]; rfl
      · rw [if_neg (by omega), if_neg h1, if_pos (by omega), if_neg h1]; rfl
    · rw [if_neg h2, if_neg h1, List.getElem?_eq_none]
      show 4 ≤ j - 8
      omega
theorem open_st (Z s : Nat) (h : 12 ≤ Z) (hs : s ≤ 4294967295) : stU (openB Z s) = true ∧ stQ (openB Z s) = (s : Int) ∧ stS (openB Z s) = 2 := by
  have hl : 12 ≤ (headB s ++ [0, 255, 255, 255]).length := by simp [headB_len]
  have ht := st_take (xs := openB Z s) (ys := headB s ++ [0, 255, 255, 255]) (by rw [(openB_all Z s h).1]; exact h) hl (by rw [openB_take Z s h, List.take_of_length_le (by simp [headB_len])])
  have e1 : (headB s ++ [0, 255, 255, 255]).take 2 = [67, 66] := rfl
  have e6 : (headB s ++ [0, 255, 255, 255]).take 6 = head6 s := by
    rw [List.take_append_of_le_length (by rw [headB_len]; omega)]
    unfold headB
    rw [List.take_append_of_le_length (by rw [head6_len]; omega), List.take_of_length_le (by rw [head6_len]; omega)]
  have e3 : ((headB s ++ [0, 255, 255, 255]).drop 6).take 2 = putL (crc16 (head6 s)).toNat 2 := by
    rw [List.drop_append_of_le_length (by rw [headB_len]; omega), List.take_append_of_le_length (by rw [List.length_drop, headB_len]; omega)]
    unfold headB
    rw [List.drop_append_of_le_length (by rw [head6_len]; omega), List.drop_of_length_le (by rw [head6_len]; omega), List.nil_append, List.take_of_length_le (by rw [putL_len]; omega)]
  have e4 : ((headB s ++ [0, 255, 255, 255]).drop 2).take 4 = putL s 4 := by
    rw [List.drop_append_of_le_length (by rw [headB_len]; omega), List.take_append_of_le_length (by rw [List.length_drop, headB_len]; omega)]
    unfold headB head6
    rw [List.append_assoc]
    show (putL s 4 ++ _).take 4 = _
    rw [List.take_append_of_le_length (by rw [putL_len]; omega), List.take_of_length_le (by rw [putL_len]; omega)]
  have e8 : (headB s ++ [0, 255, 255, 255])[8]? = some 0 := by rw [List.getElem?_append_right (by rw [headB_len]; omega), headB_len]; rfl
  have e9 : (headB s ++ [0, 255, 255, 255])[9]? = some 255 := by rw [List.getElem?_append_right (by rw [headB_len]; omega), headB_len]; rfl
  have hC : parseC (headB s ++ [0, 255, 255, 255]) = 0 := by
    unfold parseC
    rw [if_neg (by omega), if_pos e1, e3, e6, getV_putL, if_pos]
    exact Nat.mod_eq_of_lt (crc16 (head6 s)).isLt
  have hu : stU (headB s ++ [0, 255, 255, 255]) = true := by
    unfold stU parseH
    rw [if_pos hC, e8, e9, hC]
    simp
  have hq : stQ (headB s ++ [0, 255, 255, 255]) = (s : Int) := by
    unfold stQ parseH
    rw [if_pos hu, if_pos hC, e4, getV_putL]
    simp only
    have : s % 2 ^ (8 * 4) = s := Nat.mod_eq_of_lt (by omega)
    rw [this]
  refine ⟨ht.1.trans hu, ht.2.trans hq, ?_⟩
  unfold stS
  rw [ht.1, hu, if_pos rfl]
theorem blank_st (Z : Nat) (h : 12 ≤ Z) : stU (List.replicate Z 255) = false ∧ stQ (List.replicate Z 255) = 0 ∧ stS (List.replicate Z 255) = 0 := by
  have hu : stU (List.replicate Z (255 : UInt8)) = false := stU_mark2 (by rw [List.getElem?_replicate, if_pos (by omega)])
  refine ⟨hu, ?_, ?_⟩
  · unfold stQ; rw [hu]; rfl
  · unfold stS; rw [hu]; simp
theorem void_st (xs : List UInt8) (h : 12 ≤ xs.length) : stU (splice xs 9 [0]) = false ∧ stQ (splice xs 9 [0]) = 0 ∧ stS (splice xs 9 [0]) = 1 := by
  have h9 : (splice xs 9 [0])[9]? = some 0 := by rw [splice_get _ _ _ _ (by simp; omega), if_pos (by simp)]; rfl
  have hu := stU_void2 h9
  refine ⟨hu, ?_, ?_⟩
  · unfold stQ; rw [hu]; rfl
  · rcases stS_cases (splice xs 9 [0]) with ⟨_, h2⟩ | ⟨_, _, h2⟩ | ⟨h1, _⟩
    · rw [hu] at h2; cases h2
    · have := List.count_eq_length.1 h2 0 (List.mem_of_getElem? h9)
      cases this
    · exact h1
/-- What is laid behind a header doesn't change what it tells. -/
theorem lay_st (xs ys : List UInt8) (o : Nat) (ho : 12 ≤ o) (h : o + ys.length ≤ xs.length) : stU (splice xs o ys) = stU xs ∧ stQ (splice xs o ys) = stQ xs := by
  refine st_take (by rw [splice_len _ _ _ h]; omega) (by omega) ?_
  apply List.ext_getElem?
  intro j
  rw [List.getElem?_take, List.getElem?_take]
  by_cases hj : j < 12
  · rw [if_pos hj, if_pos hj, splice_get _ _ _ _ h, if_neg (by omega)]
  · rw [if_neg hj, if_neg hj]
theorem stS_used {xs : List UInt8} (h : stU xs = true) : stS xs = 2 := by unfold stS; rw [if_pos h]

theorem secsOf_len (ss : List (Nat × List UInt8)) : (secsOf ss).length = ss.length := by simp [secsOf]
theorem secsOf_set (ss : List (Nat × List UInt8)) (i : Nat) (x : Nat × List UInt8) : secsOf (ss.set i x) = (secsOf ss).set i (secOf x) := by simp [secsOf, List.map_set]
theorem secsOf_at {ss : List (Nat × List UInt8)} {i : Nat} {s : Sc} (h : (secsOf ss)[i]? = some s) : ∃ m xs, ss[i]? = some (m, xs) ∧ s = ⟨stS xs, stQ xs, (m : Int)⟩ := by
  unfold secsOf at h
  rw [List.getElem?_map] at h
  cases hq : ss[i]? with
  | none => rw [hq] at h; cases h
  | some x =>
    rw [hq] at h
    obtain ⟨m, xs⟩ := x
    exact ⟨m, xs, rfl, by simpa [secOf] using h.symm⟩
theorem secsOf_q (ss : List (Nat × List UInt8)) : Q32 (secsOf ss) := by
  intro s hs
  unfold secsOf at hs
  obtain ⟨x, _, rfl⟩ := List.mem_map.1 hs
  exact stQ_lt x.2

end Go.Proofs.YtidbipbangifbaaGreatDoor
