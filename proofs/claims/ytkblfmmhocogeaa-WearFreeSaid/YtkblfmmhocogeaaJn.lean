/- Proved: whatever its arguments are, WearFree returns true and leaves them as they were. Conditions: none but the row's own (the arguments can be read as data). -/
import Derived.Test.YtkblfmmhocogeaaJj
import Derived.Test.YtkblfmmhocogeaaJm
namespace Go.Proofs.Ytkblfmmhocogeaa
open Go.ChangeShapes Go.WideShapes Go.ChangeAt Go.RowKit Go.Joins

set_option maxHeartbeats 8000000 in
set_option maxRecDepth 4000 in
theorem wearFree_any (A : Option Addr) (n cap : Nat) (l : List Sc) (lim st q er : Int) (w : World) (hS0 : Secs w (fun q => w.heap.size ≤ q) A n cap l) (hA : A = none → n = 0 ∧ cap = 0) :
    Calls Try.prog 5 #[.slice A n cap, .int .i64 lim, .agg #[.int .i64 st, .int .u32 q, .int .i64 er]] w fun e w' => e = .returned (.bool true) ∧ Below w.heap.size w w' := by
  have HS := Lib.hid (hS0.mono (T := Empty) (fun _ _ h => h.elim))
  have HA := Lib.hid hA
  have HSl := Lib.hid hS0.1
  have hcap := hS0.2.1
  have hcap2 : cap ≤ 9223372036854775807 := by have := hS0.2.2.1; unfold maxLen at this; omega
  have HO0 := Lib.hid ((Only.refl Empty w).alloc (.cells #[.int .i64 st, .int .u32 q, .int .i64 er] 33))
  have HK0 := Lib.hid (Blk.new w 33 #[.int .i64 st, .int .u32 q, .int .i64 er])
  clear hS0 hA
  go_enter Try.func5, Try.ntmps5
  go_wp2_with fail
  refine (fixed7_any _).mono ?_
  rintro e1 w1 ⟨rfl, hb1⟩
  have HO1 := Lib.hid (HO0.out.trans (Only.of_below (S := Empty) hb1))
  have HK1 := Lib.hid ((Only.of_below (S := Empty) hb1).blk HK0.out (fun h => h))
  clear hb1
  go_wp2_with fail
  refine (right7_any A n cap l _ (HS.out.only HO1.out (fun _ _ h => h))).mono ?_
  rintro e2 w2 ⟨rfl, hb2⟩
  have HO2 := Lib.hid (HO1.out.trans (Only.of_below (S := Empty) hb2))
  have HK2 := Lib.hid ((Only.of_below (S := Empty) hb2).blk HK1.out (fun h => h))
  clear hb2 HO1 HK1 HO0 HK0
  cases hR : rightB l with
  | false =>
    go_wp2_with fail
    go_ret
    exact ⟨rfl, HO2.out.below (Nat.le_refl _) (fun _ _ h => h)⟩
  | true =>
    obtain ⟨-, hlen⟩ := rightB_spec hR
    have hm : n ≤ 100 := by have := HSl.out; omega
    clear hR hlen
    obtain ⟨r, hr⟩ : ∃ r, best (opensB lim) Sc.er l n = r := ⟨_, rfl⟩
    have hr2 : best (opensB lim) Sc.er (l ++ [(⟨2, q, er⟩ : Sc)]) (n + 1) = r := by
      rw [← hr, ← HSl.out]
      exact best_snoc _ _ l ⟨2, q, er⟩ rfl
    have hcnt := countP_pos_best l (opensB lim) Sc.er
    have hbst := best_is (opensB lim) Sc.er l n (by rw [HSl.out]; exact Nat.le_refl _)
    rw [HSl.out, hr] at hcnt
    rw [hr] at hbst
    have N3 := Lib.hid (fun W h => next_any A n cap l lim W h (by omega) r hr)
    have NF := Lib.hid (fun A' c' W h => next_any A' (n + 1) c' (l ++ [(⟨2, q, er⟩ : Sc)]) lim W h (by omega) r hr2)
    have N7 := Lib.hid (fun W h => free_any A n cap l lim W h (by omega))
    obtain ⟨c, hc⟩ : ∃ c, l.countP (opensB lim) = c := ⟨_, rfl⟩
    rw [hc] at hcnt N7
    clear hc hr hr2
    unfold placeV at N3 NF
    cases r with
    | none =>
      have hc0 : c = 0 := by
        have : decide (0 < c) = false := hcnt.symm
        have := of_decide_eq_false this
        omega
      subst hc0
      clear hcnt hbst
      simp only [Option.isSome_none, Option.getD_none] at N3 NF
      go_wp2_with fail
      refine (N3.out _ (HS.out.only HO2.out (fun _ _ h => h))).mono ?_
      rintro e3 w3 ⟨rfl, hb3⟩
      have HO3 := Lib.hid (HO2.out.trans (Only.of_below (S := Empty) hb3))
      have HK3 := Lib.hid ((Only.of_below (S := Empty) hb3).blk HK2.out (fun h => h))
      clear hb3
      go_wp2_with fail
      refine (N7.out _ (HS.out.only HO3.out (fun _ _ h => h))).mono ?_
      rintro e4 w4 ⟨rfl, hb4⟩
      have HO4 := Lib.hid (HO3.out.trans (Only.of_below (S := Empty) hb4))
      have HK4 := Lib.hid ((Only.of_below (S := Empty) hb4).blk HK3.out (fun h => h))
      clear hb4
      have g0 := HK4.out.frozen 0
      have g1 := HK4.out.cell 0
      simp at g1
      go_wp2_with fail
      have HO8 : Hid (Only Empty w (w4.setCell ⟨w.heap.size, 0, none⟩ (.int .i64 2))) := Lib.hid (HO4.out.setCell (p := ⟨w.heap.size, 0, none⟩) (Or.inr (Nat.le_refl _)) _)
      have HB8 : Hid (Blk (w4.setCell ⟨w.heap.size, 0, none⟩ (.int .i64 2)) w.heap.size 33 #[.int .i64 2, .int .u32 q, .int .i64 er]) := Lib.hid (HK4.out.set_ 0 (.int .i64 2))
      generalize w4.setCell ⟨w.heap.size, 0, none⟩ (.int .i64 2) = w8 at HO8 HB8 ⊢
      have HSx := Lib.hid (HS.out.only HO8.out (fun _ _ h => h))
      have hD8 : Only Empty w8 w8.drew := (Only.refl _ _).drew
      clear g0 g1
      refine wp_region_held_drew (S := fun W => Only Empty w8 W) (by kernel_rfl) hD8 (fun hHeld => ?_)
      generalize hw9 : w8.drew = w9 at hHeld ⊢
      have HB9 := Lib.hid (hHeld.blk HB8.out (fun h => h))
      have HS9 := Lib.hid (HSx.out.only hHeld (fun _ _ h => h))
      have hle9 := hHeld.size
      refine take_yes 1 42 ?_ rfl rfl (by kernel_rfl) (by kernel_rfl) (by kernel_rfl) (fun _ _ _ h => h) (by kernel_rfl) ?_ (by assumption) ?_; rotate_left; (focus (intro w hSw; (try dsimp only at hSw); go_simp; all_goals with_reducible rfl)); simp only [Act.put, List.setIfInBounds_toArray, List.set_cons_zero, List.set_cons_succ]
      refine take_yes 3 44 (.agg #[.int .i64 2, .int .u32 q, .int .i64 er]) rfl rfl (by kernel_rfl) (by kernel_rfl) (by kernel_rfl) (fun _ _ _ h => h) (by kernel_rfl) ?_ (by assumption) ?_; (focus (intro W hSW; have hk := hSW.blk HB8.out (fun h => h); have k0 := hk.cell 0; have k1 := hk.cell 1; have k2 := hk.cell 2; simp at k0 k1 k2; go_simp; all_goals with_reducible rfl)); simp only [Act.put, List.setIfInBounds_toArray, List.set_cons_zero, List.set_cons_succ]
      refine take_yes 6 47 ?_ rfl rfl (by kernel_rfl) (by kernel_rfl) (by kernel_rfl) (fun _ _ _ h => h) (by kernel_rfl) ?_ (by assumption) ?_; rotate_left; (focus (intro w hSw; (try dsimp only at hSw); go_simp; all_goals with_reducible rfl)); simp only [Act.put, List.setIfInBounds_toArray, List.set_cons_zero, List.set_cons_succ]
      refine wpAnyH_ready (rs := [0, 4]) (by kernel_rfl) (by simp) ?_
      refine AllReadyH.cons rfl (fun K hK => ?_) (AllReadyH.cons rfl (fun K hK => ?_) AllReadyH.nil)
      · go_simp
        refine hK.out _ _ (hHeld.alloc (.cells #[] 33)) (fun _ => ?_)
        clear hK K
        try simp only [Act.put, List.setIfInBounds_toArray, List.set_cons_zero, List.set_cons_succ]
        refine wpAnyH_ready (rs := [2, 4]) (by kernel_rfl) (by simp) ?_
        refine AllReadyH.cons rfl (fun K hK => ?_) (AllReadyH.cons rfl (fun K hK => ?_) AllReadyH.nil)
        · have hown0 := own_secs w9 w9.heap.size (Nat.le_refl _)
          have hX0 : Only Empty w8 (w9.alloc (.cells #[] 33)) := hHeld.alloc _
          refine step_append_secs rfl (.tmp 41) (.tmp 42) rfl w9.heap.size _ rfl 0 [] hown0 _ n cap l Empty rfl (HS9.out.only ((Only.refl Empty w9).alloc _) (fun _ _ h => h)) HA.out (by omega) (by simp) ?_
          intro v11 w11 hown11 hg11
          change K (Act.put _ (some 43) v11) w11
          have hO11 := hX0.row hg11 (fun k hk => by cases hk; exact hle9)
          have hz11 := hg11.size
          refine hK.out _ _ hO11 (fun _ => ?_)
          clear hK K
          try simp only [Act.put, List.setIfInBounds_toArray, List.set_cons_zero, List.set_cons_succ]
          clear hown0 hX0
          refine wpAnyH_ready (rs := [4]) (by kernel_rfl) (by simp) ?_
          refine AllReadyH.cons rfl (fun K hK => ?_) AllReadyH.nil
          go_simp
          refine hK.out _ _ (hO11.alloc (.cells #[.int .i64 2, .int .u32 q, .int .i64 er] 33)) (fun _ => ?_)
          clear hK K
          try simp only [Act.put, List.setIfInBounds_toArray, List.set_cons_zero, List.set_cons_succ]
          refine wpAnyH_ready (rs := [5]) (by kernel_rfl) (by simp) ?_
          refine AllReadyH.cons rfl (fun K hK => ?_) AllReadyH.nil
          have hX1 : Only Empty w8 (w11.alloc (.cells #[.int .i64 2, .int .u32 q, .int .i64 er] 33)) := hO11.alloc _
          refine step_append_secs rfl (.tmp 43) (.tmp 45) rfl w9.heap.size v11 rfl (0 + n) ([] ++ l) (own_alloc hown11 (.cells #[.int .i64 2, .int .u32 q, .int .i64 er] 33)) _ 1 1 [⟨2, q, er⟩] Empty rfl (one_sec w11 Empty ⟨2, q, er⟩ (fun h => h)) (fun h => by cases h) (by omega) (by simp at hz11 ⊢; omega) ?_
          intro v12 w12 hown12 hg12
          change K (Act.put _ (some 46) v12) w12
          have hO12 := hX1.row hg12 (fun k hk => Nat.le_trans hle9 (hown11.lt k hk).1)
          clear hown11 hg11 hO11 hz11 hX1
          have hown13 : w12.ownsRow w9.heap.size 33 3 v12 (n + 1) ((l ++ [(⟨2, q, er⟩ : Sc)]).flatMap Sc.cells) := by simpa using hown12
          obtain ⟨A12, c12, rfl, hS12, -⟩ := Secs.of_own (S := Empty) hown13 (by simp [HSl.out]) (fun _ _ _ h => h)
          refine hK.out _ _ hO12 (fun _ => ?_)
          clear hK K
          try simp only [Act.put, List.setIfInBounds_toArray, List.set_cons_zero, List.set_cons_succ]
          have HO12 := Lib.hid hO12
          have HS12 := Lib.hid hS12
          clear hown12 hown13 hO12 hS12 hg12
          refine wpAnyH_ready (rs := [7]) (by kernel_rfl) (by simp) ?_
          refine AllReadyH.cons rfl (fun K hK => ?_) AllReadyH.nil
          go_simp
          go_at_call 8; (with_reducible refine (NF.out _ _ _ HS12.out).mono ?_); rintro e14 w14 ⟨rfl, hb14⟩
          have hO14 := HO12.out.trans (Only.of_below (S := Empty) hb14)
          go_wp2_with fail
          refine hK.out _ _ hO14 (fun _ => ?_)
          clear hK K
          try simp only [Act.put, List.setIfInBounds_toArray, List.set_cons_zero, List.set_cons_succ]
          have HO14 := Lib.hid hO14
          clear hO14 hb14
          refine take_yes 8 40 ?_ rfl rfl (by kernel_rfl) (by kernel_rfl) (by kernel_rfl) (fun _ _ _ h => h) (by kernel_rfl) ?_ (by assumption) ?_; rotate_left; (focus (intro w hSw; (try dsimp only at hSw); go_simp; all_goals with_reducible rfl)); simp only [Act.put, List.setIfInBounds_toArray, List.set_cons_zero, List.set_cons_succ]
          refine take_yes 9 49 ?_ rfl rfl (by kernel_rfl) (by kernel_rfl) (by kernel_rfl) (fun _ _ _ h => h) (by kernel_rfl) ?_ (by assumption) ?_; rotate_left; (focus (intro w hSw; (try dsimp only at hSw); go_simp; all_goals with_reducible rfl)); simp only [Act.put, List.setIfInBounds_toArray, List.set_cons_zero, List.set_cons_succ]
          refine take_yes 10 50 ?_ rfl rfl (by kernel_rfl) (by kernel_rfl) (by kernel_rfl) (fun _ _ _ h => h) (by kernel_rfl) ?_ (by assumption) ?_; rotate_left; (focus (intro w hSw; (try dsimp only at hSw); go_simp; all_goals with_reducible rfl)); simp only [Act.put, List.setIfInBounds_toArray, List.set_cons_zero, List.set_cons_succ]
          refine take_yes 11 9 ?_ rfl rfl (by kernel_rfl) (by kernel_rfl) (by kernel_rfl) (fun _ _ _ h => h) (by kernel_rfl) ?_ (by assumption) ?_; rotate_left; (focus (intro w hSw; (try dsimp only at hSw); go_simp; all_goals with_reducible rfl)); simp only [Act.put, List.setIfInBounds_toArray, List.set_cons_zero, List.set_cons_succ]
          refine take_yes 12 10 ?_ rfl rfl (by kernel_rfl) (by kernel_rfl) (by kernel_rfl) (fun _ _ _ h => h) (by kernel_rfl) ?_ (by assumption) ?_; rotate_left; (focus (intro w hSw; (try dsimp only at hSw); go_simp; all_goals with_reducible rfl)); simp only [Act.put, List.setIfInBounds_toArray, List.set_cons_zero, List.set_cons_succ]
          refine wpAnyH_done (by kernel_rfl) ?_ _
          go_wp2_with fail
          go_ret
          exact ⟨rfl, (HO8.out.trans HO14.out).below (Nat.le_refl _) (fun _ _ h => h)⟩
        · go_simp
          refine hK.out _ _ ((hHeld.alloc (.cells #[] 33)).alloc (.cells #[.int .i64 2, .int .u32 q, .int .i64 er] 33)) (fun _ => ?_)
          clear hK K
          try simp only [Act.put, List.setIfInBounds_toArray, List.set_cons_zero, List.set_cons_succ]
          refine wpAnyH_ready (rs := [2]) (by kernel_rfl) (by simp) ?_
          refine AllReadyH.cons rfl (fun K hK => ?_) AllReadyH.nil
          have hown0 := own_alloc (own_secs w9 w9.heap.size (Nat.le_refl _)) (.cells #[.int .i64 2, .int .u32 q, .int .i64 er] 33)
          have hX0 : Only Empty w8 ((w9.alloc (.cells #[] 33)).alloc (.cells #[.int .i64 2, .int .u32 q, .int .i64 er] 33)) := (hHeld.alloc _).alloc _
          have hX2 := one_sec (w9.alloc (.cells #[] 33)) (· = w9.heap.size) ⟨2, q, er⟩ (by simp)
          refine step_append_secs rfl (.tmp 41) (.tmp 42) rfl w9.heap.size _ rfl 0 [] hown0 _ n cap l Empty rfl (HS9.out.only (((Only.refl Empty w9).alloc _).alloc _) (fun _ _ h => h)) HA.out (by omega) (by simp; omega) ?_
          intro v11 w11 hown11 hg11
          change K (Act.put _ (some 43) v11) w11
          have hO11 := hX0.row hg11 (fun k hk => by cases hk; exact hle9)
          have hz11 := hg11.size
          have hX3 := (hX2.only (Only.of_grown (S := (· = w9.heap.size)) hg11 (fun k hk _ => by cases hk; rfl)) (fun _ _ h => h)).mono (T := Empty) (fun _ _ h => h.elim)
          simp at hX3
          refine hK.out _ _ hO11 (fun _ => ?_)
          clear hK K
          try simp only [Act.put, List.setIfInBounds_toArray, List.set_cons_zero, List.set_cons_succ]
          clear hown0 hX0 hX2
          refine wpAnyH_ready (rs := [5]) (by kernel_rfl) (by simp) ?_
          refine AllReadyH.cons rfl (fun K hK => ?_) AllReadyH.nil
          refine step_append_secs rfl (.tmp 43) (.tmp 45) rfl w9.heap.size v11 rfl (0 + n) ([] ++ l) hown11 _ 1 1 [⟨2, q, er⟩] Empty rfl hX3 (fun h => by cases h) (by omega) (by simp at hz11; omega) ?_
          intro v12 w12 hown12 hg12
          change K (Act.put _ (some 46) v12) w12
          have hO12 := hO11.row hg12 (fun k hk => Nat.le_trans hle9 (hown11.lt k hk).1)
          clear hown11 hg11 hO11 hz11 hX3
          have hown13 : w12.ownsRow w9.heap.size 33 3 v12 (n + 1) ((l ++ [(⟨2, q, er⟩ : Sc)]).flatMap Sc.cells) := by simpa using hown12
          obtain ⟨A12, c12, rfl, hS12, -⟩ := Secs.of_own (S := Empty) hown13 (by simp [HSl.out]) (fun _ _ _ h => h)
          refine hK.out _ _ hO12 (fun _ => ?_)
          clear hK K
          try simp only [Act.put, List.setIfInBounds_toArray, List.set_cons_zero, List.set_cons_succ]
          have HO12 := Lib.hid hO12
          have HS12 := Lib.hid hS12
          clear hown12 hown13 hO12 hS12 hg12
          refine wpAnyH_ready (rs := [7]) (by kernel_rfl) (by simp) ?_
          refine AllReadyH.cons rfl (fun K hK => ?_) AllReadyH.nil
          go_simp
          go_at_call 8; (with_reducible refine (NF.out _ _ _ HS12.out).mono ?_); rintro e14 w14 ⟨rfl, hb14⟩
          have hO14 := HO12.out.trans (Only.of_below (S := Empty) hb14)
          go_wp2_with fail
          refine hK.out _ _ hO14 (fun _ => ?_)
          clear hK K
          try simp only [Act.put, List.setIfInBounds_toArray, List.set_cons_zero, List.set_cons_succ]
          have HO14 := Lib.hid hO14
          clear hO14 hb14
          refine take_yes 8 40 ?_ rfl rfl (by kernel_rfl) (by kernel_rfl) (by kernel_rfl) (fun _ _ _ h => h) (by kernel_rfl) ?_ (by assumption) ?_; rotate_left; (focus (intro w hSw; (try dsimp only at hSw); go_simp; all_goals with_reducible rfl)); simp only [Act.put, List.setIfInBounds_toArray, List.set_cons_zero, List.set_cons_succ]
          refine take_yes 9 49 ?_ rfl rfl (by kernel_rfl) (by kernel_rfl) (by kernel_rfl) (fun _ _ _ h => h) (by kernel_rfl) ?_ (by assumption) ?_; rotate_left; (focus (intro w hSw; (try dsimp only at hSw); go_simp; all_goals with_reducible rfl)); simp only [Act.put, List.setIfInBounds_toArray, List.set_cons_zero, List.set_cons_succ]
          refine take_yes 10 50 ?_ rfl rfl (by kernel_rfl) (by kernel_rfl) (by kernel_rfl) (fun _ _ _ h => h) (by kernel_rfl) ?_ (by assumption) ?_; rotate_left; (focus (intro w hSw; (try dsimp only at hSw); go_simp; all_goals with_reducible rfl)); simp only [Act.put, List.setIfInBounds_toArray, List.set_cons_zero, List.set_cons_succ]
          refine take_yes 11 9 ?_ rfl rfl (by kernel_rfl) (by kernel_rfl) (by kernel_rfl) (fun _ _ _ h => h) (by kernel_rfl) ?_ (by assumption) ?_; rotate_left; (focus (intro w hSw; (try dsimp only at hSw); go_simp; all_goals with_reducible rfl)); simp only [Act.put, List.setIfInBounds_toArray, List.set_cons_zero, List.set_cons_succ]
          refine take_yes 12 10 ?_ rfl rfl (by kernel_rfl) (by kernel_rfl) (by kernel_rfl) (fun _ _ _ h => h) (by kernel_rfl) ?_ (by assumption) ?_; rotate_left; (focus (intro w hSw; (try dsimp only at hSw); go_simp; all_goals with_reducible rfl)); simp only [Act.put, List.setIfInBounds_toArray, List.set_cons_zero, List.set_cons_succ]
          refine wpAnyH_done (by kernel_rfl) ?_ _
          go_wp2_with fail
          go_ret
          exact ⟨rfl, (HO8.out.trans HO14.out).below (Nat.le_refl _) (fun _ _ h => h)⟩
      · go_simp
        refine hK.out _ _ (hHeld.alloc (.cells #[.int .i64 2, .int .u32 q, .int .i64 er] 33)) (fun _ => ?_)
        clear hK K
        try simp only [Act.put, List.setIfInBounds_toArray, List.set_cons_zero, List.set_cons_succ]
        refine wpAnyH_ready (rs := [0]) (by kernel_rfl) (by simp) ?_
        refine AllReadyH.cons rfl (fun K hK => ?_) AllReadyH.nil
        go_simp
        refine hK.out _ _ ((hHeld.alloc (.cells #[.int .i64 2, .int .u32 q, .int .i64 er] 33)).alloc (.cells #[] 33)) (fun _ => ?_)
        clear hK K
        try simp only [Act.put, List.setIfInBounds_toArray, List.set_cons_zero, List.set_cons_succ]
        refine wpAnyH_ready (rs := [2]) (by kernel_rfl) (by simp) ?_
        refine AllReadyH.cons rfl (fun K hK => ?_) AllReadyH.nil
        have hown0 := own_secs (w9.alloc (.cells #[.int .i64 2, .int .u32 q, .int .i64 er] 33)) w9.heap.size (by simp)
        have hsz : (w9.alloc (.cells #[.int .i64 2, .int .u32 q, .int .i64 er] 33)).heap.size = w9.heap.size + 1 := by simp
        rw [hsz] at hown0
        clear hsz
        have hX0 : Only Empty w8 ((w9.alloc (.cells #[.int .i64 2, .int .u32 q, .int .i64 er] 33)).alloc (.cells #[] 33)) := (hHeld.alloc _).alloc _
        have hX2 := (one_sec w9 (· = w9.heap.size + 1) ⟨2, q, er⟩ (by simp)).only ((Only.refl Empty (w9.alloc (.cells #[.int .i64 2, .int .u32 q, .int .i64 er] 33))).alloc (.cells #[] 33)) (fun _ _ h => h.elim)
        refine step_append_secs rfl (.tmp 41) (.tmp 42) rfl w9.heap.size _ rfl 0 [] hown0 _ n cap l Empty rfl (HS9.out.only (((Only.refl Empty w9).alloc _).alloc _) (fun _ _ h => h)) HA.out (by omega) (by simp; omega) ?_
        intro v11 w11 hown11 hg11
        change K (Act.put _ (some 43) v11) w11
        have hO11 := hX0.row hg11 (fun k hk => by cases hk; exact Nat.le_trans hle9 (Nat.le_succ _))
        have hz11 := hg11.size
        have hX3 := (hX2.only (Only.of_grown (S := (· = w9.heap.size + 1)) hg11 (fun k hk _ => by cases hk; rfl)) (fun _ _ h => h)).mono (T := Empty) (fun _ _ h => h.elim)
        refine hK.out _ _ hO11 (fun _ => ?_)
        clear hK K
        try simp only [Act.put, List.setIfInBounds_toArray, List.set_cons_zero, List.set_cons_succ]
        clear hown0 hX0 hX2
        refine wpAnyH_ready (rs := [5]) (by kernel_rfl) (by simp) ?_
        refine AllReadyH.cons rfl (fun K hK => ?_) AllReadyH.nil
        refine step_append_secs rfl (.tmp 43) (.tmp 45) rfl w9.heap.size v11 rfl (0 + n) ([] ++ l) hown11 _ 1 1 [⟨2, q, er⟩] Empty rfl hX3 (fun h => by cases h) (by omega) (by simp at hz11; omega) ?_
        intro v12 w12 hown12 hg12
        change K (Act.put _ (some 46) v12) w12
        have hO12 := hO11.row hg12 (fun k hk => Nat.le_trans hle9 (hown11.lt k hk).1)
        clear hown11 hg11 hO11 hz11 hX3
        have hown13 : w12.ownsRow w9.heap.size 33 3 v12 (n + 1) ((l ++ [(⟨2, q, er⟩ : Sc)]).flatMap Sc.cells) := by simpa using hown12
        obtain ⟨A12, c12, rfl, hS12, -⟩ := Secs.of_own (S := Empty) hown13 (by simp [HSl.out]) (fun _ _ _ h => h)
        refine hK.out _ _ hO12 (fun _ => ?_)
        clear hK K
        try simp only [Act.put, List.setIfInBounds_toArray, List.set_cons_zero, List.set_cons_succ]
        have HO12 := Lib.hid hO12
        have HS12 := Lib.hid hS12
        clear hown12 hown13 hO12 hS12 hg12
        refine wpAnyH_ready (rs := [7]) (by kernel_rfl) (by simp) ?_
        refine AllReadyH.cons rfl (fun K hK => ?_) AllReadyH.nil
        go_simp
        go_at_call 8; (with_reducible refine (NF.out _ _ _ HS12.out).mono ?_); rintro e14 w14 ⟨rfl, hb14⟩
        have hO14 := HO12.out.trans (Only.of_below (S := Empty) hb14)
        go_wp2_with fail
        refine hK.out _ _ hO14 (fun _ => ?_)
        clear hK K
        try simp only [Act.put, List.setIfInBounds_toArray, List.set_cons_zero, List.set_cons_succ]
        have HO14 := Lib.hid hO14
        clear hO14 hb14
        refine take_yes 8 40 ?_ rfl rfl (by kernel_rfl) (by kernel_rfl) (by kernel_rfl) (fun _ _ _ h => h) (by kernel_rfl) ?_ (by assumption) ?_; rotate_left; (focus (intro w hSw; (try dsimp only at hSw); go_simp; all_goals with_reducible rfl)); simp only [Act.put, List.setIfInBounds_toArray, List.set_cons_zero, List.set_cons_succ]
        refine take_yes 9 49 ?_ rfl rfl (by kernel_rfl) (by kernel_rfl) (by kernel_rfl) (fun _ _ _ h => h) (by kernel_rfl) ?_ (by assumption) ?_; rotate_left; (focus (intro w hSw; (try dsimp only at hSw); go_simp; all_goals with_reducible rfl)); simp only [Act.put, List.setIfInBounds_toArray, List.set_cons_zero, List.set_cons_succ]
        refine take_yes 10 50 ?_ rfl rfl (by kernel_rfl) (by kernel_rfl) (by kernel_rfl) (fun _ _ _ h => h) (by kernel_rfl) ?_ (by assumption) ?_; rotate_left; (focus (intro w hSw; (try dsimp only at hSw); go_simp; all_goals with_reducible rfl)); simp only [Act.put, List.setIfInBounds_toArray, List.set_cons_zero, List.set_cons_succ]
        refine take_yes 11 9 ?_ rfl rfl (by kernel_rfl) (by kernel_rfl) (by kernel_rfl) (fun _ _ _ h => h) (by kernel_rfl) ?_ (by assumption) ?_; rotate_left; (focus (intro w hSw; (try dsimp only at hSw); go_simp; all_goals with_reducible rfl)); simp only [Act.put, List.setIfInBounds_toArray, List.set_cons_zero, List.set_cons_succ]
        refine take_yes 12 10 ?_ rfl rfl (by kernel_rfl) (by kernel_rfl) (by kernel_rfl) (fun _ _ _ h => h) (by kernel_rfl) ?_ (by assumption) ?_; rotate_left; (focus (intro w hSw; (try dsimp only at hSw); go_simp; all_goals with_reducible rfl)); simp only [Act.put, List.setIfInBounds_toArray, List.set_cons_zero, List.set_cons_succ]
        refine wpAnyH_done (by kernel_rfl) ?_ _
        go_wp2_with fail
        go_ret
        exact ⟨rfl, (HO8.out.trans HO14.out).below (Nat.le_refl _) (fun _ _ h => h)⟩
    | some k =>
      have hc0 : (0 : Int) < (c : Int) := by
        have := of_decide_eq_true (p := 0 < c) hcnt.symm
        omega
      obtain ⟨hkn, t, ht, hmt, -⟩ := hbst
      obtain ⟨b, f0, rfl, hb, -, hcl⟩ := HS.out.2.2.2 (by omega)
      have hcell := hcl k t ht 0 (by omega)
      have ht2 : (t.st == 2) = false := by
        rw [beq_eq_false_iff_ne]
        intro e
        unfold opensB at hmt
        rw [e] at hmt
        simp at hmt
      obtain ⟨tst, tq, ter⟩ := t
      simp only at ht2
      have hkn2 : (k : Int) < (n : Int) := by omega
      have hk0 : (0 : Int) ≤ (k : Int) := by omega
      have Hcell : Hid (w.cell? ⟨b, f0 + k * 3 + 0, none⟩ = some (.int .i64 tst)) := Lib.hid hcell
      clear hcnt hcl ht hmt hcell
      simp only [Option.isSome_some, Option.getD_some] at N3 NF
      go_wp2_with fail
      refine (N3.out _ (HS.out.only HO2.out (fun _ _ h => h))).mono ?_
      rintro e3 w3 ⟨rfl, hb3⟩
      have HO3 := Lib.hid (HO2.out.trans (Only.of_below (S := Empty) hb3))
      have HK3 := Lib.hid ((Only.of_below (S := Empty) hb3).blk HK2.out (fun h => h))
      clear hb3
      go_wp2_with fail
      refine (N7.out _ (HS.out.only HO3.out (fun _ _ h => h))).mono ?_
      rintro e4 w4 ⟨rfl, hb4⟩
      have HO4 := Lib.hid (HO3.out.trans (Only.of_below (S := Empty) hb4))
      have HK4 := Lib.hid ((Only.of_below (S := Empty) hb4).blk HK3.out (fun h => h))
      clear hb4
      have g0 := HK4.out.frozen 0
      have g1 := HK4.out.cell 0
      simp at g1
      have d0 : w4.cell? ⟨b, f0 + k * 3, none⟩ = some (.int .i64 tst) := (HO4.out.cell (p := ⟨b, f0 + k * 3 + 0, none⟩) hb (fun h => h)).trans Hcell.out
      go_wp2_with fail
      have HO8 : Hid (Only Empty w (w4.setCell ⟨w.heap.size, 0, none⟩ (.int .i64 2))) := Lib.hid (HO4.out.setCell (p := ⟨w.heap.size, 0, none⟩) (Or.inr (Nat.le_refl _)) _)
      have HB8 : Hid (Blk (w4.setCell ⟨w.heap.size, 0, none⟩ (.int .i64 2)) w.heap.size 33 #[.int .i64 2, .int .u32 q, .int .i64 er]) := Lib.hid (HK4.out.set_ 0 (.int .i64 2))
      generalize w4.setCell ⟨w.heap.size, 0, none⟩ (.int .i64 2) = w8 at HO8 HB8 ⊢
      have HSx := Lib.hid (HS.out.only HO8.out (fun _ _ h => h))
      have hD8 : Only Empty w8 w8.drew := (Only.refl _ _).drew
      clear g0 g1 d0
      refine wp_region_held_drew (S := fun W => Only Empty w8 W) (by kernel_rfl) hD8 (fun hHeld => ?_)
      generalize hw9 : w8.drew = w9 at hHeld ⊢
      have HB9 := Lib.hid (hHeld.blk HB8.out (fun h => h))
      have HS9 := Lib.hid (HSx.out.only hHeld (fun _ _ h => h))
      have hle9 := hHeld.size
      refine take_yes 1 42 ?_ rfl rfl (by kernel_rfl) (by kernel_rfl) (by kernel_rfl) (fun _ _ _ h => h) (by kernel_rfl) ?_ (by assumption) ?_; rotate_left; (focus (intro w hSw; (try dsimp only at hSw); go_simp; all_goals with_reducible rfl)); simp only [Act.put, List.setIfInBounds_toArray, List.set_cons_zero, List.set_cons_succ]
      refine take_yes 3 44 (.agg #[.int .i64 2, .int .u32 q, .int .i64 er]) rfl rfl (by kernel_rfl) (by kernel_rfl) (by kernel_rfl) (fun _ _ _ h => h) (by kernel_rfl) ?_ (by assumption) ?_; (focus (intro W hSW; have hk := hSW.blk HB8.out (fun h => h); have k0 := hk.cell 0; have k1 := hk.cell 1; have k2 := hk.cell 2; simp at k0 k1 k2; go_simp; all_goals with_reducible rfl)); simp only [Act.put, List.setIfInBounds_toArray, List.set_cons_zero, List.set_cons_succ]
      refine take_yes 6 47 ?_ rfl rfl (by kernel_rfl) (by kernel_rfl) (by kernel_rfl) (fun _ _ _ h => h) (by kernel_rfl) ?_ (by assumption) ?_; rotate_left; (focus (intro w hSw; (try dsimp only at hSw); go_simp; all_goals with_reducible rfl)); simp only [Act.put, List.setIfInBounds_toArray, List.set_cons_zero, List.set_cons_succ]
      refine wpAnyH_ready (rs := [0, 4]) (by kernel_rfl) (by simp) ?_
      refine AllReadyH.cons rfl (fun K hK => ?_) (AllReadyH.cons rfl (fun K hK => ?_) AllReadyH.nil)
      · go_simp
        refine hK.out _ _ (hHeld.alloc (.cells #[] 33)) (fun _ => ?_)
        clear hK K
        try simp only [Act.put, List.setIfInBounds_toArray, List.set_cons_zero, List.set_cons_succ]
        refine wpAnyH_ready (rs := [2, 4]) (by kernel_rfl) (by simp) ?_
        refine AllReadyH.cons rfl (fun K hK => ?_) (AllReadyH.cons rfl (fun K hK => ?_) AllReadyH.nil)
        · have hown0 := own_secs w9 w9.heap.size (Nat.le_refl _)
          have hX0 : Only Empty w8 (w9.alloc (.cells #[] 33)) := hHeld.alloc _
          refine step_append_secs rfl (.tmp 41) (.tmp 42) rfl w9.heap.size _ rfl 0 [] hown0 _ n cap l Empty rfl (HS9.out.only ((Only.refl Empty w9).alloc _) (fun _ _ h => h)) HA.out (by omega) (by simp) ?_
          intro v11 w11 hown11 hg11
          change K (Act.put _ (some 43) v11) w11
          have hO11 := hX0.row hg11 (fun k hk => by cases hk; exact hle9)
          have hz11 := hg11.size
          refine hK.out _ _ hO11 (fun _ => ?_)
          clear hK K
          try simp only [Act.put, List.setIfInBounds_toArray, List.set_cons_zero, List.set_cons_succ]
          clear hown0 hX0
          refine wpAnyH_ready (rs := [4]) (by kernel_rfl) (by simp) ?_
          refine AllReadyH.cons rfl (fun K hK => ?_) AllReadyH.nil
          go_simp
          refine hK.out _ _ (hO11.alloc (.cells #[.int .i64 2, .int .u32 q, .int .i64 er] 33)) (fun _ => ?_)
          clear hK K
          try simp only [Act.put, List.setIfInBounds_toArray, List.set_cons_zero, List.set_cons_succ]
          refine wpAnyH_ready (rs := [5]) (by kernel_rfl) (by simp) ?_
          refine AllReadyH.cons rfl (fun K hK => ?_) AllReadyH.nil
          have hX1 : Only Empty w8 (w11.alloc (.cells #[.int .i64 2, .int .u32 q, .int .i64 er] 33)) := hO11.alloc _
          refine step_append_secs rfl (.tmp 43) (.tmp 45) rfl w9.heap.size v11 rfl (0 + n) ([] ++ l) (own_alloc hown11 (.cells #[.int .i64 2, .int .u32 q, .int .i64 er] 33)) _ 1 1 [⟨2, q, er⟩] Empty rfl (one_sec w11 Empty ⟨2, q, er⟩ (fun h => h)) (fun h => by cases h) (by omega) (by simp at hz11 ⊢; omega) ?_
          intro v12 w12 hown12 hg12
          change K (Act.put _ (some 46) v12) w12
          have hO12 := hX1.row hg12 (fun k hk => Nat.le_trans hle9 (hown11.lt k hk).1)
          clear hown11 hg11 hO11 hz11 hX1
          have hown13 : w12.ownsRow w9.heap.size 33 3 v12 (n + 1) ((l ++ [(⟨2, q, er⟩ : Sc)]).flatMap Sc.cells) := by simpa using hown12
          obtain ⟨A12, c12, rfl, hS12, -⟩ := Secs.of_own (S := Empty) hown13 (by simp [HSl.out]) (fun _ _ _ h => h)
          refine hK.out _ _ hO12 (fun _ => ?_)
          clear hK K
          try simp only [Act.put, List.setIfInBounds_toArray, List.set_cons_zero, List.set_cons_succ]
          have HO12 := Lib.hid hO12
          have HS12 := Lib.hid hS12
          clear hown12 hown13 hO12 hS12 hg12
          refine wpAnyH_ready (rs := [7]) (by kernel_rfl) (by simp) ?_
          refine AllReadyH.cons rfl (fun K hK => ?_) AllReadyH.nil
          go_simp
          go_at_call 8; (with_reducible refine (NF.out _ _ _ HS12.out).mono ?_); rintro e14 w14 ⟨rfl, hb14⟩
          have hO14 := HO12.out.trans (Only.of_below (S := Empty) hb14)
          go_wp2_with fail
          refine hK.out _ _ hO14 (fun _ => ?_)
          clear hK K
          try simp only [Act.put, List.setIfInBounds_toArray, List.set_cons_zero, List.set_cons_succ]
          have HO14 := Lib.hid hO14
          clear hO14 hb14
          refine take_yes 8 40 ?_ rfl rfl (by kernel_rfl) (by kernel_rfl) (by kernel_rfl) (fun _ _ _ h => h) (by kernel_rfl) ?_ (by assumption) ?_; rotate_left; (focus (intro w hSw; (try dsimp only at hSw); go_simp; all_goals with_reducible rfl)); simp only [Act.put, List.setIfInBounds_toArray, List.set_cons_zero, List.set_cons_succ]
          refine take_yes 9 49 ?_ rfl rfl (by kernel_rfl) (by kernel_rfl) (by kernel_rfl) (fun _ _ _ h => h) (by kernel_rfl) ?_ (by assumption) ?_; rotate_left; (focus (intro w hSw; (try dsimp only at hSw); go_simp; all_goals with_reducible rfl)); simp only [Act.put, List.setIfInBounds_toArray, List.set_cons_zero, List.set_cons_succ]
          refine take_yes 10 50 ?_ rfl rfl (by kernel_rfl) (by kernel_rfl) (by kernel_rfl) (fun _ _ _ h => h) (by kernel_rfl) ?_ (by assumption) ?_; rotate_left; (focus (intro w hSw; (try dsimp only at hSw); go_simp; all_goals with_reducible rfl)); simp only [Act.put, List.setIfInBounds_toArray, List.set_cons_zero, List.set_cons_succ]
          refine take_yes 11 9 ?_ rfl rfl (by kernel_rfl) (by kernel_rfl) (by kernel_rfl) (fun _ _ _ h => h) (by kernel_rfl) ?_ (by assumption) ?_; rotate_left; (focus (intro w hSw; (try dsimp only at hSw); go_simp; all_goals with_reducible rfl)); simp only [Act.put, List.setIfInBounds_toArray, List.set_cons_zero, List.set_cons_succ]
          refine take_yes 12 10 ?_ rfl rfl (by kernel_rfl) (by kernel_rfl) (by kernel_rfl) (fun _ _ _ h => h) (by kernel_rfl) ?_ (by assumption) ?_; rotate_left; (focus (intro w hSw; (try dsimp only at hSw); go_simp; all_goals with_reducible rfl)); simp only [Act.put, List.setIfInBounds_toArray, List.set_cons_zero, List.set_cons_succ]
          refine wpAnyH_done (by kernel_rfl) ?_ _
          go_wp2_with fail
          go_ret
          exact ⟨rfl, (HO8.out.trans HO14.out).below (Nat.le_refl _) (fun _ _ h => h)⟩
        · go_simp
          refine hK.out _ _ ((hHeld.alloc (.cells #[] 33)).alloc (.cells #[.int .i64 2, .int .u32 q, .int .i64 er] 33)) (fun _ => ?_)
          clear hK K
          try simp only [Act.put, List.setIfInBounds_toArray, List.set_cons_zero, List.set_cons_succ]
          refine wpAnyH_ready (rs := [2]) (by kernel_rfl) (by simp) ?_
          refine AllReadyH.cons rfl (fun K hK => ?_) AllReadyH.nil
          have hown0 := own_alloc (own_secs w9 w9.heap.size (Nat.le_refl _)) (.cells #[.int .i64 2, .int .u32 q, .int .i64 er] 33)
          have hX0 : Only Empty w8 ((w9.alloc (.cells #[] 33)).alloc (.cells #[.int .i64 2, .int .u32 q, .int .i64 er] 33)) := (hHeld.alloc _).alloc _
          have hX2 := one_sec (w9.alloc (.cells #[] 33)) (· = w9.heap.size) ⟨2, q, er⟩ (by simp)
          refine step_append_secs rfl (.tmp 41) (.tmp 42) rfl w9.heap.size _ rfl 0 [] hown0 _ n cap l Empty rfl (HS9.out.only (((Only.refl Empty w9).alloc _).alloc _) (fun _ _ h => h)) HA.out (by omega) (by simp; omega) ?_
          intro v11 w11 hown11 hg11
          change K (Act.put _ (some 43) v11) w11
          have hO11 := hX0.row hg11 (fun k hk => by cases hk; exact hle9)
          have hz11 := hg11.size
          have hX3 := (hX2.only (Only.of_grown (S := (· = w9.heap.size)) hg11 (fun k hk _ => by cases hk; rfl)) (fun _ _ h => h)).mono (T := Empty) (fun _ _ h => h.elim)
          simp at hX3
          refine hK.out _ _ hO11 (fun _ => ?_)
          clear hK K
          try simp only [Act.put, List.setIfInBounds_toArray, List.set_cons_zero, List.set_cons_succ]
          clear hown0 hX0 hX2
          refine wpAnyH_ready (rs := [5]) (by kernel_rfl) (by simp) ?_
          refine AllReadyH.cons rfl (fun K hK => ?_) AllReadyH.nil
          refine step_append_secs rfl (.tmp 43) (.tmp 45) rfl w9.heap.size v11 rfl (0 + n) ([] ++ l) hown11 _ 1 1 [⟨2, q, er⟩] Empty rfl hX3 (fun h => by cases h) (by omega) (by simp at hz11; omega) ?_
          intro v12 w12 hown12 hg12
          change K (Act.put _ (some 46) v12) w12
          have hO12 := hO11.row hg12 (fun k hk => Nat.le_trans hle9 (hown11.lt k hk).1)
          clear hown11 hg11 hO11 hz11 hX3
          have hown13 : w12.ownsRow w9.heap.size 33 3 v12 (n + 1) ((l ++ [(⟨2, q, er⟩ : Sc)]).flatMap Sc.cells) := by simpa using hown12
          obtain ⟨A12, c12, rfl, hS12, -⟩ := Secs.of_own (S := Empty) hown13 (by simp [HSl.out]) (fun _ _ _ h => h)
          refine hK.out _ _ hO12 (fun _ => ?_)
          clear hK K
          try simp only [Act.put, List.setIfInBounds_toArray, List.set_cons_zero, List.set_cons_succ]
          have HO12 := Lib.hid hO12
          have HS12 := Lib.hid hS12
          clear hown12 hown13 hO12 hS12 hg12
          refine wpAnyH_ready (rs := [7]) (by kernel_rfl) (by simp) ?_
          refine AllReadyH.cons rfl (fun K hK => ?_) AllReadyH.nil
          go_simp
          go_at_call 8; (with_reducible refine (NF.out _ _ _ HS12.out).mono ?_); rintro e14 w14 ⟨rfl, hb14⟩
          have hO14 := HO12.out.trans (Only.of_below (S := Empty) hb14)
          go_wp2_with fail
          refine hK.out _ _ hO14 (fun _ => ?_)
          clear hK K
          try simp only [Act.put, List.setIfInBounds_toArray, List.set_cons_zero, List.set_cons_succ]
          have HO14 := Lib.hid hO14
          clear hO14 hb14
          refine take_yes 8 40 ?_ rfl rfl (by kernel_rfl) (by kernel_rfl) (by kernel_rfl) (fun _ _ _ h => h) (by kernel_rfl) ?_ (by assumption) ?_; rotate_left; (focus (intro w hSw; (try dsimp only at hSw); go_simp; all_goals with_reducible rfl)); simp only [Act.put, List.setIfInBounds_toArray, List.set_cons_zero, List.set_cons_succ]
          refine take_yes 9 49 ?_ rfl rfl (by kernel_rfl) (by kernel_rfl) (by kernel_rfl) (fun _ _ _ h => h) (by kernel_rfl) ?_ (by assumption) ?_; rotate_left; (focus (intro w hSw; (try dsimp only at hSw); go_simp; all_goals with_reducible rfl)); simp only [Act.put, List.setIfInBounds_toArray, List.set_cons_zero, List.set_cons_succ]
          refine take_yes 10 50 ?_ rfl rfl (by kernel_rfl) (by kernel_rfl) (by kernel_rfl) (fun _ _ _ h => h) (by kernel_rfl) ?_ (by assumption) ?_; rotate_left; (focus (intro w hSw; (try dsimp only at hSw); go_simp; all_goals with_reducible rfl)); simp only [Act.put, List.setIfInBounds_toArray, List.set_cons_zero, List.set_cons_succ]
          refine take_yes 11 9 ?_ rfl rfl (by kernel_rfl) (by kernel_rfl) (by kernel_rfl) (fun _ _ _ h => h) (by kernel_rfl) ?_ (by assumption) ?_; rotate_left; (focus (intro w hSw; (try dsimp only at hSw); go_simp; all_goals with_reducible rfl)); simp only [Act.put, List.setIfInBounds_toArray, List.set_cons_zero, List.set_cons_succ]
          refine take_yes 12 10 ?_ rfl rfl (by kernel_rfl) (by kernel_rfl) (by kernel_rfl) (fun _ _ _ h => h) (by kernel_rfl) ?_ (by assumption) ?_; rotate_left; (focus (intro w hSw; (try dsimp only at hSw); go_simp; all_goals with_reducible rfl)); simp only [Act.put, List.setIfInBounds_toArray, List.set_cons_zero, List.set_cons_succ]
          refine wpAnyH_done (by kernel_rfl) ?_ _
          go_wp2_with fail
          go_ret
          exact ⟨rfl, (HO8.out.trans HO14.out).below (Nat.le_refl _) (fun _ _ h => h)⟩
      · go_simp
        refine hK.out _ _ (hHeld.alloc (.cells #[.int .i64 2, .int .u32 q, .int .i64 er] 33)) (fun _ => ?_)
        clear hK K
        try simp only [Act.put, List.setIfInBounds_toArray, List.set_cons_zero, List.set_cons_succ]
        refine wpAnyH_ready (rs := [0]) (by kernel_rfl) (by simp) ?_
        refine AllReadyH.cons rfl (fun K hK => ?_) AllReadyH.nil
        go_simp
        refine hK.out _ _ ((hHeld.alloc (.cells #[.int .i64 2, .int .u32 q, .int .i64 er] 33)).alloc (.cells #[] 33)) (fun _ => ?_)
        clear hK K
        try simp only [Act.put, List.setIfInBounds_toArray, List.set_cons_zero, List.set_cons_succ]
        refine wpAnyH_ready (rs := [2]) (by kernel_rfl) (by simp) ?_
        refine AllReadyH.cons rfl (fun K hK => ?_) AllReadyH.nil
        have hown0 := own_secs (w9.alloc (.cells #[.int .i64 2, .int .u32 q, .int .i64 er] 33)) w9.heap.size (by simp)
        have hsz : (w9.alloc (.cells #[.int .i64 2, .int .u32 q, .int .i64 er] 33)).heap.size = w9.heap.size + 1 := by simp
        rw [hsz] at hown0
        clear hsz
        have hX0 : Only Empty w8 ((w9.alloc (.cells #[.int .i64 2, .int .u32 q, .int .i64 er] 33)).alloc (.cells #[] 33)) := (hHeld.alloc _).alloc _
        have hX2 := (one_sec w9 (· = w9.heap.size + 1) ⟨2, q, er⟩ (by simp)).only ((Only.refl Empty (w9.alloc (.cells #[.int .i64 2, .int .u32 q, .int .i64 er] 33))).alloc (.cells #[] 33)) (fun _ _ h => h.elim)
        refine step_append_secs rfl (.tmp 41) (.tmp 42) rfl w9.heap.size _ rfl 0 [] hown0 _ n cap l Empty rfl (HS9.out.only (((Only.refl Empty w9).alloc _).alloc _) (fun _ _ h => h)) HA.out (by omega) (by simp; omega) ?_
        intro v11 w11 hown11 hg11
        change K (Act.put _ (some 43) v11) w11
        have hO11 := hX0.row hg11 (fun k hk => by cases hk; exact Nat.le_trans hle9 (Nat.le_succ _))
        have hz11 := hg11.size
        have hX3 := (hX2.only (Only.of_grown (S := (· = w9.heap.size + 1)) hg11 (fun k hk _ => by cases hk; rfl)) (fun _ _ h => h)).mono (T := Empty) (fun _ _ h => h.elim)
        refine hK.out _ _ hO11 (fun _ => ?_)
        clear hK K
        try simp only [Act.put, List.setIfInBounds_toArray, List.set_cons_zero, List.set_cons_succ]
        clear hown0 hX0 hX2
        refine wpAnyH_ready (rs := [5]) (by kernel_rfl) (by simp) ?_
        refine AllReadyH.cons rfl (fun K hK => ?_) AllReadyH.nil
        refine step_append_secs rfl (.tmp 43) (.tmp 45) rfl w9.heap.size v11 rfl (0 + n) ([] ++ l) hown11 _ 1 1 [⟨2, q, er⟩] Empty rfl hX3 (fun h => by cases h) (by omega) (by simp at hz11; omega) ?_
        intro v12 w12 hown12 hg12
        change K (Act.put _ (some 46) v12) w12
        have hO12 := hO11.row hg12 (fun k hk => Nat.le_trans hle9 (hown11.lt k hk).1)
        clear hown11 hg11 hO11 hz11 hX3
        have hown13 : w12.ownsRow w9.heap.size 33 3 v12 (n + 1) ((l ++ [(⟨2, q, er⟩ : Sc)]).flatMap Sc.cells) := by simpa using hown12
        obtain ⟨A12, c12, rfl, hS12, -⟩ := Secs.of_own (S := Empty) hown13 (by simp [HSl.out]) (fun _ _ _ h => h)
        refine hK.out _ _ hO12 (fun _ => ?_)
        clear hK K
        try simp only [Act.put, List.setIfInBounds_toArray, List.set_cons_zero, List.set_cons_succ]
        have HO12 := Lib.hid hO12
        have HS12 := Lib.hid hS12
        clear hown12 hown13 hO12 hS12 hg12
        refine wpAnyH_ready (rs := [7]) (by kernel_rfl) (by simp) ?_
        refine AllReadyH.cons rfl (fun K hK => ?_) AllReadyH.nil
        go_simp
        go_at_call 8; (with_reducible refine (NF.out _ _ _ HS12.out).mono ?_); rintro e14 w14 ⟨rfl, hb14⟩
        have hO14 := HO12.out.trans (Only.of_below (S := Empty) hb14)
        go_wp2_with fail
        refine hK.out _ _ hO14 (fun _ => ?_)
        clear hK K
        try simp only [Act.put, List.setIfInBounds_toArray, List.set_cons_zero, List.set_cons_succ]
        have HO14 := Lib.hid hO14
        clear hO14 hb14
        refine take_yes 8 40 ?_ rfl rfl (by kernel_rfl) (by kernel_rfl) (by kernel_rfl) (fun _ _ _ h => h) (by kernel_rfl) ?_ (by assumption) ?_; rotate_left; (focus (intro w hSw; (try dsimp only at hSw); go_simp; all_goals with_reducible rfl)); simp only [Act.put, List.setIfInBounds_toArray, List.set_cons_zero, List.set_cons_succ]
        refine take_yes 9 49 ?_ rfl rfl (by kernel_rfl) (by kernel_rfl) (by kernel_rfl) (fun _ _ _ h => h) (by kernel_rfl) ?_ (by assumption) ?_; rotate_left; (focus (intro w hSw; (try dsimp only at hSw); go_simp; all_goals with_reducible rfl)); simp only [Act.put, List.setIfInBounds_toArray, List.set_cons_zero, List.set_cons_succ]
        refine take_yes 10 50 ?_ rfl rfl (by kernel_rfl) (by kernel_rfl) (by kernel_rfl) (fun _ _ _ h => h) (by kernel_rfl) ?_ (by assumption) ?_; rotate_left; (focus (intro w hSw; (try dsimp only at hSw); go_simp; all_goals with_reducible rfl)); simp only [Act.put, List.setIfInBounds_toArray, List.set_cons_zero, List.set_cons_succ]
        refine take_yes 11 9 ?_ rfl rfl (by kernel_rfl) (by kernel_rfl) (by kernel_rfl) (fun _ _ _ h => h) (by kernel_rfl) ?_ (by assumption) ?_; rotate_left; (focus (intro w hSw; (try dsimp only at hSw); go_simp; all_goals with_reducible rfl)); simp only [Act.put, List.setIfInBounds_toArray, List.set_cons_zero, List.set_cons_succ]
        refine take_yes 12 10 ?_ rfl rfl (by kernel_rfl) (by kernel_rfl) (by kernel_rfl) (fun _ _ _ h => h) (by kernel_rfl) ?_ (by assumption) ?_; rotate_left; (focus (intro w hSw; (try dsimp only at hSw); go_simp; all_goals with_reducible rfl)); simp only [Act.put, List.setIfInBounds_toArray, List.set_cons_zero, List.set_cons_succ]
        refine wpAnyH_done (by kernel_rfl) ?_ _
        go_wp2_with fail
        go_ret
        exact ⟨rfl, (HO8.out.trans HO14.out).below (Nat.le_refl _) (fun _ _ h => h)⟩

set_option maxRecDepth 100000 in
theorem wearFree_lifted (os : Os) (started : os.Started) (H : Type) (enc : TypeId × Value → H) :
    ReturnsInHanded {} Try.checked os 5 .any (Rows.wearFreeSpec.pre6 enc Try.prog Try.f5 Rows.wearFreeRow.domain false) (Rows.wearFreeSpec.post enc Try.prog Try.f5 false true false false) := by
  refine returnsInHanded_of_change (C := Try.checked) Try.ownKnobs started (by kernel_rfl) Try.func5
    (ChangeSpec.witness6 (enc := enc) (C := Try.checked) false ⟨#[], #[.slice none 0 0, .int .i64 0, .agg #[.int .i64 0, .int .u32 0, .int .i64 0]], []⟩ 8 (by kernel_rfl) (by kernel_rfl) (by kernel_rfl) (by kernel_rfl)) ?_
  intro W base args ds gs before hval0 hW hcnd _
  have hval : ∀ (j : Nat) t v, Try.f5.params[j]? = some t → args[j]? = some v → Value.okWide Try.prog W .any base t v := hval0
  have hW' := hW
  obtain ⟨p, q, hA0, hV, rfl, hfz, hnd⟩ := hW
  have hA : DataW.TrodAll enc Try.prog W 0 (fun _ => true) true Try.f5.params.toList args.toList ds p := hA0
  rw [Try.params5] at hA hval
  obtain ⟨v0, vs0, d0, ds0, p0, q0, hargs, rfl, rfl, h0, r0⟩ := trodAll_cons hA
  obtain ⟨v1, vs1, d1, ds1, p1, q1, rfl, rfl, rfl, h1, r1⟩ := trodAll_cons r0
  obtain ⟨v2, vs2, d2, ds2, p2, q2, rfl, rfl, rfl, h2, r2⟩ := trodAll_cons r1
  obtain ⟨rfl, rfl, rfl⟩ := trodAll_nil r2
  obtain rfl : args = #[v0, v1, v2] := by cases args; simp_all
  obtain ⟨rfl, rfl⟩ := trodVars_none hV
  obtain ⟨A, n, cap, l, rfl, hL, hA2⟩ := open_secs (hval 0 22 v0 rfl rfl) h0
  obtain ⟨m, rfl, m1, m2⟩ := open_int_ (hval 1 3 v1 rfl rfl) h1
  obtain ⟨st, q, er, rfl⟩ := open_sec (hval 2 33 v2 rfl rfl) h2
  refine (wearFree_any A n cap l m st q er W hL hA2).mono fun e W' ⟨he, hb⟩ => ?_
  subst he
  exact ⟨_, rfl, law_post Try.allLaid (of_decide_eq_true (by kernel_rfl)) rfl Try.underlying4 rfl hW' rfl rfl rfl hb⟩

/-- The statement: WearFree returns true, and its arguments read as they did. -/
theorem wearFree_holds : Rows.WearFreeSaid :=
  OpenClaim.holds_of_wide 5 Try.f5 rfl rfl rfl rfl rfl rfl rfl ⟨rfl, rfl, rfl, rfl, rfl⟩ rfl rfl rfl rfl rfl (by kernel_rfl) Try.func5 (by kernel_rfl)
    (of_decide_eq_true (by kernel_rfl)) (by unfold Func.isWrapper; first | (rw [if_pos (by decide +kernel)]; kernel_rfl) | (rw [if_neg (by decide +kernel)]; exact ⟨rfl, rfl⟩))
    (fun os started H enc _ => wearFree_lifted os started H enc)

end Go.Proofs.Ytkblfmmhocogeaa
