/- The walk over wear.least by the erases, among those that can be opened. -/
import Derived.Test.YtidbipbangifbaaGreatDoorZaf
import Derived.Test.YtidbipbangifbaaGreatDoorZax
import Derived.Deep.RegionHeld3
import Derived.BigRegion
namespace Go.Proofs.YtidbipbangifbaaGreatDoor
open Go.RowKit

def placeV (o : Option Nat) : Value := .int .i64 ((o.getD 0 : Nat) : Int)

set_option maxHeartbeats 4000000 in
set_option maxRecDepth 4000 in
theorem leastI_any (A : Option Addr) (n cap : Nat) (l : List Sc) (lim : Int) (g : Nat) (w : World) (hS : Secs w Empty A n cap l) (hg : Blk w g 3 #[.int .i64 lim]) (hm : n ≤ 1048576) (r : Option Nat) (hr : best (opensB lim) Sc.er l n = r) :
    Calls Tryz.prog 188 #[.slice A n cap, .func (.func 100) #[] #[.pointer (some ⟨g, 0, none⟩)], .func (.func 189) #[] #[]] w fun e w' =>
      e = .returned (.tuple #[placeV r, .bool r.isSome]) ∧ Below w.heap.size w w' := by
  have HS := Lib.hid hS
  have Hg := Lib.hid hg
  have Hr := Lib.hid hr
  have hcap := hS.2.1
  have hcap2 : cap ≤ 9223372036854775807 := by have := hS.2.2.1; unfold maxLen at this; omega
  clear hS hg hr
  go_enter Tryz.func188, Tryz.ntmps188
  go_wp2_with fail
  go_loopw [8, 9, 14] (fun v8 v9 v wr => ∃ (i : Nat) (o : Option Nat), i ≤ n ∧ v8 = .int .i64 ((o.getD 0 : Nat) : Int) ∧ v9 = .bool o.isSome ∧ v = .int .i64 (i : Int) ∧ Hid (best (opensB lim) Sc.er l i = o) ∧ Hid (Only Empty w wr)) (fun _ _ v _ => n - (intOf v).toNat)
  case atStart => exact ⟨0, none, Nat.zero_le _, rfl, rfl, rfl, Lib.hid rfl, Lib.hid (Only.refl _ _)⟩
  case round =>
    obtain ⟨i, o, hi, rfl, rfl, rfl, Ho, HB⟩ := hrel
    by_cases hlt : i < n
    · obtain ⟨b, f0, rfl, hb, -, hcl⟩ := HS.out.2.2.2 (by omega)
      obtain ⟨f, hf⟩ : ∃ f, l[i]? = some f := ⟨_, List.getElem?_eq_getElem (by have := HS.out.1; omega)⟩
      have hll := HS.out.1
      have hc := hcl i f hf
      have hbest : best (opensB lim) Sc.er l (i + 1) = stepB (opensB lim) Sc.er l o i := by show stepB _ _ _ (best _ _ _ _) _ = _; rw [Ho.out]
      have hlo := best_lt Ho.out (by omega)
      obtain ⟨st, q, er⟩ := f
      have d0 : wr.cell? ⟨b, f0 + i * 3, none⟩ = some (.int .i64 st) := (HB.out.cell (p := ⟨b, f0 + i * 3 + 0, none⟩) hb (fun h => h)).trans (hc 0 (by omega))
      have d1 : wr.cell? ⟨b, f0 + i * 3 + 1, none⟩ = some (.int .u32 q) := (HB.out.cell (p := ⟨b, f0 + i * 3 + 1, none⟩) hb (fun h => h)).trans (hc 1 (by omega))
      have d2 : wr.cell? ⟨b, f0 + i * 3 + 2, none⟩ = some (.int .i64 er) := (HB.out.cell (p := ⟨b, f0 + i * 3 + 2, none⟩) hb (fun h => h)).trans (hc 2 (by omega))
      have hO1 : Only Empty w (wr.alloc (.cells #[.int .i64 st, .int .u32 q, .int .i64 er] 81)) := HB.out.alloc _
      have hk1 := Blk.new wr 81 #[.int .i64 st, .int .u32 q, .int .i64 er]
      have hT : Only Empty (wr.alloc (.cells #[.int .i64 st, .int .u32 q, .int .i64 er] 81)) (wr.alloc (.cells #[.int .i64 st, .int .u32 q, .int .i64 er] 81)).drew := (Only.refl _ _).drew
      have N1 : Hid (∀ W, Only Empty (wr.alloc (.cells #[.int .i64 st, .int .u32 q, .int .i64 er] 81)) W → Calls Tryz.prog 100 #[.agg #[.int .i64 st, .int .u32 q, .int .i64 er], .pointer (some ⟨g, 0, none⟩)] W fun e w' => e = .returned (.bool (opensB lim ⟨st, q, er⟩)) ∧ Below W.heap.size W w') :=
        Lib.hid (fun W h => canOpen1_any st q er lim g W (h.blk (hO1.blk Hg.out (fun h => h)) (fun h => h)))
      have N2 : Hid (∀ st q er W, Calls Tryz.prog 189 #[.agg #[.int .i64 st, .int .u32 q, .int .i64 er]] W fun e w' => e = .returned (.int .i64 er) ∧ Below W.heap.size W w') := Lib.hid erases_any
      have HO1 := Lib.hid hO1
      cases hmay : opensB lim ⟨st, q, er⟩ with
      | false =>
        rw [stepB_no hf hmay] at hbest
        have Hbest := Lib.hid hbest
        have HS1 : Hid (∀ W, Only Empty (wr.alloc (.cells #[.int .i64 st, .int .u32 q, .int .i64 er] 81)) W → W.cell? ⟨wr.heap.size, 0, none⟩ = some (.int .i64 st) ∧ W.cell? ⟨wr.heap.size, 1, none⟩ = some (.int .u32 q) ∧ W.cell? ⟨wr.heap.size, 2, none⟩ = some (.int .i64 er)) := Lib.hid (fun W h => by
          have hk := h.blk hk1 (fun h => h)
          exact ⟨hk.cell 0, hk.cell 1, hk.cell 2⟩)
        have hs := HS1.out _ hT
        rw [hmay] at N1
        clear hc hcl hf hbest hO1 hk1 hlo hll hmay
        go_wp2_with fail
        refine wp_region_held_drew (S := fun W => W.cell? ⟨wr.heap.size, 0, none⟩ = some (.int .i64 st) ∧ W.cell? ⟨wr.heap.size, 1, none⟩ = some (.int .u32 q) ∧ W.cell? ⟨wr.heap.size, 2, none⟩ = some (.int .i64 er)) (by kernel_rfl) hs (fun hHeld0 => ?_)
        refine take_yes 0 19 ?_ rfl rfl (by kernel_rfl) (by kernel_rfl) (by kernel_rfl) (fun _ _ _ h => h) (by kernel_rfl) ?_ (by assumption) ?_; rotate_left; (focus (intro w hSw; (try dsimp only at hSw); go_simp; all_goals with_reducible rfl)); simp only [Act.put, List.setIfInBounds_toArray, List.set_cons_zero, List.set_cons_succ]
        refine take_yes 1 20 ?_ rfl rfl (by kernel_rfl) (by kernel_rfl) (by kernel_rfl) (fun _ _ _ h => h) (by kernel_rfl) ?_ (by assumption) ?_; rotate_left; (focus (intro w hSw; (try dsimp only at hSw); go_simp; all_goals with_reducible rfl)); simp only [Act.put, List.setIfInBounds_toArray, List.set_cons_zero, List.set_cons_succ]
        refine wpAnyH_ready (rs := [2]) (by kernel_rfl) (by simp) ?_
        refine AllReadyH.cons rfl (fun K hK => ?_) AllReadyH.nil
        go_simp
        go_at_call 100; (with_reducible refine (N1.out _ hT).mono ?_); rintro e10 w10 ⟨rfl, hb10⟩; have hT := hT.trans (Only.of_below hb10); have hs := HS1.out _ hT
        go_wp2_with fail
        refine hK.out _ _ hs (fun hHeld => ?_)
        clear hK K hHeld0
        try simp only [Act.put, List.setIfInBounds_toArray, List.set_cons_zero, List.set_cons_succ]
        refine take_yes 3 22 ?_ rfl rfl (by kernel_rfl) (by kernel_rfl) (by kernel_rfl) (fun _ _ _ h => h) (by kernel_rfl) ?_ (by assumption) ?_; rotate_left; (focus (intro w hSw; (try dsimp only at hSw); go_simp; all_goals with_reducible rfl)); simp only [Act.put, List.setIfInBounds_toArray, List.set_cons_zero, List.set_cons_succ]
        refine take_no 4 23 rfl rfl (by kernel_rfl) (by kernel_rfl) (by kernel_rfl) (fun _ _ _ h => h) (by kernel_rfl) (by assumption) ?_; simp only [Act.put, List.setIfInBounds_toArray, List.set_cons_zero, List.set_cons_succ]
        refine take_no 5 24 rfl rfl (by kernel_rfl) (by kernel_rfl) (by kernel_rfl) (fun _ _ _ h => h) (by kernel_rfl) (by assumption) ?_; simp only [Act.put, List.setIfInBounds_toArray, List.set_cons_zero, List.set_cons_succ]
        refine take_no 6 25 rfl rfl (by kernel_rfl) (by kernel_rfl) (by kernel_rfl) (fun _ _ _ h => h) (by kernel_rfl) (by assumption) ?_; simp only [Act.put, List.setIfInBounds_toArray, List.set_cons_zero, List.set_cons_succ]
        refine take_no 7 26 rfl rfl (by kernel_rfl) (by kernel_rfl) (by kernel_rfl) (fun _ _ _ h => h) (by kernel_rfl) (by assumption) ?_; simp only [Act.put, List.setIfInBounds_toArray, List.set_cons_zero, List.set_cons_succ]
        refine take_no 8 27 rfl rfl (by kernel_rfl) (by kernel_rfl) (by kernel_rfl) (fun _ _ _ h => h) (by kernel_rfl) (by assumption) ?_; simp only [Act.put, List.setIfInBounds_toArray, List.set_cons_zero, List.set_cons_succ]
        refine take_no 9 28 rfl rfl (by kernel_rfl) (by kernel_rfl) (by kernel_rfl) (fun _ _ _ h => h) (by kernel_rfl) (by assumption) ?_; simp only [Act.put, List.setIfInBounds_toArray, List.set_cons_zero, List.set_cons_succ]
        refine take_no 10 29 rfl rfl (by kernel_rfl) (by kernel_rfl) (by kernel_rfl) (fun _ _ _ h => h) (by kernel_rfl) (by assumption) ?_; simp only [Act.put, List.setIfInBounds_toArray, List.set_cons_zero, List.set_cons_succ]
        refine take_no 11 30 rfl rfl (by kernel_rfl) (by kernel_rfl) (by kernel_rfl) (fun _ _ _ h => h) (by kernel_rfl) (by assumption) ?_; simp only [Act.put, List.setIfInBounds_toArray, List.set_cons_zero, List.set_cons_succ]
        refine take_no 12 31 rfl rfl (by kernel_rfl) (by kernel_rfl) (by kernel_rfl) (fun _ _ _ h => h) (by kernel_rfl) (by assumption) ?_; simp only [Act.put, List.setIfInBounds_toArray, List.set_cons_zero, List.set_cons_succ]
        refine take_no 13 32 rfl rfl (by kernel_rfl) (by kernel_rfl) (by kernel_rfl) (fun _ _ _ h => h) (by kernel_rfl) (by assumption) ?_; simp only [Act.put, List.setIfInBounds_toArray, List.set_cons_zero, List.set_cons_succ]
        refine take_no 14 33 rfl rfl (by kernel_rfl) (by kernel_rfl) (by kernel_rfl) (fun _ _ _ h => h) (by kernel_rfl) (by assumption) ?_; simp only [Act.put, List.setIfInBounds_toArray, List.set_cons_zero, List.set_cons_succ]
        refine take_no 15 34 rfl rfl (by kernel_rfl) (by kernel_rfl) (by kernel_rfl) (fun _ _ _ h => h) (by kernel_rfl) (by assumption) ?_; simp only [Act.put, List.setIfInBounds_toArray, List.set_cons_zero, List.set_cons_succ]
        refine take_no 16 35 rfl rfl (by kernel_rfl) (by kernel_rfl) (by kernel_rfl) (fun _ _ _ h => h) (by kernel_rfl) (by assumption) ?_; simp only [Act.put, List.setIfInBounds_toArray, List.set_cons_zero, List.set_cons_succ]
        refine take_no 17 36 rfl rfl (by kernel_rfl) (by kernel_rfl) (by kernel_rfl) (fun _ _ _ h => h) (by kernel_rfl) (by assumption) ?_; simp only [Act.put, List.setIfInBounds_toArray, List.set_cons_zero, List.set_cons_succ]
        refine take_yes 18 37 ?_ rfl rfl (by kernel_rfl) (by kernel_rfl) (by kernel_rfl) (fun _ _ _ h => h) (by kernel_rfl) ?_ (by assumption) ?_; rotate_left; (focus (intro w hSw; (try dsimp only at hSw); go_simp; all_goals with_reducible rfl)); simp only [Act.put, List.setIfInBounds_toArray, List.set_cons_zero, List.set_cons_succ]
        refine wpAnyH_done (by kernel_rfl) ?_ _
        go_wp2
        go_roundw
        case rel => exact ⟨i + 1, o, by omega, rfl, rfl, by go_num, Hbest, Lib.hid (HO1.out.trans hT)⟩
        case measure => simp [intOf]; omega
      | true =>
        rw [hmay] at N1
        rcases o with _ | p
        · rw [stepB_first hf hmay] at hbest
          have Hbest := Lib.hid hbest
          have HS1 : Hid (∀ W, Only Empty (wr.alloc (.cells #[.int .i64 st, .int .u32 q, .int .i64 er] 81)) W → W.cell? ⟨wr.heap.size, 0, none⟩ = some (.int .i64 st) ∧ W.cell? ⟨wr.heap.size, 1, none⟩ = some (.int .u32 q) ∧ W.cell? ⟨wr.heap.size, 2, none⟩ = some (.int .i64 er)) := Lib.hid (fun W h => by
            have hk := h.blk hk1 (fun h => h)
            exact ⟨hk.cell 0, hk.cell 1, hk.cell 2⟩)
          have hs := HS1.out _ hT
          clear hc hcl hf hbest hO1 hk1 hlo hll hmay
          simp only [Option.isSome_none, Option.getD_none]
          go_wp2_with fail
          refine wp_region_held_drew (S := fun W => W.cell? ⟨wr.heap.size, 0, none⟩ = some (.int .i64 st) ∧ W.cell? ⟨wr.heap.size, 1, none⟩ = some (.int .u32 q) ∧ W.cell? ⟨wr.heap.size, 2, none⟩ = some (.int .i64 er)) (by kernel_rfl) hs (fun hHeld0 => ?_)
          refine take_yes 0 19 ?_ rfl rfl (by kernel_rfl) (by kernel_rfl) (by kernel_rfl) (fun _ _ _ h => h) (by kernel_rfl) ?_ (by assumption) ?_; rotate_left; (focus (intro w hSw; (try dsimp only at hSw); go_simp; all_goals with_reducible rfl)); simp only [Act.put, List.setIfInBounds_toArray, List.set_cons_zero, List.set_cons_succ]
          refine take_yes 1 20 ?_ rfl rfl (by kernel_rfl) (by kernel_rfl) (by kernel_rfl) (fun _ _ _ h => h) (by kernel_rfl) ?_ (by assumption) ?_; rotate_left; (focus (intro w hSw; (try dsimp only at hSw); go_simp; all_goals with_reducible rfl)); simp only [Act.put, List.setIfInBounds_toArray, List.set_cons_zero, List.set_cons_succ]
          refine wpAnyH_ready (rs := [2]) (by kernel_rfl) (by simp) ?_
          refine AllReadyH.cons rfl (fun K hK => ?_) AllReadyH.nil
          go_simp
          go_at_call 100; (with_reducible refine (N1.out _ hT).mono ?_); rintro e10 w10 ⟨rfl, hb10⟩; have hT := hT.trans (Only.of_below hb10); have hs := HS1.out _ hT
          go_wp2_with fail
          refine hK.out _ _ hs (fun hHeld => ?_)
          clear hK K hHeld0
          try simp only [Act.put, List.setIfInBounds_toArray, List.set_cons_zero, List.set_cons_succ]
          refine take_yes 3 22 ?_ rfl rfl (by kernel_rfl) (by kernel_rfl) (by kernel_rfl) (fun _ _ _ h => h) (by kernel_rfl) ?_ (by assumption) ?_; rotate_left; (focus (intro w hSw; (try dsimp only at hSw); go_simp; all_goals with_reducible rfl)); simp only [Act.put, List.setIfInBounds_toArray, List.set_cons_zero, List.set_cons_succ]
          refine take_yes 4 23 ?_ rfl rfl (by kernel_rfl) (by kernel_rfl) (by kernel_rfl) (fun _ _ _ h => h) (by kernel_rfl) ?_ (by assumption) ?_; rotate_left; (focus (intro w hSw; (try dsimp only at hSw); go_simp; all_goals with_reducible rfl)); simp only [Act.put, List.setIfInBounds_toArray, List.set_cons_zero, List.set_cons_succ]
          refine take_yes 5 24 ?_ rfl rfl (by kernel_rfl) (by kernel_rfl) (by kernel_rfl) (fun _ _ _ h => h) (by kernel_rfl) ?_ (by assumption) ?_; rotate_left; (focus (intro w hSw; (try dsimp only at hSw); go_simp; all_goals with_reducible rfl)); simp only [Act.put, List.setIfInBounds_toArray, List.set_cons_zero, List.set_cons_succ]
          refine take_yes 6 25 ?_ rfl rfl (by kernel_rfl) (by kernel_rfl) (by kernel_rfl) (fun _ _ _ h => h) (by kernel_rfl) ?_ (by assumption) ?_; rotate_left; (focus (intro w hSw; (try dsimp only at hSw); go_simp; all_goals with_reducible rfl)); simp only [Act.put, List.setIfInBounds_toArray, List.set_cons_zero, List.set_cons_succ]
          refine take_no 7 26 rfl rfl (by kernel_rfl) (by kernel_rfl) (by kernel_rfl) (fun _ _ _ h => h) (by kernel_rfl) (by assumption) ?_; simp only [Act.put, List.setIfInBounds_toArray, List.set_cons_zero, List.set_cons_succ]
          refine take_no 8 27 rfl rfl (by kernel_rfl) (by kernel_rfl) (by kernel_rfl) (fun _ _ _ h => h) (by kernel_rfl) (by assumption) ?_; simp only [Act.put, List.setIfInBounds_toArray, List.set_cons_zero, List.set_cons_succ]
          refine take_no 9 28 rfl rfl (by kernel_rfl) (by kernel_rfl) (by kernel_rfl) (fun _ _ _ h => h) (by kernel_rfl) (by assumption) ?_; simp only [Act.put, List.setIfInBounds_toArray, List.set_cons_zero, List.set_cons_succ]
          refine take_no 10 29 rfl rfl (by kernel_rfl) (by kernel_rfl) (by kernel_rfl) (fun _ _ _ h => h) (by kernel_rfl) (by assumption) ?_; simp only [Act.put, List.setIfInBounds_toArray, List.set_cons_zero, List.set_cons_succ]
          refine take_no 11 30 rfl rfl (by kernel_rfl) (by kernel_rfl) (by kernel_rfl) (fun _ _ _ h => h) (by kernel_rfl) (by assumption) ?_; simp only [Act.put, List.setIfInBounds_toArray, List.set_cons_zero, List.set_cons_succ]
          refine take_no 12 31 rfl rfl (by kernel_rfl) (by kernel_rfl) (by kernel_rfl) (fun _ _ _ h => h) (by kernel_rfl) (by assumption) ?_; simp only [Act.put, List.setIfInBounds_toArray, List.set_cons_zero, List.set_cons_succ]
          refine take_no 13 32 rfl rfl (by kernel_rfl) (by kernel_rfl) (by kernel_rfl) (fun _ _ _ h => h) (by kernel_rfl) (by assumption) ?_; simp only [Act.put, List.setIfInBounds_toArray, List.set_cons_zero, List.set_cons_succ]
          refine take_no 14 33 rfl rfl (by kernel_rfl) (by kernel_rfl) (by kernel_rfl) (fun _ _ _ h => h) (by kernel_rfl) (by assumption) ?_; simp only [Act.put, List.setIfInBounds_toArray, List.set_cons_zero, List.set_cons_succ]
          refine take_no 15 34 rfl rfl (by kernel_rfl) (by kernel_rfl) (by kernel_rfl) (fun _ _ _ h => h) (by kernel_rfl) (by assumption) ?_; simp only [Act.put, List.setIfInBounds_toArray, List.set_cons_zero, List.set_cons_succ]
          refine take_no 16 35 rfl rfl (by kernel_rfl) (by kernel_rfl) (by kernel_rfl) (fun _ _ _ h => h) (by kernel_rfl) (by assumption) ?_; simp only [Act.put, List.setIfInBounds_toArray, List.set_cons_zero, List.set_cons_succ]
          refine take_yes 17 36 ?_ rfl rfl (by kernel_rfl) (by kernel_rfl) (by kernel_rfl) (fun _ _ _ h => h) (by kernel_rfl) ?_ (by assumption) ?_; rotate_left; (focus (intro w hSw; (try dsimp only at hSw); go_simp; all_goals with_reducible rfl)); simp only [Act.put, List.setIfInBounds_toArray, List.set_cons_zero, List.set_cons_succ]
          refine take_yes 18 37 ?_ rfl rfl (by kernel_rfl) (by kernel_rfl) (by kernel_rfl) (fun _ _ _ h => h) (by kernel_rfl) ?_ (by assumption) ?_; rotate_left; (focus (intro w hSw; (try dsimp only at hSw); go_simp; all_goals with_reducible rfl)); simp only [Act.put, List.setIfInBounds_toArray, List.set_cons_zero, List.set_cons_succ]
          refine wpAnyH_done (by kernel_rfl) ?_ _
          go_wp2
          go_roundw
          case rel => exact ⟨i + 1, some i, by omega, rfl, rfl, by go_num, Hbest, Lib.hid (HO1.out.trans hT)⟩
          case measure => simp [intOf]; omega
        · obtain ⟨t, hp, ht⟩ : ∃ t, p < i ∧ l[p]? = some t := by
            rcases hlo with h | ⟨p', t, h, h1, h2⟩
            · cases h
            · cases h
              exact ⟨t, h1, h2⟩
          have hc2 := hcl p t ht
          obtain ⟨st2, q2, er2⟩ := t
          have HS1 : Hid (∀ W, Only Empty (wr.alloc (.cells #[.int .i64 st, .int .u32 q, .int .i64 er] 81)) W → W.cell? ⟨wr.heap.size, 0, none⟩ = some (.int .i64 st) ∧ W.cell? ⟨wr.heap.size, 1, none⟩ = some (.int .u32 q) ∧ W.cell? ⟨wr.heap.size, 2, none⟩ = some (.int .i64 er) ∧ W.cell? ⟨b, f0 + p * 3, none⟩ = some (.int .i64 st2) ∧ W.cell? ⟨b, f0 + p * 3 + 1, none⟩ = some (.int .u32 q2) ∧ W.cell? ⟨b, f0 + p * 3 + 2, none⟩ = some (.int .i64 er2)) := Lib.hid (fun W h => by
            have hk := h.blk hk1 (fun h => h)
            have hO := hO1.trans h
            exact ⟨hk.cell 0, hk.cell 1, hk.cell 2, (hO.cell (p := ⟨b, f0 + p * 3 + 0, none⟩) hb (fun h => h)).trans (hc2 0 (by omega)), (hO.cell (p := ⟨b, f0 + p * 3 + 1, none⟩) hb (fun h => h)).trans (hc2 1 (by omega)), (hO.cell (p := ⟨b, f0 + p * 3 + 2, none⟩) hb (fun h => h)).trans (hc2 2 (by omega))⟩)
          have hs := HS1.out _ hT
          have hpn : (p : Int) < (n : Int) := by omega
          have hp0 : (0 : Int) ≤ (p : Int) := by omega
          have hpn2 : p < n := by omega
          simp only [Option.isSome_some, Option.getD_some]
          by_cases hk : er < er2
          · rw [stepB_less hf hmay ht hk] at hbest
            have Hbest := Lib.hid hbest
            clear hc hcl hf hbest hO1 hk1 hlo hll hmay ht hc2
            go_wp2_with fail
            first | (go_region_held3 (fun W => W.cell? ⟨wr.heap.size, 0, none⟩ = some (.int .i64 st) ∧ W.cell? ⟨wr.heap.size, 1, none⟩ = some (.int .u32 q) ∧ W.cell? ⟨wr.heap.size, 2, none⟩ = some (.int .i64 er) ∧ W.cell? ⟨b, f0 + p * 3, none⟩ = some (.int .i64 st2) ∧ W.cell? ⟨b, f0 + p * 3 + 1, none⟩ = some (.int .u32 q2) ∧ W.cell? ⟨b, f0 + p * 3 + 2, none⟩ = some (.int .i64 er2)) (first | with_reducible exact hs) (first | (go_at_call 100; (with_reducible refine (N1.out _ hT).mono ?_); rintro e10 w10 ⟨rfl, hb10⟩; have hT := hT.trans (Only.of_below hb10); have hs := HS1.out _ hT) | (go_at_call 189; (with_reducible refine (N2.out _ _ _ _).mono ?_); rintro e10 w10 ⟨rfl, hb10⟩; have hT := hT.trans (Only.of_below hb10); have hs := HS1.out _ hT))) | fail
            go_wp2
            go_roundw
            case rel => exact ⟨i + 1, some i, by omega, rfl, rfl, by go_num, Hbest, Lib.hid (HO1.out.trans hT)⟩
            case measure => simp [intOf]; omega
          · rw [stepB_more hf hmay ht hk] at hbest
            have Hbest := Lib.hid hbest
            clear hc hcl hf hbest hO1 hk1 hlo hll hmay ht hc2
            go_wp2_with fail
            first | (go_region_held3 (fun W => W.cell? ⟨wr.heap.size, 0, none⟩ = some (.int .i64 st) ∧ W.cell? ⟨wr.heap.size, 1, none⟩ = some (.int .u32 q) ∧ W.cell? ⟨wr.heap.size, 2, none⟩ = some (.int .i64 er) ∧ W.cell? ⟨b, f0 + p * 3, none⟩ = some (.int .i64 st2) ∧ W.cell? ⟨b, f0 + p * 3 + 1, none⟩ = some (.int .u32 q2) ∧ W.cell? ⟨b, f0 + p * 3 + 2, none⟩ = some (.int .i64 er2)) (first | with_reducible exact hs) (first | (go_at_call 100; (with_reducible refine (N1.out _ hT).mono ?_); rintro e10 w10 ⟨rfl, hb10⟩; have hT := hT.trans (Only.of_below hb10); have hs := HS1.out _ hT) | (go_at_call 189; (with_reducible refine (N2.out _ _ _ _).mono ?_); rintro e10 w10 ⟨rfl, hb10⟩; have hT := hT.trans (Only.of_below hb10); have hs := HS1.out _ hT))) | fail
            go_wp2
            go_roundw
            case rel => exact ⟨i + 1, some p, by omega, rfl, rfl, by go_num, Hbest, Lib.hid (HO1.out.trans hT)⟩
            case measure => simp [intOf]; omega
    · obtain rfl : i = n := by omega
      have Hr2 := Ho.out.symm.trans Hr.out
      subst Hr2
      go_wp2_with fail
      refine bodyPost_ret (v := .tuple #[placeV o, .bool o.isSome]) (by simp [results, Tryz.results188, go_sem, placeV]) rfl ?_
      exact ⟨rfl, HB.out.below (Nat.le_refl _) (fun _ _ h => h)⟩

end Go.Proofs.YtidbipbangifbaaGreatDoor

/- The walk over wear.least by Seq, among those that are used. -/
namespace Go.Proofs.YtidbipbangifbaaGreatDoor
open Go.RowKit

set_option maxHeartbeats 4000000 in
set_option maxRecDepth 4000 in
theorem leastU_any (A : Option Addr) (n cap : Nat) (l : List Sc) (w : World) (hS : Secs w Empty A n cap l) (hm : n ≤ 1048576) (r : Option Nat) (hr : best usedB Sc.q l n = r) :
    Calls Tryz.prog 191 #[.slice A n cap, .func (.func 192) #[] #[], .func (.func 193) #[] #[]] w fun e w' =>
      e = .returned (.tuple #[placeV r, .bool r.isSome]) ∧ Below w.heap.size w w' := by
  have HS := Lib.hid hS
  have Hr := Lib.hid hr
  have hcap := hS.2.1
  have hcap2 : cap ≤ 9223372036854775807 := by have := hS.2.2.1; unfold maxLen at this; omega
  clear hS hr
  go_enter Tryz.func191, Tryz.ntmps191
  go_wp2_with fail
  go_loopw [8, 9, 14] (fun v8 v9 v wr => ∃ (i : Nat) (o : Option Nat), i ≤ n ∧ v8 = .int .i64 ((o.getD 0 : Nat) : Int) ∧ v9 = .bool o.isSome ∧ v = .int .i64 (i : Int) ∧ Hid (best usedB Sc.q l i = o) ∧ Hid (Only Empty w wr)) (fun _ _ v _ => n - (intOf v).toNat)
  case atStart => exact ⟨0, none, Nat.zero_le _, rfl, rfl, rfl, Lib.hid rfl, Lib.hid (Only.refl _ _)⟩
  case round =>
    obtain ⟨i, o, hi, rfl, rfl, rfl, Ho, HB⟩ := hrel
    by_cases hlt : i < n
    · obtain ⟨b, f0, rfl, hb, -, hcl⟩ := HS.out.2.2.2 (by omega)
      obtain ⟨f, hf⟩ : ∃ f, l[i]? = some f := ⟨_, List.getElem?_eq_getElem (by have := HS.out.1; omega)⟩
      have hll := HS.out.1
      have hc := hcl i f hf
      have hbest : best usedB Sc.q l (i + 1) = stepB usedB Sc.q l o i := by show stepB _ _ _ (best _ _ _ _) _ = _; rw [Ho.out]
      have hlo := best_lt Ho.out (by omega)
      obtain ⟨st, q, er⟩ := f
      have d0 : wr.cell? ⟨b, f0 + i * 3, none⟩ = some (.int .i64 st) := (HB.out.cell (p := ⟨b, f0 + i * 3 + 0, none⟩) hb (fun h => h)).trans (hc 0 (by omega))
      have d1 : wr.cell? ⟨b, f0 + i * 3 + 1, none⟩ = some (.int .u32 q) := (HB.out.cell (p := ⟨b, f0 + i * 3 + 1, none⟩) hb (fun h => h)).trans (hc 1 (by omega))
      have d2 : wr.cell? ⟨b, f0 + i * 3 + 2, none⟩ = some (.int .i64 er) := (HB.out.cell (p := ⟨b, f0 + i * 3 + 2, none⟩) hb (fun h => h)).trans (hc 2 (by omega))
      have hO1 : Only Empty w (wr.alloc (.cells #[.int .i64 st, .int .u32 q, .int .i64 er] 81)) := HB.out.alloc _
      have hk1 := Blk.new wr 81 #[.int .i64 st, .int .u32 q, .int .i64 er]
      have hT : Only Empty (wr.alloc (.cells #[.int .i64 st, .int .u32 q, .int .i64 er] 81)) (wr.alloc (.cells #[.int .i64 st, .int .u32 q, .int .i64 er] 81)).drew := (Only.refl _ _).drew
      have N1 : Hid (∀ W, Only Empty (wr.alloc (.cells #[.int .i64 st, .int .u32 q, .int .i64 er] 81)) W → Calls Tryz.prog 192 #[.agg #[.int .i64 st, .int .u32 q, .int .i64 er]] W fun e w' => e = .returned (.bool (usedB ⟨st, q, er⟩)) ∧ Below W.heap.size W w') :=
        Lib.hid (fun W _ => isUsed_any st q er W)
      have N2 : Hid (∀ st q er W, Calls Tryz.prog 193 #[.agg #[.int .i64 st, .int .u32 q, .int .i64 er]] W fun e w' => e = .returned (.int .u32 q) ∧ Below W.heap.size W w') := Lib.hid seq_any
      have HO1 := Lib.hid hO1
      cases hmay : usedB ⟨st, q, er⟩ with
      | false =>
        rw [stepB_no hf hmay] at hbest
        have Hbest := Lib.hid hbest
        have HS1 : Hid (∀ W, Only Empty (wr.alloc (.cells #[.int .i64 st, .int .u32 q, .int .i64 er] 81)) W → W.cell? ⟨wr.heap.size, 0, none⟩ = some (.int .i64 st) ∧ W.cell? ⟨wr.heap.size, 1, none⟩ = some (.int .u32 q) ∧ W.cell? ⟨wr.heap.size, 2, none⟩ = some (.int .i64 er)) := Lib.hid (fun W h => by
          have hk := h.blk hk1 (fun h => h)
          exact ⟨hk.cell 0, hk.cell 1, hk.cell 2⟩)
        have hs := HS1.out _ hT
        rw [hmay] at N1
        clear hc hcl hf hbest hO1 hk1 hlo hll hmay
        go_wp2_with fail
        refine wp_region_held_drew (S := fun W => W.cell? ⟨wr.heap.size, 0, none⟩ = some (.int .i64 st) ∧ W.cell? ⟨wr.heap.size, 1, none⟩ = some (.int .u32 q) ∧ W.cell? ⟨wr.heap.size, 2, none⟩ = some (.int .i64 er)) (by kernel_rfl) hs (fun hHeld0 => ?_)
        refine take_yes 0 19 ?_ rfl rfl (by kernel_rfl) (by kernel_rfl) (by kernel_rfl) (fun _ _ _ h => h) (by kernel_rfl) ?_ (by assumption) ?_; rotate_left; (focus (intro w hSw; (try dsimp only at hSw); go_simp; all_goals with_reducible rfl)); simp only [Act.put, List.setIfInBounds_toArray, List.set_cons_zero, List.set_cons_succ]
        refine take_yes 1 20 ?_ rfl rfl (by kernel_rfl) (by kernel_rfl) (by kernel_rfl) (fun _ _ _ h => h) (by kernel_rfl) ?_ (by assumption) ?_; rotate_left; (focus (intro w hSw; (try dsimp only at hSw); go_simp; all_goals with_reducible rfl)); simp only [Act.put, List.setIfInBounds_toArray, List.set_cons_zero, List.set_cons_succ]
        refine wpAnyH_ready (rs := [2]) (by kernel_rfl) (by simp) ?_
        refine AllReadyH.cons rfl (fun K hK => ?_) AllReadyH.nil
        go_simp
        go_at_call 192; (with_reducible refine (N1.out _ hT).mono ?_); rintro e10 w10 ⟨rfl, hb10⟩; have hT := hT.trans (Only.of_below hb10); have hs := HS1.out _ hT
        go_wp2_with fail
        refine hK.out _ _ hs (fun hHeld => ?_)
        clear hK K hHeld0
        try simp only [Act.put, List.setIfInBounds_toArray, List.set_cons_zero, List.set_cons_succ]
        refine take_yes 3 22 ?_ rfl rfl (by kernel_rfl) (by kernel_rfl) (by kernel_rfl) (fun _ _ _ h => h) (by kernel_rfl) ?_ (by assumption) ?_; rotate_left; (focus (intro w hSw; (try dsimp only at hSw); go_simp; all_goals with_reducible rfl)); simp only [Act.put, List.setIfInBounds_toArray, List.set_cons_zero, List.set_cons_succ]
        refine take_no 4 23 rfl rfl (by kernel_rfl) (by kernel_rfl) (by kernel_rfl) (fun _ _ _ h => h) (by kernel_rfl) (by assumption) ?_; simp only [Act.put, List.setIfInBounds_toArray, List.set_cons_zero, List.set_cons_succ]
        refine take_no 5 24 rfl rfl (by kernel_rfl) (by kernel_rfl) (by kernel_rfl) (fun _ _ _ h => h) (by kernel_rfl) (by assumption) ?_; simp only [Act.put, List.setIfInBounds_toArray, List.set_cons_zero, List.set_cons_succ]
        refine take_no 6 25 rfl rfl (by kernel_rfl) (by kernel_rfl) (by kernel_rfl) (fun _ _ _ h => h) (by kernel_rfl) (by assumption) ?_; simp only [Act.put, List.setIfInBounds_toArray, List.set_cons_zero, List.set_cons_succ]
        refine take_no 7 26 rfl rfl (by kernel_rfl) (by kernel_rfl) (by kernel_rfl) (fun _ _ _ h => h) (by kernel_rfl) (by assumption) ?_; simp only [Act.put, List.setIfInBounds_toArray, List.set_cons_zero, List.set_cons_succ]
        refine take_no 8 27 rfl rfl (by kernel_rfl) (by kernel_rfl) (by kernel_rfl) (fun _ _ _ h => h) (by kernel_rfl) (by assumption) ?_; simp only [Act.put, List.setIfInBounds_toArray, List.set_cons_zero, List.set_cons_succ]
        refine take_no 9 28 rfl rfl (by kernel_rfl) (by kernel_rfl) (by kernel_rfl) (fun _ _ _ h => h) (by kernel_rfl) (by assumption) ?_; simp only [Act.put, List.setIfInBounds_toArray, List.set_cons_zero, List.set_cons_succ]
        refine take_no 10 29 rfl rfl (by kernel_rfl) (by kernel_rfl) (by kernel_rfl) (fun _ _ _ h => h) (by kernel_rfl) (by assumption) ?_; simp only [Act.put, List.setIfInBounds_toArray, List.set_cons_zero, List.set_cons_succ]
        refine take_no 11 30 rfl rfl (by kernel_rfl) (by kernel_rfl) (by kernel_rfl) (fun _ _ _ h => h) (by kernel_rfl) (by assumption) ?_; simp only [Act.put, List.setIfInBounds_toArray, List.set_cons_zero, List.set_cons_succ]
        refine take_no 12 31 rfl rfl (by kernel_rfl) (by kernel_rfl) (by kernel_rfl) (fun _ _ _ h => h) (by kernel_rfl) (by assumption) ?_; simp only [Act.put, List.setIfInBounds_toArray, List.set_cons_zero, List.set_cons_succ]
        refine take_no 13 32 rfl rfl (by kernel_rfl) (by kernel_rfl) (by kernel_rfl) (fun _ _ _ h => h) (by kernel_rfl) (by assumption) ?_; simp only [Act.put, List.setIfInBounds_toArray, List.set_cons_zero, List.set_cons_succ]
        refine take_no 14 33 rfl rfl (by kernel_rfl) (by kernel_rfl) (by kernel_rfl) (fun _ _ _ h => h) (by kernel_rfl) (by assumption) ?_; simp only [Act.put, List.setIfInBounds_toArray, List.set_cons_zero, List.set_cons_succ]
        refine take_no 15 34 rfl rfl (by kernel_rfl) (by kernel_rfl) (by kernel_rfl) (fun _ _ _ h => h) (by kernel_rfl) (by assumption) ?_; simp only [Act.put, List.setIfInBounds_toArray, List.set_cons_zero, List.set_cons_succ]
        refine take_no 16 35 rfl rfl (by kernel_rfl) (by kernel_rfl) (by kernel_rfl) (fun _ _ _ h => h) (by kernel_rfl) (by assumption) ?_; simp only [Act.put, List.setIfInBounds_toArray, List.set_cons_zero, List.set_cons_succ]
        refine take_no 17 36 rfl rfl (by kernel_rfl) (by kernel_rfl) (by kernel_rfl) (fun _ _ _ h => h) (by kernel_rfl) (by assumption) ?_; simp only [Act.put, List.setIfInBounds_toArray, List.set_cons_zero, List.set_cons_succ]
        refine take_yes 18 37 ?_ rfl rfl (by kernel_rfl) (by kernel_rfl) (by kernel_rfl) (fun _ _ _ h => h) (by kernel_rfl) ?_ (by assumption) ?_; rotate_left; (focus (intro w hSw; (try dsimp only at hSw); go_simp; all_goals with_reducible rfl)); simp only [Act.put, List.setIfInBounds_toArray, List.set_cons_zero, List.set_cons_succ]
        refine wpAnyH_done (by kernel_rfl) ?_ _
        go_wp2
        go_roundw
        case rel => exact ⟨i + 1, o, by omega, rfl, rfl, by go_num, Hbest, Lib.hid (HO1.out.trans hT)⟩
        case measure => simp [intOf]; omega
      | true =>
        rw [hmay] at N1
        rcases o with _ | p
        · rw [stepB_first hf hmay] at hbest
          have Hbest := Lib.hid hbest
          have HS1 : Hid (∀ W, Only Empty (wr.alloc (.cells #[.int .i64 st, .int .u32 q, .int .i64 er] 81)) W → W.cell? ⟨wr.heap.size, 0, none⟩ = some (.int .i64 st) ∧ W.cell? ⟨wr.heap.size, 1, none⟩ = some (.int .u32 q) ∧ W.cell? ⟨wr.heap.size, 2, none⟩ = some (.int .i64 er)) := Lib.hid (fun W h => by
            have hk := h.blk hk1 (fun h => h)
            exact ⟨hk.cell 0, hk.cell 1, hk.cell 2⟩)
          have hs := HS1.out _ hT
          clear hc hcl hf hbest hO1 hk1 hlo hll hmay
          simp only [Option.isSome_none, Option.getD_none]
          go_wp2_with fail
          refine wp_region_held_drew (S := fun W => W.cell? ⟨wr.heap.size, 0, none⟩ = some (.int .i64 st) ∧ W.cell? ⟨wr.heap.size, 1, none⟩ = some (.int .u32 q) ∧ W.cell? ⟨wr.heap.size, 2, none⟩ = some (.int .i64 er)) (by kernel_rfl) hs (fun hHeld0 => ?_)
          refine take_yes 0 19 ?_ rfl rfl (by kernel_rfl) (by kernel_rfl) (by kernel_rfl) (fun _ _ _ h => h) (by kernel_rfl) ?_ (by assumption) ?_; rotate_left; (focus (intro w hSw; (try dsimp only at hSw); go_simp; all_goals with_reducible rfl)); simp only [Act.put, List.setIfInBounds_toArray, List.set_cons_zero, List.set_cons_succ]
          refine take_yes 1 20 ?_ rfl rfl (by kernel_rfl) (by kernel_rfl) (by kernel_rfl) (fun _ _ _ h => h) (by kernel_rfl) ?_ (by assumption) ?_; rotate_left; (focus (intro w hSw; (try dsimp only at hSw); go_simp; all_goals with_reducible rfl)); simp only [Act.put, List.setIfInBounds_toArray, List.set_cons_zero, List.set_cons_succ]
          refine wpAnyH_ready (rs := [2]) (by kernel_rfl) (by simp) ?_
          refine AllReadyH.cons rfl (fun K hK => ?_) AllReadyH.nil
          go_simp
          go_at_call 192; (with_reducible refine (N1.out _ hT).mono ?_); rintro e10 w10 ⟨rfl, hb10⟩; have hT := hT.trans (Only.of_below hb10); have hs := HS1.out _ hT
          go_wp2_with fail
          refine hK.out _ _ hs (fun hHeld => ?_)
          clear hK K hHeld0
          try simp only [Act.put, List.setIfInBounds_toArray, List.set_cons_zero, List.set_cons_succ]
          refine take_yes 3 22 ?_ rfl rfl (by kernel_rfl) (by kernel_rfl) (by kernel_rfl) (fun _ _ _ h => h) (by kernel_rfl) ?_ (by assumption) ?_; rotate_left; (focus (intro w hSw; (try dsimp only at hSw); go_simp; all_goals with_reducible rfl)); simp only [Act.put, List.setIfInBounds_toArray, List.set_cons_zero, List.set_cons_succ]
          refine take_yes 4 23 ?_ rfl rfl (by kernel_rfl) (by kernel_rfl) (by kernel_rfl) (fun _ _ _ h => h) (by kernel_rfl) ?_ (by assumption) ?_; rotate_left; (focus (intro w hSw; (try dsimp only at hSw); go_simp; all_goals with_reducible rfl)); simp only [Act.put, List.setIfInBounds_toArray, List.set_cons_zero, List.set_cons_succ]
          refine take_yes 5 24 ?_ rfl rfl (by kernel_rfl) (by kernel_rfl) (by kernel_rfl) (fun _ _ _ h => h) (by kernel_rfl) ?_ (by assumption) ?_; rotate_left; (focus (intro w hSw; (try dsimp only at hSw); go_simp; all_goals with_reducible rfl)); simp only [Act.put, List.setIfInBounds_toArray, List.set_cons_zero, List.set_cons_succ]
          refine take_yes 6 25 ?_ rfl rfl (by kernel_rfl) (by kernel_rfl) (by kernel_rfl) (fun _ _ _ h => h) (by kernel_rfl) ?_ (by assumption) ?_; rotate_left; (focus (intro w hSw; (try dsimp only at hSw); go_simp; all_goals with_reducible rfl)); simp only [Act.put, List.setIfInBounds_toArray, List.set_cons_zero, List.set_cons_succ]
          refine take_no 7 26 rfl rfl (by kernel_rfl) (by kernel_rfl) (by kernel_rfl) (fun _ _ _ h => h) (by kernel_rfl) (by assumption) ?_; simp only [Act.put, List.setIfInBounds_toArray, List.set_cons_zero, List.set_cons_succ]
          refine take_no 8 27 rfl rfl (by kernel_rfl) (by kernel_rfl) (by kernel_rfl) (fun _ _ _ h => h) (by kernel_rfl) (by assumption) ?_; simp only [Act.put, List.setIfInBounds_toArray, List.set_cons_zero, List.set_cons_succ]
          refine take_no 9 28 rfl rfl (by kernel_rfl) (by kernel_rfl) (by kernel_rfl) (fun _ _ _ h => h) (by kernel_rfl) (by assumption) ?_; simp only [Act.put, List.setIfInBounds_toArray, List.set_cons_zero, List.set_cons_succ]
          refine take_no 10 29 rfl rfl (by kernel_rfl) (by kernel_rfl) (by kernel_rfl) (fun _ _ _ h => h) (by kernel_rfl) (by assumption) ?_; simp only [Act.put, List.setIfInBounds_toArray, List.set_cons_zero, List.set_cons_succ]
          refine take_no 11 30 rfl rfl (by kernel_rfl) (by kernel_rfl) (by kernel_rfl) (fun _ _ _ h => h) (by kernel_rfl) (by assumption) ?_; simp only [Act.put, List.setIfInBounds_toArray, List.set_cons_zero, List.set_cons_succ]
          refine take_no 12 31 rfl rfl (by kernel_rfl) (by kernel_rfl) (by kernel_rfl) (fun _ _ _ h => h) (by kernel_rfl) (by assumption) ?_; simp only [Act.put, List.setIfInBounds_toArray, List.set_cons_zero, List.set_cons_succ]
          refine take_no 13 32 rfl rfl (by kernel_rfl) (by kernel_rfl) (by kernel_rfl) (fun _ _ _ h => h) (by kernel_rfl) (by assumption) ?_; simp only [Act.put, List.setIfInBounds_toArray, List.set_cons_zero, List.set_cons_succ]
          refine take_no 14 33 rfl rfl (by kernel_rfl) (by kernel_rfl) (by kernel_rfl) (fun _ _ _ h => h) (by kernel_rfl) (by assumption) ?_; simp only [Act.put, List.setIfInBounds_toArray, List.set_cons_zero, List.set_cons_succ]
          refine take_no 15 34 rfl rfl (by kernel_rfl) (by kernel_rfl) (by kernel_rfl) (fun _ _ _ h => h) (by kernel_rfl) (by assumption) ?_; simp only [Act.put, List.setIfInBounds_toArray, List.set_cons_zero, List.set_cons_succ]
          refine take_no 16 35 rfl rfl (by kernel_rfl) (by kernel_rfl) (by kernel_rfl) (fun _ _ _ h => h) (by kernel_rfl) (by assumption) ?_; simp only [Act.put, List.setIfInBounds_toArray, List.set_cons_zero, List.set_cons_succ]
          refine take_yes 17 36 ?_ rfl rfl (by kernel_rfl) (by kernel_rfl) (by kernel_rfl) (fun _ _ _ h => h) (by kernel_rfl) ?_ (by assumption) ?_; rotate_left; (focus (intro w hSw; (try dsimp only at hSw); go_simp; all_goals with_reducible rfl)); simp only [Act.put, List.setIfInBounds_toArray, List.set_cons_zero, List.set_cons_succ]
          refine take_yes 18 37 ?_ rfl rfl (by kernel_rfl) (by kernel_rfl) (by kernel_rfl) (fun _ _ _ h => h) (by kernel_rfl) ?_ (by assumption) ?_; rotate_left; (focus (intro w hSw; (try dsimp only at hSw); go_simp; all_goals with_reducible rfl)); simp only [Act.put, List.setIfInBounds_toArray, List.set_cons_zero, List.set_cons_succ]
          refine wpAnyH_done (by kernel_rfl) ?_ _
          go_wp2
          go_roundw
          case rel => exact ⟨i + 1, some i, by omega, rfl, rfl, by go_num, Hbest, Lib.hid (HO1.out.trans hT)⟩
          case measure => simp [intOf]; omega
        · obtain ⟨t, hp, ht⟩ : ∃ t, p < i ∧ l[p]? = some t := by
            rcases hlo with h | ⟨p', t, h, h1, h2⟩
            · cases h
            · cases h
              exact ⟨t, h1, h2⟩
          have hc2 := hcl p t ht
          obtain ⟨st2, q2, er2⟩ := t
          have HS1 : Hid (∀ W, Only Empty (wr.alloc (.cells #[.int .i64 st, .int .u32 q, .int .i64 er] 81)) W → W.cell? ⟨wr.heap.size, 0, none⟩ = some (.int .i64 st) ∧ W.cell? ⟨wr.heap.size, 1, none⟩ = some (.int .u32 q) ∧ W.cell? ⟨wr.heap.size, 2, none⟩ = some (.int .i64 er) ∧ W.cell? ⟨b, f0 + p * 3, none⟩ = some (.int .i64 st2) ∧ W.cell? ⟨b, f0 + p * 3 + 1, none⟩ = some (.int .u32 q2) ∧ W.cell? ⟨b, f0 + p * 3 + 2, none⟩ = some (.int .i64 er2)) := Lib.hid (fun W h => by
            have hk := h.blk hk1 (fun h => h)
            have hO := hO1.trans h
            exact ⟨hk.cell 0, hk.cell 1, hk.cell 2, (hO.cell (p := ⟨b, f0 + p * 3 + 0, none⟩) hb (fun h => h)).trans (hc2 0 (by omega)), (hO.cell (p := ⟨b, f0 + p * 3 + 1, none⟩) hb (fun h => h)).trans (hc2 1 (by omega)), (hO.cell (p := ⟨b, f0 + p * 3 + 2, none⟩) hb (fun h => h)).trans (hc2 2 (by omega))⟩)
          have hs := HS1.out _ hT
          have hpn : (p : Int) < (n : Int) := by omega
          have hp0 : (0 : Int) ≤ (p : Int) := by omega
          have hpn2 : p < n := by omega
          simp only [Option.isSome_some, Option.getD_some]
          by_cases hk : q < q2
          · rw [stepB_less hf hmay ht hk] at hbest
            have Hbest := Lib.hid hbest
            clear hc hcl hf hbest hO1 hk1 hlo hll hmay ht hc2
            go_wp2_with fail
            first | (go_region_held3 (fun W => W.cell? ⟨wr.heap.size, 0, none⟩ = some (.int .i64 st) ∧ W.cell? ⟨wr.heap.size, 1, none⟩ = some (.int .u32 q) ∧ W.cell? ⟨wr.heap.size, 2, none⟩ = some (.int .i64 er) ∧ W.cell? ⟨b, f0 + p * 3, none⟩ = some (.int .i64 st2) ∧ W.cell? ⟨b, f0 + p * 3 + 1, none⟩ = some (.int .u32 q2) ∧ W.cell? ⟨b, f0 + p * 3 + 2, none⟩ = some (.int .i64 er2)) (first | with_reducible exact hs) (first | (go_at_call 192; (with_reducible refine (N1.out _ hT).mono ?_); rintro e10 w10 ⟨rfl, hb10⟩; have hT := hT.trans (Only.of_below hb10); have hs := HS1.out _ hT) | (go_at_call 193; (with_reducible refine (N2.out _ _ _ _).mono ?_); rintro e10 w10 ⟨rfl, hb10⟩; have hT := hT.trans (Only.of_below hb10); have hs := HS1.out _ hT))) | fail
            go_wp2
            go_roundw
            case rel => exact ⟨i + 1, some i, by omega, rfl, rfl, by go_num, Hbest, Lib.hid (HO1.out.trans hT)⟩
            case measure => simp [intOf]; omega
          · rw [stepB_more hf hmay ht hk] at hbest
            have Hbest := Lib.hid hbest
            clear hc hcl hf hbest hO1 hk1 hlo hll hmay ht hc2
            go_wp2_with fail
            first | (go_region_held3 (fun W => W.cell? ⟨wr.heap.size, 0, none⟩ = some (.int .i64 st) ∧ W.cell? ⟨wr.heap.size, 1, none⟩ = some (.int .u32 q) ∧ W.cell? ⟨wr.heap.size, 2, none⟩ = some (.int .i64 er) ∧ W.cell? ⟨b, f0 + p * 3, none⟩ = some (.int .i64 st2) ∧ W.cell? ⟨b, f0 + p * 3 + 1, none⟩ = some (.int .u32 q2) ∧ W.cell? ⟨b, f0 + p * 3 + 2, none⟩ = some (.int .i64 er2)) (first | with_reducible exact hs) (first | (go_at_call 192; (with_reducible refine (N1.out _ hT).mono ?_); rintro e10 w10 ⟨rfl, hb10⟩; have hT := hT.trans (Only.of_below hb10); have hs := HS1.out _ hT) | (go_at_call 193; (with_reducible refine (N2.out _ _ _ _).mono ?_); rintro e10 w10 ⟨rfl, hb10⟩; have hT := hT.trans (Only.of_below hb10); have hs := HS1.out _ hT))) | fail
            go_wp2
            go_roundw
            case rel => exact ⟨i + 1, some p, by omega, rfl, rfl, by go_num, Hbest, Lib.hid (HO1.out.trans hT)⟩
            case measure => simp [intOf]; omega
    · obtain rfl : i = n := by omega
      have Hr2 := Ho.out.symm.trans Hr.out
      subst Hr2
      go_wp2_with fail
      refine bodyPost_ret (v := .tuple #[placeV o, .bool o.isSome]) (by simp [results, Tryz.results191, go_sem, placeV]) rfl ?_
      exact ⟨rfl, HB.out.below (Nat.le_refl _) (fun _ _ h => h)⟩

end Go.Proofs.YtidbipbangifbaaGreatDoor
