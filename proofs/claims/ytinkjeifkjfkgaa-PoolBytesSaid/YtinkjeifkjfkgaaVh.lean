/- The walk over pool.mayStand, where a form is asked. -/
import Derived.Test.YtinkjeifkjfkgaaVg
import Derived.Test.YtinkjeifkjfkgaaTk
namespace Go.Proofs.Ytinkjeifkjfkgaa
set_option maxRecDepth 100000
open Go.RowKit

theorem neq_c (c p : Cst) (W : World) : (binOp .neq 41 (.agg #[.int .i64 c.tag, .int .i64 c.a, .int .i64 c.b, .int .i64 c.n, .string (strB c.s)]) (.agg #[.int .i64 p.tag, .int .i64 p.a, .int .i64 p.b, .int .i64 p.n, .string (strB p.s)])).run Try.prog W = .ok (.bool (decide (c ≠ p))) W := neq_const c p W

set_option maxHeartbeats 2000000 in
theorem mayStand_form (A : Option Addr) (n cap k : Nat) (l : List Cst) (w : World) (hP : PoolSl w A n cap l) (hn : n ≤ 1000000) (hok : ∀ c ∈ l, c.ok) (hk : k < n) (h00 : k ≠ 0) (d : Cst) (hd : l[k - 1]? = some d) (hd5 : d.tag ≠ 5) (c : Cst) (hc : l[k]? = some c) (hf : formF c.tag ≠ noFrm) :
    Calls Try.prog 24 #[.slice A n cap, .int .i64 (k : Int)] w fun e w' => e = .returned (.bool (mayF l k)) ∧ Below w.heap.size w w' := by
  obtain ⟨b, o, c', rfl, hc', hb, h0, h1, h2, h3, h4⟩ := pool_at hP hk
  obtain rfl : c = c' := by rw [hc] at hc'; exact Option.some.inj hc'
  obtain ⟨b', o', d', hA, hd', hb', g0, -⟩ := pool_at hP (show k - 1 < n by omega)
  obtain rfl : d = d' := by rw [hd] at hd'; exact Option.some.inj hd'
  obtain ⟨rfl, rfl⟩ : b = b' ∧ o = o' := by simpa using hA
  obtain ⟨f, hfe⟩ : ∃ f, formF c.tag = f := ⟨_, rfl⟩
  have hfw := form_ways c.tag
  rw [hfe] at hfw hf
  obtain ⟨p, hpe⟩ : ∃ p, partF f c = p := ⟨_, rfl⟩
  have HE : Hid (mayF l k = if decide (c ≠ p) = true then false else isTextF c.s && (tagAtF l c.a == f.a) && (tagAtF l c.b == f.b)) := Lib.hid (by
    unfold mayF
    rw [hc]
    simp only
    rw [if_neg (by rw [hd]; rintro (h | h); exact h00 h; exact hd5 (by simpa using h)), hfe, hpe]
    by_cases h : c = p
    · rw [if_neg (by rintro (h' | h'); exact hf h'; exact h' h), if_neg (by simp [h])]
    · rw [if_pos (.inr h), if_pos (by simp [h])])
  have hk0 : ((k : Int) == 0) = false := by simpa using h00
  have hkt : ((k : Int) - 1).toNat = k - 1 := by omega
  have hq5 : (d.tag == 5) = false := by simpa using hd5
  have CF : Hid (∀ W, Calls Try.prog 31 #[.int .i64 c.tag] W fun e w' => e = .returned f.v ∧ Below W.heap.size W w') := Lib.hid (fun W => by
    have := formOf_any c.tag W
    rwa [hfe] at this)
  have CP : Hid (∀ W, Calls Try.prog 33 #[.agg #[.bool f.text, .int .i64 f.num, .int .i64 f.a, .int .i64 f.b], .agg #[.int .i64 c.tag, .int .i64 c.a, .int .i64 c.b, .int .i64 c.n, .string (strB c.s)]] W fun e w' => e = .returned (.agg #[.int .i64 p.tag, .int .i64 p.a, .int .i64 p.b, .int .i64 p.n, .string (strB p.s)]) ∧ Below W.heap.size W w') := Lib.hid (fun W => by
    have := part_any f hfw c W
    rwa [hpe] at this)
  have CT : Hid (∀ W, Calls Try.prog 34 #[.string (strB c.s)] W fun e w' => e = .returned (.bool (isTextF c.s)) ∧ Below W.heap.size W w') :=
    Lib.hid (fun W => isText_any c.s W (hok c (List.mem_of_getElem? hc)).s)
  have CA : Hid (∀ q W, Only Empty w W → Calls Try.prog 35 #[.slice (some ⟨b, o, none⟩) n cap, .int .i64 q] W fun e w' => e = .returned (.int .i64 (tagAtF l q)) ∧ W = w') :=
    Lib.hid (fun q W hO => tagAt_any _ n cap l q W (hP.only hO (fun _ _ h => h)) hn)
  have HQ0 := eq_noFrm f
  have HQ1 := neq_c c p
  rw [decide_eq_false hf] at HQ0
  obtain ⟨B, hB⟩ : ∃ B, decide (c ≠ p) = B := ⟨_, rfl⟩
  rw [hB] at HE HQ1
  obtain ⟨T, hT⟩ : ∃ T, isTextF c.s = T := ⟨_, rfl⟩
  rw [hT] at HE CT
  clear hP hc hc' hA hd hd' hd5 hf hfw hpe hfe hB hT hok
  go_enter Try.func24, Try.ntmps24
  go_wp2_with fail
  refine (CF.out _).mono ?_
  rintro e w1 ⟨rfl, hb1⟩
  simp only [Frm.v]
  have HK1 : Hid (Blk w1 w.heap.size 41 c.cells.toArray) := Lib.hid ((Blk.new w 41 c.cells.toArray).of (hb1.block _ (by simp)))
  have Hb1 := Lib.hid (((Below.refl w.heap.size w).alloc (Nat.le_refl _) (.cells c.cells.toArray 41)).trans (hb1.mono (by simp)))
  have HW1 : Hid (w.heap.size + 1 ≤ w1.heap.size) := Lib.hid (by have := hb1.size; simp at this; omega)
  clear hb1
  have HS : Hid (∀ W, Only Empty (w1.alloc (.cells #[.bool f.text, .int .i64 f.num, .int .i64 f.a, .int .i64 f.b] 59)) W → W.cell? ⟨w1.heap.size, 0, none⟩ = some (.bool f.text) ∧ W.cell? ⟨w1.heap.size, 1, none⟩ = some (.int .i64 f.num) ∧ W.cell? ⟨w1.heap.size, 2, none⟩ = some (.int .i64 f.a) ∧ W.cell? ⟨w1.heap.size, 3, none⟩ = some (.int .i64 f.b) ∧
      W.cell? ⟨w.heap.size, 0, none⟩ = some (.int .i64 c.tag) ∧ W.cell? ⟨w.heap.size, 1, none⟩ = some (.int .i64 c.a) ∧ W.cell? ⟨w.heap.size, 2, none⟩ = some (.int .i64 c.b) ∧ W.cell? ⟨w.heap.size, 3, none⟩ = some (.int .i64 c.n) ∧ W.cell? ⟨w.heap.size, 4, none⟩ = some (.string (strB c.s))) := Lib.hid (fun W hO => by
    have hF := hO.blk (Blk.new w1 59 #[.bool f.text, .int .i64 f.num, .int .i64 f.a, .int .i64 f.b]) (fun h => h)
    have hC := hO.blk (HK1.out.alloc _) (fun h => h)
    exact ⟨hF.cell 0, hF.cell 1, hF.cell 2, hF.cell 3, hC.cell 0, hC.cell 1, hC.cell 2, hC.cell 3, hC.cell 4⟩)
  have hO0 : Only Empty (w1.alloc (.cells #[.bool f.text, .int .i64 f.num, .int .i64 f.a, .int .i64 f.b] 59)) (w1.alloc (.cells #[.bool f.text, .int .i64 f.num, .int .i64 f.a, .int .i64 f.b] 59)).drew := (Only.refl _ _).drew
  have HO0 := Lib.hid hO0
  have hs0 := HS.out _ hO0
  clear hO0
  go_wp2
  go_region_held3 (fun W => W.cell? ⟨w1.heap.size, 0, none⟩ = some (.bool f.text) ∧ W.cell? ⟨w1.heap.size, 1, none⟩ = some (.int .i64 f.num) ∧ W.cell? ⟨w1.heap.size, 2, none⟩ = some (.int .i64 f.a) ∧ W.cell? ⟨w1.heap.size, 3, none⟩ = some (.int .i64 f.b) ∧ W.cell? ⟨w.heap.size, 0, none⟩ = some (.int .i64 c.tag) ∧ W.cell? ⟨w.heap.size, 1, none⟩ = some (.int .i64 c.a) ∧ W.cell? ⟨w.heap.size, 2, none⟩ = some (.int .i64 c.b) ∧ W.cell? ⟨w.heap.size, 3, none⟩ = some (.int .i64 c.n) ∧ W.cell? ⟨w.heap.size, 4, none⟩ = some (.string (strB c.s)))
    (first | with_reducible exact hs0 | with_reducible exact hs10)
    ((go_at_call 33; (with_reducible refine (CP.out _).mono ?_); rintro e10 w10 ⟨rfl, hb10⟩; have hO10 := HO0.out.trans (Only.of_below hb10); have hs10 := HS.out _ hO10))
  have HO10 := Lib.hid hO10
  have HB10 : Hid (Below w.heap.size w w10) := Lib.hid ((Hb1.out.alloc Hb1.out.size (.cells #[.bool f.text, .int .i64 f.num, .int .i64 f.a, .int .i64 f.b] 59)).trans (hO10.below (by have := Hb1.out.size; simp; omega) (fun _ _ h => h)))
  have HP10 : Hid (∀ q W, Only Empty w10 W → Calls Try.prog 35 #[.slice (some ⟨b, o, none⟩) n cap, .int .i64 q] W fun e w' => e = .returned (.int .i64 (tagAtF l q)) ∧ W = w') :=
    Lib.hid (fun q W hO => CA.out q W ((Only.of_below HB10.out).trans hO))
  clear hs0 hb10 hO10
  cases B with
  | true =>
    go_wp2
    go_ret
    exact ⟨by rw [HE.out]; rfl, HB10.out⟩
  | false =>
    have HS5 : Hid (∀ W, Only Empty w10 W → W.cell? ⟨w1.heap.size, 2, none⟩ = some (.int .i64 f.a) ∧ W.cell? ⟨w1.heap.size, 3, none⟩ = some (.int .i64 f.b) ∧ W.cell? ⟨w.heap.size, 1, none⟩ = some (.int .i64 c.a) ∧ W.cell? ⟨w.heap.size, 2, none⟩ = some (.int .i64 c.b) ∧ W.cell? ⟨w.heap.size, 4, none⟩ = some (.string (strB c.s))) := Lib.hid (fun W hO => by
      have h := HS.out W (HO10.out.trans hO)
      exact ⟨h.2.2.1, h.2.2.2.1, h.2.2.2.2.2.1, h.2.2.2.2.2.2.1, h.2.2.2.2.2.2.2.2⟩)
    have HOd : Hid (Only Empty w10 w10.drew) := Lib.hid (Only.refl _ _).drew
    have hsd := HS5.out _ HOd.out
    cases T with
    | false =>
      go_wp2_with fail
      refine wp_region_held_drew (S := fun W => W.cell? ⟨w1.heap.size, 2, none⟩ = some (.int .i64 f.a) ∧ W.cell? ⟨w1.heap.size, 3, none⟩ = some (.int .i64 f.b) ∧ W.cell? ⟨w.heap.size, 1, none⟩ = some (.int .i64 c.a) ∧ W.cell? ⟨w.heap.size, 2, none⟩ = some (.int .i64 c.b) ∧ W.cell? ⟨w.heap.size, 4, none⟩ = some (.string (strB c.s))) (by kernel_rfl) hsd (fun hHeld0 => ?_)
      refine take_yes 0 38 ?_ rfl rfl (by kernel_rfl) (by kernel_rfl) (by kernel_rfl) (fun _ _ _ h => h) (by kernel_rfl) ?_ (by assumption) ?_; rotate_left; (focus (intro w hSw; (try dsimp only at hSw); go_simp; all_goals first | with_reducible rfl)); simp only [Act.put, List.setIfInBounds_toArray, List.set_cons_zero, List.set_cons_succ]
      refine take_yes 1 39 ?_ rfl rfl (by kernel_rfl) (by kernel_rfl) (by kernel_rfl) (fun _ _ _ h => h) (by kernel_rfl) ?_ (by assumption) ?_; rotate_left; (focus (intro w hSw; (try dsimp only at hSw); go_simp; all_goals first | with_reducible rfl)); simp only [Act.put, List.setIfInBounds_toArray, List.set_cons_zero, List.set_cons_succ]
      refine wpAnyH_ready (rs := [2]) (by kernel_rfl) (by simp) ?_
      refine AllReadyH.cons rfl (fun K hK => ?_) AllReadyH.nil
      go_simp
      go_at_call 34; (with_reducible refine (CT.out _).mono ?_); rintro e20 w20 ⟨rfl, hb20⟩; have hO20 := HOd.out.trans (Only.of_below hb20); have hs20 := HS5.out _ hO20
      go_wp2_with fail
      refine hK.out _ _ (hs20) (fun _ => ?_)
      clear hK K
      try simp only [Act.put, List.setIfInBounds_toArray, List.set_cons_zero, List.set_cons_succ]
      refine take_yes 3 41 (.bool false) rfl rfl (by kernel_rfl) (by kernel_rfl) (by kernel_rfl) (fun _ _ _ h => h) (by kernel_rfl) ?_ (by assumption) ?_; (focus (intro w hSw; (try dsimp only at hSw); go_simp; all_goals first | with_reducible rfl)); simp only [Act.put, List.setIfInBounds_toArray, List.set_cons_zero, List.set_cons_succ]
      refine take_no 4 42 rfl rfl (by kernel_rfl) (by kernel_rfl) (by kernel_rfl) (fun _ _ _ h => h) (by kernel_rfl) (by assumption) ?_; simp only [Act.put, List.setIfInBounds_toArray, List.set_cons_zero, List.set_cons_succ]
      refine take_no 5 43 rfl rfl (by kernel_rfl) (by kernel_rfl) (by kernel_rfl) (fun _ _ _ h => h) (by kernel_rfl) (by assumption) ?_; simp only [Act.put, List.setIfInBounds_toArray, List.set_cons_zero, List.set_cons_succ]
      refine take_no 6 44 rfl rfl (by kernel_rfl) (by kernel_rfl) (by kernel_rfl) (fun _ _ _ h => h) (by kernel_rfl) (by assumption) ?_; simp only [Act.put, List.setIfInBounds_toArray, List.set_cons_zero, List.set_cons_succ]
      refine take_no 7 45 rfl rfl (by kernel_rfl) (by kernel_rfl) (by kernel_rfl) (fun _ _ _ h => h) (by kernel_rfl) (by assumption) ?_; simp only [Act.put, List.setIfInBounds_toArray, List.set_cons_zero, List.set_cons_succ]
      refine take_no 8 46 rfl rfl (by kernel_rfl) (by kernel_rfl) (by kernel_rfl) (fun _ _ _ h => h) (by kernel_rfl) (by assumption) ?_; simp only [Act.put, List.setIfInBounds_toArray, List.set_cons_zero, List.set_cons_succ]
      refine take_no 9 47 rfl rfl (by kernel_rfl) (by kernel_rfl) (by kernel_rfl) (fun _ _ _ h => h) (by kernel_rfl) (by assumption) ?_; simp only [Act.put, List.setIfInBounds_toArray, List.set_cons_zero, List.set_cons_succ]
      refine take_no 10 48 rfl rfl (by kernel_rfl) (by kernel_rfl) (by kernel_rfl) (fun _ _ _ h => h) (by kernel_rfl) (by assumption) ?_; simp only [Act.put, List.setIfInBounds_toArray, List.set_cons_zero, List.set_cons_succ]
      refine take_yes 11 49 (.bool false) rfl rfl (by kernel_rfl) (by kernel_rfl) (by kernel_rfl) (fun _ _ _ h => h) (by kernel_rfl) ?_ (by assumption) ?_; (focus (intro w hSw; (try dsimp only at hSw); go_simp; all_goals first | with_reducible rfl)); simp only [Act.put, List.setIfInBounds_toArray, List.set_cons_zero, List.set_cons_succ]
      refine take_yes 12 50 (.bool false) rfl rfl (by kernel_rfl) (by kernel_rfl) (by kernel_rfl) (fun _ _ _ h => h) (by kernel_rfl) ?_ (by assumption) ?_; (focus (intro w hSw; (try dsimp only at hSw); go_simp; all_goals first | with_reducible rfl)); simp only [Act.put, List.setIfInBounds_toArray, List.set_cons_zero, List.set_cons_succ]
      refine take_no 13 51 rfl rfl (by kernel_rfl) (by kernel_rfl) (by kernel_rfl) (fun _ _ _ h => h) (by kernel_rfl) (by assumption) ?_; simp only [Act.put, List.setIfInBounds_toArray, List.set_cons_zero, List.set_cons_succ]
      refine take_no 14 52 rfl rfl (by kernel_rfl) (by kernel_rfl) (by kernel_rfl) (fun _ _ _ h => h) (by kernel_rfl) (by assumption) ?_; simp only [Act.put, List.setIfInBounds_toArray, List.set_cons_zero, List.set_cons_succ]
      refine take_no 15 53 rfl rfl (by kernel_rfl) (by kernel_rfl) (by kernel_rfl) (fun _ _ _ h => h) (by kernel_rfl) (by assumption) ?_; simp only [Act.put, List.setIfInBounds_toArray, List.set_cons_zero, List.set_cons_succ]
      refine take_no 16 54 rfl rfl (by kernel_rfl) (by kernel_rfl) (by kernel_rfl) (fun _ _ _ h => h) (by kernel_rfl) (by assumption) ?_; simp only [Act.put, List.setIfInBounds_toArray, List.set_cons_zero, List.set_cons_succ]
      refine take_no 17 55 rfl rfl (by kernel_rfl) (by kernel_rfl) (by kernel_rfl) (fun _ _ _ h => h) (by kernel_rfl) (by assumption) ?_; simp only [Act.put, List.setIfInBounds_toArray, List.set_cons_zero, List.set_cons_succ]
      refine take_no 18 56 rfl rfl (by kernel_rfl) (by kernel_rfl) (by kernel_rfl) (fun _ _ _ h => h) (by kernel_rfl) (by assumption) ?_; simp only [Act.put, List.setIfInBounds_toArray, List.set_cons_zero, List.set_cons_succ]
      refine take_no 19 57 rfl rfl (by kernel_rfl) (by kernel_rfl) (by kernel_rfl) (fun _ _ _ h => h) (by kernel_rfl) (by assumption) ?_; simp only [Act.put, List.setIfInBounds_toArray, List.set_cons_zero, List.set_cons_succ]
      refine take_yes 20 58 ?_ rfl rfl (by kernel_rfl) (by kernel_rfl) (by kernel_rfl) (fun _ _ _ h => h) (by kernel_rfl) ?_ (by assumption) ?_; rotate_left; (focus (intro w hSw; (try dsimp only at hSw); go_simp; all_goals first | with_reducible rfl)); simp only [Act.put, List.setIfInBounds_toArray, List.set_cons_zero, List.set_cons_succ]
      refine take_yes 21 4 ?_ rfl rfl (by kernel_rfl) (by kernel_rfl) (by kernel_rfl) (fun _ _ _ h => h) (by kernel_rfl) ?_ (by assumption) ?_; rotate_left; (focus (intro w hSw; (try dsimp only at hSw); go_simp; all_goals first | with_reducible rfl)); simp only [Act.put, List.setIfInBounds_toArray, List.set_cons_zero, List.set_cons_succ]
      refine wpAnyH_done (by kernel_rfl) ?_ _
      go_wp2
      go_ret
      exact ⟨by rw [HE.out]; rfl, HB10.out.trans (hO20.below HB10.out.size (fun _ _ h => h))⟩
    | true =>
      obtain ⟨X, hX⟩ : ∃ X, (tagAtF l c.a == f.a) = X := ⟨_, rfl⟩
      obtain ⟨Y, hY⟩ : ∃ Y, (tagAtF l c.b == f.b) = Y := ⟨_, rfl⟩
      rw [hX, hY] at HE
      go_wp2_with fail
      refine wp_region_held_drew (S := fun W => W.cell? ⟨w1.heap.size, 2, none⟩ = some (.int .i64 f.a) ∧ W.cell? ⟨w1.heap.size, 3, none⟩ = some (.int .i64 f.b) ∧ W.cell? ⟨w.heap.size, 1, none⟩ = some (.int .i64 c.a) ∧ W.cell? ⟨w.heap.size, 2, none⟩ = some (.int .i64 c.b) ∧ W.cell? ⟨w.heap.size, 4, none⟩ = some (.string (strB c.s))) (by kernel_rfl) hsd (fun hHeld0 => ?_)
      refine take_yes 0 38 ?_ rfl rfl (by kernel_rfl) (by kernel_rfl) (by kernel_rfl) (fun _ _ _ h => h) (by kernel_rfl) ?_ (by assumption) ?_; rotate_left; (focus (intro w hSw; (try dsimp only at hSw); go_simp; all_goals first | with_reducible rfl)); simp only [Act.put, List.setIfInBounds_toArray, List.set_cons_zero, List.set_cons_succ]
      refine take_yes 1 39 ?_ rfl rfl (by kernel_rfl) (by kernel_rfl) (by kernel_rfl) (fun _ _ _ h => h) (by kernel_rfl) ?_ (by assumption) ?_; rotate_left; (focus (intro w hSw; (try dsimp only at hSw); go_simp; all_goals first | with_reducible rfl)); simp only [Act.put, List.setIfInBounds_toArray, List.set_cons_zero, List.set_cons_succ]
      refine wpAnyH_ready (rs := [2]) (by kernel_rfl) (by simp) ?_
      refine AllReadyH.cons rfl (fun K hK => ?_) AllReadyH.nil
      go_simp
      go_at_call 34; (with_reducible refine (CT.out _).mono ?_); rintro e20 w20 ⟨rfl, hb20⟩; have hO20 := HOd.out.trans (Only.of_below hb20); have hs20 := HS5.out _ hO20
      go_wp2_with fail
      refine hK.out _ _ (hs20) (fun _ => ?_)
      clear hK K
      try simp only [Act.put, List.setIfInBounds_toArray, List.set_cons_zero, List.set_cons_succ]
      refine take_yes 3 41 (.bool true) rfl rfl (by kernel_rfl) (by kernel_rfl) (by kernel_rfl) (fun _ _ _ h => h) (by kernel_rfl) ?_ (by assumption) ?_; (focus (intro w hSw; (try dsimp only at hSw); go_simp; all_goals first | with_reducible rfl)); simp only [Act.put, List.setIfInBounds_toArray, List.set_cons_zero, List.set_cons_succ]
      refine take_yes 4 42 ?_ rfl rfl (by kernel_rfl) (by kernel_rfl) (by kernel_rfl) (fun _ _ _ h => h) (by kernel_rfl) ?_ (by assumption) ?_; rotate_left; (focus (intro w hSw; (try dsimp only at hSw); go_simp; all_goals first | with_reducible rfl)); simp only [Act.put, List.setIfInBounds_toArray, List.set_cons_zero, List.set_cons_succ]
      refine take_yes 5 43 ?_ rfl rfl (by kernel_rfl) (by kernel_rfl) (by kernel_rfl) (fun _ _ _ h => h) (by kernel_rfl) ?_ (by assumption) ?_; rotate_left; (focus (intro w hSw; (try dsimp only at hSw); go_simp; all_goals first | with_reducible rfl)); simp only [Act.put, List.setIfInBounds_toArray, List.set_cons_zero, List.set_cons_succ]
      refine take_yes 6 44 ?_ rfl rfl (by kernel_rfl) (by kernel_rfl) (by kernel_rfl) (fun _ _ _ h => h) (by kernel_rfl) ?_ (by assumption) ?_; rotate_left; (focus (intro w hSw; (try dsimp only at hSw); go_simp; all_goals first | with_reducible rfl)); simp only [Act.put, List.setIfInBounds_toArray, List.set_cons_zero, List.set_cons_succ]
      refine take_yes 8 46 ?_ rfl rfl (by kernel_rfl) (by kernel_rfl) (by kernel_rfl) (fun _ _ _ h => h) (by kernel_rfl) ?_ (by assumption) ?_; rotate_left; (focus (intro w hSw; (try dsimp only at hSw); go_simp; all_goals first | with_reducible rfl)); simp only [Act.put, List.setIfInBounds_toArray, List.set_cons_zero, List.set_cons_succ]
      refine take_yes 9 47 ?_ rfl rfl (by kernel_rfl) (by kernel_rfl) (by kernel_rfl) (fun _ _ _ h => h) (by kernel_rfl) ?_ (by assumption) ?_; rotate_left; (focus (intro w hSw; (try dsimp only at hSw); go_simp; all_goals first | with_reducible rfl)); simp only [Act.put, List.setIfInBounds_toArray, List.set_cons_zero, List.set_cons_succ]
      refine wpAnyH_ready (rs := [7]) (by kernel_rfl) (by simp) ?_
      refine AllReadyH.cons rfl (fun K hK => ?_) AllReadyH.nil
      go_simp
      go_at_call 35; (with_reducible refine (HP10.out _ _ hO20).mono ?_); rintro e30 w30 ⟨rfl, rfl⟩
      go_wp2_with fail
      refine hK.out _ _ (hs20) (fun _ => ?_)
      clear hK K
      try simp only [Act.put, List.setIfInBounds_toArray, List.set_cons_zero, List.set_cons_succ]
      cases X with
      | false =>
        refine take_yes 10 48 (.bool false) rfl rfl (by kernel_rfl) (by kernel_rfl) (by kernel_rfl) (fun _ _ _ h => h) (by kernel_rfl) ?_ (by assumption) ?_; (focus (intro w hSw; (try dsimp only at hSw); go_simp; all_goals first | with_reducible rfl | simp [hX])); simp only [Act.put, List.setIfInBounds_toArray, List.set_cons_zero, List.set_cons_succ]
        refine take_yes 11 49 (.bool false) rfl rfl (by kernel_rfl) (by kernel_rfl) (by kernel_rfl) (fun _ _ _ h => h) (by kernel_rfl) ?_ (by assumption) ?_; (focus (intro w hSw; (try dsimp only at hSw); go_simp; all_goals first | with_reducible rfl)); simp only [Act.put, List.setIfInBounds_toArray, List.set_cons_zero, List.set_cons_succ]
        refine take_yes 12 50 (.bool false) rfl rfl (by kernel_rfl) (by kernel_rfl) (by kernel_rfl) (fun _ _ _ h => h) (by kernel_rfl) ?_ (by assumption) ?_; (focus (intro w hSw; (try dsimp only at hSw); go_simp; all_goals first | with_reducible rfl)); simp only [Act.put, List.setIfInBounds_toArray, List.set_cons_zero, List.set_cons_succ]
        refine take_no 13 51 rfl rfl (by kernel_rfl) (by kernel_rfl) (by kernel_rfl) (fun _ _ _ h => h) (by kernel_rfl) (by assumption) ?_; simp only [Act.put, List.setIfInBounds_toArray, List.set_cons_zero, List.set_cons_succ]
        refine take_no 14 52 rfl rfl (by kernel_rfl) (by kernel_rfl) (by kernel_rfl) (fun _ _ _ h => h) (by kernel_rfl) (by assumption) ?_; simp only [Act.put, List.setIfInBounds_toArray, List.set_cons_zero, List.set_cons_succ]
        refine take_no 15 53 rfl rfl (by kernel_rfl) (by kernel_rfl) (by kernel_rfl) (fun _ _ _ h => h) (by kernel_rfl) (by assumption) ?_; simp only [Act.put, List.setIfInBounds_toArray, List.set_cons_zero, List.set_cons_succ]
        refine take_no 16 54 rfl rfl (by kernel_rfl) (by kernel_rfl) (by kernel_rfl) (fun _ _ _ h => h) (by kernel_rfl) (by assumption) ?_; simp only [Act.put, List.setIfInBounds_toArray, List.set_cons_zero, List.set_cons_succ]
        refine take_no 17 55 rfl rfl (by kernel_rfl) (by kernel_rfl) (by kernel_rfl) (fun _ _ _ h => h) (by kernel_rfl) (by assumption) ?_; simp only [Act.put, List.setIfInBounds_toArray, List.set_cons_zero, List.set_cons_succ]
        refine take_no 18 56 rfl rfl (by kernel_rfl) (by kernel_rfl) (by kernel_rfl) (fun _ _ _ h => h) (by kernel_rfl) (by assumption) ?_; simp only [Act.put, List.setIfInBounds_toArray, List.set_cons_zero, List.set_cons_succ]
        refine take_no 19 57 rfl rfl (by kernel_rfl) (by kernel_rfl) (by kernel_rfl) (fun _ _ _ h => h) (by kernel_rfl) (by assumption) ?_; simp only [Act.put, List.setIfInBounds_toArray, List.set_cons_zero, List.set_cons_succ]
        refine take_yes 20 58 ?_ rfl rfl (by kernel_rfl) (by kernel_rfl) (by kernel_rfl) (fun _ _ _ h => h) (by kernel_rfl) ?_ (by assumption) ?_; rotate_left; (focus (intro w hSw; (try dsimp only at hSw); go_simp; all_goals first | with_reducible rfl)); simp only [Act.put, List.setIfInBounds_toArray, List.set_cons_zero, List.set_cons_succ]
        refine take_yes 21 4 ?_ rfl rfl (by kernel_rfl) (by kernel_rfl) (by kernel_rfl) (fun _ _ _ h => h) (by kernel_rfl) ?_ (by assumption) ?_; rotate_left; (focus (intro w hSw; (try dsimp only at hSw); go_simp; all_goals first | with_reducible rfl)); simp only [Act.put, List.setIfInBounds_toArray, List.set_cons_zero, List.set_cons_succ]
        refine wpAnyH_done (by kernel_rfl) ?_ _
        go_wp2
        go_ret
        exact ⟨by rw [HE.out]; rfl, HB10.out.trans (hO20.below HB10.out.size (fun _ _ h => h))⟩
      | true =>
        refine take_yes 10 48 (.bool true) rfl rfl (by kernel_rfl) (by kernel_rfl) (by kernel_rfl) (fun _ _ _ h => h) (by kernel_rfl) ?_ (by assumption) ?_; (focus (intro w hSw; (try dsimp only at hSw); go_simp; all_goals first | with_reducible rfl | simp [hX])); simp only [Act.put, List.setIfInBounds_toArray, List.set_cons_zero, List.set_cons_succ]
        refine take_yes 11 49 (.bool true) rfl rfl (by kernel_rfl) (by kernel_rfl) (by kernel_rfl) (fun _ _ _ h => h) (by kernel_rfl) ?_ (by assumption) ?_; (focus (intro w hSw; (try dsimp only at hSw); go_simp; all_goals first | with_reducible rfl)); simp only [Act.put, List.setIfInBounds_toArray, List.set_cons_zero, List.set_cons_succ]
        refine take_yes 12 50 (.bool true) rfl rfl (by kernel_rfl) (by kernel_rfl) (by kernel_rfl) (fun _ _ _ h => h) (by kernel_rfl) ?_ (by assumption) ?_; (focus (intro w hSw; (try dsimp only at hSw); go_simp; all_goals first | with_reducible rfl)); simp only [Act.put, List.setIfInBounds_toArray, List.set_cons_zero, List.set_cons_succ]
        refine take_yes 13 51 ?_ rfl rfl (by kernel_rfl) (by kernel_rfl) (by kernel_rfl) (fun _ _ _ h => h) (by kernel_rfl) ?_ (by assumption) ?_; rotate_left; (focus (intro w hSw; (try dsimp only at hSw); go_simp; all_goals first | with_reducible rfl)); simp only [Act.put, List.setIfInBounds_toArray, List.set_cons_zero, List.set_cons_succ]
        refine take_yes 14 52 ?_ rfl rfl (by kernel_rfl) (by kernel_rfl) (by kernel_rfl) (fun _ _ _ h => h) (by kernel_rfl) ?_ (by assumption) ?_; rotate_left; (focus (intro w hSw; (try dsimp only at hSw); go_simp; all_goals first | with_reducible rfl)); simp only [Act.put, List.setIfInBounds_toArray, List.set_cons_zero, List.set_cons_succ]
        refine take_yes 15 53 ?_ rfl rfl (by kernel_rfl) (by kernel_rfl) (by kernel_rfl) (fun _ _ _ h => h) (by kernel_rfl) ?_ (by assumption) ?_; rotate_left; (focus (intro w hSw; (try dsimp only at hSw); go_simp; all_goals first | with_reducible rfl)); simp only [Act.put, List.setIfInBounds_toArray, List.set_cons_zero, List.set_cons_succ]
        refine take_yes 17 55 ?_ rfl rfl (by kernel_rfl) (by kernel_rfl) (by kernel_rfl) (fun _ _ _ h => h) (by kernel_rfl) ?_ (by assumption) ?_; rotate_left; (focus (intro w hSw; (try dsimp only at hSw); go_simp; all_goals first | with_reducible rfl)); simp only [Act.put, List.setIfInBounds_toArray, List.set_cons_zero, List.set_cons_succ]
        refine take_yes 18 56 ?_ rfl rfl (by kernel_rfl) (by kernel_rfl) (by kernel_rfl) (fun _ _ _ h => h) (by kernel_rfl) ?_ (by assumption) ?_; rotate_left; (focus (intro w hSw; (try dsimp only at hSw); go_simp; all_goals first | with_reducible rfl)); simp only [Act.put, List.setIfInBounds_toArray, List.set_cons_zero, List.set_cons_succ]
        refine wpAnyH_ready (rs := [16]) (by kernel_rfl) (by simp) ?_
        refine AllReadyH.cons rfl (fun K hK => ?_) AllReadyH.nil
        go_simp
        go_at_call 35; (with_reducible refine (HP10.out _ _ hO20).mono ?_); rintro e30 w30 ⟨rfl, rfl⟩
        go_wp2_with fail
        refine hK.out _ _ (hs20) (fun _ => ?_)
        clear hK K
        try simp only [Act.put, List.setIfInBounds_toArray, List.set_cons_zero, List.set_cons_succ]
        refine take_yes 19 57 (.bool Y) rfl rfl (by kernel_rfl) (by kernel_rfl) (by kernel_rfl) (fun _ _ _ h => h) (by kernel_rfl) ?_ (by assumption) ?_; (focus (intro w hSw; (try dsimp only at hSw); go_simp; all_goals first | with_reducible rfl | simp [hY])); simp only [Act.put, List.setIfInBounds_toArray, List.set_cons_zero, List.set_cons_succ]
        refine take_yes 20 58 ?_ rfl rfl (by kernel_rfl) (by kernel_rfl) (by kernel_rfl) (fun _ _ _ h => h) (by kernel_rfl) ?_ (by assumption) ?_; rotate_left; (focus (intro w hSw; (try dsimp only at hSw); go_simp; all_goals first | with_reducible rfl)); simp only [Act.put, List.setIfInBounds_toArray, List.set_cons_zero, List.set_cons_succ]
        refine take_yes 21 4 ?_ rfl rfl (by kernel_rfl) (by kernel_rfl) (by kernel_rfl) (fun _ _ _ h => h) (by kernel_rfl) ?_ (by assumption) ?_; rotate_left; (focus (intro w hSw; (try dsimp only at hSw); go_simp; all_goals first | with_reducible rfl)); simp only [Act.put, List.setIfInBounds_toArray, List.set_cons_zero, List.set_cons_succ]
        refine wpAnyH_done (by kernel_rfl) ?_ _
        go_wp2
        go_ret
        exact ⟨by rw [HE.out]; rfl, HB10.out.trans (hO20.below HB10.out.size (fun _ _ h => h))⟩

end Go.Proofs.Ytinkjeifkjfkgaa
