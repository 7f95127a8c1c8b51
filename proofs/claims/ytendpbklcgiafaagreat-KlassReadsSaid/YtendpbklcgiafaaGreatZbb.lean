/- KlassReads' walk (layer 14). -/
import Derived.Test.YtendpbklcgiafaaGreatZba
namespace Go.Proofs.YtendpbklcgiafaaGreat
set_option maxRecDepth 100000
open Go.RowKit

/-- What may be isn't too great. -/
theorem right_sm {f : FileD} (hok : ∀ x ∈ f.pool, x.ok) (hr : docRight f = true) : FileSm f ∧ checkF f.pool = true := by
  have h1 := (right_parts hr).1
  have hc : checkF f.pool = true := by rw [check_right f.pool hok]; exact h1
  refine ⟨⟨?_, fun c hm => ?_⟩, hc⟩
  · have h := hc
    unfold checkF at h
    rw [Bool.and_eq_true, Bool.and_eq_true] at h
    have := (of_decide_eq_true h.1.1).2
    omega
  · obtain ⟨k, hk, he⟩ := List.mem_iff_getElem.1 hm
    rcases may_cases hc k c (by rw [← he]; exact List.getElem?_eq_getElem hk) with ⟨_, h⟩ | ⟨_, h⟩
    · rw [h]; exact Nat.zero_le _
    · have := h.text
      omega

set_option maxHeartbeats 8000000 in
theorem klassReads_calls (A : Option Addr) (n cap : Nat) (bs : List UInt8) (w : World) (hB : ByteSl w Empty A n cap bs) :
    Calls Tryz.prog 4 #[.slice A n cap] w fun e w' => e = .returned (.bool true) ∧ Below w.heap.size w w' := by
  have hnc : n ≤ cap := hB.2.1
  have hcm : cap ≤ 9223372036854775807 := by have h2 := hB.2.2.1; unfold maxLen at h2; omega
  have HB := Lib.hid hB
  clear hB
  go_enter Tryz.func4, Tryz.ntmps4
  go_wp2_with fail
  refine (fixed14_any _).mono ?_
  rintro e w1 ⟨rfl, hb1⟩
  have HB1 := Lib.hid hb1
  have HS1 := Lib.hid (HB.out.only (Only.of_below (S := Empty) hb1) (fun _ _ h => h))
  clear hb1
  by_cases hbig : 3000 < n
  · have hd : decide ((3000 : Int) < (n : Int)) = true := decide_eq_true (by omega)
    go_wp2
    go_ret
    exact ⟨rfl, HB1.out⟩
  · have hd : decide ((3000 : Int) < (n : Int)) = false := decide_eq_false (by omega)
    have hn : n ≤ 3000 := by omega
    have CP := kParse_any A n cap bs w1 HS1.out (by omega)
    have Hn := Lib.hid hn
    have CP := Lib.hid CP
    clear hbig hn
    go_wp2_with fail
    refine CP.out.mono ?_
    rintro e w2 ⟨hp, hb2⟩
    have HB2 := Lib.hid (HB1.out.trans (hb2.mono HB1.out.size))
    have HS2 := Lib.hid (HS1.out.only (Only.of_below (S := Empty) hb2) (fun _ _ h => h))
    clear hb2 CP
    rcases hp with ⟨f, cs, hR, rfl, hrep⟩ | ⟨-, x, ⟨hx, -⟩, rfl⟩
    · obtain ⟨A2, n2, cap2, Af, nf, cf, Am, nm, cm, rfl, hI⟩ := file_in hrep
      obtain ⟨y, hy, hyb⟩ := hR
      rw [List.append_nil] at hyb
      subst hyb
      rw [file_doc f hI.ok] at hy
      have hr : docRight f = true := by
        cases h : docRight f with
        | true => rfl
        | false => rw [h] at hy; cases hy
      rw [if_pos hr] at hy
      have hdoc : docB f = bs := Option.some.inj hy
      obtain ⟨hsm, hck⟩ := right_sm hI.ok hr
      have hpar := right_parts hr
      obtain ⟨x0, hx0⟩ : ∃ x0, f.this = x0 := ⟨_, rfl⟩
      obtain ⟨y0, hy0⟩ : ∃ y0, f.super = y0 := ⟨_, rfl⟩
      have CR : Hid (∀ W, Below w2.heap.size w2 W → Calls Tryz.prog 9 #[.agg #[.slice A2 n2 cap2, .int .i64 x0, .int .i64 y0, .slice Af nf cf, .slice Am nm cm]] W fun e w' => e = .returned (.bool true) ∧ Below W.heap.size W w') := Lib.hid (fun W h => by
        have := r14Right_any A2 n2 cap2 Af nf cf Am nm cm x0 y0 f W (hI.below h) hsm hx0 hy0
        rwa [hr] at this)
      have hl0 := HB.out.1
      have hn3 := Hn.out
      have CY : Hid (∀ W, Below w2.heap.size w2 W → Calls Tryz.prog 12 #[.agg #[.slice A2 n2 cap2, .int .i64 x0, .int .i64 y0, .slice Af nf cf, .slice Am nm cm]] W (Gives W bs)) := Lib.hid (fun W h => by
        have := r14Bytes_any A2 n2 cap2 Af nf cf Am nm cm x0 y0 f W (hI.below h) hck (right_zero hpar.1) (by rw [hdoc]; omega) hpar.2.2.2 hx0 hy0
        rwa [hdoc] at this)
      rw [hx0, hy0]
      obtain ⟨W3, hW3⟩ : ∃ W3, W3 = w2.alloc (.cells #[.slice A2 n2 cap2, .int .i64 x0, .int .i64 y0, .slice Af nf cf, .slice Am nm cm] 26) := ⟨_, rfl⟩
      have hK3 : Blk W3 w2.heap.size 26 #[.slice A2 n2 cap2, .int .i64 x0, .int .i64 y0, .slice Af nf cf, .slice Am nm cm] := by rw [hW3]; exact Blk.new _ _ _
      have hb3 : Below w2.heap.size w2 W3 := by rw [hW3]; exact (Below.refl _ _).alloc (Nat.le_refl _) _
      have HB3 := Lib.hid hb3
      have HW3 := Lib.hid hW3
      have HSS : Hid (∀ W, Below W3.heap.size W3 W → W.cell? ⟨w2.heap.size, 0, none⟩ = some (.slice A2 n2 cap2) ∧ W.cell? ⟨w2.heap.size, 1, none⟩ = some (.int .i64 x0) ∧ W.cell? ⟨w2.heap.size, 2, none⟩ = some (.int .i64 y0) ∧ W.cell? ⟨w2.heap.size, 3, none⟩ = some (.slice Af nf cf) ∧ W.cell? ⟨w2.heap.size, 4, none⟩ = some (.slice Am nm cm) ∧
          (convert 29 9 (.slice A n cap)).run Tryz.prog W = .ok (.string (strB bs)) W) := Lib.hid (fun W h => by
        obtain ⟨g0, g1, g2, g3, g4⟩ := five hK3 h
        exact ⟨g0, g1, g2, g3, g4, conv_bytes (HS2.out.only (Only.of_below (S := Empty) (hb3.trans (h.mono hb3.size))) (fun _ _ h => h))⟩)
      clear hK3 hb3 hW3 hrep hI hy hr hdoc hsm hck hpar hx0 hy0 hl0 hn3
      go_wp2_with fail
      rw [← HW3.out]
      refine wp_region_held_drew (S := fun W => W.cell? ⟨w2.heap.size, 0, none⟩ = some (.slice A2 n2 cap2) ∧ W.cell? ⟨w2.heap.size, 1, none⟩ = some (.int .i64 x0) ∧ W.cell? ⟨w2.heap.size, 2, none⟩ = some (.int .i64 y0) ∧ W.cell? ⟨w2.heap.size, 3, none⟩ = some (.slice Af nf cf) ∧ W.cell? ⟨w2.heap.size, 4, none⟩ = some (.slice Am nm cm) ∧
          (convert 29 9 (.slice A n cap)).run Tryz.prog W = .ok (.string (strB bs)) W) (by kernel_rfl) (HSS.out _ ((Below.refl _ _).drewN 1)) (fun hHeld0 => ?_)
      refine take_yes 0 28 (.agg #[.slice A2 n2 cap2, .int .i64 x0, .int .i64 y0, .slice Af nf cf, .slice Am nm cm]) rfl rfl (by kernel_rfl) (by kernel_rfl) (by kernel_rfl) (fun _ _ _ h => h) (by kernel_rfl) ?_ (by assumption) ?_; (focus (intro w hSw; (try dsimp only at hSw); go_simp; all_goals first | with_reducible rfl)); simp only [Act.put, List.setIfInBounds_toArray, List.set_cons_zero, List.set_cons_succ]
      refine wpAnyH_ready (rs := [1]) (by kernel_rfl) (by simp) ?_
      refine AllReadyH.cons rfl (fun K hK => ?_) AllReadyH.nil
      go_simp
      refine (CR.out _ (HB3.out.drewN 1)).mono ?_
      rintro e w7 ⟨rfl, hb7⟩
      have HB7 : Hid (Below W3.heap.size W3 w7) := Lib.hid (((Below.refl W3.heap.size W3).drewN 1).trans hb7)
      clear hb7 CR
      go_wp2_with fail
      refine hK.out _ _ ((HSS.out _ HB7.out)) (fun _ => ?_)
      clear hK K
      try simp only [Act.put, List.setIfInBounds_toArray, List.set_cons_zero, List.set_cons_succ]
      refine take_yes 2 30 (.bool true) rfl rfl (by kernel_rfl) (by kernel_rfl) (by kernel_rfl) (fun _ _ _ h => h) (by kernel_rfl) ?_ (by assumption) ?_; (focus (intro w hSw; (try dsimp only at hSw); go_simp; all_goals first | with_reducible rfl)); simp only [Act.put, List.setIfInBounds_toArray, List.set_cons_zero, List.set_cons_succ]
      refine take_yes 3 31 (.agg #[.slice A2 n2 cap2, .int .i64 x0, .int .i64 y0, .slice Af nf cf, .slice Am nm cm]) rfl rfl (by kernel_rfl) (by kernel_rfl) (by kernel_rfl) (fun _ _ _ h => h) (by kernel_rfl) ?_ (by assumption) ?_; (focus (intro w hSw; (try dsimp only at hSw); go_simp; all_goals first | with_reducible rfl)); simp only [Act.put, List.setIfInBounds_toArray, List.set_cons_zero, List.set_cons_succ]
      refine take_yes 6 34 ?_ rfl rfl (by kernel_rfl) (by kernel_rfl) (by kernel_rfl) (fun _ _ _ h => h) (by kernel_rfl) ?_ (by assumption) ?_; rotate_left; (focus (intro w hSw; (try dsimp only at hSw); go_simp; all_goals first | with_reducible rfl)); simp only [Act.put, List.setIfInBounds_toArray, List.set_cons_zero, List.set_cons_succ]
      refine take_yes 7 35 (.string (strB bs)) rfl rfl (by kernel_rfl) (by kernel_rfl) (by kernel_rfl) (fun _ _ _ h => h) (by kernel_rfl) ?_ (by assumption) ?_; (focus (intro w hSw; (try dsimp only at hSw); go_simp; all_goals first | with_reducible rfl)); simp only [Act.put, List.setIfInBounds_toArray, List.set_cons_zero, List.set_cons_succ]
      refine wpAnyH_ready (rs := [4]) (by kernel_rfl) (by simp) ?_
      refine AllReadyH.cons rfl (fun K hK => ?_) AllReadyH.nil
      go_simp
      refine (CY.out _ (HB3.out.trans (HB7.out.mono HB3.out.size))).mono ?_
      rintro e w8 ⟨B8, m8, c8, rfl, hG⟩
      have HB8 : Hid (Below W3.heap.size W3 w8) := Lib.hid (HB7.out.trans (hG.below.mono HB7.out.size))
      have hc8 : (convert 29 9 (.slice B8 m8 c8)).run Tryz.prog w8 = .ok (.string (strB bs)) w8 := conv_bytes hG.byte
      clear hG CY
      go_wp2_with fail
      refine hK.out _ _ ((HSS.out _ HB8.out)) (fun _ => ?_)
      clear hK K
      try simp only [Act.put, List.setIfInBounds_toArray, List.set_cons_zero, List.set_cons_succ]
      refine wpAnyH_ready (rs := [5]) (by kernel_rfl) (by simp) ?_
      refine AllReadyH.cons rfl (fun K hK => ?_) AllReadyH.nil
      go_simp
      refine hK.out _ _ ((HSS.out _ HB8.out)) (fun _ => ?_)
      clear hK K
      try simp only [Act.put, List.setIfInBounds_toArray, List.set_cons_zero, List.set_cons_succ]
      refine take_yes 8 36 ?_ rfl rfl (by kernel_rfl) (by kernel_rfl) (by kernel_rfl) (fun _ _ _ h => h) (by kernel_rfl) ?_ (by assumption) ?_; rotate_left; (focus (intro w hSw; (try dsimp only at hSw); go_simp; all_goals first | with_reducible rfl)); simp only [Act.put, List.setIfInBounds_toArray, List.set_cons_zero, List.set_cons_succ]
      refine take_yes 9 37 ?_ rfl rfl (by kernel_rfl) (by kernel_rfl) (by kernel_rfl) (fun _ _ _ h => h) (by kernel_rfl) ?_ (by assumption) ?_; rotate_left; (focus (intro w hSw; (try dsimp only at hSw); go_simp; all_goals first | with_reducible rfl)); simp only [Act.put, List.setIfInBounds_toArray, List.set_cons_zero, List.set_cons_succ]
      refine take_yes 10 2 (.bool true) rfl rfl (by kernel_rfl) (by kernel_rfl) (by kernel_rfl) (fun _ _ _ h => h) (by kernel_rfl) ?_ (by assumption) ?_; (focus (intro w hSw; (try dsimp only at hSw); go_simp; all_goals first | with_reducible rfl)); simp only [Act.put, List.setIfInBounds_toArray, List.set_cons_zero, List.set_cons_succ]
      refine wpAnyH_done (by kernel_rfl) ?_ _
      go_wp2
      go_ret
      exact ⟨rfl, HB2.out.trans ((HB3.out.trans (HB8.out.mono HB3.out.size)).mono HB2.out.size)⟩
    · have hz : ∀ W, FileIn W none 0 0 none 0 0 none 0 0 zFile := fun W => ⟨RowSl.nil_ _ _ _ _ (by unfold maxLen; omega), by simp [zFile], rowS_nil _ _ _, rowS_nil _ _ _⟩
      have CS : Hid (∀ W, Calls Tryz.prog 13 #[.agg #[.slice none 0 0, .int .i64 0, .int .i64 0, .slice none 0 0, .slice none 0 0], .agg #[.slice none 0 0, .int .i64 0, .int .i64 0, .slice none 0 0, .slice none 0 0]] W fun e w' => e = .returned (.bool true) ∧ Below W.heap.size W w') := Lib.hid (fun W => r14Same_same none 0 0 none 0 0 none 0 0 none 0 none 0 none 0 0 0 zFile W (hz W) (hz W) (by omega) (by simp [zFile]) (by omega) (by omega))
      have HB3 : Hid (∀ cs : Array Value, Below w.heap.size w (w2.alloc (.cells cs 26))) := Lib.hid (fun cs => HB2.out.alloc HB2.out.size _)
      clear hz
      rcases hx with rfl | rfl
      · go_wp2_with fail
        refine (CS.out _).mono ?_
        rintro e w4 ⟨rfl, hb4⟩
        have HB4 := Lib.hid ((HB3.out _).trans (hb4.mono (HB3.out _).size))
        clear hb4 CS
        go_wp2
        go_ret
        exact ⟨rfl, HB4.out⟩
      · go_wp2_with fail
        refine (CS.out _).mono ?_
        rintro e w4 ⟨rfl, hb4⟩
        have HB4 := Lib.hid ((HB3.out _).trans (hb4.mono (HB3.out _).size))
        clear hb4 CS
        go_wp2
        go_ret
        exact ⟨rfl, HB4.out⟩

end Go.Proofs.YtendpbklcgiafaaGreat

/- Proved: whatever bytes are handed in, KlassReads returns true. Conditions: none but the row's own (the argument can be read as data). -/
namespace Go.Proofs.YtendpbklcgiafaaGreat
open Go.ChangeShapes Go.WideShapes Go.ChangeAt Go.RowKit Go.Joins

set_option maxRecDepth 100000 in
theorem klassReads_lifted (os : Os) (started : os.Started) (H : Type) (enc : TypeId × Value → H) :
    ReturnsInHanded {} Tryz.checked os 4 .any (Rows.klassReadsSpec.pre6 enc Tryz.prog Tryz.f4 Rows.klassReadsRow.domain false) (Rows.klassReadsSpec.post enc Tryz.prog Tryz.f4 false true false false) := by
  refine returnsInHanded_of_change (C := Tryz.checked) Tryz.ownKnobs started (by kernel_rfl) Tryz.func4
    (ChangeSpec.witness6 (enc := enc) (C := Tryz.checked) false ⟨#[], #[.slice none 0 0], []⟩ 8 (by kernel_rfl) (by kernel_rfl) (by kernel_rfl) (by kernel_rfl)) ?_
  intro W base args ds gs before hval0 hW hcnd _
  have hval : ∀ (j : Nat) t v, Tryz.f4.params[j]? = some t → args[j]? = some v → Value.okWide Tryz.prog W .any base t v := hval0
  have hW' := hW
  obtain ⟨p, q, hA0, hV, rfl, hfz, hnd⟩ := hW
  have hA : DataW.TrodAll enc Tryz.prog W 0 (fun _ => true) true Tryz.f4.params.toList args.toList ds p := hA0
  rw [Tryz.params4] at hA hval
  obtain ⟨v0, vs0, d0, ds0, p0, q0, hargs, rfl, rfl, h0, r0⟩ := trodAll_cons hA
  obtain ⟨rfl, rfl, rfl⟩ := trodAll_nil r0
  obtain rfl : args = #[v0] := by cases args; simp_all
  obtain ⟨rfl, rfl⟩ := trodVars_none hV
  obtain ⟨A, n, cap, xs, rfl, hX, -⟩ := open_bytes (hval 0 29 v0 rfl rfl) h0
  refine (klassReads_calls A n cap xs W (hX.mono (fun _ _ h => h.elim))).mono fun e W' ⟨he, hb⟩ => ?_
  subst he
  exact ⟨_, rfl, law_post Tryz.allLaid (of_decide_eq_true (by kernel_rfl)) rfl Tryz.underlying4 rfl hW' rfl rfl rfl hb⟩

/-- The statement: KlassReads returns true, and its arguments read as they did. -/
theorem klassReads_holds : Rows.KlassReadsSaid :=
  OpenClaim.holds_of_wide 4 Tryz.f4 rfl rfl rfl rfl rfl rfl rfl ⟨rfl, rfl, rfl, rfl, rfl⟩ rfl rfl rfl rfl rfl (by kernel_rfl) Tryz.func4 (by kernel_rfl)
    (of_decide_eq_true (by kernel_rfl)) (by unfold Func.isWrapper; first | (rw [if_pos (by decide +kernel)]; kernel_rfl) | (rw [if_neg (by decide +kernel)]; exact ⟨rfl, rfl⟩))
    (fun os started H enc _ => klassReads_lifted os started H enc)

end Go.Proofs.YtendpbklcgiafaaGreat
