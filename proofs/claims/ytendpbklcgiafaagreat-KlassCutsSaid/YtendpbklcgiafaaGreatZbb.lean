/- KlassReads' walk (layer 14). -/
import Derived.Test.YtendpbklcgiafaaGreatZba
namespace Go.Proofs.YtendpbklcgiafaaGreat
set_option maxRecDepth 100000
open Go.RowKit

/-- What may be isn't too great. -/
theorem right_sm {f : FileD} (hok : ∀ x ∈ f.pool, x.ok) (hr : docRight f = true) : FileSm f ∧ checkF f.pool = true := by
  have h1 := (right_parts hr).1
  have hc : checkF f.pool = true := by rw [check_right f.pool hok]; exact h1
  refine ⟨⟨?_, fun c hm => ?_⟩, hc⟩
  · have h := hc
    unfold checkF at h
    rw [Bool.and_eq_true, Bool.and_eq_true] at h
    have := (of_decide_eq_true h.1.1).2
    omega
  · obtain ⟨k, hk, he⟩ := List.mem_iff_getElem.1 hm
    rcases may_cases hc k c (by rw [← he]; exact List.getElem?_eq_getElem hk) with ⟨_, h⟩ | ⟨_, h⟩
    · rw [h]; exact Nat.zero_le _
    · have := h.text
      omega

set_option maxHeartbeats 8000000 in
theorem klassReads_calls (A : Option Addr) (n cap : Nat) (bs : List UInt8) (w : World) (hB : ByteSl w Empty A n cap bs) :
    Calls Tryz.prog 4 #[.slice A n cap] w fun e w' => e = .returned (.bool true) ∧ Below w.heap.size w w' := by
  have hnc : n ≤ cap := hB.2.1
  have hcm : cap ≤ 9223372036854775807 := by have h2 := hB.2.2.1; unfold maxLen at h2; omega
  have HB := Lib.hid hB
  clear hB
  go_enter Tryz.func4, Tryz.ntmps4
  go_wp2_with fail
  refine (fixed14_any _).mono ?_
  rintro e w1 ⟨rfl, hb1⟩
  have HB1 := Lib.hid hb1
  have HS1 := Lib.hid (HB.out.only (Only.of_below (S := Empty) hb1) (fun _ _ h => h))
  clear hb1
  by_cases hbig : 3000 < n
  · have hd : decide ((3000 : Int) < (n : Int)) = true := decide_eq_true (by omega)
    go_wp2
    go_ret
    exact ⟨rfl, HB1.out⟩
  · have hd : decide ((3000 : Int) < (n : Int)) = false := decide_eq_false (by omega)
    have hn : n ≤ 3000 := by omega
    have CP := kParse_any A n cap bs w1 HS1.out (by omega)
    have Hn := Lib.hid hn
    have CP := Lib.hid CP
    clear hbig hn
    go_wp2_with fail
    refine CP.out.mono ?_
    rintro e w2 ⟨hp, hb2⟩
    have HB2 := Lib.hid (HB1.out.trans (hb2.mono HB1.out.size))
    have HS2 := Lib.hid (HS1.out.only (Only.of_below (S := Empty) hb2) (fun _ _ h => h))
    clear hb2 CP
    rcases hp with ⟨f, cs, hR, rfl, hrep⟩ | ⟨-, x, ⟨hx, -⟩, rfl⟩
    · obtain ⟨A2, n2, cap2, Af, nf, cf, Am, nm, cm, rfl, hI⟩ := file_in hrep
      obtain ⟨y, hy, hyb⟩ := hR
      rw [List.append_nil] at hyb
      subst hyb
      rw [file_doc f hI.ok] at hy
      have hr : docRight f = true := by
        cases h : docRight f with
        | true => rfl
        | false => rw [h] at hy; cases hy
      rw [if_pos hr] at hy
      have hdoc : docB f = bs := Option.some.inj hy
      obtain ⟨hsm, hck⟩ := right_sm hI.ok hr
      have hpar := right_parts hr
      obtain ⟨x0, hx0⟩ : ∃ x0, f.this = x0 := ⟨_, rfl⟩
      obtain ⟨y0, hy0⟩ : ∃ y0, f.super = y0 := ⟨_, rfl⟩
      have CR : Hid (∀ W, Below w2.heap.size w2 W → Calls Tryz.prog 9 #[.agg #[.slice A2 n2 cap2, .int .i64 x0, .int .i64 y0, .slice Af nf cf, .slice Am nm cm]] W fun e w' => e = .returned (.bool true) ∧ Below W.heap.size W w') := Lib.hid (fun W h => by
        have := r14Right_any A2 n2 cap2 Af nf cf Am nm cm x0 y0 f W (hI.below h) hsm hx0 hy0
        rwa [hr] at this)
      have hl0 := HB.out.1
      have hn3 := Hn.out
      have CY : Hid (∀ W, Below w2.heap.size w2 W → Calls Tryz.prog 12 #[.agg #[.slice A2 n2 cap2, .int .i64 x0, .int .i64 y0, .slice Af nf cf, .slice Am nm cm]] W (Gives W bs)) := Lib.hid (fun W h => by
        have := r14Bytes_any A2 n2 cap2 Af nf cf Am nm cm x0 y0 f W (hI.below h) hck (right_zero hpar.1) (by rw [hdoc]; omega) hpar.2.2.2 hx0 hy0
        rwa [hdoc] at this)
      rw [hx0, hy0]
      obtain ⟨W3, hW3⟩ : ∃ W3, W3 = w2.alloc (.cells #[.slice A2 n2 cap2, .int .i64 x0, .int .i64 y0, .slice Af nf cf, .slice Am nm cm] 26) := ⟨_, rfl⟩
      have hK3 : Blk W3 w2.heap.size 26 #[.slice A2 n2 cap2, .int .i64 x0, .int .i64 y0, .slice Af nf cf, .slice Am nm cm] := by rw [hW3]; exact Blk.new _ _ _
      have hb3 : Below w2.heap.size w2 W3 := by rw [hW3]; exact (Below.refl _ _).alloc (Nat.le_refl _) _
      have HB3 := Lib.hid hb3
      have HW3 := Lib.hid hW3
      have HSS : Hid (∀ W, Below W3.heap.size W3 W → W.cell? ⟨w2.heap.size, 0, none⟩ = some (.slice A2 n2 cap2) ∧ W.cell? ⟨w2.heap.size, 1, none⟩ = some (.int .i64 x0) ∧ W.cell? ⟨w2.heap.size, 2, none⟩ = some (.int .i64 y0) ∧ W.cell? ⟨w2.heap.size, 3, none⟩ = some (.slice Af nf cf) ∧ W.cell? ⟨w2.heap.size, 4, none⟩ = some (.slice Am nm cm) ∧
          (convert 29 9 (.slice A n cap)).run Tryz.prog W = .ok (.string (strB bs)) W) := Lib.hid (fun W h => by
        obtain ⟨g0, g1, g2, g3, g4⟩ := five hK3 h
        exact ⟨g0, g1, g2, g3, g4, conv_bytes (HS2.out.only (Only.of_below (S := Empty) (hb3.trans (h.mono hb3.size))) (fun _ _ h => h))⟩)
      clear hK3 hb3 hW3 hrep hI hy hr hdoc hsm hck hpar hx0 hy0 hl0 hn3
      go_wp2_with fail
      rw [← HW3.out]
      refine wp_region_held_drew (S := fun W => W.cell? ⟨w2.heap.size, 0, none⟩ = some (.slice A2 n2 cap2) ∧ W.cell? ⟨w2.heap.size, 1, none⟩ = some (.int .i64 x0) ∧ W.cell? ⟨w2.heap.size, 2, none⟩ = some (.int .i64 y0) ∧ W.cell? ⟨w2.heap.size, 3, none⟩ = some (.slice Af nf cf) ∧ W.cell? ⟨w2.heap.size, 4, none⟩ = some (.slice Am nm cm) ∧
          (convert 29 9 (.slice A n cap)).run Tryz.prog W = .ok (.string (strB bs)) W) (by kernel_rfl) (HSS.out _ ((Below.refl _ _).drewN 1)) (fun hHeld0 => ?_)
      refine take_yes 0 28 (.agg #[.slice A2 n2 cap2, .int .i64 x0, .int .i64 y0, .slice Af nf cf, .slice Am nm cm]) rfl rfl (by kernel_rfl) (by kernel_rfl) (by kernel_rfl) (fun _ _ _ h => h) (by kernel_rfl) ?_ (by assumption) ?_; (focus (intro w hSw; (try dsimp only at hSw); go_simp; all_goals first | with_reducible rfl)); simp only [Act.put, List.setIfInBounds_toArray, List.set_cons_zero, List.set_cons_succ]
      refine wpAnyH_ready (rs := [1]) (by kernel_rfl) (by simp) ?_
      refine AllReadyH.cons rfl (fun K hK => ?_) AllReadyH.nil
      go_simp
      refine (CR.out _ (HB3.out.drewN 1)).mono ?_
      rintro e w7 ⟨rfl, hb7⟩
      have HB7 : Hid (Below W3.heap.size W3 w7) := Lib.hid (((Below.refl W3.heap.size W3).drewN 1).trans hb7)
      clear hb7 CR
      go_wp2_with fail
      refine hK.out _ _ ((HSS.out _ HB7.out)) (fun _ => ?_)
      clear hK K
      try simp only [Act.put, List.setIfInBounds_toArray, List.set_cons_zero, List.set_cons_succ]
      refine take_yes 2 30 (.bool true) rfl rfl (by kernel_rfl) (by kernel_rfl) (by kernel_rfl) (fun _ _ _ h => h) (by kernel_rfl) ?_ (by assumption) ?_; (focus (intro w hSw; (try dsimp only at hSw); go_simp; all_goals first | with_reducible rfl)); simp only [Act.put, List.setIfInBounds_toArray, List.set_cons_zero, List.set_cons_succ]
      refine take_yes 3 31 (.agg #[.slice A2 n2 cap2, .int .i64 x0, .int .i64 y0, .slice Af nf cf, .slice Am nm cm]) rfl rfl (by kernel_rfl) (by kernel_rfl) (by kernel_rfl) (fun _ _ _ h => h) (by kernel_rfl) ?_ (by assumption) ?_; (focus (intro w hSw; (try dsimp only at hSw); go_simp; all_goals first | with_reducible rfl)); simp only [Act.put, List.setIfInBounds_toArray, List.set_cons_zero, List.set_cons_succ]
      refine take_yes 6 34 ?_ rfl rfl (by kernel_rfl) (by kernel_rfl) (by kernel_rfl) (fun _ _ _ h => h) (by kernel_rfl) ?_ (by assumption) ?_; rotate_left; (focus (intro w hSw; (try dsimp only at hSw); go_simp; all_goals first | with_reducible rfl)); simp only [Act.put, List.setIfInBounds_toArray, List.set_cons_zero, List.set_cons_succ]
      refine take_yes 7 35 (.string (strB bs)) rfl rfl (by kernel_rfl) (by kernel_rfl) (by kernel_rfl) (fun _ _ _ h => h) (by kernel_rfl) ?_ (by assumption) ?_; (focus (intro w hSw; (try dsimp only at hSw); go_simp; all_goals first | with_reducible rfl)); simp only [Act.put, List.setIfInBounds_toArray, List.set_cons_zero, List.set_cons_succ]
      refine wpAnyH_ready (rs := [4]) (by kernel_rfl) (by simp) ?_
      refine AllReadyH.cons rfl (fun K hK => ?_) AllReadyH.nil
      go_simp
      refine (CY.out _ (HB3.out.trans (HB7.out.mono HB3.out.size))).mono ?_
      rintro e w8 ⟨B8, m8, c8, rfl, hG⟩
      have HB8 : Hid (Below W3.heap.size W3 w8) := Lib.hid (HB7.out.trans (hG.below.mono HB7.out.size))
      have hc8 : (convert 29 9 (.slice B8 m8 c8)).run Tryz.prog w8 = .ok (.string (strB bs)) w8 := conv_bytes hG.byte
      clear hG CY
      go_wp2_with fail
      refine hK.out _ _ ((HSS.out _ HB8.out)) (fun _ => ?_)
      clear hK K
      try simp only [Act.put, List.setIfInBounds_toArray, List.set_cons_zero, List.set_cons_succ]
      refine wpAnyH_ready (rs := [5]) (by kernel_rfl) (by simp) ?_
      refine AllReadyH.cons rfl (fun K hK => ?_) AllReadyH.nil
      go_simp
      refine hK.out _ _ ((HSS.out _ HB8.out)) (fun _ => ?_)
      clear hK K
      try simp only [Act.put, List.setIfInBounds_toArray, List.set_cons_zero, List.set_cons_succ]
      refine take_yes 8 36 ?_ rfl rfl (by kernel_rfl) (by kernel_rfl) (by kernel_rfl) (fun _ _ _ h => h) (by kernel_rfl) ?_ (by assumption) ?_; rotate_left; (focus (intro w hSw; (try dsimp only at hSw); go_simp; all_goals first | with_reducible rfl)); simp only [Act.put, List.setIfInBounds_toArray, List.set_cons_zero, List.set_cons_succ]
      refine take_yes 9 37 ?_ rfl rfl (by kernel_rfl) (by kernel_rfl) (by kernel_rfl) (fun _ _ _ h => h) (by kernel_rfl) ?_ (by assumption) ?_; rotate_left; (focus (intro w hSw; (try dsimp only at hSw); go_simp; all_goals first | with_reducible rfl)); simp only [Act.put, List.setIfInBounds_toArray, List.set_cons_zero, List.set_cons_succ]
      refine take_yes 10 2 (.bool true) rfl rfl (by kernel_rfl) (by kernel_rfl) (by kernel_rfl) (fun _ _ _ h => h) (by kernel_rfl) ?_ (by assumption) ?_; (focus (intro w hSw; (try dsimp only at hSw); go_simp; all_goals first | with_reducible rfl)); simp only [Act.put, List.setIfInBounds_toArray, List.set_cons_zero, List.set_cons_succ]
      refine wpAnyH_done (by kernel_rfl) ?_ _
      go_wp2
      go_ret
      exact ⟨rfl, HB2.out.trans ((HB3.out.trans (HB8.out.mono HB3.out.size)).mono HB2.out.size)⟩
    · have hz : ∀ W, FileIn W none 0 0 none 0 0 none 0 0 zFile := fun W => ⟨RowSl.nil_ _ _ _ _ (by unfold maxLen; omega), by simp [zFile], rowS_nil _ _ _, rowS_nil _ _ _⟩
      have CS : Hid (∀ W, Calls Tryz.prog 13 #[.agg #[.slice none 0 0, .int .i64 0, .int .i64 0, .slice none 0 0, .slice none 0 0], .agg #[.slice none 0 0, .int .i64 0, .int .i64 0, .slice none 0 0, .slice none 0 0]] W fun e w' => e = .returned (.bool true) ∧ Below W.heap.size W w') := Lib.hid (fun W => r14Same_same none 0 0 none 0 0 none 0 0 none 0 none 0 none 0 0 0 zFile W (hz W) (hz W) (by omega) (by simp [zFile]) (by omega) (by omega))
      have HB3 : Hid (∀ cs : Array Value, Below w.heap.size w (w2.alloc (.cells cs 26))) := Lib.hid (fun cs => HB2.out.alloc HB2.out.size _)
      clear hz
      rcases hx with rfl | rfl
      · go_wp2_with fail
        refine (CS.out _).mono ?_
        rintro e w4 ⟨rfl, hb4⟩
        have HB4 := Lib.hid ((HB3.out _).trans (hb4.mono (HB3.out _).size))
        clear hb4 CS
        go_wp2
        go_ret
        exact ⟨rfl, HB4.out⟩
      · go_wp2_with fail
        refine (CS.out _).mono ?_
        rintro e w4 ⟨rfl, hb4⟩
        have HB4 := Lib.hid ((HB3.out _).trans (hb4.mono (HB3.out _).size))
        clear hb4 CS
        go_wp2
        go_ret
        exact ⟨rfl, HB4.out⟩

end Go.Proofs.YtendpbklcgiafaaGreat

/- KlassCuts' walk (layer 14). -/
namespace Go.Proofs.YtendpbklcgiafaaGreat
set_option maxRecDepth 100000
open Go.RowKit

/-- Bytes that are no class's. -/
theorem parse_bad14 {w : World} {bs : List UInt8} (A : Option Addr) (n cap : Nat) (hB : ByteSl w Empty A n cap bs) (hn : n ≤ 1048576) (hno : ∀ f, ¬ Reads fileE bs f []) :
    Calls Tryz.prog 11 #[.slice A n cap] w fun e w' => (∃ x : Int, x ≠ 0 ∧ e = .returned (.tuple #[.agg #[.slice none 0 0, .int .i64 0, .int .i64 0, .slice none 0 0, .slice none 0 0], .int .i64 x])) ∧ Below w.heap.size w w' :=
  (kParse_any A n cap bs w hB hn).mono fun e w' ⟨h, hb⟩ => by
    refine ⟨?_, hb⟩
    rcases h with ⟨f, cs, h1, _⟩ | ⟨_, x, ⟨hx, _⟩, h2⟩
    · exact absurd h1 (hno f)
    · exact ⟨x, by omega, h2⟩
theorem cut_no {f : FileD} {bs : List UInt8} (h : fileE f = some bs) {k : Nat} (hk : k < bs.length) : ∀ f', ¬ Reads fileE (bs.take k) f' [] := by
  rintro f' ⟨x, hx, hb⟩
  rw [List.append_nil] at hb
  subst hb
  have h1 : Reads fileE bs f' (bs.drop k) := ⟨_, hx, (List.take_append_drop _ _).symm⟩
  have h2 : Reads fileE bs f [] := ⟨bs, h, (List.append_nil _).symm⟩
  have h3 := congrArg List.length (Uniq.file _ _ _ _ _ h1 h2).2
  rw [List.length_drop] at h3
  have : ([] : List UInt8).length = 0 := rfl
  omega
theorem more_no {f : FileD} {bs more : List UInt8} (h : fileE f = some bs) (hm : more ≠ []) : ∀ f', ¬ Reads fileE (bs ++ more) f' [] := by
  intro f' h1
  exact hm (Uniq.file _ _ _ _ _ ⟨bs, h, rfl⟩ h1).2

theorem own_ge14 {w : World} {base m : Nat} {v : Value} {zs : List UInt8} (h : w.ownsRow base 5 1 v m (zs.map B8)) : ∀ k, v.ownBlock = some k → base ≤ k := by
  intro k hk
  rcases h.2 with ⟨e, _⟩ | ⟨g', c2, cur, e, hb, _⟩
  · rw [e] at hk
    cases hk
  · rw [e] at hk
    cases hk
    exact hb

set_option maxHeartbeats 8000000 in
theorem klassCuts_calls (A : Option Addr) (n cap : Nat) (Af : Option Addr) (nf cf : Nat) (Am : Option Addr) (nm cm : Nat) (f : FileD) (cut : Int) (h0 : 0 ≤ cut) (h1 : cut ≤ 65535) (M : Option Addr) (mn mc : Nat) (xs : List UInt8) (w : World) (hI : FileIn w A n cap Af nf cf Am nm cm f) (hX : ByteSl w Empty M mn mc xs) (hMn : M = none → mn = 0 ∧ mc = 0) :
    Calls Tryz.prog 5 #[.agg #[.slice A n cap, .int .i64 f.this, .int .i64 f.super, .slice Af nf cf, .slice Am nm cm], .int .u16 cut, .slice M mn mc] w fun e w' => e = .returned (.bool true) ∧ Below w.heap.size w w' := by
  obtain ⟨x0, hx0⟩ : ∃ x0, f.this = x0 := ⟨_, rfl⟩
  obtain ⟨y0, hy0⟩ : ∃ y0, f.super = y0 := ⟨_, rfl⟩
  rw [hx0, hy0]
  have hmc : mn ≤ mc := hX.2.1
  have hmm : mc ≤ 9223372036854775807 := by have h2 := hX.2.2.1; unfold maxLen at h2; omega
  obtain ⟨W0, hW0⟩ : ∃ W0, W0 = w.alloc (.cells #[.slice A n cap, .int .i64 x0, .int .i64 y0, .slice Af nf cf, .slice Am nm cm] 26) := ⟨_, rfl⟩
  have hb0 : Below w.heap.size w W0 := by rw [hW0]; exact (Below.refl _ _).alloc (Nat.le_refl _) _
  have hK : Blk W0 w.heap.size 26 #[.slice A n cap, .int .i64 x0, .int .i64 y0, .slice Af nf cf, .slice Am nm cm] := by rw [hW0]; exact Blk.new _ _ _
  have hI0 := hI.below hb0
  have HI := Lib.hid hI0
  have HX := Lib.hid (hX.only (Only.of_below (S := Empty) hb0) (fun _ _ h => h))
  have HMn := Lib.hid hMn
  have HB0 := Lib.hid hb0
  have HK := Lib.hid hK
  have HW0 := Lib.hid hW0
  have Hx := Lib.hid hx0
  have Hy := Lib.hid hy0
  have CF : Hid (∀ W, Below W0.heap.size W0 W → Calls Tryz.prog 7 #[.agg #[.slice A n cap, .int .i64 x0, .int .i64 y0, .slice Af nf cf, .slice Am nm cm]] W (FewP f W)) := Lib.hid (fun W h => r14Few_any A n cap Af nf cf Am nm cm x0 y0 f W (hI0.below h))
  clear hI hb0 hK hI0 hW0 hx0 hy0 hX hMn
  go_enter Tryz.func5, Tryz.ntmps5
  go_wp2_with fail
  rw [← HW0.out]
  refine (fixed14_any _).mono ?_
  rintro e w1 ⟨rfl, hb1⟩
  obtain ⟨a0, a1, a2, a3, a4⟩ := five HK.out hb1
  have HB1 := Lib.hid hb1
  clear hb1
  go_wp2_with fail
  refine (CF.out _ HB1.out).mono ?_
  rintro e w2 ⟨⟨few, rfl, hfew⟩, hb2⟩
  have HB2 := Lib.hid (HB1.out.trans (hb2.mono HB1.out.size))
  clear hb2 a0 a1 a2 a3 a4 CF
  cases few with
  | false =>
    clear hfew
    go_wp2
    go_ret
    exact ⟨rfl, HB0.out.trans (HB2.out.mono HB0.out.size)⟩
  | true =>
    have hfw := hfew rfl
    have HFw := Lib.hid hfw
    obtain ⟨a0, a1, a2, a3, a4⟩ := five HK.out HB2.out
    have CR := r14Right_any A n cap Af nf cf Am nm cm x0 y0 f w2 (HI.out.below HB2.out) (few_file hfw) Hx.out Hy.out
    have CR := Lib.hid CR
    clear hfw hfew
    go_wp2_with fail
    refine CR.out.mono ?_
    rintro e w3 ⟨rfl, hb3⟩
    have HB3 := Lib.hid (HB2.out.trans (hb3.mono HB2.out.size))
    clear hb3 a0 a1 a2 a3 a4 CR
    cases hr : docRight f with
    | false =>
      clear hr
      go_wp2
      go_ret
      exact ⟨rfl, HB0.out.trans (HB3.out.mono HB0.out.size)⟩
    | true =>
      by_cases hm1 : 100 < mn
      · have hd : decide ((100 : Int) < (mn : Int)) = true := decide_eq_true (by omega)
        clear hr
        go_wp2
        go_ret
        exact ⟨rfl, HB0.out.trans (HB3.out.mono HB0.out.size)⟩
      · have hd : decide ((100 : Int) < (mn : Int)) = false := decide_eq_false (by omega)
        by_cases hm0 : mn = 0
        · subst hm0
          clear hr
          go_wp2
          go_ret
          exact ⟨rfl, HB0.out.trans (HB3.out.mono HB0.out.size)⟩
        · have hq0 : ((mn : Int) == 0) = false := by simpa using hm0
          have hpar := right_parts hr
          have hds := doc_small HFw.out hr
          have hfe : fileE f = some (docB f) := by rw [file_doc f HI.out.ok, if_pos hr]
          obtain ⟨a0, a1, a2, a3, a4⟩ := five HK.out HB3.out
          have CY := r14Bytes_any A n cap Af nf cf Am nm cm x0 y0 f w3 (HI.out.below HB3.out) (by rw [check_right f.pool HI.out.ok]; exact hpar.1) (right_zero hpar.1) (by omega) hpar.2.2.2 Hx.out Hy.out
          obtain ⟨bs, hbs⟩ : ∃ bs, docB f = bs := ⟨_, rfl⟩
          rw [hbs] at CY hds hfe
          have hne := file_ne hfe
          have Hfe := Lib.hid hfe
          have Hds := Lib.hid hds
          have Hne := Lib.hid hne
          have CY := Lib.hid CY
          have hmn : mn ≤ 100 ∧ 0 < mn := by omega
          have Hmn := Lib.hid hmn
          clear hr hpar hds hfe hne hbs hmn
          go_wp2_with fail
          refine CY.out.mono ?_
          rintro e w4 ⟨B, L, cB, rfl, hG⟩
          have HB4 := Lib.hid (HB3.out.trans (hG.below.mono HB3.out.size))
          have HS4 := Lib.hid hG.byte
          have HN4 := Lib.hid hG.nil
          have hl : bs.length = L := hG.byte.1
          have hLc : L ≤ cB := hG.byte.2.1
          have hcB : cB ≤ 9223372036854775807 := by have h2 := hG.byte.2.2.1; unfold maxLen at h2; omega
          have hL0 : 0 < L ∧ L ≤ 100000 := by
            have h1 := Hds.out
            have h2 : bs.length ≠ 0 := fun h => Hne.out (List.length_eq_zero_iff.1 h)
            omega
          have Hl := Lib.hid hl
          have hq : 0 ≤ cut % (L : Int) ∧ cut % (L : Int) ≤ (cB : Int) := ⟨Int.emod_nonneg _ (by omega), by have := Int.emod_lt_of_pos cut (show (0 : Int) < L by omega); omega⟩
          obtain ⟨k, hk⟩ : ∃ k, (cut % (L : Int)).toNat = k := ⟨_, rfl⟩
          have hkL : k < L := by have := Int.emod_lt_of_pos cut (show (0 : Int) < L by omega); omega
          have CP := Lib.hid (parse_bad14 B k cB (HS4.out.take_ k (Nat.le_of_lt hkL)) (by omega) (cut_no Hfe.out (by rw [hl]; exact hkL)))
          have Hk := Lib.hid hk
          clear hG hl a0 a1 a2 a3 a4 CY hm1 hm0 hq0 hd hk
          go_wp2_with fail
          rw [Hk.out]
          refine CP.out.mono ?_
          rintro e w5 ⟨⟨x5, hx5, rfl⟩, hb5⟩
          have HB5 := Lib.hid (HB4.out.trans (hb5.mono HB4.out.size))
          have HS5 := Lib.hid (HS4.out.only (Only.of_below (S := Empty) hb5) (fun _ _ h => h))
          obtain ⟨W6, hW6⟩ : ∃ W6, W6 = w5.alloc (.cells #[.slice none 0 0, .int .i64 0, .int .i64 0, .slice none 0 0, .slice none 0 0] 26) := ⟨_, rfl⟩
          have hO6 : Only Empty w5 W6 := by rw [hW6]; exact (Only.refl _ _).alloc _
          have HB6 : Hid (Below W0.heap.size W0 W6) := Lib.hid (HB5.out.trans (hO6.below HB5.out.size (fun _ _ h => h)))
          have HS6 := Lib.hid (HS5.out.only hO6 (fun _ _ h => h))
          have HX6 := Lib.hid (HX.out.only (Only.of_below (S := Empty) HB6.out) (fun _ _ h => h))
          have HW6 := Lib.hid hW6
          have hx5q : (x5 == 0) = false := by simpa using hx5
          have hs6 : W6.heap.size = w5.heap.size + 1 := by rw [hW6]; simp
          have hm6 := own_made W6 W6.heap.size (Nat.le_refl _)
          rw [hs6] at hm6
          have HM6 := Lib.hid hm6
          have hb67 : w5.heap.size + 1 ≤ (W6.alloc (.cells #[] 5)).heap.size := by simp [hs6]
          have Hb67 := Lib.hid hb67
          have HB67 : Hid (Below (w5.heap.size + 1) W6 (W6.alloc (.cells #[] 5))) := Lib.hid ((Below.refl _ _).alloc (by rw [hs6]; exact Nat.le_refl _) _)
          have Hs6 := Lib.hid hs6
          have HO7 : Hid (Only Empty W6 (W6.alloc (.cells #[] 5))) := Lib.hid ((Only.refl _ _).alloc _)
          have HS7 := Lib.hid (HS6.out.only HO7.out (fun _ _ h => h))
          have HX7 := Lib.hid (HX6.out.only HO7.out (fun _ _ h => h))
          have hmn1 : mn ≤ 100 := Hmn.out.1
          clear hb5 hW6 hO6 CP hq Hk hs6 hm6 hb67
          go_wp2_with (first | (at_builtin; rw [← HW6.out]; refine wpList_append_bytes rfl (.tmp 46) (.tmp 47) rfl (w5.heap.size + 1) _ rfl 0 [] HM6.out B L cB bs Empty rfl HS7.out HN4.out (by omega) Hb67.out ?_; intro v8 w8 ho8 hg8 _; (rw [Nat.zero_add, List.nil_append] at ho8); obtain ⟨A8, c8, rfl, -, -⟩ := slice_of_own ho8; have HO8 := Lib.hid ho8; have HW8 := Lib.hid (below_grown HB67.out Hb67.out hg8 (fun k hk => by cases hk; exact Nat.le_refl _)); have HX8 := Lib.hid (HX6.out.only (Only.of_below (S := Empty) (by rw [← Hs6.out] at HW8; exact HW8.out)) (fun _ _ h => h)); have HS8 : Hid (w5.heap.size + 1 ≤ w8.heap.size) := Lib.hid (by have h9 := HW8.out.size; rw [Hs6.out] at h9; exact h9); clear ho8 hg8) | (at_builtin; refine wpList_append_bytes rfl (.tmp 48) (.tmp 49) rfl (w5.heap.size + 1) (.slice A8 L c8) rfl L bs HO8.out M mn mc xs Empty rfl HX8.out HMn.out (by omega) HS8.out ?_; intro v9 w9 ho9 hg9 _; obtain ⟨A9, c9, rfl, hB9, hn9⟩ := slice_of_own ho9; have HB9 := Lib.hid hB9; have HW9 := Lib.hid (below_grown HW8.out HS8.out hg9 (fun k hk => own_ge14 HO8.out k hk)); clear ho9 hg9 hB9 hn9))
          have hxl : xs.length = mn := HX.out.1
          have CQ := parse_bad14 A9 (L + mn) c9 HB9.out (by omega) (more_no (more := xs) Hfe.out (fun h => by rw [h] at hxl; have h2 := Hmn.out.2; have : ([] : List UInt8).length = 0 := rfl; omega))
          refine CQ.mono ?_
          rintro e w10 ⟨⟨x10, hx10, rfl⟩, hb10⟩
          have hx10q : (x10 == 0) = false := by simpa using hx10
          have hB10 : Below W6.heap.size W6 w10 := by
            have h9 := HW9.out
            rw [← Hs6.out] at h9
            exact h9.trans (hb10.mono h9.size)
          have HB10 : Hid (∀ cs : Array Value, Below w.heap.size w (w10.alloc (.cells cs 26))) := Lib.hid (fun cs => by
            have h1 : Below w.heap.size w w10 := HB0.out.trans ((HB6.out.trans (hB10.mono HB6.out.size)).mono HB0.out.size)
            exact h1.alloc h1.size _)
          clear hxl CQ hb10 hB10
          go_wp2
          go_ret
          have hfin : (x5 != 0 && x10 != 0) = true := by simp [hx5, hx10]
          exact ⟨congrArg (fun b => Ending.returned (Value.bool b)) hfin, HB10.out _⟩

end Go.Proofs.YtendpbklcgiafaaGreat

/- Proved: whatever class, number and bytes are handed in, KlassCuts returns true. Conditions: none but the row's own (the arguments can be read as data). -/
namespace Go.Proofs.YtendpbklcgiafaaGreat
open Go.ChangeShapes Go.WideShapes Go.ChangeAt Go.RowKit Go.Joins

set_option maxRecDepth 100000 in
theorem klassCuts_lifted (os : Os) (started : os.Started) (H : Type) (enc : TypeId × Value → H) :
    ReturnsInHanded {} Tryz.checked os 5 .any (Rows.klassCutsSpec.pre6 enc Tryz.prog Tryz.f5 Rows.klassCutsRow.domain false) (Rows.klassCutsSpec.post enc Tryz.prog Tryz.f5 false true false false) := by
  refine returnsInHanded_of_change (C := Tryz.checked) Tryz.ownKnobs started (by kernel_rfl) Tryz.func5
    (ChangeSpec.witness6 (enc := enc) (C := Tryz.checked) false ⟨#[], #[.agg #[.slice none 0 0, .int .i64 0, .int .i64 0, .slice none 0 0, .slice none 0 0], .int .u16 0, .slice none 0 0], []⟩ 8 (by kernel_rfl) (by kernel_rfl) (by kernel_rfl) (by kernel_rfl)) ?_
  intro W base args ds gs before hval0 hW hcnd _
  have hval : ∀ (j : Nat) t v, Tryz.f5.params[j]? = some t → args[j]? = some v → Value.okWide Tryz.prog W .any base t v := hval0
  have hW' := hW
  obtain ⟨p, q, hA0, hV, rfl, hfz, hnd⟩ := hW
  have hA : DataW.TrodAll enc Tryz.prog W 0 (fun _ => true) true Tryz.f5.params.toList args.toList ds p := hA0
  rw [Tryz.params5] at hA hval
  obtain ⟨v0, vs0, d0, ds0, p0, q0, hargs, rfl, rfl, h0, r0⟩ := trodAll_cons hA
  obtain ⟨v1, vs1, d1, ds1, p1, q1, rfl, rfl, rfl, h1, r1⟩ := trodAll_cons r0
  obtain ⟨v2, vs2, d2, ds2, p2, q2, rfl, rfl, rfl, h2, r2⟩ := trodAll_cons r1
  obtain ⟨rfl, rfl, rfl⟩ := trodAll_nil r2
  obtain rfl : args = #[v0, v1, v2] := by cases args; simp_all
  obtain ⟨rfl, rfl⟩ := trodVars_none hV
  obtain ⟨A, n, cap, Af, nf, cf, Am, nm, cm, f, rfl, hI⟩ := open_file (hval 0 26 v0 rfl rfl) h0
  obtain ⟨cut, rfl, c0, c1⟩ := open_u16_ (hval 1 39 v1 rfl rfl) h1
  obtain ⟨M, mn, mc, xs, rfl, hX, hMn⟩ := open_bytes (hval 2 29 v2 rfl rfl) h2
  refine (klassCuts_calls A n cap Af nf cf Am nm cm f cut c0 c1 M mn mc xs W hI (hX.mono (fun _ _ h => h.elim)) hMn).mono fun e W' ⟨he, hb⟩ => ?_
  subst he
  exact ⟨_, rfl, law_post Tryz.allLaid (of_decide_eq_true (by kernel_rfl)) rfl Tryz.underlying4 rfl hW' rfl rfl rfl hb⟩

/-- The statement: KlassCuts returns true, and its arguments read as they did. -/
theorem klassCuts_holds : Rows.KlassCutsSaid :=
  OpenClaim.holds_of_wide 5 Tryz.f5 rfl rfl rfl rfl rfl rfl rfl ⟨rfl, rfl, rfl, rfl, rfl⟩ rfl rfl rfl rfl rfl (by kernel_rfl) Tryz.func5 (by kernel_rfl)
    (of_decide_eq_true (by kernel_rfl)) (by unfold Func.isWrapper; first | (rw [if_pos (by decide +kernel)]; kernel_rfl) | (rw [if_neg (by decide +kernel)]; exact ⟨rfl, rfl⟩))
    (fun os started H enc _ => klassCuts_lifted os started H enc)

end Go.Proofs.YtendpbklcgiafaaGreat
