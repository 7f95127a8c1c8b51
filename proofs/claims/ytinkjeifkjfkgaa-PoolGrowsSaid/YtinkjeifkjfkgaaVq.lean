/- Proved: whatever its arguments are, PoolGrows returns true. Conditions: none but the row's own (the arguments can be read as data). -/
import Derived.Test.YtinkjeifkjfkgaaVp
namespace Go.Proofs.Ytinkjeifkjfkgaa
open Go.ChangeShapes Go.WideShapes Go.ChangeAt Go.RowKit Go.Joins

set_option maxHeartbeats 4000000 in
theorem poolGrows_calls (A : Option Addr) (n cap : Nat) (l : List Cst) (p : Int) (w : World) (hP : PoolSl w A n cap l) (hok : ∀ c ∈ l, c.ok) :
    Calls Try.prog 5 #[.slice A n cap, .int .i64 p] w fun e w' => e = .returned (.bool true) ∧ Below w.heap.size w w' := by
  have HP := Lib.hid hP
  have hl := hP.1
  have hnc : n ≤ cap := hP.2.1
  have hcm : cap ≤ 9223372036854775807 := by have h2 := hP.2.2.1; unfold maxLen at h2; omega
  have Hl := Lib.hid hl
  have CF : Hid (∀ W, Below w.heap.size w W → Calls Try.prog 7 #[.slice A n cap] W fun e w' => e = .returned (.bool (fewF l)) ∧ Below W.heap.size W w') := Lib.hid (fun W hb => few11_any A n cap l W (hP.below hb) hok)
  have hfl : fewF l = true → n < 1029 := fun h => by have := fewF_len h; omega
  have Hok := Lib.hid hok
  clear hP hok hl
  go_enter Try.func5, Try.ntmps5
  go_wp2_with fail
  refine (fixed11_any _).mono ?_
  rintro e w1 ⟨rfl, hb1⟩
  have HW1 := Lib.hid hb1
  clear hb1
  go_wp2_with fail
  refine (CF.out _ HW1.out).mono ?_
  rintro e w2 ⟨rfl, hb2⟩
  have HW2 := Lib.hid (HW1.out.trans (hb2.mono HW1.out.size))
  clear hb2
  cases hfew : fewF l with
  | false =>
    clear hfl hfew
    go_wp2
    go_ret
    exact ⟨rfl, HW2.out⟩
  | true =>
    have hn := hfl hfew
    clear hfl hfew
    have CC := Lib.hid (check_any A n cap l w2 (HP.out.below HW2.out) (by omega) Hok.out)
    go_wp2_with fail
    refine CC.out.mono ?_
    rintro e w3 ⟨rfl, hb3⟩
    have HW3 := Lib.hid (HW2.out.trans (hb3.mono HW2.out.size))
    clear hb3 CC
    cases hch : checkF l with
    | false =>
      rw [show checkC l = 8 by unfold checkC; rw [hch]; rfl]
      go_wp2
      go_ret
      exact ⟨rfl, HW3.out⟩
    | true =>
      rw [show checkC l = 0 by unfold checkC; rw [hch]; rfl]
      have hn1 : 1 ≤ n ∧ n ≤ 1024 := by
        have h := hch
        unfold checkF at h
        rw [Bool.and_eq_true, Bool.and_eq_true] at h
        have := of_decide_eq_true h.1.1
        have := Hl.out
        omega
      by_cases hp : p < (n : Int)
      · have Hch := Lib.hid hch
        have Hp := Lib.hid hp
        have hq : decide ((n : Int) ≤ p) = false := decide_eq_false (by omega)
        have hA : A = none → n = 0 ∧ cap = 0 := fun e => by
          obtain ⟨b, o, h, _⟩ := HP.out.2.2.2 (by omega)
          rw [e] at h
          cases h
        have HA := Lib.hid hA
        have HG1 := Lib.hid (made_consts w3 w3.heap.size (Nat.le_refl _))
        have HP3 := Lib.hid ((HP.out.below HW3.out).only ((Only.refl Empty w3).alloc (.cells #[] 41)) (fun _ _ h => h))
        have HLe : Hid (w3.heap.size ≤ (w3.alloc (.cells #[] 41)).heap.size) := Lib.hid (by simp)
        clear hch hA hp
        have HLit : Hid (∀ W : World, PoolSl (W.alloc (.cells #[.int .i64 1, .int .i64 0, .int .i64 0, .int .i64 0, .string ⟨#[109, 111, 114, 101]⟩] 41)) (some ⟨W.heap.size, 0, none⟩) 1 1 [moreC]) :=
          Lib.hid (fun W => RowSl.lit Cst.cells_len W Empty 41 [moreC] 1 [.int .i64 1, .int .i64 0, .int .i64 0, .int .i64 0, .string ⟨#[109, 111, 114, 101]⟩] rfl rfl (by unfold maxLen; omega) (fun h => h))
        go_wp2_with (first | (at_builtin; refine wpList_append_cst rfl (.tmp 30) (.tmp 31) rfl w3.heap.size (some ⟨w3.heap.size, 0, none⟩) 0 0 [] rfl HG1.out A n cap l rfl HP3.out HA.out (by omega) HLe.out ?_; intro A1 c1 w4 hg4 hgr4 hr4; have HB4 := Lib.hid (below_gotR (HW3.out.alloc HW3.out.size (.cells #[] 41)) (Nat.le_trans HW3.out.size HLe.out) hgr4 hr4 HW3.out.size); (rw [Nat.zero_add, List.nil_append] at hg4); have HG4 := Lib.hid hg4; have HLe4 : Hid (w3.heap.size ≤ w4.heap.size) := Lib.hid (Nat.le_trans HLe.out hgr4.size); clear hg4 hgr4 hr4; (rw [Nat.zero_add])) | (at_builtin; refine wpList_append_cst rfl (.tmp 32) (.tmp 34) rfl w3.heap.size A1 n c1 l rfl (HG4.out.alloc Cst.cells_len _) (some ⟨w4.heap.size, 0, none⟩) 1 1 [moreC] rfl (HLit.out w4) (fun h => by cases h) (by omega) (Nat.le_trans HLe4.out (by simp)) ?_; intro A2 c2 w5 hg5 hgr5 hr5; have HB5 := Lib.hid (below_gotR (HB4.out.alloc HB4.out.size (.cells #[.int .i64 1, .int .i64 0, .int .i64 0, .int .i64 0, .string ⟨#[109, 111, 114, 101]⟩] 41)) (Nat.le_trans HB4.out.size (by simp)) hgr5 hr5 HW3.out.size); have HG5 := Lib.hid hg5; clear hg5 hgr5 hr5))
        have HP5 : Hid (PoolSl w5 A2 (n + 1) c2 (l ++ [moreC])) := Lib.hid HG5.out.row
        have hok5 : ∀ c ∈ l ++ [moreC], c.ok := fun c hc => by
          rw [List.mem_append, List.mem_singleton] at hc
          rcases hc with hc | rfl
          · exact Hok.out c hc
          · exact ⟨by decide, by decide, by decide, by decide, by decide⟩
        have CC5 := Lib.hid (check_any A2 (n + 1) c2 (l ++ [moreC]) w5 HP5.out (by omega) hok5)
        have hcm5 : n + 1 ≤ c2 := HP5.out.2.1
        have hcm6 : c2 ≤ 9223372036854775807 := by have h2 := HP5.out.2.2.1; unfold maxLen at h2; omega
        clear hok5
        go_wp2_with fail
        refine CC5.out.mono ?_
        rintro e w6 ⟨rfl, hb6⟩
        have HW6 := Lib.hid (HB5.out.trans (hb6.mono HB5.out.size))
        have HP6 := Lib.hid (HP5.out.below hb6)
        clear hb6 CC5
        cases hc5 : checkF (l ++ [moreC]) with
        | false =>
          rw [show checkC (l ++ [moreC]) = 8 by unfold checkC; rw [hc5]; rfl]
          have hgt : decide ((1024 : Int) < (n : Int) + 1) = true := decide_eq_true (by
            by_cases h : n + 1 ≤ 1024
            · rw [check_more l Hch.out (by rw [Hl.out]; exact h)] at hc5
              cases hc5
            · omega)
          go_wp2
          go_ret
          exact ⟨rfl, HW6.out⟩
        | true =>
          rw [show checkC (l ++ [moreC]) = 0 by unfold checkC; rw [hc5]; rfl]
          have C1 : Hid (∀ W, Below w.heap.size w W → Calls Try.prog 14 #[.slice A n cap, .int .i64 p] W fun e w' => e = .returned (textV (textF l p)) ∧ Below W.heap.size W w') := Lib.hid (fun W hb => text_any A n cap l p W (HP.out.below hb) (by omega))
          have C2 : Hid (∀ W, Below w6.heap.size w6 W → Calls Try.prog 14 #[.slice A2 (n + 1) c2, .int .i64 p] W fun e w' => e = .returned (textV (textF l p)) ∧ Below W.heap.size W w') := Lib.hid (fun W hb => by
            have := text_any A2 (n + 1) c2 (l ++ [moreC]) p W (HP6.out.below hb) (by omega)
            rwa [textF_lt l moreC p (by rw [Hl.out]; exact Hp.out)] at this)
          have C3 : Hid (∀ W, Below w.heap.size w W → Calls Try.prog 16 #[.slice A n cap, .int .i64 p] W fun e w' => e = .returned (textV (classF l p)) ∧ Below W.heap.size W w') := Lib.hid (fun W hb => class_any A n cap l p W (HP.out.below hb) (by omega))
          have C4 : Hid (∀ W, Below w6.heap.size w6 W → Calls Try.prog 16 #[.slice A2 (n + 1) c2, .int .i64 p] W fun e w' => e = .returned (textV (classF l p)) ∧ Below W.heap.size W w') := Lib.hid (fun W hb => by
            have := class_any A2 (n + 1) c2 (l ++ [moreC]) p W (HP6.out.below hb) (by omega)
            rwa [class_more l moreC p Hch.out (by rw [Hl.out]; exact Hp.out)] at this)
          obtain ⟨T1, hT1⟩ : ∃ T1 : ByteArray × Bool, textV (textF l p) = .tuple #[.string T1.1, .bool T1.2] := ⟨(_, _), textV_eq _⟩
          obtain ⟨T2, hT2⟩ : ∃ T1 : ByteArray × Bool, textV (classF l p) = .tuple #[.string T1.1, .bool T1.2] := ⟨(_, _), textV_eq _⟩
          rw [hT1] at C1 C2
          rw [hT2] at C3 C4
          obtain ⟨a, x⟩ := T1
          obtain ⟨c, z⟩ := T2
          simp only at C1 C2 C3 C4
          clear hT1 hT2
          have H66 := Lib.hid (Below.refl w6.heap.size w6)
          go_wp2_with fail
          refine (C1.out _ HW6.out).mono ?_
          rintro e w7 ⟨rfl, hb7⟩
          have HW7 := Lib.hid (HW6.out.trans (hb7.mono HW6.out.size))
          have H67 := Lib.hid hb7
          clear hb7
          go_wp2_with fail
          refine (C2.out _ H67.out).mono ?_
          rintro e w8 ⟨rfl, hb8⟩
          have HW8 := Lib.hid (HW7.out.trans (hb8.mono HW7.out.size))
          have H68 := Lib.hid (H67.out.trans (hb8.mono H67.out.size))
          clear hb8
          go_wp2_with fail
          refine (C3.out _ HW8.out).mono ?_
          rintro e w9 ⟨rfl, hb9⟩
          have HW9 := Lib.hid (HW8.out.trans (hb9.mono HW8.out.size))
          have H69 := Lib.hid (H68.out.trans (hb9.mono H68.out.size))
          clear hb9
          go_wp2_with fail
          refine (C4.out _ H69.out).mono ?_
          rintro e w10 ⟨rfl, hb10⟩
          have HW10 := Lib.hid (HW9.out.trans (hb10.mono HW9.out.size))
          clear hb10
          go_wp2
          go_ret
          exact ⟨rfl, HW10.out⟩
      · have hq : decide ((n : Int) ≤ p) = true := decide_eq_true (by omega)
        go_wp2
        go_ret
        exact ⟨rfl, HW3.out⟩

set_option maxRecDepth 100000 in
theorem poolGrows_lifted (os : Os) (started : os.Started) (H : Type) (enc : TypeId × Value → H) :
    ReturnsInHanded {} Try.checked os 5 .any (Rows.poolGrowsSpec.pre6 enc Try.prog Try.f5 Rows.poolGrowsRow.domain false) (Rows.poolGrowsSpec.post enc Try.prog Try.f5 false true false false) := by
  refine returnsInHanded_of_change (C := Try.checked) Try.ownKnobs started (by kernel_rfl) Try.func5
    (ChangeSpec.witness6 (enc := enc) (C := Try.checked) false ⟨#[], #[.slice none 0 0, .int .i64 0], []⟩ 8 (by kernel_rfl) (by kernel_rfl) (by kernel_rfl) (by kernel_rfl)) ?_
  intro W base args ds gs before hval0 hW hcnd _
  have hval : ∀ (j : Nat) t v, Try.f5.params[j]? = some t → args[j]? = some v → Value.okWide Try.prog W .any base t v := hval0
  have hW' := hW
  obtain ⟨p, q, hA0, hV, rfl, hfz, hnd⟩ := hW
  have hA : DataW.TrodAll enc Try.prog W 0 (fun _ => true) true Try.f5.params.toList args.toList ds p := hA0
  rw [Try.params5] at hA hval
  obtain ⟨v0, vs0, d0, ds0, p0, q0, hargs, rfl, rfl, h0, r0⟩ := trodAll_cons hA
  obtain ⟨v1, vs1, d1, ds1, p1, q1, rfl, rfl, rfl, h1, r1⟩ := trodAll_cons r0
  obtain ⟨rfl, rfl, rfl⟩ := trodAll_nil r1
  obtain rfl : args = #[v0, v1] := by cases args; simp_all
  obtain ⟨rfl, rfl⟩ := trodVars_none hV
  obtain ⟨A, n, cap, l, rfl, hP, hok⟩ := open_pool (hval 0 22 v0 rfl rfl) h0
  obtain ⟨p, rfl, _, _⟩ := open_int_ (hval 1 3 v1 rfl rfl) h1
  refine (poolGrows_calls A n cap l p W hP hok).mono fun e W' ⟨he, hb⟩ => ?_
  subst he
  exact ⟨_, rfl, law_post Try.allLaid (of_decide_eq_true (by kernel_rfl)) rfl Try.underlying4 rfl hW' rfl rfl rfl hb⟩

/-- The statement: PoolGrows returns true, and its arguments read as they did. -/
theorem poolGrows_holds : Rows.PoolGrowsSaid :=
  OpenClaim.holds_of_wide 5 Try.f5 rfl rfl rfl rfl rfl rfl rfl ⟨rfl, rfl, rfl, rfl, rfl⟩ rfl rfl rfl rfl rfl (by kernel_rfl) Try.func5 (by kernel_rfl)
    (of_decide_eq_true (by kernel_rfl)) (by unfold Func.isWrapper; first | (rw [if_pos (by decide +kernel)]; kernel_rfl) | (rw [if_neg (by decide +kernel)]; exact ⟨rfl, rfl⟩))
    (fun os started H enc _ => poolGrows_lifted os started H enc)

end Go.Proofs.Ytinkjeifkjfkgaa
