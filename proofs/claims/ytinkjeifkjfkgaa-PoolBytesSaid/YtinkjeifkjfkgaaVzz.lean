/- Proved: whatever its arguments are, PoolBytes returns true. Conditions: none but the row's own (the arguments can be read as data). -/
import Derived.Test.YtinkjeifkjfkgaaVz
namespace Go.Proofs.Ytinkjeifkjfkgaa
open Go.ChangeShapes Go.WideShapes Go.ChangeAt Go.RowKit Go.Joins

theorem cB_len (c : Cst) : (cB c).length ≤ c.s.length + 16 := by
  unfold cB
  split
  · simp
  · unfold constB
    simp only [List.length_append, putL_len]
    rcases form_ways c.tag with h | h | h | h | h | h | h <;> rw [h] <;> simp [putL_len] <;> omega
theorem flat_len (l : List Cst) (k : Nat) (h : ∀ c ∈ l, c.s.length ≤ k) : (l.flatMap cB).length ≤ l.length * (k + 16) := by
  induction l with
  | nil => simp
  | cons c l ih =>
    rw [List.flatMap_cons, List.length_append, List.length_cons, Nat.add_mul]
    have h1 := cB_len c
    have h2 := h c (by simp)
    have h3 := ih (fun d hd => h d (by simp [hd]))
    omega

theorem own_ge {w : World} {base m : Nat} {v : Value} {zs : List UInt8} (h : w.ownsRow base 5 1 v m (zs.map B8)) : ∀ k, v.ownBlock = some k → base ≤ k := by
  intro k hk
  rcases h.2 with ⟨e, _⟩ | ⟨g', c2, cur, e, hb, _⟩
  · rw [e] at hk
    cases hk
  · rw [e] at hk
    cases hk
    exact hb

set_option maxHeartbeats 4000000 in
theorem poolBytes_calls (A : Option Addr) (n cap : Nat) (l : List Cst) (M : Option Addr) (mn mc : Nat) (xs : List UInt8) (w : World) (hP : PoolSl w A n cap l) (hok : ∀ c ∈ l, c.ok) (hX : ByteSl w Empty M mn mc xs) (hMn : M = none → mn = 0 ∧ mc = 0) :
    Calls Try.prog 3 #[.slice A n cap, .slice M mn mc] w fun e w' => e = .returned (.bool true) ∧ Below w.heap.size w w' := by
  have HP := Lib.hid hP
  have HX := Lib.hid hX
  have HMn := Lib.hid hMn
  have hl := hP.1
  have Hl := Lib.hid hl
  have hnc : n ≤ cap := hP.2.1
  have hcm : cap ≤ 9223372036854775807 := by have h2 := hP.2.2.1; unfold maxLen at h2; omega
  have hmc : mn ≤ mc := hX.2.1
  have hmm : mc ≤ 9223372036854775807 := by have h2 := hX.2.2.1; unfold maxLen at h2; omega
  have CF : Hid (∀ W, Below w.heap.size w W → Calls Try.prog 7 #[.slice A n cap] W fun e w' => e = .returned (.bool (fewF l)) ∧ Below W.heap.size W w') := Lib.hid (fun W hb => few11_any A n cap l W (hP.below hb) hok)
  have hfl : fewF l = true → n < 1029 ∧ ∀ c ∈ l, c.s.length ≤ 2000 := fun h => ⟨by have := fewF_len h; omega, fewF_s h⟩
  have Hfl := Lib.hid hfl
  have Hok := Lib.hid hok
  clear hP hok hX hMn hl hfl
  go_enter Try.func3, Try.ntmps3
  go_wp2_with fail
  refine (fixed11_any _).mono ?_
  rintro e w1 ⟨rfl, hb1⟩
  have HW1 := Lib.hid hb1
  clear hb1
  go_wp2_with fail
  refine (CF.out _ HW1.out).mono ?_
  rintro e w2 ⟨rfl, hb2⟩
  have HW2 := Lib.hid (HW1.out.trans (hb2.mono HW1.out.size))
  clear hb2
  cases hfew : fewF l with
  | false =>
    go_wp2
    go_ret
    exact ⟨rfl, HW2.out⟩
  | true =>
    obtain ⟨hn, hs⟩ := Hfl.out hfew
    by_cases hmore : 300 < mn
    · have hd : decide ((300 : Int) < (mn : Int)) = true := decide_eq_true (by omega)
      clear hfew hs
      go_wp2
      go_ret
      exact ⟨rfl, HW2.out⟩
    · have hd : decide ((300 : Int) < (mn : Int)) = false := decide_eq_false (by omega)
      have hmn : mn ≤ 300 := by omega
      have CR : Hid (∀ W, Below w.heap.size w W → Calls Try.prog 9 #[.slice A n cap] W fun e w' => e = .returned (.bool (checkF l)) ∧ Below W.heap.size W w') := Lib.hid (fun W hb => by
        rw [check_right l Hok.out]
        exact refRight_any A n cap l W (HP.out.below hb) (by omega) Hok.out (fun c hc => by have := hs c hc; omega))
      have CC : Hid (∀ W, Below w.heap.size w W → Calls Try.prog 10 #[.slice A n cap] W fun e w' => e = .returned (.int .i64 (checkC l)) ∧ Below W.heap.size W w') := Lib.hid (fun W hb => check_any A n cap l W (HP.out.below hb) (by omega) Hok.out)
      cases hch : checkF l with
      | false =>
        rw [hch] at CR
        rw [show checkC l = 8 by unfold checkC; rw [hch]; rfl] at CC
        have CB := Lib.hid (bytes_no A n cap l w2 (HP.out.below HW2.out) (by omega) Hok.out hch)
        clear hfew hs hch hmore
        go_wp2_with fail
        refine CB.out.mono ?_
        rintro e w3 ⟨rfl, hb3⟩
        have HW3 := Lib.hid (HW2.out.trans (hb3.mono HW2.out.size))
        clear hb3
        go_wp2_with fail
        refine (CR.out _ HW3.out).mono ?_
        rintro e w4 ⟨rfl, hb4⟩
        have HW4 := Lib.hid (HW3.out.trans (hb4.mono HW3.out.size))
        clear hb4
        go_wp2_with fail
        refine (CC.out _ HW4.out).mono ?_
        rintro e w5 ⟨rfl, hb5⟩
        have HW5 := Lib.hid (HW4.out.trans (hb5.mono HW4.out.size))
        clear hb5
        go_wp2
        go_ret
        exact ⟨rfl, HW5.out⟩
      | true =>
        rw [hch] at CR
        rw [show checkC l = 0 by unfold checkC; rw [hch]; rfl] at CC
        have hn1 : n ≤ 60 := by
          have h := hfew
          unfold fewF at h
          rw [Bool.and_eq_true] at h
          have h2 := h.2
          have h3 := hch
          unfold checkF at h3
          rw [Bool.and_eq_true, Bool.and_eq_true] at h3
          have h4 := of_decide_eq_true h3.1.1
          have := Hl.out
          simp at h2
          omega
        have hsz : (poolB l).length ≤ 200000 := by
          unfold poolB
          rw [List.length_append, putL_len]
          have := flat_len l 2000 hs
          rw [Hl.out] at this
          omega
        have CB := Lib.hid (bytes_yes A n cap l w2 (HP.out.below HW2.out) Hok.out hch (fun c hc => by have := hs c hc; omega) (by omega))
        have hpar := parse_put l xs hch
        obtain ⟨N, hN⟩ : ∃ N, (poolB l).length = N := ⟨_, rfl⟩
        rw [hN] at hsz hpar
        have CP : Hid (∀ (B : Option Addr) (c : Nat) (W : World), ByteSl W Empty B (N + mn) c (poolB l ++ xs) → Calls Try.prog 11 #[.slice B (N + mn) c] W fun e w' => (∃ L lc, e = .returned (.tuple #[.slice L n lc, .int .i64 (N : Int), .int .i64 0]) ∧ PoolSl w' L n lc l) ∧ Below W.heap.size W w') := Lib.hid (fun B c W hB =>
          (parse_any B (N + mn) c _ W hB (by omega)).mono fun e w' h => by
            unfold Parsed at h
            rw [hpar, if_pos rfl] at h
            obtain ⟨⟨L, lc, he, hPl⟩, hb⟩ := h
            simp only at he hPl
            rw [Hl.out] at he hPl
            exact ⟨⟨L, lc, he, hPl⟩, hb⟩)
        have CY : Hid (∀ W, Below w.heap.size w W → Calls Try.prog 12 #[.slice A n cap] W fun e w' => (∃ A2 c2, e = .returned (.slice A2 N c2) ∧ ByteSl w' Empty A2 N c2 (poolB l)) ∧ Below W.heap.size W w') := Lib.hid (fun W hb => by
          have := refBytes_any A n cap l W (HP.out.below hb) hch (by omega)
          rwa [hN] at this)
        have HN := Lib.hid hN
        have HPb : Hid (∃ pb, poolB l = pb) := Lib.hid ⟨_, rfl⟩
        clear hfew hs hch hpar hN hmore
        go_wp2_with fail
        refine CB.out.mono ?_
        rintro e w3 ⟨⟨Ab, cb, rfl, hBb, hbn, hbo⟩, hb3⟩
        rw [HN.out] at hBb hbn hbo
        rw [HN.out]
        have HW3 := Lib.hid (HW2.out.trans (hb3.mono HW2.out.size))
        have HB3 := Lib.hid hBb
        have HBN := Lib.hid hbn
        clear hb3 hBb hbn hbo CB
        go_wp2_with fail
        refine (CR.out _ HW3.out).mono ?_
        rintro e w4 ⟨rfl, hb4⟩
        have HW4 := Lib.hid (HW3.out.trans (hb4.mono HW3.out.size))
        have HB4 := Lib.hid (HB3.out.only (Only.of_below (S := Empty) hb4) (fun _ _ h => h))
        clear hb4
        have HM4 := Lib.hid (own_made w4 w4.heap.size (Nat.le_refl _))
        have HO5 : Hid (Only Empty w4 (w4.alloc (.cells #[] 5))) := Lib.hid ((Only.refl _ _).alloc _)
        have HB5 := Lib.hid (HB4.out.only HO5.out (fun _ _ h => h))
        go_wp2_with (first | (at_builtin; refine wpList_append_bytes rfl (.tmp 41) (.tmp 42) rfl w4.heap.size _ rfl 0 [] HM4.out Ab N cb (poolB l) Empty rfl HB5.out HBN.out (by omega) HO5.out.size ?_; intro v6 w6 ho6 hg6 _; (rw [Nat.zero_add, List.nil_append] at ho6); obtain ⟨A6, c6, rfl, -, -⟩ := slice_of_own ho6; have HO6 := Lib.hid ho6; have HW6 := Lib.hid (below_grown (HO5.out.below (B := w4.heap.size) (Nat.le_refl _) (fun _ _ h => h)) HO5.out.size hg6 (fun k hk => by cases hk; exact Nat.le_refl _)); have HS6 : Hid (w4.heap.size ≤ w6.heap.size) := Lib.hid HW6.out.size; have HX6 := Lib.hid ((HX.out.only (Only.of_below (S := Empty) (HW4.out)) (fun _ _ h => h)).only (Only.of_below (S := Empty) HW6.out) (fun _ _ h => h)); clear ho6 hg6) | (at_builtin; refine wpList_append_bytes rfl (.tmp 43) (.tmp 44) rfl w4.heap.size (.slice A6 N c6) rfl N (poolB l) HO6.out M mn mc xs Empty rfl HX6.out HMn.out (by omega) HS6.out ?_; intro v7 w7 ho7 hg7 _; obtain ⟨A7, c7, rfl, hB7, hn7⟩ := slice_of_own ho7; have HB7 := Lib.hid hB7; have HW7 := Lib.hid (below_grown HW6.out HS6.out hg7 (fun k hk => own_ge HO6.out k hk)); clear ho7 hg7 hB7 hn7))
        have HW7w : Hid (Below w.heap.size w w7) := Lib.hid (HW4.out.trans (HW7.out.mono HW4.out.size))
        have HBb7 : Hid (ByteSl w7 Empty Ab N cb (poolB l)) := Lib.hid (HB4.out.only (Only.of_below (S := Empty) HW7.out) (fun _ _ h => h))
        have CP7 := Lib.hid (CP.out A7 c7 w7 HB7.out)
        go_wp2_with fail
        refine CP7.out.mono ?_
        rintro e w8 ⟨⟨L, lc, rfl, hPl⟩, hb8⟩
        have HW8 := Lib.hid (HW7w.out.trans (hb8.mono HW7w.out.size))
        have HB8 := Lib.hid (HBb7.out.only (Only.of_below (S := Empty) hb8) (fun _ _ h => h))
        have HL8 := Lib.hid hPl
        clear hPl hb8
        have HI : Hid (∀ W, Only Empty w8 W → (convert 23 9 (.slice Ab N cb)).run Try.prog W = .ok (.string (strB (poolB l))) W) := Lib.hid (fun W hW => conv_bytes (HB8.out.only hW (fun _ _ h => h)))
        have HY0 : Hid (∀ W, Only Empty w8 W → Calls Try.prog 10 #[.slice A n cap] W fun e W' => e = .returned (.int .i64 0) ∧ Only Empty w8 W' ∧ Only Empty W W') := Lib.hid (fun W hW =>
          (CC.out W (HW8.out.trans (hW.below HW8.out.size (fun _ _ h => h)))).mono fun e W' ⟨he, hb⟩ => ⟨he, hW.trans (Only.of_below hb), Only.of_below hb⟩)
        have HY1 : Hid (∀ W, Only Empty w8 W → Calls Try.prog 12 #[.slice A n cap] W fun e W' => (∃ u, e = .returned u ∧ ∀ W2, Only Empty W' W2 → (convert 23 9 u).run Try.prog W2 = .ok (.string (strB (poolB l))) W2) ∧ Only Empty w8 W' ∧ Only Empty W W') := Lib.hid (fun W hW =>
          (CY.out W (HW8.out.trans (hW.below HW8.out.size (fun _ _ h => h)))).mono fun e W' ⟨⟨A2, c2, he, hB2⟩, hb⟩ => ⟨⟨_, he, fun W2 hW2 => conv_bytes (hB2.only hW2 (fun _ _ h => h))⟩, hW.trans (Only.of_below hb), Only.of_below hb⟩)
        have HY2 : Hid (∀ W, Only Empty w8 W → Calls Try.prog 13 #[.slice L n lc, .slice A n cap] W fun e W' => e = .returned (.bool true) ∧ Only Empty w8 W' ∧ Only Empty W W') := Lib.hid (fun W hW =>
          (refSame_cst L A n lc cap l W (HL8.out.only hW (fun _ _ h => h)) (HP.out.below (HW8.out.trans (hW.below HW8.out.size (fun _ _ h => h)))) (by omega)).mono fun e W' ⟨he, q2, hb⟩ => ⟨he, by rw [hb]; exact hW.drewN q2, by rw [hb]; exact (Only.refl _ _).drewN q2⟩)
        have hO0 : Only Empty w8 w8 := Only.refl _ _
        have hO1 : Only Empty w8 w8.drew := hO0.drew
        have hs0 := HI.out _ hO0
        have hs1 := HI.out _ hO1
        clear CR CC CY CP CP7
        go_wp2
        go_region_held (fun W => (convert 23 9 (.slice Ab N cb)).run Try.prog W = .ok (.string (strB (poolB l))) W) (first | exact hs0 | exact hs1 | exact hs10 | exact hs20 | exact hs30)
          (first | (go_at_call 10; (with_reducible refine (HY0.out _ hO1).mono ?_); rintro e10 w10 ⟨rfl, hO10, hP10⟩; have hs10 := HI.out _ hO10) | (go_at_call 12; (with_reducible refine (HY1.out _ hO10).mono ?_); rintro e20 w20 ⟨⟨u20, rfl, hcv20⟩, hO20, hP20⟩; have hs20 := HI.out _ hO20; have hc20 := hcv20 _ (Only.refl _ _)) | (go_at_call 13; (with_reducible refine (HY2.out _ hO20).mono ?_); rintro e30 w30 ⟨rfl, hO30, hP30⟩; have hs30 := HI.out _ hO30; have hc30 := hcv20 _ hP30))
        all_goals
          go_wp2
          go_ret
          exact ⟨rfl, HW8.out.trans (hO30.below HW8.out.size (fun _ _ h => h))⟩

set_option maxRecDepth 100000 in
theorem poolBytes_lifted (os : Os) (started : os.Started) (H : Type) (enc : TypeId × Value → H) :
    ReturnsInHanded {} Try.checked os 3 .any (Rows.poolBytesSpec.pre6 enc Try.prog Try.f3 Rows.poolBytesRow.domain false) (Rows.poolBytesSpec.post enc Try.prog Try.f3 false true false false) := by
  refine returnsInHanded_of_change (C := Try.checked) Try.ownKnobs started (by kernel_rfl) Try.func3
    (ChangeSpec.witness6 (enc := enc) (C := Try.checked) false ⟨#[], #[.slice none 0 0, .slice none 0 0], []⟩ 8 (by kernel_rfl) (by kernel_rfl) (by kernel_rfl) (by kernel_rfl)) ?_
  intro W base args ds gs before hval0 hW hcnd _
  have hval : ∀ (j : Nat) t v, Try.f3.params[j]? = some t → args[j]? = some v → Value.okWide Try.prog W .any base t v := hval0
  have hW' := hW
  obtain ⟨p, q, hA0, hV, rfl, hfz, hnd⟩ := hW
  have hA : DataW.TrodAll enc Try.prog W 0 (fun _ => true) true Try.f3.params.toList args.toList ds p := hA0
  rw [Try.params3] at hA hval
  obtain ⟨v0, vs0, d0, ds0, p0, q0, hargs, rfl, rfl, h0, r0⟩ := trodAll_cons hA
  obtain ⟨v1, vs1, d1, ds1, p1, q1, rfl, rfl, rfl, h1, r1⟩ := trodAll_cons r0
  obtain ⟨rfl, rfl, rfl⟩ := trodAll_nil r1
  obtain rfl : args = #[v0, v1] := by cases args; simp_all
  obtain ⟨rfl, rfl⟩ := trodVars_none hV
  obtain ⟨A, n, cap, l, rfl, hP, hok⟩ := open_pool (hval 0 22 v0 rfl rfl) h0
  obtain ⟨M, mn, mc, xs, rfl, hX, hMn⟩ := open_bytes (hval 1 23 v1 rfl rfl) h1
  refine (poolBytes_calls A n cap l M mn mc xs W hP hok (hX.mono (fun _ _ h => h.elim)) hMn).mono fun e W' ⟨he, hb⟩ => ?_
  subst he
  exact ⟨_, rfl, law_post Try.allLaid (of_decide_eq_true (by kernel_rfl)) rfl Try.underlying4 rfl hW' rfl rfl rfl hb⟩

/-- The statement: PoolBytes returns true, and its arguments read as they did. -/
theorem poolBytes_holds : Rows.PoolBytesSaid :=
  OpenClaim.holds_of_wide 3 Try.f3 rfl rfl rfl rfl rfl rfl rfl ⟨rfl, rfl, rfl, rfl, rfl⟩ rfl rfl rfl rfl rfl (by kernel_rfl) Try.func3 (by kernel_rfl)
    (of_decide_eq_true (by kernel_rfl)) (by unfold Func.isWrapper; first | (rw [if_pos (by decide +kernel)]; kernel_rfl) | (rw [if_neg (by decide +kernel)]; exact ⟨rfl, rfl⟩))
    (fun os started H enc _ => poolBytes_lifted os started H enc)

end Go.Proofs.Ytinkjeifkjfkgaa
