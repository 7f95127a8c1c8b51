/- Proved: whatever its argument is, UtfDecodes returns true and leaves it as it was. Conditions: none but the row's own (the argument can be read as data). -/
import Derived.Test.YtnhfmcijadficaaUi
namespace Go.Proofs.Ytnhfmcijadficaa
open Go.ChangeShapes Go.WideShapes Go.ChangeAt Go.RowKit Go.Joins

set_option maxHeartbeats 2000000 in
theorem utfDecodes_calls (A : Option Addr) (n cap : Nat) (xs : List UInt8) (w : World) (hB0 : ByteSl w (fun k => w.heap.size ≤ k) A n cap xs) :
    Calls Try.prog 4 #[.slice A n cap] w fun e w' => e = .returned (.bool true) ∧ Below w.heap.size w w' := by
  have hB := hB0.mono (T := Empty) (fun _ _ h => h.elim)
  have hn : n ≤ 9223372036854775807 := by have := hB.2.1; have := hB.2.2.1; unfold maxLen at this; omega
  have HB := Lib.hid hB
  clear hB0 hB
  obtain ⟨r, hr⟩ := decR_ex _ xs (Nat.le_refl _)
  have HR := Lib.hid hr
  clear hr
  by_cases h3 : n ≤ 2000
  · go_enter Try.func4, Try.ntmps4
    go_wp2_with fail
    refine (fixed10_any _).mono ?_
    rintro e1 w1 ⟨rfl, hb1⟩
    have HB1 := Lib.hid (HB.out.only (Only.of_below (S := Empty) hb1) (fun _ _ h => h))
    have HW1 := Lib.hid hb1
    clear hb1
    go_wp2_with fail
    refine (decode_any A n cap xs r _ HB1.out HR.out (by omega)).mono ?_
    rintro e1 w2 ⟨hd1, hb2⟩
    have HB2 := Lib.hid (HB1.out.only (Only.of_below (S := Empty) hb2) (fun _ _ h => h))
    have HW2 := Lib.hid (HW1.out.trans (hb2.mono HW1.out.size))
    clear hb2
    cases r with
    | none =>
      have hd1 : e1 = .returned (.tuple #[.slice none 0 0, .int .i64 8]) := hd1
      subst hd1
      go_wp2_with fail
      refine (refDecode_any A n cap xs none _ HB2.out HR.out (by omega)).mono ?_
      rintro e1 w3 ⟨hd2, hb3⟩
      have hd2 : e1 = .returned (.tuple #[.slice none 0 0, .int .i64 8]) := hd2
      subst hd2
      have HB3 := Lib.hid (HB2.out.only (Only.of_below (S := Empty) hb3) (fun _ _ h => h))
      have HW3 := Lib.hid (HW2.out.trans (hb3.mono HW2.out.size))
      clear hb3
      go_wp2_with fail
      refine (len_any A n cap xs none _ HB3.out HR.out (by omega)).mono ?_
      rintro e1 w4 ⟨rfl, q, rfl⟩
      unfold lenV
      go_wp2_with fail
      refine (sameT_yes none none 0 0 0 [] _ (RowSl.nil_ _ _ _ _ (by unfold maxLen; omega)) (RowSl.nil_ _ _ _ _ (by unfold maxLen; omega)) (by omega)).mono ?_
      rintro e1 w5 ⟨rfl, q2, rfl⟩
      have HB5 := Lib.hid (HB3.out.only ((Only.refl Empty w3).drewN (q + q2)) (fun _ _ h => h))
      go_wp2_with fail
      refine (plain_any A n cap xs _ HB5.out (by omega)).mono ?_
      rintro e1 w5 ⟨rfl, rfl⟩
      go_wp2_with fail
      refine (refPlain_any A n cap xs _ HB5.out (by omega)).mono ?_
      rintro e1 w5 ⟨rfl, rfl⟩
      obtain ⟨pl, hpl⟩ : ∃ pl, pl = xs.all plainB := ⟨_, rfl⟩
      rw [← hpl]
      clear hpl
      go_wp2
      go_quiet (fail)
      go_wp2
      go_ret
      exact ⟨rfl, (HW3.out.drewN _).drewN _⟩
    | some l =>
      obtain ⟨A1, c1, he1, hT1⟩ := hd1
      subst he1
      have HT1 := Lib.hid hT1
      have hll : l.length ≤ 100000 := by have h := (decR_some HR.out l rfl).2.2; have := HB.out.1; omega
      clear hT1
      go_wp2_with fail
      refine (refDecode_any A n cap xs (some l) _ HB2.out HR.out (by omega)).mono ?_
      rintro e1 w3 ⟨⟨A2, c2, rfl, hT2⟩, hb3⟩
      have HT2 := Lib.hid hT2
      have HT3 := Lib.hid (HT1.out.below hb3)
      have HB3 := Lib.hid (HB2.out.only (Only.of_below (S := Empty) hb3) (fun _ _ h => h))
      have HW3 := Lib.hid (HW2.out.trans (hb3.mono HW2.out.size))
      clear hb3 hT2
      go_wp2_with fail
      refine (len_any A n cap xs (some l) _ HB3.out HR.out (by omega)).mono ?_
      rintro e1 w4 ⟨rfl, q, rfl⟩
      unfold lenV
      go_wp2_with fail
      have HT4 := Lib.hid (HT3.out.only ((Only.refl Empty w3).drewN q) (fun _ _ h => h))
      have HT5 := Lib.hid (HT2.out.only ((Only.refl Empty w3).drewN q) (fun _ _ h => h))
      refine (sameT_yes A1 A2 l.length c1 c2 l _ HT4.out HT5.out (by omega)).mono ?_
      rintro e1 w5 ⟨rfl, q2, rfl⟩
      have HB5 := Lib.hid (HB3.out.only ((Only.refl Empty w3).drewN (q + q2)) (fun _ _ h => h))
      have HT6 := Lib.hid (HT3.out.only ((Only.refl Empty w3).drewN (q + q2)) (fun _ _ h => h))
      have HW5 := Lib.hid (HW3.out.drewN (q + q2))
      have heq := (decR_some HR.out l rfl).1
      have HU := Lib.hid (decR_some HR.out l rfl).2.1
      have Heq := Lib.hid heq
      clear heq
      go_wp2_with fail
      refine (plain_any A n cap xs _ HB5.out (by omega)).mono ?_
      rintro e1 w5 ⟨rfl, rfl⟩
      go_wp2_with fail
      refine (refPlain_any A n cap xs _ HB5.out (by omega)).mono ?_
      rintro e1 w5 ⟨rfl, rfl⟩
      obtain ⟨pl, hpl⟩ : ∃ pl, pl = xs.all plainB := ⟨_, rfl⟩
      rw [← hpl]
      clear hpl
      obtain ⟨w5, hw5⟩ : ∃ w5, w5 = w3.drewN (q + q2) := ⟨_, rfl⟩
      rw [← hw5] at HB5 HT6 HW5 ⊢
      clear hw5
      go_wp2
      have HI : Hid (∀ W, Only Empty w5 W → (convert 24 9 (.slice A n cap)).run Try.prog W = .ok (.string (strB xs)) W) := Lib.hid (fun W hW => conv_bytes (HB5.out.only hW (fun _ _ h => h)))
      have HY1 : Hid (∀ W, Only Empty w5 W → Calls Try.prog 7 #[.slice A1 l.length c1] W fun e W' => (∃ u, e = .returned u ∧ ∀ W2, Only Empty W' W2 → (convert 24 9 u).run Try.prog W2 = .ok (.string (strB xs)) W2) ∧ Only Empty w5 W' ∧ Only Empty W W') := Lib.hid (fun W hW =>
        (encode_any A1 l.length c1 l W (HT6.out.only hW (fun _ _ h => h)) HU.out (by omega)).mono fun e W' ⟨⟨u, he, ho⟩, hb⟩ => ⟨⟨u, he, fun W2 hW2 => by
            obtain ⟨A2, c2, rfl, hB2, -⟩ := ByteSl.of_own (S := Empty) ho (fun _ _ _ h => h)
            rw [Heq.out]
            exact conv_bytes (hB2.only hW2 (fun _ _ h => h))⟩, hW.trans (Only.of_below hb), Only.of_below hb⟩)
      have hO0 : Only Empty w5 w5 := Only.refl _ _
      have hO1 : Only Empty w5 w5.drew := hO0.drew
      have hs0 := HI.out _ hO0
      have hs1 := HI.out _ hO1
      go_region_held (fun W => (convert 24 9 (.slice A n cap)).run Try.prog W = .ok (.string (strB xs)) W) (first | exact hs0 | exact hs1 | exact hs10)
        ((go_at_call 7; (with_reducible refine (HY1.out _ hO1).mono ?_); rintro e10 w10 ⟨⟨u10, rfl, hcv10⟩, hO10, hP10⟩; have hs10 := HI.out _ hO10; have hc10 := hcv10 _ (Only.refl _ _)))
      all_goals
        go_wp2
        go_ret
        exact ⟨rfl, HW5.out.trans (hO10.below HW5.out.size (fun _ _ h => h))⟩
  · go_enter Try.func4, Try.ntmps4
    go_wp2_with fail
    refine (fixed10_any w).mono ?_
    rintro e1 w1 ⟨rfl, hb1⟩
    go_wp2
    go_ret
    exact ⟨rfl, hb1⟩

set_option maxRecDepth 100000 in
theorem utfDecodes_lifted (os : Os) (started : os.Started) (H : Type) (enc : TypeId × Value → H) :
    ReturnsInHanded {} Try.checked os 4 .any (Rows.utfDecodesSpec.pre6 enc Try.prog Try.f4 Rows.utfDecodesRow.domain false) (Rows.utfDecodesSpec.post enc Try.prog Try.f4 false true false false) := by
  refine returnsInHanded_of_change (C := Try.checked) Try.ownKnobs started (by kernel_rfl) Try.func4
    (ChangeSpec.witness6 (enc := enc) (C := Try.checked) false ⟨#[], #[.slice none 0 0], []⟩ 8 (by kernel_rfl) (by kernel_rfl) (by kernel_rfl) (by kernel_rfl)) ?_
  intro W base args ds gs before hval0 hW hcnd _
  have hval : ∀ (j : Nat) t v, Try.f4.params[j]? = some t → args[j]? = some v → Value.okWide Try.prog W .any base t v := hval0
  have hW' := hW
  obtain ⟨p, q, hA0, hV, rfl, hfz, hnd⟩ := hW
  have hA : DataW.TrodAll enc Try.prog W 0 (fun _ => true) true Try.f4.params.toList args.toList ds p := hA0
  rw [Try.params4] at hA hval
  obtain ⟨v0, vs0, d0, ds0, p0, q0, hargs, rfl, rfl, h0, r0⟩ := trodAll_cons hA
  obtain ⟨rfl, rfl, rfl⟩ := trodAll_nil r0
  obtain rfl : args = #[v0] := by cases args; simp_all
  obtain ⟨rfl, rfl⟩ := trodVars_none hV
  obtain ⟨A, n, cap, xs, rfl, hB, -⟩ := open_bytes (hval 0 24 v0 rfl rfl) h0
  refine (utfDecodes_calls A n cap xs W hB).mono fun e W' ⟨he, hb⟩ => ?_
  subst he
  exact ⟨_, rfl, law_post Try.allLaid (of_decide_eq_true (by kernel_rfl)) rfl Try.underlying4 rfl hW' rfl rfl rfl hb⟩

/-- The statement: UtfDecodes returns true, and its arguments read as they did. -/
theorem utfDecodes_holds : Rows.UtfDecodesSaid :=
  OpenClaim.holds_of_wide 4 Try.f4 rfl rfl rfl rfl rfl rfl rfl ⟨rfl, rfl, rfl, rfl, rfl⟩ rfl rfl rfl rfl rfl (by kernel_rfl) Try.func4 (by kernel_rfl)
    (of_decide_eq_true (by kernel_rfl)) (by unfold Func.isWrapper; first | (rw [if_pos (by decide +kernel)]; kernel_rfl) | (rw [if_neg (by decide +kernel)]; exact ⟨rfl, rfl⟩))
    (fun os started H enc _ => utfDecodes_lifted os started H enc)

end Go.Proofs.Ytnhfmcijadficaa
