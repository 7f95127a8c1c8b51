/- Proved: whatever its arguments are, PoolTells returns true. Conditions: none but the row's own (the arguments can be read as data). -/
import Derived.Test.YtinkjeifkjfkgaaVn
namespace Go.Proofs.Ytinkjeifkjfkgaa
open Go.ChangeShapes Go.WideShapes Go.ChangeAt Go.RowKit Go.Joins

set_option maxHeartbeats 2000000 in
theorem poolTells_calls (A : Option Addr) (n cap : Nat) (l : List Cst) (p t : Int) (w : World) (hP : PoolSl w A n cap l) (hok : ∀ c ∈ l, c.ok) :
    Calls Try.prog 4 #[.slice A n cap, .int .i64 p, .int .i64 t] w fun e w' => e = .returned (.bool true) ∧ Below w.heap.size w w' := by
  have HP := Lib.hid hP
  have CF : Hid (∀ W, Below w.heap.size w W → Calls Try.prog 7 #[.slice A n cap] W fun e w' => e = .returned (.bool (fewF l)) ∧ Below W.heap.size W w') := Lib.hid (fun W hb => few11_any A n cap l W (hP.below hb) hok)
  have hfl : fewF l = true → n ≤ 1000000 := fun h => by have := fewF_len h; have := hP.1; omega
  have Hok := Lib.hid hok
  clear hP hok
  go_enter Try.func4, Try.ntmps4
  go_wp2_with fail
  refine (fixed11_any _).mono ?_
  rintro e w1 ⟨rfl, hb1⟩
  have HW1 := Lib.hid hb1
  clear hb1
  go_wp2_with fail
  refine (CF.out _ HW1.out).mono ?_
  rintro e w2 ⟨rfl, hb2⟩
  have HW2 := Lib.hid (HW1.out.trans (hb2.mono HW1.out.size))
  clear hb2
  cases hfew : fewF l with
  | false =>
    go_wp2
    go_ret
    exact ⟨rfl, HW2.out⟩
  | true =>
    have hn := hfl hfew
    have C1 : Hid (∀ W, Below w.heap.size w W → Calls Try.prog 14 #[.slice A n cap, .int .i64 p] W fun e w' => e = .returned (textV (textF l p)) ∧ Below W.heap.size W w') := Lib.hid (fun W hb => text_any A n cap l p W (HP.out.below hb) hn)
    have C2 : Hid (∀ W, Below w.heap.size w W → Calls Try.prog 15 #[.slice A n cap, .int .i64 p] W fun e w' => e = .returned (textV (textF l p)) ∧ W = w') := Lib.hid (fun W hb => refText_any A n cap l p W (HP.out.below hb) hn)
    have C3 : Hid (∀ W, Below w.heap.size w W → Calls Try.prog 16 #[.slice A n cap, .int .i64 p] W fun e w' => e = .returned (textV (classF l p)) ∧ Below W.heap.size W w') := Lib.hid (fun W hb => class_any A n cap l p W (HP.out.below hb) hn)
    have C4 : Hid (∀ W, Below w.heap.size w W → Calls Try.prog 17 #[.slice A n cap, .int .i64 p] W fun e w' => e = .returned (textV (classF l p)) ∧ W = w') := Lib.hid (fun W hb => refClass_any A n cap l p W (HP.out.below hb) hn)
    have C5 : Hid (∀ W, Below w.heap.size w W → Calls Try.prog 18 #[.slice A n cap, .int .i64 p, .int .i64 t] W fun e w' => e = .returned (memberV (memberF l p t)) ∧ Below W.heap.size W w') := Lib.hid (fun W hb => member_any A n cap l p t W (HP.out.below hb) hn)
    have C6 : Hid (∀ W, Below w.heap.size w W → Calls Try.prog 19 #[.slice A n cap, .int .i64 p, .int .i64 t] W fun e w' => e = .returned (memberV (memberF l p t)) ∧ Below W.heap.size W w') := Lib.hid (fun W hb => refMember_any A n cap l p t W (HP.out.below hb) hn)
    obtain ⟨T1, hT1⟩ : ∃ T1 : ByteArray × Bool, textV (textF l p) = .tuple #[.string T1.1, .bool T1.2] := ⟨(_, _), textV_eq _⟩
    obtain ⟨T2, hT2⟩ : ∃ T1 : ByteArray × Bool, textV (classF l p) = .tuple #[.string T1.1, .bool T1.2] := ⟨(_, _), textV_eq _⟩
    obtain ⟨T3, hT3⟩ : ∃ T3 : ByteArray × ByteArray × ByteArray × Bool, memberV (memberF l p t) = .tuple #[.string T3.1, .string T3.2.1, .string T3.2.2.1, .bool T3.2.2.2] := by
      cases memberF l p t with
      | none => exact ⟨(_, _, _, _), rfl⟩
      | some x => exact ⟨(_, _, _, _), rfl⟩
    rw [hT1] at C1 C2
    rw [hT2] at C3 C4
    rw [hT3] at C5 C6
    obtain ⟨a, x⟩ := T1
    obtain ⟨c, z⟩ := T2
    obtain ⟨e1, f1, g1, u⟩ := T3
    simp only at C1 C2 C3 C4 C5 C6
    clear hT1 hT2 hT3 hfl hfew hn
    go_wp2_with fail
    refine (C1.out _ HW2.out).mono ?_
    rintro e w3 ⟨rfl, hb3⟩
    have HW3 := Lib.hid (HW2.out.trans (hb3.mono HW2.out.size))
    clear hb3
    go_wp2_with fail
    refine (C2.out _ HW3.out).mono ?_
    rintro e w4 ⟨rfl, rfl⟩
    go_wp2_with fail
    refine (C3.out _ HW3.out).mono ?_
    rintro e w5 ⟨rfl, hb5⟩
    have HW5 := Lib.hid (HW3.out.trans (hb5.mono HW3.out.size))
    clear hb5
    go_wp2_with fail
    refine (C4.out _ HW5.out).mono ?_
    rintro e w6 ⟨rfl, rfl⟩
    go_wp2_with fail
    refine (C5.out _ HW5.out).mono ?_
    rintro e w7 ⟨rfl, hb7⟩
    have HW7 := Lib.hid (HW5.out.trans (hb7.mono HW5.out.size))
    clear hb7
    go_wp2_with fail
    refine (C6.out _ HW7.out).mono ?_
    rintro e w8 ⟨rfl, hb8⟩
    have HW8 := Lib.hid (HW7.out.trans (hb8.mono HW7.out.size))
    clear hb8
    go_wp2
    go_ret
    exact ⟨rfl, HW8.out⟩

set_option maxRecDepth 100000 in
theorem poolTells_lifted (os : Os) (started : os.Started) (H : Type) (enc : TypeId × Value → H) :
    ReturnsInHanded {} Try.checked os 4 .any (Rows.poolTellsSpec.pre6 enc Try.prog Try.f4 Rows.poolTellsRow.domain false) (Rows.poolTellsSpec.post enc Try.prog Try.f4 false true false false) := by
  refine returnsInHanded_of_change (C := Try.checked) Try.ownKnobs started (by kernel_rfl) Try.func4
    (ChangeSpec.witness6 (enc := enc) (C := Try.checked) false ⟨#[], #[.slice none 0 0, .int .i64 0, .int .i64 0], []⟩ 8 (by kernel_rfl) (by kernel_rfl) (by kernel_rfl) (by kernel_rfl)) ?_
  intro W base args ds gs before hval0 hW hcnd _
  have hval : ∀ (j : Nat) t v, Try.f4.params[j]? = some t → args[j]? = some v → Value.okWide Try.prog W .any base t v := hval0
  have hW' := hW
  obtain ⟨p, q, hA0, hV, rfl, hfz, hnd⟩ := hW
  have hA : DataW.TrodAll enc Try.prog W 0 (fun _ => true) true Try.f4.params.toList args.toList ds p := hA0
  rw [Try.params4] at hA hval
  obtain ⟨v0, vs0, d0, ds0, p0, q0, hargs, rfl, rfl, h0, r0⟩ := trodAll_cons hA
  obtain ⟨v1, vs1, d1, ds1, p1, q1, rfl, rfl, rfl, h1, r1⟩ := trodAll_cons r0
  obtain ⟨v2, vs2, d2, ds2, p2, q2, rfl, rfl, rfl, h2, r2⟩ := trodAll_cons r1
  obtain ⟨rfl, rfl, rfl⟩ := trodAll_nil r2
  obtain rfl : args = #[v0, v1, v2] := by cases args; simp_all
  obtain ⟨rfl, rfl⟩ := trodVars_none hV
  obtain ⟨A, n, cap, l, rfl, hP, hok⟩ := open_pool (hval 0 22 v0 rfl rfl) h0
  obtain ⟨p, rfl, _, _⟩ := open_int_ (hval 1 3 v1 rfl rfl) h1
  obtain ⟨t, rfl, _, _⟩ := open_int_ (hval 2 3 v2 rfl rfl) h2
  refine (poolTells_calls A n cap l p t W hP hok).mono fun e W' ⟨he, hb⟩ => ?_
  subst he
  exact ⟨_, rfl, law_post Try.allLaid (of_decide_eq_true (by kernel_rfl)) rfl Try.underlying4 rfl hW' rfl rfl rfl hb⟩

/-- The statement: PoolTells returns true, and its arguments read as they did. -/
theorem poolTells_holds : Rows.PoolTellsSaid :=
  OpenClaim.holds_of_wide 4 Try.f4 rfl rfl rfl rfl rfl rfl rfl ⟨rfl, rfl, rfl, rfl, rfl⟩ rfl rfl rfl rfl rfl (by kernel_rfl) Try.func4 (by kernel_rfl)
    (of_decide_eq_true (by kernel_rfl)) (by unfold Func.isWrapper; first | (rw [if_pos (by decide +kernel)]; kernel_rfl) | (rw [if_neg (by decide +kernel)]; exact ⟨rfl, rfl⟩))
    (fun os started H enc _ => poolTells_lifted os started H enc)

end Go.Proofs.Ytinkjeifkjfkgaa
