/- Proved: whatever their arguments are, NumGets and NumBack return true and leave them as they were. Conditions: none but the rows' own (the arguments can be read as data). -/
import Derived.Test.YtadnenoehdemkaaNi
namespace Go.Proofs.Ytadnenoehdemkaa
open Go.ChangeShapes Go.WideShapes Go.ChangeAt Go.RowKit Go.Joins

/-- What Get answers. -/
def getOut (xs : List UInt8) (a n : Int) : Int × Int :=
  if n < 1 ∨ 8 < n then (0, 1) else if a < 0 ∨ (xs.length : Int) - n < a then (0, 6) else ((getV ((xs.drop a.toNat).take n.toNat) : Nat), 0)

theorem get_out (A : Option Addr) (m cap : Nat) (a n : Int) (xs : List UInt8) (w : World) (hB : ByteSl w Empty A m cap xs) (hm : m ≤ 1048576) :
    Calls Try.prog 17 #[.slice A m cap, .int .i64 a, .int .i64 n] w fun e w' => e = .returned (.tuple #[.int .u64 (getOut xs a n).1, .int .i64 (getOut xs a n).2]) ∧ w = w' := by
  have hl := hB.1
  unfold getOut
  by_cases h : n < 1 ∨ 8 < n
  · rw [if_pos h]
    exact get_arg A m cap a n w h
  · rw [if_neg h]
    by_cases h2 : a < 0 ∨ (xs.length : Int) - n < a
    · rw [if_pos h2]
      exact get_short A m cap a n w (by omega) (by omega) (by omega) (by omega)
    · rw [if_neg h2]
      have hr := get_yes A m cap a.toNat n.toNat xs w hB (by omega) (by omega) hm (by omega)
      rw [show ((a.toNat : Nat) : Int) = a by omega, show ((n.toNat : Nat) : Int) = n by omega] at hr
      exact hr
theorem refGet_out (A : Option Addr) (m cap : Nat) (a n : Int) (xs : List UInt8) (w : World) (hB : ByteSl w Empty A m cap xs) (hm : m ≤ 1048576) :
    Calls Try.prog 18 #[.slice A m cap, .int .i64 a, .int .i64 n] w fun e w' => e = .returned (.tuple #[.int .u64 (getOut xs a n).1, .int .i64 (getOut xs a n).2]) ∧ w = w' := by
  have hl := hB.1
  unfold getOut
  by_cases h : n < 1 ∨ 8 < n
  · rw [if_pos h]
    exact refGet_arg A m cap a n w h
  · rw [if_neg h]
    by_cases h2 : a < 0 ∨ (xs.length : Int) - n < a
    · rw [if_pos h2]
      exact refGet_short A m cap a n w (by omega) (by omega) (by omega) (by omega)
    · rw [if_neg h2]
      have hr := refGet_yes A m cap a.toNat n.toNat xs w hB (by omega) (by omega) hm (by omega)
      rw [show ((a.toNat : Nat) : Int) = a by omega, show ((n.toNat : Nat) : Int) = n by omega] at hr
      exact hr

set_option maxHeartbeats 1000000 in
theorem numGets_calls (A : Option Addr) (m cap : Nat) (a n : Int) (xs : List UInt8) (w : World) (hB0 : ByteSl w (fun k => w.heap.size ≤ k) A m cap xs) :
    Calls Try.prog 4 #[.slice A m cap, .int .i64 a, .int .i64 n] w fun e w' => e = .returned (.bool true) ∧ Below w.heap.size w w' := by
  have hB := hB0.mono (T := Empty) (fun _ _ h => h.elim)
  have hm9 : m ≤ 9223372036854775807 := by have := hB.2.1; have := hB.2.2.1; unfold maxLen at this; omega
  clear hB0
  by_cases h3 : m ≤ 2000
  · have H : Hid (∀ w1, Below w.heap.size w w1 → ByteSl w1 Empty A m cap xs) := Lib.hid fun w1 h => hB.only (Only.of_below h) (fun _ _ h => h)
    clear hB
    obtain ⟨x, hx⟩ : ∃ x, getOut xs a n = x := ⟨_, rfl⟩
    have H1 := Lib.hid fun w1 h => get_out A m cap a n xs w1 (H.out w1 h) (by omega)
    have H2 := Lib.hid fun w1 h => refGet_out A m cap a n xs w1 (H.out w1 h) (by omega)
    rw [hx] at H1 H2
    obtain ⟨x1, x2⟩ := x
    clear hx
    go_enter Try.func4, Try.ntmps4
    go_wp2_with fail
    refine (fixed2_any w).mono ?_
    rintro e1 w1 ⟨rfl, hb1⟩
    go_wp2_with fail
    refine (H1.out w1 hb1).mono ?_
    rintro e1 w2 ⟨rfl, rfl⟩
    go_wp2_with fail
    refine (H2.out w1 hb1).mono ?_
    rintro e1 w2 ⟨rfl, rfl⟩
    go_wp2
    go_ret
    exact ⟨rfl, hb1⟩
  · clear hB
    go_enter Try.func4, Try.ntmps4
    go_wp2_with fail
    refine (fixed2_any w).mono ?_
    rintro e1 w1 ⟨rfl, hb1⟩
    go_wp2
    go_ret
    exact ⟨rfl, hb1⟩

theorem wrap64_bd (n : Int) : -9223372036854775808 ≤ wrap64 n ∧ wrap64 n ≤ 9223372036854775807 := by unfold wrap64; omega
theorem wrap64_mod (n : Int) : wrap64 n % 18446744073709551616 = n % 18446744073709551616 := by unfold wrap64; omega
theorem wrap64_eq (x a : Int) (h : x % 18446744073709551616 = a % 18446744073709551616) (a1 : -9223372036854775808 ≤ a) (a2 : a ≤ 9223372036854775807) : wrap64 x = a := by unfold wrap64; omega

theorem back_diff (a b : Int) (a1 : -9223372036854775808 ≤ a) (a2 : a ≤ 9223372036854775807) : wrap64 (wrap64 (a - b) + b) = a := by
  apply wrap64_eq _ _ _ a1 a2
  rw [Int.add_emod, wrap64_mod, ← Int.add_emod]
  congr 1
  omega
theorem back_quo (a b : Int) (a1 : -9223372036854775808 ≤ a) (a2 : a ≤ 9223372036854775807) : wrap64 (wrap64 (wrap64 (a.tdiv b) * b) + a.tmod b) = a := by
  apply wrap64_eq _ _ _ a1 a2
  rw [Int.add_emod, wrap64_mod, Int.mul_emod, wrap64_mod, ← Int.mul_emod, ← Int.add_emod]
  congr 1
  have := Int.tdiv_mul_add_tmod a b
  exact this

set_option maxHeartbeats 1000000 in
theorem numBack_calls (a b : Int) (w : World) (a1 : -9223372036854775808 ≤ a) (a2 : a ≤ 9223372036854775807) :
    Calls Try.prog 7 #[.int .i64 a, .int .i64 b] w fun e w' => e = .returned (.bool true) ∧ Below w.heap.size w w' := by
  have H1 := Lib.hid fun w => long_any 2 a b w a1 a2
  obtain ⟨d1, d2⟩ := wrap64_bd (a - b)
  have H2 := Lib.hid fun w => long_any 1 (wrap64 (a - b)) b w d1 d2
  have H3 := Lib.hid fun w => long_any 4 a b w a1 a2
  have H4 := Lib.hid fun w => long_any 5 a b w a1 a2
  rw [show outOf val64 2 a b = (wrap64 (a - b), 0) by unfold outOf; rw [if_neg (by omega), if_neg (by omega)]; rfl] at H1
  rw [show outOf val64 1 (wrap64 (a - b)) b = (a, 0) by unfold outOf; rw [if_neg (by omega), if_neg (by omega)]; exact congrArg (fun v => (v, (0 : Int))) (back_diff a b a1 a2)] at H2
  generalize wrap64 (a - b) = d at H1 H2
  clear d1 d2
  by_cases hz : b = 0
  · subst hz
    rw [show outOf val64 4 a 0 = (0, 2) by unfold outOf; rw [if_neg (by omega), if_pos (by omega)]] at H3
    rw [show outOf val64 5 a 0 = (0, 2) by unfold outOf; rw [if_neg (by omega), if_pos (by omega)]] at H4
    clear a1 a2
    go_enter Try.func7, Try.ntmps7
    go_wp2_with fail
    refine (fixed2_any w).mono ?_
    rintro e1 w1 ⟨rfl, hb1⟩
    go_wp2_with fail
    refine (H1.out w1).mono ?_
    rintro e1 w2 ⟨rfl, rfl⟩
    go_wp2_with fail
    refine (H2.out w1).mono ?_
    rintro e1 w2 ⟨rfl, rfl⟩
    go_wp2_with fail
    refine (H3.out w1).mono ?_
    rintro e1 w2 ⟨rfl, rfl⟩
    go_wp2_with fail
    refine (H4.out w1).mono ?_
    rintro e1 w2 ⟨rfl, rfl⟩
    go_wp2
    go_ret
    exact ⟨rfl, hb1⟩
  · have hb0 : (b == 0) = false := by simp [hz]
    rw [show outOf val64 4 a b = (wrap64 (a.tdiv b), 0) by unfold outOf; rw [if_neg (by omega), if_neg (by omega)]; rfl] at H3
    rw [show outOf val64 5 a b = (a.tmod b, 0) by unfold outOf; rw [if_neg (by omega), if_neg (by omega)]; rfl] at H4
    obtain ⟨q1, q2⟩ := wrap64_bd (a.tdiv b)
    have H5 := Lib.hid fun w => long_any 3 (wrap64 (a.tdiv b)) b w q1 q2
    rw [show outOf val64 3 (wrap64 (a.tdiv b)) b = (wrap64 (wrap64 (a.tdiv b) * b), 0) by unfold outOf; rw [if_neg (by omega), if_neg (by omega)]; rfl] at H5
    obtain ⟨p1, p2⟩ := wrap64_bd (wrap64 (a.tdiv b) * b)
    have H6 := Lib.hid fun w => long_any 1 (wrap64 (wrap64 (a.tdiv b) * b)) (a.tmod b) w p1 p2
    rw [show outOf val64 1 (wrap64 (wrap64 (a.tdiv b) * b)) (a.tmod b) = (a, 0) by unfold outOf; rw [if_neg (by omega), if_neg (by omega)]; exact congrArg (fun v => (v, (0 : Int))) (back_quo a b a1 a2)] at H6
    generalize wrap64 (wrap64 (a.tdiv b) * b) = p at H5 H6
    generalize wrap64 (a.tdiv b) = q at H3 H5
    generalize a.tmod b = r at H4 H6
    clear a1 a2 q1 q2 p1 p2 hz
    go_enter Try.func7, Try.ntmps7
    go_wp2_with fail
    refine (fixed2_any w).mono ?_
    rintro e1 w1 ⟨rfl, hb1⟩
    go_wp2_with fail
    refine (H1.out w1).mono ?_
    rintro e1 w2 ⟨rfl, rfl⟩
    go_wp2_with fail
    refine (H2.out w1).mono ?_
    rintro e1 w2 ⟨rfl, rfl⟩
    go_wp2_with fail
    refine (H3.out w1).mono ?_
    rintro e1 w2 ⟨rfl, rfl⟩
    go_wp2_with fail
    refine (H4.out w1).mono ?_
    rintro e1 w2 ⟨rfl, rfl⟩
    go_wp2_with fail
    refine (H5.out w1).mono ?_
    rintro e1 w2 ⟨rfl, rfl⟩
    go_wp2_with fail
    refine (H6.out w1).mono ?_
    rintro e1 w2 ⟨rfl, rfl⟩
    go_wp2
    go_ret
    exact ⟨rfl, hb1⟩

set_option maxRecDepth 100000 in
theorem numGets_lifted (os : Os) (started : os.Started) (H : Type) (enc : TypeId × Value → H) :
    ReturnsInHanded {} Try.checked os 4 .any (Rows.numGetsSpec.pre6 enc Try.prog Try.f4 Rows.numGetsRow.domain false) (Rows.numGetsSpec.post enc Try.prog Try.f4 false true false false) := by
  refine returnsInHanded_of_change (C := Try.checked) Try.ownKnobs started (by kernel_rfl) Try.func4
    (ChangeSpec.witness6 (enc := enc) (C := Try.checked) false ⟨#[], #[.slice none 0 0, .int .i64 0, .int .i64 0], []⟩ 8 (by kernel_rfl) (by kernel_rfl) (by kernel_rfl) (by kernel_rfl)) ?_
  intro W base args ds gs before hval0 hW hcnd _
  have hval : ∀ (j : Nat) t v, Try.f4.params[j]? = some t → args[j]? = some v → Value.okWide Try.prog W .any base t v := hval0
  have hW' := hW
  obtain ⟨p, q, hA0, hV, rfl, hfz, hnd⟩ := hW
  have hA : DataW.TrodAll enc Try.prog W 0 (fun _ => true) true Try.f4.params.toList args.toList ds p := hA0
  rw [Try.params4] at hA hval
  obtain ⟨v0, vs0, d0, ds0, p0, q0, hargs, rfl, rfl, h0, r0⟩ := trodAll_cons hA
  obtain ⟨v1, vs1, d1, ds1, p1, q1, rfl, rfl, rfl, h1, r1⟩ := trodAll_cons r0
  obtain ⟨v2, vs2, d2, ds2, p2, q2, rfl, rfl, rfl, h2, r2⟩ := trodAll_cons r1
  obtain ⟨rfl, rfl, rfl⟩ := trodAll_nil r2
  obtain rfl : args = #[v0, v1, v2] := by cases args; simp_all
  obtain ⟨rfl, rfl⟩ := trodVars_none hV
  obtain ⟨A, m, cap, xs, rfl, hB, -⟩ := open_bytes (hval 0 22 v0 rfl rfl) h0
  obtain ⟨a, rfl, -, -⟩ := open_int_ (hval 1 3 v1 rfl rfl) h1
  obtain ⟨n, rfl, -, -⟩ := open_int_ (hval 2 3 v2 rfl rfl) h2
  refine (numGets_calls A m cap a n xs W hB).mono fun e W' ⟨he, hb⟩ => ?_
  subst he
  exact ⟨_, rfl, law_post Try.allLaid (of_decide_eq_true (by kernel_rfl)) rfl Try.underlying4 rfl hW' rfl rfl rfl hb⟩

/-- The statement: NumGets returns true, and its arguments read as they did. -/
theorem numGets_holds : Rows.NumGetsSaid :=
  OpenClaim.holds_of_wide 4 Try.f4 rfl rfl rfl rfl rfl rfl rfl ⟨rfl, rfl, rfl, rfl, rfl⟩ rfl rfl rfl rfl rfl (by kernel_rfl) Try.func4 (by kernel_rfl)
    (of_decide_eq_true (by kernel_rfl)) (by unfold Func.isWrapper; first | (rw [if_pos (by decide +kernel)]; kernel_rfl) | (rw [if_neg (by decide +kernel)]; exact ⟨rfl, rfl⟩))
    (fun os started H enc _ => numGets_lifted os started H enc)

set_option maxRecDepth 100000 in
theorem numBack_lifted (os : Os) (started : os.Started) (H : Type) (enc : TypeId × Value → H) :
    ReturnsInHanded {} Try.checked os 7 .any (Rows.numBackSpec.pre6 enc Try.prog Try.f7 Rows.numBackRow.domain false) (Rows.numBackSpec.post enc Try.prog Try.f7 false true false false) := by
  refine returnsInHanded_of_change (C := Try.checked) Try.ownKnobs started (by kernel_rfl) Try.func7
    (ChangeSpec.witness6 (enc := enc) (C := Try.checked) false ⟨#[], #[.int .i64 0, .int .i64 0], []⟩ 8 (by kernel_rfl) (by kernel_rfl) (by kernel_rfl) (by kernel_rfl)) ?_
  intro W base args ds gs before hval0 hW hcnd _
  have hval : ∀ (j : Nat) t v, Try.f7.params[j]? = some t → args[j]? = some v → Value.okWide Try.prog W .any base t v := hval0
  have hW' := hW
  obtain ⟨p, q, hA0, hV, rfl, hfz, hnd⟩ := hW
  have hA : DataW.TrodAll enc Try.prog W 0 (fun _ => true) true Try.f7.params.toList args.toList ds p := hA0
  rw [Try.params7] at hA hval
  obtain ⟨v0, vs0, d0, ds0, p0, q0, hargs, rfl, rfl, h0, r0⟩ := trodAll_cons hA
  obtain ⟨v1, vs1, d1, ds1, p1, q1, rfl, rfl, rfl, h1, r1⟩ := trodAll_cons r0
  obtain ⟨rfl, rfl, rfl⟩ := trodAll_nil r1
  obtain rfl : args = #[v0, v1] := by cases args; simp_all
  obtain ⟨rfl, rfl⟩ := trodVars_none hV
  obtain ⟨a, rfl, a1, a2⟩ := open_i64_ (hval 0 2 v0 rfl rfl) h0
  obtain ⟨b, rfl, -, -⟩ := open_i64_ (hval 1 2 v1 rfl rfl) h1
  refine (numBack_calls a b W a1 a2).mono fun e W' ⟨he, hb⟩ => ?_
  subst he
  exact ⟨_, rfl, law_post Try.allLaid (of_decide_eq_true (by kernel_rfl)) rfl Try.underlying4 rfl hW' rfl rfl rfl hb⟩

/-- The statement: NumBack returns true, and its arguments read as they did. -/
theorem numBack_holds : Rows.NumBackSaid :=
  OpenClaim.holds_of_wide 7 Try.f7 rfl rfl rfl rfl rfl rfl rfl ⟨rfl, rfl, rfl, rfl, rfl⟩ rfl rfl rfl rfl rfl (by kernel_rfl) Try.func7 (by kernel_rfl)
    (of_decide_eq_true (by kernel_rfl)) (by unfold Func.isWrapper; first | (rw [if_pos (by decide +kernel)]; kernel_rfl) | (rw [if_neg (by decide +kernel)]; exact ⟨rfl, rfl⟩))
    (fun os started H enc _ => numBack_lifted os started H enc)

end Go.Proofs.Ytadnenoehdemkaa
