/- Proved: whatever its seven arguments are, NorClears returns true and leaves them as they were. Conditions: none but the row's own (the arguments can be read as data). -/
import Derived.Test.YtaepdmifenkhcaaLClears2
namespace Go.Proofs.Ytaepdmifenkhcaa
open Go.ChangeShapes Go.WideShapes Go.ChangeAt Go.RowKit Go.Joins

theorem norClears_all (a b t : Int) (tn : Bool) (k0 : Int) (m0 : UInt8) (A A2 : Option Addr) (n cap n2 cap2 : Nat) (xs ys : List UInt8) (w : World) (a1 : 0 ≤ a) (a2 : a ≤ 255) (b1 : 0 ≤ b) (b2 : b ≤ 255) (t1 : 0 ≤ t) (t2 : t ≤ 65535)
    (k1 : -9223372036854775808 ≤ k0) (k2 : k0 ≤ 9223372036854775807) (hx : ByteSl w (fun k => w.heap.size ≤ k) A n cap xs) (hy : ByteSl w (fun k => w.heap.size ≤ k) A2 n2 cap2 ys) :
    Calls Try.prog 4 #[.int .u8 a, .int .u8 b, .slice A n cap, .int .u16 t, .slice A2 n2 cap2, .bool tn, .agg #[.int .i64 k0, B8 m0]] w fun e w' => e = .returned (.bool true) ∧ Below w.heap.size w w' := by
  by_cases h : 200 < n ∨ 200 < n2
  · exact norClears_long a b t tn k0 m0 A A2 n cap n2 cap2 w h (Nat.le_trans hx.2.1 hx.2.2.1) (Nat.le_trans hy.2.1 hy.2.2.1)
  · obtain ⟨t, rfl⟩ := Int.eq_ofNat_of_zero_le t1
    cases tn
    · exact norClears_plain a b t k0 m0 A A2 n cap n2 cap2 xs ys w a1 a2 b1 b2 (by omega) hx hy (by omega) (by omega)
    · exact norClears_torn a b t k0 m0 A A2 n cap n2 cap2 xs ys w a1 a2 b1 b2 (by omega) k1 k2 hx hy (by omega) (by omega)

set_option maxRecDepth 100000 in
theorem norClears_lifted (os : Os) (started : os.Started) (H : Type) (enc : TypeId × Value → H) :
    ReturnsInHanded {} Try.checked os 4 .any (Rows.norClearsSpec.pre6 enc Try.prog Try.f4 Rows.norClearsRow.domain false) (Rows.norClearsSpec.post enc Try.prog Try.f4 false true false false) := by
  refine returnsInHanded_of_change (C := Try.checked) Try.ownKnobs started (by kernel_rfl) Try.func4
    (ChangeSpec.witness6 (enc := enc) (C := Try.checked) false ⟨#[], #[.int .u8 0, .int .u8 0, .slice none 0 0, .int .u16 0, .slice none 0 0, .bool false, .agg #[.int .i64 0, .int .u8 0]], []⟩ 8 (by kernel_rfl) (by kernel_rfl) (by kernel_rfl) (by kernel_rfl)) ?_
  intro W base args ds gs before hval0 hW hcnd _
  have hval : ∀ (j : Nat) t v, Try.f4.params[j]? = some t → args[j]? = some v → Value.okWide Try.prog W .any base t v := hval0
  have hW' := hW
  obtain ⟨p, q, hA0, hV, rfl, hfz, hnd⟩ := hW
  have hA : DataW.TrodAll enc Try.prog W 0 (fun _ => true) true Try.f4.params.toList args.toList ds p := hA0
  rw [Try.params4] at hA hval
  obtain ⟨v0, vs0, d0, ds0, p0, q0, hargs, rfl, rfl, h0, r0⟩ := trodAll_cons hA
  obtain ⟨v1, vs1, d1, ds1, p1, q1, rfl, rfl, rfl, h1, r1⟩ := trodAll_cons r0
  obtain ⟨v2, vs2, d2, ds2, p2, q2, rfl, rfl, rfl, h2, r2⟩ := trodAll_cons r1
  obtain ⟨v3, vs3, d3, ds3, p3, q3, rfl, rfl, rfl, h3, r3⟩ := trodAll_cons r2
  obtain ⟨v4, vs4, d4, ds4, p4, q4, rfl, rfl, rfl, h4, r4⟩ := trodAll_cons r3
  obtain ⟨v5, vs5, d5, ds5, p5, q5, rfl, rfl, rfl, h5, r5⟩ := trodAll_cons r4
  obtain ⟨v6, vs6, d6, ds6, p6, q6, rfl, rfl, rfl, h6, r6⟩ := trodAll_cons r5
  obtain ⟨rfl, rfl, rfl⟩ := trodAll_nil r6
  obtain rfl : args = #[v0, v1, v2, v3, v4, v5, v6] := by cases args; simp_all
  obtain ⟨rfl, rfl⟩ := trodVars_none hV
  obtain ⟨x0, rfl, a0, b0⟩ := open_u8 (hval 0 5 v0 rfl rfl) h0
  obtain ⟨x1, rfl, a1, b1⟩ := open_u8 (hval 1 5 v1 rfl rfl) h1
  obtain ⟨A, n, cap, xs, rfl, hx⟩ := open_bytes (hval 2 34 v2 rfl rfl) h2
  obtain ⟨t, rfl, a3, b3⟩ := open_u16 (hval 3 48 v3 rfl rfl) h3
  obtain ⟨A2, n2, cap2, ys, rfl, hy⟩ := open_bytes (hval 4 34 v4 rfl rfl) h4
  obtain ⟨tn, rfl⟩ := open_b (hval 5 4 v5 rfl rfl) h5
  obtain ⟨k, m, rfl, k1, k2⟩ := open_tear (hval 6 36 v6 rfl rfl) h6
  refine (norClears_all x0 x1 t tn k m A A2 n cap n2 cap2 xs ys W a0 b0 a1 b1 a3 b3 k1 k2 hx hy).mono fun e W' ⟨he, hb⟩ => ?_
  subst he
  exact ⟨_, rfl, law_post Try.allLaid (of_decide_eq_true (by kernel_rfl)) rfl Try.underlying4 rfl hW' rfl rfl rfl hb⟩

/-- The statement: NorClears returns true, and its arguments read as they did. -/
theorem norClears_holds : Rows.NorClearsSaid :=
  OpenClaim.holds_of_wide 4 Try.f4 rfl rfl rfl rfl rfl rfl rfl ⟨rfl, rfl, rfl, rfl, rfl⟩ rfl rfl rfl rfl rfl (by kernel_rfl) Try.func4 (by kernel_rfl)
    (of_decide_eq_true (by kernel_rfl)) (by unfold Func.isWrapper; first | (rw [if_pos (by decide +kernel)]; kernel_rfl) | (rw [if_neg (by decide +kernel)]; exact ⟨rfl, rfl⟩))
    (fun os started H enc _ => norClears_lifted os started H enc)

end Go.Proofs.Ytaepdmifenkhcaa
