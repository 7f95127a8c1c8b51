/- Proved: whatever its argument is, CrcSums returns true and leaves it as it was. Conditions: none but the row's own (the argument can be read as data). -/
import Derived.Test.YtadnenoehdemkaaCl
namespace Go.Proofs.Ytadnenoehdemkaa
open Go.ChangeShapes Go.WideShapes Go.ChangeAt Go.RowKit Go.Joins

set_option maxHeartbeats 1000000 in
theorem crcSums_calls (A : Option Addr) (n cap : Nat) (xs : List UInt8) (w : World) (hB0 : ByteSl w (fun k => w.heap.size ≤ k) A n cap xs) :
    Calls Try.prog 8 #[.slice A n cap] w fun e w' => e = .returned (.bool true) ∧ Below w.heap.size w w' := by
  have hB := hB0.mono (T := Empty) (fun _ _ h => h.elim)
  have hn : n ≤ 9223372036854775807 := by have := hB.2.1; have := hB.2.2.1; unfold maxLen at this; omega
  clear hB0
  by_cases h3 : n ≤ 3000
  · go_enter Try.func8, Try.ntmps8
    go_wp2_with fail
    refine (fixed_any _).mono ?_
    rintro e1 w1 ⟨rfl, hb1⟩
    have hB1 := hB.only (Only.of_below (S := Empty) hb1) (fun _ _ h => h)
    go_wp2_with fail
    refine (sum16_any A n cap xs _ hB1).mono ?_
    rintro e1 w2 ⟨rfl, hb2⟩
    have hB2 := hB1.only (Only.of_below (S := Empty) hb2) (fun _ _ h => h)
    go_wp2_with fail
    refine (refSum16_any A n cap xs _ hB2).mono ?_
    rintro e1 w3 ⟨rfl, rfl⟩
    unfold V16
    go_wp2_with fail
    refine (sum32_any A n cap xs _ hB2).mono ?_
    rintro e1 w3 ⟨rfl, hb3⟩
    have hB3 := hB2.only (Only.of_below (S := Empty) hb3) (fun _ _ h => h)
    go_wp2_with fail
    refine (refSum32_any A n cap xs _ hB3).mono ?_
    rintro e1 w4 ⟨rfl, rfl⟩
    unfold V32
    go_wp2
    go_ret
    exact ⟨rfl, (hb1.trans (hb2.mono hb1.size)).trans (hb3.mono (Nat.le_trans hb1.size hb2.size))⟩
  · go_enter Try.func8, Try.ntmps8
    go_wp2_with fail
    refine (fixed_any _).mono ?_
    rintro e1 w1 ⟨rfl, hb1⟩
    go_wp2
    go_ret
    exact ⟨rfl, hb1⟩

set_option maxRecDepth 100000 in
theorem crcSums_lifted (os : Os) (started : os.Started) (H : Type) (enc : TypeId × Value → H) :
    ReturnsInHanded {} Try.checked os 8 .any (Rows.crcSumsSpec.pre6 enc Try.prog Try.f8 Rows.crcSumsRow.domain false) (Rows.crcSumsSpec.post enc Try.prog Try.f8 false true false false) := by
  refine returnsInHanded_of_change (C := Try.checked) Try.ownKnobs started (by kernel_rfl) Try.func8
    (ChangeSpec.witness6 (enc := enc) (C := Try.checked) false ⟨#[], #[.slice none 0 0], []⟩ 8 (by kernel_rfl) (by kernel_rfl) (by kernel_rfl) (by kernel_rfl)) ?_
  intro W base args ds gs before hval0 hW hcnd _
  have hval : ∀ (j : Nat) t v, Try.f8.params[j]? = some t → args[j]? = some v → Value.okWide Try.prog W .any base t v := hval0
  have hW' := hW
  obtain ⟨p, q, hA0, hV, rfl, hfz, hnd⟩ := hW
  have hA : DataW.TrodAll enc Try.prog W 0 (fun _ => true) true Try.f8.params.toList args.toList ds p := hA0
  rw [Try.params8] at hA hval
  obtain ⟨v0, vs0, d0, ds0, p0, q0, hargs, rfl, rfl, h0, r0⟩ := trodAll_cons hA
  obtain ⟨rfl, rfl, rfl⟩ := trodAll_nil r0
  obtain rfl : args = #[v0] := by cases args; simp_all
  obtain ⟨rfl, rfl⟩ := trodVars_none hV
  obtain ⟨A, n, cap, xs, rfl, hB⟩ := open_bytes (hval 0 22 v0 rfl rfl) h0
  refine (crcSums_calls A n cap xs W hB).mono fun e W' ⟨he, hb⟩ => ?_
  subst he
  exact ⟨_, rfl, law_post Try.allLaid (of_decide_eq_true (by kernel_rfl)) rfl Try.underlying4 rfl hW' rfl rfl rfl hb⟩

/-- The statement: CrcSums returns true, and its arguments read as they did. -/
theorem crcSums_holds : Rows.CrcSumsSaid :=
  OpenClaim.holds_of_wide 8 Try.f8 rfl rfl rfl rfl rfl rfl rfl ⟨rfl, rfl, rfl, rfl, rfl⟩ rfl rfl rfl rfl rfl (by kernel_rfl) Try.func8 (by kernel_rfl)
    (of_decide_eq_true (by kernel_rfl)) (by unfold Func.isWrapper; first | (rw [if_pos (by decide +kernel)]; kernel_rfl) | (rw [if_neg (by decide +kernel)]; exact ⟨rfl, rfl⟩))
    (fun os started H enc _ => crcSums_lifted os started H enc)

end Go.Proofs.Ytadnenoehdemkaa
