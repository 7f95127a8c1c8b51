/- Proved: whatever its four arguments are, NorNil returns true and leaves them as they were. Conditions: none but the row's own (the arguments can be read as data). -/
import Derived.Test.YtaepdmifenkhcaaW6
import Derived.Test.YtaepdmifenkhcaaLaw
namespace Go.Proofs.Ytaepdmifenkhcaa
open Go.ChangeShapes Go.WideShapes Go.ChangeAt Go.RowKit Go.Joins

set_option maxHeartbeats 2000000 in
theorem norNil_calls (a n k : Int) (m : UInt8) (A : Option Addr) (bn bc : Nat) (w : World) :
    Calls Try.prog 7 #[.int .i64 a, .int .i64 n, .slice A bn bc, .agg #[.int .i64 k, B8 m]] w fun e w' => e = .returned (.bool true) ∧ Below w.heap.size w w' := by
  go_enter Try.func7, Try.ntmps7
  go_wp2_with fail
  refine (fixed_any _).mono ?_
  rintro e1 w1 ⟨rfl, hb1⟩
  have hc0 := hb1.cell (p := ⟨w.heap.size, 0, none⟩) (by simp)
  have hc1 := hb1.cell (p := ⟨w.heap.size, 1, none⟩) (by simp)
  have hk0 : w1.cell? ⟨w.heap.size, 0, none⟩ = some (.int .i64 k) := by rw [hc0]; exact (Blk.new w 36 #[.int .i64 k, B8 m]).cell 0
  have hk1 : w1.cell? ⟨w.heap.size, 1, none⟩ = some (B8 m) := by rw [hc1]; exact (Blk.new w 36 #[.int .i64 k, B8 m]).cell 1
  have hs1 := hb1.size
  clear hc0 hc1
  go_wp2_with fail
  refine (fuse_nil n k m w1).mono ?_
  rintro e1 w2 ⟨rfl, hb2⟩
  go_wp2_with fail
  refine (reset_nil _).mono ?_
  rintro e1 w3 ⟨rfl, rfl⟩
  go_wp2_with fail
  refine (read_nil _ _ _).mono ?_
  rintro e1 w3 ⟨rfl, rfl⟩
  go_wp2_with fail
  refine (program_nil _ _ _ _ _).mono ?_
  rintro e1 w3 ⟨rfl, rfl⟩
  go_wp2_with fail
  refine (erase_nil _ _).mono ?_
  rintro e1 w3 ⟨rfl, rfl⟩
  go_wp2_with fail
  refine (erases_nil _ _).mono ?_
  rintro e1 w3 ⟨rfl, rfl⟩
  go_wp2_with fail
  refine (geometry_nil _).mono ?_
  rintro e1 w3 ⟨rfl, hb3⟩
  go_wp2
  go_ret
  have hs2 := hb2.size
  simp at hs1
  refine ⟨rfl, ?_⟩
  have h0 : Below w.heap.size w (w.alloc (.cells #[.int .i64 k, B8 m] 36)) := (Below.refl _ _).alloc (Nat.le_refl _) _
  exact ((h0.trans (hb1.mono (by simp))).trans (hb2.mono (by omega))).trans (hb3.mono (by omega))

set_option maxRecDepth 100000 in
theorem norNil_lifted (os : Os) (started : os.Started) (H : Type) (enc : TypeId × Value → H) :
    ReturnsInHanded {} Try.checked os 7 .any (Rows.norNilSpec.pre6 enc Try.prog Try.f7 Rows.norNilRow.domain false) (Rows.norNilSpec.post enc Try.prog Try.f7 false true false false) := by
  refine returnsInHanded_of_change (C := Try.checked) Try.ownKnobs started (by kernel_rfl) Try.func7
    (ChangeSpec.witness6 (enc := enc) (C := Try.checked) false ⟨#[], #[.int .i64 0, .int .i64 0, .slice none 0 0, .agg #[.int .i64 0, .int .u8 0]], []⟩ 8 (by kernel_rfl) (by kernel_rfl) (by kernel_rfl) (by kernel_rfl)) ?_
  intro W base args ds gs before hval0 hW hcnd _
  have hval : ∀ (j : Nat) t v, Try.f7.params[j]? = some t → args[j]? = some v → Value.okWide Try.prog W .any base t v := hval0
  have hW' := hW
  obtain ⟨p, q, hA0, hV, rfl, hfz, hnd⟩ := hW
  have hA : DataW.TrodAll enc Try.prog W 0 (fun _ => true) true Try.f7.params.toList args.toList ds p := hA0
  rw [Try.params7] at hA hval
  obtain ⟨v0, v1, v2, v3, d0, d1, d2, d3, p0, p1, p2, p3, rfl, rfl, rfl, h0, h1, h2, h3⟩ := trodAll_four hA
  obtain ⟨rfl, rfl⟩ := trodVars_none hV
  obtain ⟨a, rfl, -, -, -⟩ := open_int Try.underlying3 (hval 0 3 v0 rfl rfl) h0
  obtain ⟨n, rfl, -, -, -⟩ := open_int Try.underlying3 (hval 1 3 v1 rfl rfl) h1
  obtain ⟨A, bn, bc, rfl⟩ := okWide_slice Try.underlying34 (hval 2 34 v2 rfl rfl)
  obtain ⟨k, m, rfl, -, -⟩ := open_tear (hval 3 36 v3 rfl rfl) h3
  refine (norNil_calls a n k m A bn bc W).mono fun e W' ⟨he, hb⟩ => ?_
  subst he
  exact ⟨_, rfl, law_post Try.allLaid (of_decide_eq_true (by kernel_rfl)) rfl Try.underlying4 rfl hW' rfl rfl rfl hb⟩

/-- Whatever the input, NorNil returns true, and its arguments read as they did. -/
theorem norNil_holds : Rows.NorNilSaid :=
  OpenClaim.holds_of_wide 7 Try.f7 rfl rfl rfl rfl rfl rfl rfl ⟨rfl, rfl, rfl, rfl, rfl⟩ rfl rfl rfl rfl rfl (by kernel_rfl) Try.func7 (by kernel_rfl)
    (of_decide_eq_true (by kernel_rfl)) (by unfold Func.isWrapper; first | (rw [if_pos (by decide +kernel)]; kernel_rfl) | (rw [if_neg (by decide +kernel)]; exact ⟨rfl, rfl⟩))
    (fun os started H enc _ => norNil_lifted os started H enc)

end Go.Proofs.Ytaepdmifenkhcaa
