/- Proved: whatever its arguments are, PageNil returns true and leaves them as they were, where the program's mark reads as its initialiser lays it (tied to the program's text by the card). Conditions: none but the row's own. -/
import Derived.Test.YtdhnbeimkeoefaaDoorGe
import Derived.Test.YtdhnbeimkeoefaaDoorGg
import Derived.Test.YtdhnbeimkeoefaaDoorGi
namespace Go.Proofs.YtdhnbeimkeoefaaDoor
open Go.ChangeShapes Go.WideShapes Go.ChangeAt Go.RowKit Go.Joins

theorem pageNil_calls (k s : Int) (w : World) (hM : Mark w) :
    Calls Tryd.prog 5 #[.int .i64 k, .int .u32 s] w fun e w' => e = .returned (.bool true) ∧ Below w.heap.size w w' := by
  have HM := Lib.hid hM
  clear hM
  go_enter Tryd.func5, Tryd.ntmps5
  go_wp2_with fail
  refine (fixed4_any w HM.out).mono ?_
  rintro e1 w1 ⟨rfl, hb1⟩
  have Hb1 := Lib.hid hb1
  clear hb1
  go_wp2_with fail
  refine (look_nil k _).mono ?_
  rintro e1 w2 ⟨rfl, hb2⟩
  have Hb2 := Lib.hid (Hb1.out.trans (hb2.mono Hb1.out.size))
  clear hb2
  go_wp2_with fail
  have Hb3 := Lib.hid (Hb2.out.alloc Hb2.out.size (.cells #[.int .i64 0, .int .u32 0, .int .i64 0] 43))
  refine (open_nil k s _).mono ?_
  rintro e1 w3 ⟨rfl, hb3⟩
  have Hb4 := Lib.hid (Hb3.out.trans (hb3.mono Hb3.out.size))
  clear hb3
  go_wp2_with fail
  refine (void_nil k _).mono ?_
  rintro e1 w4 ⟨rfl, hb4⟩
  have Hb5 := Lib.hid (Hb4.out.trans (hb4.mono Hb4.out.size))
  clear hb4
  go_wp2
  go_ret
  exact ⟨rfl, Hb5.out⟩

set_option maxRecDepth 100000 in
theorem pageNil_lifted (os : Os) (started : os.Started) (H : Type) (enc : TypeId × Value → H) :
    ReturnsInHanded {} Tryd.checked os 5 .any (fun w args => (Rows.pageNilSpec.pre enc Tryd.prog Tryd.f5 [] false w args ∧ laidMetH Tryd.prog laidD w) ∧ sizedMet enc Tryd.prog Tryd.f5 (OpenSpec.ofChange Rows.pageNilSpec) false w args)
      (Rows.pageNilSpec.post enc Tryd.prog Tryd.f5 false true false false) := by
  refine returnsInHanded_of_change_and (C := Tryd.checked) (X := fun w _ => laidMetH Tryd.prog laidD w) (fun _ _ _ hh h => h.of_heap hh) Tryd.ownKnobs started (by kernel_rfl) Tryd.func5
    (ChangeSpec.witness_shaped (enc := enc) (C := Tryd.checked) (os := os) (X := fun w _ => laidMetH Tryd.prog laidD w) false (World.doorLaid Tryd.prog 14 os) #[.int .i64 0, .int .u32 0] 8 rfl (World.shaped_of_RefB (by kernel_rfl) (by kernel_rfl)) (by kernel_rfl) (by kernel_rfl) (by kernel_rfl) (door_met os _)) ?_
  intro W base args ds gs before hval0 hW _ _ hL _
  have hM := mark_of_laid hL
  have hval : ∀ (j : Nat) t v, Tryd.f5.params[j]? = some t → args[j]? = some v → Value.okWide Tryd.prog W .any base t v := hval0
  have hW' := hW
  obtain ⟨p, q, hA0, hV, rfl, hfz, hnd⟩ := hW
  have hA : DataW.TrodAll enc Tryd.prog W 0 (fun _ => true) true Tryd.f5.params.toList args.toList ds p := hA0
  rw [Tryd.params5] at hA hval
  obtain ⟨v0, vs0, d0, ds0, p0, q0, hargs, rfl, rfl, h0, r0⟩ := trodAll_cons hA
  obtain ⟨v1, vs1, d1, ds1, p1, q1, rfl, rfl, rfl, h1, r1⟩ := trodAll_cons r0
  obtain ⟨rfl, rfl, rfl⟩ := trodAll_nil r1
  obtain rfl : args = #[v0, v1] := by cases args; simp_all
  obtain ⟨rfl, rfl⟩ := trodVars_none hV
  obtain ⟨k, rfl, -, -⟩ := open_int_ (hval 0 3 v0 rfl rfl) h0
  obtain ⟨s, rfl, -, -⟩ := open_u32_ (hval 1 22 v1 rfl rfl) h1
  refine (pageNil_calls k s W hM).mono fun e W' ⟨he, hb⟩ => ?_
  subst he
  exact ⟨_, rfl, law_post Tryd.allLaid (of_decide_eq_true (by kernel_rfl)) rfl Tryd.underlying4 rfl hW' rfl rfl rfl hb⟩

/-- The row: PageNil returns true, and its arguments read as they did, where the mark reads as the program lays it. -/
theorem pageNil_holds : Rows.PageNilSaid :=
  OpenClaim.holds_of_wide 5 Tryd.f5 rfl rfl rfl rfl rfl rfl rfl ⟨rfl, rfl, rfl, rfl, rfl⟩ rfl rfl rfl rfl rfl (by kernel_rfl) Tryd.func5 (by kernel_rfl)
    (of_decide_eq_true (by kernel_rfl)) (by unfold Func.isWrapper; first | (rw [if_pos (by decide +kernel)]; kernel_rfl) | (rw [if_neg (by decide +kernel)]; exact ⟨rfl, rfl⟩))
    (fun os started H enc _ => pageNil_lifted os started H enc)

/-- The statement: the tied card of PageNil. -/
theorem pageNil_card : Rows.PageNilCardSaid :=
  Claim7.holds_tied_plain_at .later [] [.data] true (true, "802705dea5cb6dbb74494faf339d1354652f7574375d23bb3a0875587b3ee1f7") false
    pageNil_holds (fun _ h => by cases h) (by kernel_rfl) (fun _ h => by cases h) pageNil_row_tie rfl ⟨rfl, rfl⟩ (by kernel_rfl) rfl
    (fun f fn hf hfn => by
      obtain rfl : f = 5 := Option.some.inj ((show Tryd.prog.funcNamed "carpetbag/carpetbaglaw04.PageNil" = some 5 by kernel_rfl).symm.trans hf) |>.symm
      obtain rfl : fn = Tryd.f5 := (Option.some.inj (Tryd.func5.symm.trans hfn)).symm
      exact ⟨by kernel_rfl, fun j t ht => by
        rw [Tryd.params5] at ht
        have hm : t ∈ [3, 22] := by simpa using Array.mem_of_getElem? ht
        have hall : ([3, 22].all fun u => !Tryd.prog.wantsStandIn u) = true := by kernel_rfl
        exact (show Tryd.prog.wantsStandIn t = false by simpa using List.all_eq_true.1 hall t hm)⟩)
    (by kernel_rfl)

end Go.Proofs.YtdhnbeimkeoefaaDoor
