/- Proved: whatever its arguments are, PageVoids returns true and leaves them as they were, where the program's mark reads as its initialiser lays it (tied to the program's text by the card). Conditions: none but the row's own. -/
import Derived.Test.YtdhnbeimkeoefaaDoorGq
import Derived.Test.YtdhnbeimkeoefaaDoorGg
namespace Go.Proofs.YtdhnbeimkeoefaaDoor
open Go.ChangeShapes Go.WideShapes Go.ChangeAt Go.RowKit Go.Joins

theorem pageVoids_calls_int (s : Int) (A : Option Addr) (n cap : Nat) (ys : List UInt8) (kk : Int) (mk : UInt8) (w : World) (hB0 : ByteSl w (fun k => w.heap.size ≤ k) A n cap ys) (hM : Mark w) (s1 : 0 ≤ s) (s2 : s ≤ 4294967295) (k1 : -9223372036854775808 ≤ kk) (k2 : kk ≤ 9223372036854775807) :
    Calls Tryd.prog 4 #[.int .u32 s, .slice A n cap, .agg #[.int .i64 kk, B8 mk]] w fun e w' => e = .returned (.bool true) ∧ Below w.heap.size w w' := by
  obtain ⟨s', rfl⟩ := Int.eq_ofNat_of_zero_le s1
  exact pageVoids_calls s' A n cap ys kk mk w hB0 hM (by omega) k1 k2

set_option maxRecDepth 100000 in
theorem pageVoids_lifted (os : Os) (started : os.Started) (H : Type) (enc : TypeId × Value → H) :
    ReturnsInHanded {} Tryd.checked os 4 .any (fun w args => (Rows.pageVoidsSpec.pre enc Tryd.prog Tryd.f4 [] false w args ∧ laidMetH Tryd.prog laidD w) ∧ sizedMet enc Tryd.prog Tryd.f4 (OpenSpec.ofChange Rows.pageVoidsSpec) false w args)
      (Rows.pageVoidsSpec.post enc Tryd.prog Tryd.f4 false true false false) := by
  refine returnsInHanded_of_change_and (C := Tryd.checked) (X := fun w _ => laidMetH Tryd.prog laidD w) (fun _ _ _ hh h => h.of_heap hh) Tryd.ownKnobs started (by kernel_rfl) Tryd.func4
    (ChangeSpec.witness_shaped (enc := enc) (C := Tryd.checked) (os := os) (X := fun w _ => laidMetH Tryd.prog laidD w) false (World.doorLaid Tryd.prog 14 os) #[.int .u32 0, .slice none 0 0, .agg #[.int .i64 0, .int .u8 0]] 8 rfl (World.shaped_of_RefB (by kernel_rfl) (by kernel_rfl)) (by kernel_rfl) (by kernel_rfl) (by kernel_rfl) (door_met os _)) ?_
  intro W base args ds gs before hval0 hW _ _ hL _
  have hM := mark_of_laid hL
  have hval : ∀ (j : Nat) t v, Tryd.f4.params[j]? = some t → args[j]? = some v → Value.okWide Tryd.prog W .any base t v := hval0
  have hW' := hW
  obtain ⟨p, q, hA0, hV, rfl, hfz, hnd⟩ := hW
  have hA : DataW.TrodAll enc Tryd.prog W 0 (fun _ => true) true Tryd.f4.params.toList args.toList ds p := hA0
  rw [Tryd.params4] at hA hval
  obtain ⟨v0, vs0, d0, ds0, p0, q0, hargs, rfl, rfl, h0, r0⟩ := trodAll_cons hA
  obtain ⟨v1, vs1, d1, ds1, p1, q1, rfl, rfl, rfl, h1, r1⟩ := trodAll_cons r0
  obtain ⟨v2, vs2, d2, ds2, p2, q2, rfl, rfl, rfl, h2, r2⟩ := trodAll_cons r1
  obtain ⟨rfl, rfl, rfl⟩ := trodAll_nil r2
  obtain rfl : args = #[v0, v1, v2] := by cases args; simp_all
  obtain ⟨rfl, rfl⟩ := trodVars_none hV
  obtain ⟨s, rfl, sb1, sb2⟩ := open_u32_ (hval 0 22 v0 rfl rfl) h0
  obtain ⟨A, n, cap, ys, rfl, hB, -⟩ := open_bytes (hval 1 23 v1 rfl rfl) h1
  obtain ⟨kk, mk, rfl, kb1, kb2⟩ := open_tear (hval 2 33 v2 rfl rfl) h2
  refine (pageVoids_calls_int s A n cap ys kk mk W hB hM sb1 sb2 kb1 kb2).mono fun e W' ⟨he, hb⟩ => ?_
  subst he
  exact ⟨_, rfl, law_post Tryd.allLaid (of_decide_eq_true (by kernel_rfl)) rfl Tryd.underlying4 rfl hW' rfl rfl rfl hb⟩

/-- The row: PageVoids returns true, and its arguments read as they did, where the mark reads as the program lays it. -/
theorem pageVoids_holds : Rows.PageVoidsSaid :=
  OpenClaim.holds_of_wide 4 Tryd.f4 rfl rfl rfl rfl rfl rfl rfl ⟨rfl, rfl, rfl, rfl, rfl⟩ rfl rfl rfl rfl rfl (by kernel_rfl) Tryd.func4 (by kernel_rfl)
    (of_decide_eq_true (by kernel_rfl)) (by unfold Func.isWrapper; first | (rw [if_pos (by decide +kernel)]; kernel_rfl) | (rw [if_neg (by decide +kernel)]; exact ⟨rfl, rfl⟩))
    (fun os started H enc _ => pageVoids_lifted os started H enc)

/-- The statement: the tied card of PageVoids. -/
theorem pageVoids_card : Rows.PageVoidsCardSaid :=
  Claim7.holds_tied_plain_at .later [] [.data] true (true, "802705dea5cb6dbb74494faf339d1354652f7574375d23bb3a0875587b3ee1f7") false
    pageVoids_holds (fun _ h => by cases h) (by kernel_rfl) (fun _ h => by cases h) pageVoids_row_tie rfl ⟨rfl, rfl⟩ (by kernel_rfl) rfl
    (fun f fn hf hfn => by
      obtain rfl : f = 4 := Option.some.inj ((show Tryd.prog.funcNamed "carpetbag/carpetbaglaw04.PageVoids" = some 4 by kernel_rfl).symm.trans hf) |>.symm
      obtain rfl : fn = Tryd.f4 := (Option.some.inj (Tryd.func4.symm.trans hfn)).symm
      exact ⟨by kernel_rfl, fun j t ht => by
        rw [Tryd.params4] at ht
        have hm : t ∈ [22, 23, 33] := by simpa using Array.mem_of_getElem? ht
        have hall : ([22, 23, 33].all fun u => !Tryd.prog.wantsStandIn u) = true := by kernel_rfl
        exact (show Tryd.prog.wantsStandIn t = false by simpa using List.all_eq_true.1 hall t hm)⟩)
    (by kernel_rfl)

end Go.Proofs.YtdhnbeimkeoefaaDoor
