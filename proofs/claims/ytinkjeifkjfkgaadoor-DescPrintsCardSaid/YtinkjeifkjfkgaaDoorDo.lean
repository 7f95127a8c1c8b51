/- Proved: whatever its arguments are, DescPrints returns true and leaves them as they were. Conditions: the row's own (the arguments can be read as data; two tables of the library's utf8 read as its text lays them, which no walk here leans on). -/
import Derived.Test.YtinkjeifkjfkgaaDoorDn
import Derived.Test.YtinkjeifkjfkgaaDoorDk
import Derived.Test.YtinkjeifkjfkgaaDoorOp
namespace Go.Proofs.YtinkjeifkjfkgaaDoor
set_option maxRecDepth 100000
open Go.ChangeShapes Go.WideShapes Go.ChangeAt Go.RowKit Go.Joins

section
variable {H : Type} {enc : TypeId × Value → H} {W : World} {base : Nat}
/-- A []string that came in. -/
theorem open_texts {v : Value} {d : DataW H} {p : List MemPlace} (hv : Value.okWide Tryd.prog W .any base 23 v) (h : DataW.Trod enc Tryd.prog W 0 (fun _ => true) true 23 v d p) :
    ∃ (A : Option Addr) (n cap : Nat) (l : List (List UInt8)), v = .slice A n cap ∧ TextsSl W A n cap l := by
  obtain ⟨A, n, cap, l, rfl, hl, hn, hm, hA, hP⟩ := open_rows (enc := enc) ([] : List UInt8) 23 9 1 Tryd.underlying23 (by kernel_rfl) (by decide)
    (fun b off f => W.cell? ⟨b, off, none⟩ = some (.string (strB f)))
    (fun b off fuel cs x hc ht => by
      obtain ⟨s, e0, _, _⟩ := DataW.trod_string Tryd.underlying9 ht
      obtain ⟨_, hl, hat⟩ := World.cells?_some hc
      subst e0
      have h1 := hat 0 (by omega)
      rw [add_off] at h1
      have e : strB s.data.toList = s := rfl
      exact ⟨s.data.toList, by rw [e]; simpa using h1⟩) hv h
  refine ⟨A, n, cap, l, rfl, hl, hn, hm, fun h0 => ?_⟩
  obtain ⟨b, o, e, hb, hc⟩ := hP h0
  refine ⟨b, o, e, hb, fun h => h, fun i f hf j hj => ?_⟩
  obtain rfl : j = 0 := by omega
  simpa [svC, SV] using hc i f hf
end

set_option maxRecDepth 100000 in
theorem descPrints_lifted (os : Os) (started : os.Started) (H : Type) (enc : TypeId × Value → H) :
    ReturnsInHanded {} Tryd.checked os 4 .any (fun w args => (Rows.descPrintsSpec.pre enc Tryd.prog Tryd.f4 [] false w args ∧ laidMetH Tryd.prog laidD w) ∧ sizedMet enc Tryd.prog Tryd.f4 (OpenSpec.ofChange Rows.descPrintsSpec) false w args)
      (Rows.descPrintsSpec.post enc Tryd.prog Tryd.f4 false true false false) := by
  refine returnsInHanded_of_change_and (C := Tryd.checked) (X := fun w _ => laidMetH Tryd.prog laidD w) (fun _ _ _ hh h => h.of_heap hh) Tryd.ownKnobs started (by kernel_rfl) Tryd.func4
    (ChangeSpec.witness_shaped (enc := enc) (C := Tryd.checked) (os := os) (X := fun w _ => laidMetH Tryd.prog laidD w) false (World.laidAll Tryd.prog os laidD) #[.slice none 0 0, .string ⟨#[]⟩] 8 (World.laidAll_os _ _ _) (World.shaped_of_ZipB (by kernel_rfl) (by kernel_rfl)) (by kernel_rfl) (by kernel_rfl) (by kernel_rfl)
      (by rw [MakeChecks.laidMetH_plain _ _ _ (by kernel_rfl)]; exact laidMet_laidAll _ (by kernel_rfl) (by kernel_rfl))) ?_
  intro W base args ds gs before hval0 hW _ _ _ _
  have hval : ∀ (j : Nat) t v, Tryd.f4.params[j]? = some t → args[j]? = some v → Value.okWide Tryd.prog W .any base t v := hval0
  have hW' := hW
  obtain ⟨p, q, hA0, hV, rfl, hfz, hnd⟩ := hW
  have hA : DataW.TrodAll enc Tryd.prog W 0 (fun _ => true) true Tryd.f4.params.toList args.toList ds p := hA0
  rw [Tryd.params4] at hA hval
  obtain ⟨v0, vs0, d0, ds0, p0, q0, hargs, rfl, rfl, h0, r0⟩ := trodAll_cons hA
  obtain ⟨v1, vs1, d1, ds1, p1, q1, rfl, rfl, rfl, h1, r1⟩ := trodAll_cons r0
  obtain ⟨rfl, rfl, rfl⟩ := trodAll_nil r1
  obtain rfl : args = #[v0, v1] := by cases args; simp_all
  obtain ⟨rfl, rfl⟩ := trodVars_none hV
  obtain ⟨A, n, c, l, rfl, hT⟩ := open_texts (hval 0 23 v0 rfl rfl) h0
  obtain ⟨s1, rfl, rfl, rfl, ws⟩ := Go.ChangeMaps.open_string Tryd.underlying9 (hval 1 9 v1 rfl rfl) h1; obtain ⟨xs, rfl, hxl⟩ := strB_of s1
  refine (descPrints_calls A n c l xs W hT (by rw [hxl]; unfold maxLen at ws; omega)).mono fun e W' ⟨he, hb⟩ => ?_
  subst he
  exact ⟨_, rfl, law_post Tryd.allLaid (of_decide_eq_true (by kernel_rfl)) rfl Tryd.underlying4 rfl hW' rfl rfl rfl hb⟩

/-- The row: DescPrints returns true, and its arguments read as they did, where the library's two tables read as its text lays them. -/
theorem descPrints_holds : Rows.DescPrintsSaid :=
  OpenClaim.holds_of_wide 4 Tryd.f4 rfl rfl rfl rfl rfl rfl rfl ⟨rfl, rfl, rfl, rfl, rfl⟩ rfl rfl rfl rfl rfl (by kernel_rfl) Tryd.func4 (by kernel_rfl)
    (of_decide_eq_true (by kernel_rfl)) (by unfold Func.isWrapper; first | (rw [if_pos (by decide +kernel)]; kernel_rfl) | (rw [if_neg (by decide +kernel)]; exact ⟨rfl, rfl⟩))
    (fun os started H enc _ => descPrints_lifted os started H enc)

/-- The statement: the tied card of DescPrints. -/
theorem descPrints_card : Rows.DescPrintsCardSaid :=
  Claim7.holds_tied_plain_at .later [] [.data, .pinned] true (true, "7bec58b2efeb2c420a001defcade40a65e4d5a03d1acd0e6ad0d1ec61b01f7a5") false
    descPrints_holds (fun _ h => by cases h) (by kernel_rfl) (fun _ h => by cases h) descPrints_row_tie rfl ⟨rfl, rfl⟩ (by kernel_rfl) rfl
    (fun f fn hf hfn => by
      obtain rfl : f = 4 := Option.some.inj ((show Tryd.prog.funcNamed "carpetbag/carpetbaglaw12.DescPrints" = some 4 by kernel_rfl).symm.trans hf) |>.symm
      obtain rfl : fn = Tryd.f4 := (Option.some.inj (Tryd.func4.symm.trans hfn)).symm
      exact ⟨by kernel_rfl, fun j t ht => by
        rw [Tryd.params4] at ht
        have hm : t ∈ [23, 9] := by simpa using Array.mem_of_getElem? ht
        have hall : ([23, 9].all fun u => !Tryd.prog.wantsStandIn u) = true := by kernel_rfl
        exact (show Tryd.prog.wantsStandIn t = false by simpa using List.all_eq_true.1 hall t hm)⟩)
    (by kernel_rfl)

end Go.Proofs.YtinkjeifkjfkgaaDoor
