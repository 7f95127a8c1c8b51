/- Proved: whatever its arguments are, UtfUnits returns true. Conditions: none but the row's own (the arguments can be read as data). -/
import Derived.Test.YtnhfmcijadficaaUi
namespace Go.Proofs.Ytnhfmcijadficaa
open Go.ChangeShapes Go.WideShapes Go.ChangeAt Go.RowKit Go.Joins

theorem encU_inj (a b : Nat) (ha : a < 65536) (hb : b < 65536) (r : List UInt8) (h : encU b = encU a ++ r) : a = b := by
  have h1 := unitF_enc a ha r
  have h2 := unitF_enc b hb []
  rw [List.append_nil, h, h1] at h2
  exact (Prod.mk.inj h2).1
theorem encT_one (u : Nat) : encT [u] = encU u := by simp [encT]

/-- What both units' bytes are. -/
structure Two (w w' : World) (A1 A2 : Option Addr) (s1 s2 c1 c2 : Nat) (x y : List UInt8) : Prop where
  b1 : ByteSl w' Empty A1 s1 c1 x
  b2 : ByteSl w' Empty A2 s2 c2 y
  below : Below w.heap.size w w'

set_option maxHeartbeats 2000000 in
theorem utfUnits_calls (a b : Nat) (w : World) (ha : a < 65536) (hb : b < 65536) :
    Calls Try.prog 5 #[.int .u16 (a : Int), .int .u16 (b : Int)] w fun e w' => e = .returned (.bool true) ∧ Below w.heap.size w w' := by
  have HL1 : Hid (∀ w : World, T16 (w.alloc (.cells #[.int .u16 (a : Int)] 34)) (some ⟨w.heap.size, 0, none⟩) 1 1 [a]) := Lib.hid (fun w => RowSl.lit cells16_len _ _ _ [a] 1 [.int .u16 (a : Int)] rfl rfl (by unfold maxLen; omega) (fun h => h))
  have HL2 : Hid (∀ w : World, T16 (w.alloc (.cells #[.int .u16 (b : Int)] 34)) (some ⟨w.heap.size, 0, none⟩) 1 1 [b]) := Lib.hid (fun w => RowSl.lit cells16_len _ _ _ [b] 1 [.int .u16 (b : Int)] rfl rfl (by unfold maxLen; omega) (fun h => h))
  go_enter Try.func5, Try.ntmps5
  go_wp2_with fail
  refine (fixed10_any _).mono ?_
  rintro e1 w1 ⟨rfl, hb1⟩
  have HW1 := Lib.hid hb1
  clear hb1
  go_wp2_with fail
  refine (encode_any _ 1 1 [a] _ (HL1.out w1) (by intro u hu; simp at hu; omega) (by omega)).mono ?_
  rintro e1 w2 ⟨⟨v, rfl, hown⟩, hb2⟩
  obtain ⟨A1, c1, rfl, hB2, -⟩ := ByteSl.of_own (S := Empty) hown (fun _ _ _ h => h)
  have HB2 := Lib.hid hB2
  have HW2 := Lib.hid (HW1.out.trans (((Below.refl w1.heap.size w1).alloc (Nat.le_refl _) _ |>.trans (hb2.mono (by simp))).mono HW1.out.size))
  clear hb2 hown hB2
  go_wp2_with fail
  refine (encode_any _ 1 1 [b] _ (HL2.out w2) (by intro u hu; simp at hu; omega) (by omega)).mono ?_
  rintro e1 w3 ⟨⟨v, rfl, hown⟩, hb3⟩
  obtain ⟨A2, c2, rfl, hB3, -⟩ := ByteSl.of_own (S := Empty) hown (fun _ _ _ h => h)
  have hb23 : Below w2.heap.size w2 w3 := ((Below.refl w2.heap.size w2).alloc (Nat.le_refl _) _).trans (hb3.mono (by simp))
  have hT : Two w w3 A1 A2 (encT [a]).length (encT [b]).length c1 c2 (encT [a]) (encT [b]) := ⟨HB2.out.only (Only.of_below (S := Empty) hb23) (fun _ _ h => h), hB3, HW2.out.trans (hb23.mono HW2.out.size)⟩
  rw [encT_one, encT_one, encU_len, encU_len] at hT ⊢
  have HT := Lib.hid hT
  have hs1 := sizeU_pos a
  have hs2 := sizeU_pos b
  obtain ⟨s1, hse1⟩ : ∃ s1, s1 = sizeU a := ⟨_, rfl⟩
  obtain ⟨s2, hse2⟩ : ∃ s2, s2 = sizeU b := ⟨_, rfl⟩
  rw [← hse1, ← hse2] at HT ⊢
  rw [← hse1] at hs1
  rw [← hse2] at hs2
  have Hs1 := Lib.hid hse1
  have Hs2 := Lib.hid hse2
  have hnc : s2 ≤ c2 := HT.out.b2.2.1
  have hcm : c2 ≤ 9223372036854775807 := by have := HT.out.b2.2.2.1; unfold maxLen at this; exact this
  clear hB3 hb23 hb3 hown hT hse1 hse2
  by_cases hab : a = b
  · subst hab
    have hcv1 := conv_bytes HT.out.b1
    have hcv2 := conv_bytes HT.out.b2
    go_wp2
    go_quiet (fail)
    go_wp2
    go_ret
    exact ⟨rfl, HT.out.below.drewN _⟩
  · have hcv1 := conv_bytes HT.out.b1
    have hcv2 := conv_bytes HT.out.b2
    have hne : ((strB (encU a)).toList == (strB (encU b)).toList) = false := by
      rw [strB_toList, strB_toList, beq_eq_false_iff_ne]
      intro e
      exact hab (encU_inj a b ha hb [] (by rw [List.append_nil]; exact e.symm))
    have hab2 : ((a : Int) == (b : Int)) = false := by simp; omega
    by_cases hlt : s2 < s1
    · have hd : decide (s2 < s1) = true := by simp; omega
      go_wp2
      go_quiet (fail)
      go_wp2
      go_ret
      exact ⟨rfl, HT.out.below.drewN _⟩
    · have hd : decide (s2 < s1) = false := by simp; omega
      have hne2 : ((strB ((encU b).take s1)).toList == (strB (encU a)).toList) = false := by
        rw [strB_toList, strB_toList, beq_eq_false_iff_ne]
        intro e
        exact hab (encU_inj a b ha hb ((encU b).drop s1) (by rw [← e, List.take_append_drop]))
      have hI1 : ∀ q, (convert 24 9 (.slice A1 s1 c1)).run Try.prog (w3.drewN q) = .ok (.string (strB (encU a))) (w3.drewN q) := fun q => conv_bytes (HT.out.b1.only ((Only.refl Empty _).drewN q) (fun _ _ h => h))
      have hI2 : ∀ q, (convert 24 9 (.slice A2 s1 c2)).run Try.prog (w3.drewN q) = .ok (.string (strB ((encU b).take s1))) (w3.drewN q) := fun q => conv_bytes ((HT.out.b2.take_ s1 (by omega)).only ((Only.refl Empty _).drewN q) (fun _ _ h => h))
      have hi1 : s1 ≤ c2 := by omega
      have hi2 : (s1 : Int) ≤ (c2 : Int) := by omega
      go_wp2
      go_quiet (fail)
      go_wp2
      go_ret
      exact ⟨rfl, HT.out.below.drewN _⟩

section
variable {H : Type} {enc : TypeId × Value → H} {W : World} {base : Nat}
theorem open_u16n {v : Value} {d : DataW H} {p : List MemPlace} (hv : Value.okWide Try.prog W .any base 34 v) (h : DataW.Trod enc Try.prog W 0 (fun _ => true) true 34 v d p) :
    ∃ n : Nat, v = .int .u16 (n : Int) ∧ n < 65536 := by
  obtain ⟨n, rfl, h0, h1⟩ := open_u16_ hv h
  obtain ⟨m, rfl⟩ := Int.eq_ofNat_of_zero_le h0
  exact ⟨m, rfl, by omega⟩
end

set_option maxRecDepth 100000 in
theorem utfUnits_lifted (os : Os) (started : os.Started) (H : Type) (enc : TypeId × Value → H) :
    ReturnsInHanded {} Try.checked os 5 .any (Rows.utfUnitsSpec.pre6 enc Try.prog Try.f5 Rows.utfUnitsRow.domain false) (Rows.utfUnitsSpec.post enc Try.prog Try.f5 false true false false) := by
  refine returnsInHanded_of_change (C := Try.checked) Try.ownKnobs started (by kernel_rfl) Try.func5
    (ChangeSpec.witness6 (enc := enc) (C := Try.checked) false ⟨#[], #[.int .u16 0, .int .u16 0], []⟩ 8 (by kernel_rfl) (by kernel_rfl) (by kernel_rfl) (by kernel_rfl)) ?_
  intro W base args ds gs before hval0 hW hcnd _
  have hval : ∀ (j : Nat) t v, Try.f5.params[j]? = some t → args[j]? = some v → Value.okWide Try.prog W .any base t v := hval0
  have hW' := hW
  obtain ⟨p, q, hA0, hV, rfl, hfz, hnd⟩ := hW
  have hA : DataW.TrodAll enc Try.prog W 0 (fun _ => true) true Try.f5.params.toList args.toList ds p := hA0
  rw [Try.params5] at hA hval
  obtain ⟨v0, vs0, d0, ds0, p0, q0, hargs, rfl, rfl, h0, r0⟩ := trodAll_cons hA
  obtain ⟨v1, vs1, d1, ds1, p1, q1, rfl, rfl, rfl, h1, r1⟩ := trodAll_cons r0
  obtain ⟨rfl, rfl, rfl⟩ := trodAll_nil r1
  obtain rfl : args = #[v0, v1] := by cases args; simp_all
  obtain ⟨rfl, rfl⟩ := trodVars_none hV
  obtain ⟨a, rfl, ha⟩ := open_u16n (hval 0 34 v0 rfl rfl) h0
  obtain ⟨b, rfl, hb⟩ := open_u16n (hval 1 34 v1 rfl rfl) h1
  refine (utfUnits_calls a b W ha hb).mono fun e W' ⟨he, hb⟩ => ?_
  subst he
  exact ⟨_, rfl, law_post Try.allLaid (of_decide_eq_true (by kernel_rfl)) rfl Try.underlying4 rfl hW' rfl rfl rfl hb⟩

/-- The statement: UtfUnits returns true, and its arguments read as they did. -/
theorem utfUnits_holds : Rows.UtfUnitsSaid :=
  OpenClaim.holds_of_wide 5 Try.f5 rfl rfl rfl rfl rfl rfl rfl ⟨rfl, rfl, rfl, rfl, rfl⟩ rfl rfl rfl rfl rfl (by kernel_rfl) Try.func5 (by kernel_rfl)
    (of_decide_eq_true (by kernel_rfl)) (by unfold Func.isWrapper; first | (rw [if_pos (by decide +kernel)]; kernel_rfl) | (rw [if_neg (by decide +kernel)]; exact ⟨rfl, rfl⟩))
    (fun os started H enc _ => utfUnits_lifted os started H enc)

end Go.Proofs.Ytnhfmcijadficaa
