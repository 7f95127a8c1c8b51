/- Proved: whatever its argument is, UtfEncodes returns true and leaves it as it was. Conditions: none but the row's own (the argument can be read as data). -/
import Derived.Test.YtnhfmcijadficaaUh
import Derived.Test.YtnhfmcijadficaaOp
import Derived.Lib.SlBytesConst
namespace Go.Proofs.Ytnhfmcijadficaa
open Go.ChangeShapes Go.WideShapes Go.ChangeAt Go.RowKit Go.Joins

theorem decR_lit : DecR [97, 192, 128] (some [97, 0]) := decR_enc [97, 0] (by intro u hu; simp at hu; omega)
theorem decR_zero : DecR [0] none := .bad (by simp) rfl

set_option maxHeartbeats 2000000 in
theorem fixed10_any (w : World) :
    Calls Try.prog 6 #[] w fun e w' => e = .returned (.bool true) ∧ Below w.heap.size w w' := by
  have kc := fun (w : World) (C : Array Value) (n c : Nat) => Lib.run_convert_bytes_const (P := Try.prog) w 24 5 C n c Try.underlying24 Try.underlying5
  go_enter Try.func6, Try.ntmps6
  go_wp2_with fail
  have hB : ByteSl (w.alloc (.cells (cellsB [97, 192, 128]) 5 (3, 4))) Empty (some ⟨w.heap.size, 0, none⟩) 3 3 [97, 192, 128] := ByteSl.marked w _ [97, 192, 128] 3 _ rfl (fun h => h) (by decide)
  have hb0 : Below w.heap.size w (w.alloc (.cells (cellsB [97, 192, 128]) 5 (3, 4))) := (Below.refl _ _).alloc (Nat.le_refl _) _
  have HB0 := Lib.hid hb0
  refine (decode_any _ 3 3 [97, 192, 128] _ _ hB decR_lit (by omega)).mono ?_
  rintro e1 w1 ⟨⟨A1, c1, rfl, hT1⟩, hb1⟩
  have HW1 := Lib.hid (HB0.out.trans (hb1.mono HB0.out.size))
  obtain ⟨b, o, u0, rfl, hu0, hbl, hc0⟩ := at16 hT1 (k := 0) (by simp)
  obtain ⟨b2, o2, u1, e2, hu1, hbl1, hc1⟩ := at16 hT1 (k := 1) (by simp)
  cases e2
  obtain rfl : u0 = 97 := by simpa using hu0.symm
  obtain rfl : u1 = 0 := by simpa using hu1.symm
  rw [Nat.add_zero] at hc0
  clear hB hb0 hb1 hu0 hu1 kc hT1 hbl1
  go_wp2_with fail
  have HB1 : Hid (ByteSl (w1.alloc (.cells #[.int .u8 0] 5)) Empty (some ⟨w1.heap.size, 0, none⟩) 1 1 [0]) := Lib.hid (ByteSl.lit_vals w1 [0] 1 _ rfl rfl (by omega))
  refine (decode_any _ 1 1 [0] _ _ HB1.out decR_zero (by omega)).mono ?_
  rintro e1 w2 ⟨rfl, hb2⟩
  have hb12 : Below w1.heap.size w1 w2 := ((Below.refl _ _).alloc (Nat.le_refl _) _).trans (hb2.mono (by simp))
  have HW2 := Lib.hid (HW1.out.trans (hb12.mono HW1.out.size))
  have hc0' := (hb12.cell (p := ⟨b, o, none⟩) hbl).trans hc0
  have hc1' := (hb12.cell (p := ⟨b, o + 1, none⟩) hbl).trans hc1
  have hbl2 : b < w2.heap.size := Nat.lt_of_lt_of_le hbl hb12.size
  clear hb2 hb12 hc0 hc1 hbl
  go_wp2_with fail
  have HT : Hid (T16 (w2.alloc (.cells #[.int .u16 0] 34)) (some ⟨w2.heap.size, 0, none⟩) 1 1 [0]) := Lib.hid (RowSl.lit cells16_len _ _ _ [0] 1 [.int .u16 0] rfl rfl (by unfold maxLen; omega) (fun h => h))
  refine (encode_any _ 1 1 [0] _ HT.out (by intro u hu; simp at hu; omega) (by omega)).mono ?_
  rintro e1 w3 ⟨⟨v, rfl, hown⟩, hb3⟩
  have hb23 : Below w2.heap.size w2 w3 := ((Below.refl _ _).alloc (Nat.le_refl _) _).trans (hb3.mono (by simp))
  have HW3 := Lib.hid (HW2.out.trans (hb23.mono HW2.out.size))
  have hc0 := (hb23.cell (p := ⟨b, o, none⟩) hbl2).trans hc0'
  have hc1 := (hb23.cell (p := ⟨b, o + 1, none⟩) hbl2).trans hc1'
  obtain ⟨A3, c3, rfl, hB3, -⟩ := ByteSl.of_own (S := Empty) hown (fun _ _ _ h => h)
  have hcv := conv_bytes hB3
  have he : encT [0] = [192, 128] := by decide
  rw [he] at hcv ⊢
  have hcv : (convert 24 9 (.slice A3 2 c3)).run Try.prog w3 = .ok (.string ⟨#[192, 128]⟩) w3 := hcv
  clear hc0' hc1' hb3 hb23 hown hB3 he
  go_wp2
  go_ret
  exact ⟨rfl, HW3.out⟩

section
variable {H : Type} {enc : TypeId × Value → H} {W : World} {base : Nat}
theorem open_u16s {v : Value} {d : DataW H} {p : List MemPlace} (hv : Value.okWide Try.prog W .any base 22 v) (h : DataW.Trod enc Try.prog W 0 (fun _ => true) true 22 v d p) :
    ∃ (A : Option Addr) (n cap : Nat) (l : List Nat), v = .slice A n cap ∧ T16 W A n cap l ∧ ∀ u ∈ l, u < 65536 := by
  obtain ⟨A, n, cap, l, rfl, hl, hn, hm, hA, hP⟩ := open_rows (enc := enc) (0 : Nat) 22 34 1 Try.underlying22 (by kernel_rfl) (by decide)
    (fun b off f => W.cell? ⟨b, off, none⟩ = some (.int .u16 (f : Int)) ∧ f < 65536)
    (fun b off fuel cs x hc ht => by
      obtain ⟨k, e0, _, wk⟩ := DataW.trod_int Try.underlying34 ht
      obtain ⟨_, hl, hat⟩ := World.cells?_some hc
      subst e0
      have hb := bd_u16i wk
      obtain ⟨m, rfl⟩ := Int.eq_ofNat_of_zero_le hb.1
      have h1 := hat 0 (by omega)
      rw [add_off] at h1
      exact ⟨m, by simpa using h1, by omega⟩) hv h
  refine ⟨A, n, cap, l, rfl, ⟨hl, hn, hm, fun h0 => ?_⟩, fun u hu => ?_⟩
  · obtain ⟨b, o, e, hb, hc⟩ := hP h0
    refine ⟨b, o, e, hb, fun h => h, fun i f hf j hj => ?_⟩
    obtain rfl : j = 0 := by omega
    exact (hc i f hf).1
  · obtain ⟨i, hi⟩ := List.getElem?_of_mem hu
    have h0 : 0 < n := by have := (List.getElem?_eq_some_iff.1 hi).1; omega
    obtain ⟨b, o, e, hb, hc⟩ := hP h0
    exact (hc i u hi).2
end

set_option maxHeartbeats 2000000 in
theorem utfEncodes_calls (A : Option Addr) (n cap : Nat) (l : List Nat) (w : World) (hR : T16 w A n cap l) (hu : ∀ u ∈ l, u < 65536) :
    Calls Try.prog 3 #[.slice A n cap] w fun e w' => e = .returned (.bool true) ∧ Below w.heap.size w w' := by
  have hn : n ≤ 9223372036854775807 := by have := hR.2.1; have := hR.2.2.1; unfold maxLen at this; omega
  have HR := Lib.hid hR
  have HU := Lib.hid hu
  have HL := Lib.hid hR.1
  clear hR hu
  by_cases h3 : n ≤ 1500
  · go_enter Try.func3, Try.ntmps3
    go_wp2_with fail
    refine (fixed10_any _).mono ?_
    rintro e1 w1 ⟨rfl, hb1⟩
    have HR1 := Lib.hid (HR.out.below hb1)
    have HW1 := Lib.hid hb1
    clear hb1
    go_wp2_with fail
    refine (encode_any A n cap l _ HR1.out HU.out (by omega)).mono ?_
    rintro e1 w2 ⟨⟨v, rfl, hown⟩, hb2⟩
    obtain ⟨A2, c2, rfl, hB2, -⟩ := ByteSl.of_own (S := Empty) hown (fun _ _ _ h => h)
    have HB2 := Lib.hid hB2
    have HR2 := Lib.hid (HR1.out.below hb2)
    have HW2 := Lib.hid (HW1.out.trans (hb2.mono HW1.out.size))
    have hle := encT_le l
    have hz : (encT l).length ≤ 100000 := by have := HL.out; omega
    have HD := Lib.hid (decR_enc l HU.out)
    obtain ⟨z, hze⟩ : ∃ z, z = (encT l).length := ⟨_, rfl⟩
    rw [← hze] at hz HB2 ⊢
    clear hb2 hown hB2 hle hze
    go_wp2_with fail
    refine (decode_any A2 z c2 (encT l) _ _ HB2.out HD.out (by omega)).mono ?_
    rintro e1 w3 ⟨⟨A3, c3, rfl, hT3⟩, hb3⟩
    have HB3 := Lib.hid (HB2.out.only (Only.of_below (S := Empty) hb3) (fun _ _ h => h))
    have HR3 := Lib.hid (HR2.out.below hb3)
    have HW3 := Lib.hid (HW2.out.trans (hb3.mono HW2.out.size))
    have HL' := HL.out
    subst HL'
    have HT3 := Lib.hid hT3
    clear hb3 hT3
    go_wp2_with fail
    refine (len_any A2 z c2 (encT l) _ _ HB3.out HD.out (by omega)).mono ?_
    rintro e1 w4 ⟨rfl, q, rfl⟩
    unfold lenV
    go_wp2_with fail
    obtain ⟨w4, hw4⟩ : ∃ w4, w4 = w3.drewN q := ⟨_, rfl⟩
    rw [← hw4]
    have hO4 : Only Empty w3 w4 := by rw [hw4]; exact (Only.refl _ _).drewN q
    have HB4 := Lib.hid (HB3.out.only hO4 (fun _ _ h => h))
    have HR4 := Lib.hid (HR3.out.only hO4 (fun _ _ h => h))
    have HT4 := Lib.hid (HT3.out.only hO4 (fun _ _ h => h))
    have HW4 := Lib.hid (HW3.out.trans (hO4.below (B := w.heap.size) HW3.out.size (fun _ _ h => h)))
    clear hw4 hO4
    have HI : Hid (∀ W, Only Empty w4 W → (convert 24 9 (.slice A2 z c2)).run Try.prog W = .ok (.string (strB (encT l))) W) := Lib.hid (fun W hW => conv_bytes (HB4.out.only hW (fun _ _ h => h)))
    have HY1 : Hid (∀ W, Only Empty w4 W → Calls Try.prog 10 #[.slice A l.length cap] W fun e W' => (∃ u, e = .returned u ∧ ∀ W2, Only Empty W' W2 → (convert 24 9 u).run Try.prog W2 = .ok (.string (strB (encT l))) W2) ∧ Only Empty w4 W' ∧ Only Empty W W') := Lib.hid (fun W hW =>
      (refEncode_any A l.length cap l W (HR4.out.only hW (fun _ _ h => h)) HU.out (by omega)).mono fun e W' ⟨⟨u, he, ho⟩, hb⟩ => ⟨⟨u, he, fun W2 hW2 => by
          obtain ⟨A2, c2, rfl, hB2, -⟩ := ByteSl.of_own (S := Empty) ho (fun _ _ _ h => h)
          exact conv_bytes (hB2.only hW2 (fun _ _ h => h))⟩, hW.trans (Only.of_below hb), Only.of_below hb⟩)
    have HY2 : Hid (∀ W, Only Empty w4 W → Calls Try.prog 11 #[.slice A3 l.length c3, .slice A l.length cap] W fun e W' => e = .returned (.bool true) ∧ Only Empty w4 W' ∧ Only Empty W W') := Lib.hid (fun W hW =>
      (sameT_yes A3 A l.length c3 cap l W (HT4.out.only hW (fun _ _ h => h)) (HR4.out.only hW (fun _ _ h => h)) (by omega)).mono fun e W' ⟨he, q2, hb⟩ => ⟨he, by rw [hb]; exact hW.drewN q2, by rw [hb]; exact (Only.refl _ _).drewN q2⟩)
    have hO0 : Only Empty w4 w4 := Only.refl _ _
    have hO1 : Only Empty w4 w4.drew := hO0.drew
    have hs0 := HI.out _ hO0
    have hs1 := HI.out _ hO1
    go_region_held (fun W => (convert 24 9 (.slice A2 z c2)).run Try.prog W = .ok (.string (strB (encT l))) W) (first | exact hs0 | exact hs1 | exact hs10 | exact hs20)
      (first | (go_at_call 10; (with_reducible refine (HY1.out _ hO1).mono ?_); rintro e10 w10 ⟨⟨u10, rfl, hcv10⟩, hO10, hP10⟩; have hs10 := HI.out _ hO10; have hc10 := hcv10 _ (Only.refl _ _)) | (go_at_call 11; (with_reducible refine (HY2.out _ hO10).mono ?_); rintro e20 w20 ⟨rfl, hO20, hP20⟩; have hs20 := HI.out _ hO20; have hc20 := hcv10 _ hP20))
    all_goals
      go_wp2
      go_ret
      exact ⟨rfl, HW4.out.trans (hO20.below HW4.out.size (fun _ _ h => h))⟩
  · go_enter Try.func3, Try.ntmps3
    go_wp2_with fail
    refine (fixed10_any w).mono ?_
    rintro e1 w1 ⟨rfl, hb1⟩
    go_wp2
    go_ret
    exact ⟨rfl, hb1⟩


set_option maxRecDepth 100000 in
theorem utfEncodes_lifted (os : Os) (started : os.Started) (H : Type) (enc : TypeId × Value → H) :
    ReturnsInHanded {} Try.checked os 3 .any (Rows.utfEncodesSpec.pre6 enc Try.prog Try.f3 Rows.utfEncodesRow.domain false) (Rows.utfEncodesSpec.post enc Try.prog Try.f3 false true false false) := by
  refine returnsInHanded_of_change (C := Try.checked) Try.ownKnobs started (by kernel_rfl) Try.func3
    (ChangeSpec.witness6 (enc := enc) (C := Try.checked) false ⟨#[], #[.slice none 0 0], []⟩ 8 (by kernel_rfl) (by kernel_rfl) (by kernel_rfl) (by kernel_rfl)) ?_
  intro W base args ds gs before hval0 hW hcnd _
  have hval : ∀ (j : Nat) t v, Try.f3.params[j]? = some t → args[j]? = some v → Value.okWide Try.prog W .any base t v := hval0
  have hW' := hW
  obtain ⟨p, q, hA0, hV, rfl, hfz, hnd⟩ := hW
  have hA : DataW.TrodAll enc Try.prog W 0 (fun _ => true) true Try.f3.params.toList args.toList ds p := hA0
  rw [Try.params3] at hA hval
  obtain ⟨v0, vs0, d0, ds0, p0, q0, hargs, rfl, rfl, h0, r0⟩ := trodAll_cons hA
  obtain ⟨rfl, rfl, rfl⟩ := trodAll_nil r0
  obtain rfl : args = #[v0] := by cases args; simp_all
  obtain ⟨rfl, rfl⟩ := trodVars_none hV
  obtain ⟨A, n, cap, l, rfl, hR, hu⟩ := open_u16s (hval 0 22 v0 rfl rfl) h0
  refine (utfEncodes_calls A n cap l W hR hu).mono fun e W' ⟨he, hb⟩ => ?_
  subst he
  exact ⟨_, rfl, law_post Try.allLaid (of_decide_eq_true (by kernel_rfl)) rfl Try.underlying4 rfl hW' rfl rfl rfl hb⟩

/-- The statement: UtfEncodes returns true, and its arguments read as they did. -/
theorem utfEncodes_holds : Rows.UtfEncodesSaid :=
  OpenClaim.holds_of_wide 3 Try.f3 rfl rfl rfl rfl rfl rfl rfl ⟨rfl, rfl, rfl, rfl, rfl⟩ rfl rfl rfl rfl rfl (by kernel_rfl) Try.func3 (by kernel_rfl)
    (of_decide_eq_true (by kernel_rfl)) (by unfold Func.isWrapper; first | (rw [if_pos (by decide +kernel)]; kernel_rfl) | (rw [if_neg (by decide +kernel)]; exact ⟨rfl, rfl⟩))
    (fun os started H enc _ => utfEncodes_lifted os started H enc)

end Go.Proofs.Ytnhfmcijadficaa
