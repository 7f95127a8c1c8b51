/- Proved: whatever its arguments are, RecTurned returns true and leaves them as they were. Conditions: none but the row's own (the arguments can be read as data). -/
import Derived.Test.YtglagchgaclhaaaHo
import Derived.Test.YtglagchgaclhaaaHp
namespace Go.Proofs.Ytglagchgaclhaaa
open Go.ChangeShapes Go.WideShapes Go.ChangeAt Go.RowKit Go.Joins

theorem recTurned_calls (k t c : Int) (s : ByteArray) (A : Option Addr) (n cap : Nat) (xs : List UInt8) (z y : Int) (b : Bool) (w : World) (hB0 : ByteSl w (fun q => w.heap.size ≤ q) A n cap xs) (hA : A = none → n = 0 ∧ cap = 0)
    (t1 : 0 ≤ t) (t2 : t ≤ 4294967295) (z1 : 0 ≤ z) (z2 : z ≤ 65535) (y1 : 0 ≤ y) (y2 : y ≤ 4294967295) :
    Calls Try.prog 5 #[.agg #[.int .i64 k, .int .u32 t, .string s, .slice A n cap, .int .i64 c], .int .u16 z, .int .u32 y, .bool b] w fun e w' => e = .returned (.bool true) ∧ Below w.heap.size w w' := by
  by_cases h : mayB k t (s.size : Int) (n : Int) c = false ∨ y = 0
  · exact recTurned_none k t c s A n cap z y b w t1 h
  · have hm : mayB k t (s.size : Int) (n : Int) c = true := by
      cases hq : mayB k t (s.size : Int) (n : Int) c with
      | true => rfl
      | false => exact absurd (Or.inl hq) h
    have hy0 : y ≠ 0 := fun e => h (Or.inr e)
    have hf := mayB_iff.1 hm
    obtain ⟨k', rfl⟩ := Int.eq_ofNat_of_zero_le (show 0 ≤ k by omega)
    obtain ⟨t', rfl⟩ := Int.eq_ofNat_of_zero_le t1
    obtain ⟨c', rfl⟩ := Int.eq_ofNat_of_zero_le (show 0 ≤ c by omega)
    obtain ⟨z', rfl⟩ := Int.eq_ofNat_of_zero_le z1
    obtain ⟨y', rfl⟩ := Int.eq_ofNat_of_zero_le y1
    cases b with
    | true => exact recTurned_body k' t' c' s A n cap xs z' y' w hB0 hA (by omega) hm (by omega) (by omega) (by omega)
    | false => exact recTurned_head k' t' c' s A n cap xs z' y' w hB0 hA (by omega) hm (by omega) (by omega) (by omega)

set_option maxRecDepth 100000 in
theorem recTurned_lifted (os : Os) (started : os.Started) (H : Type) (enc : TypeId × Value → H) :
    ReturnsInHanded {} Try.checked os 5 .any (Rows.recTurnedSpec.pre6 enc Try.prog Try.f5 Rows.recTurnedRow.domain false) (Rows.recTurnedSpec.post enc Try.prog Try.f5 false true false false) := by
  refine returnsInHanded_of_change (C := Try.checked) Try.ownKnobs started (by kernel_rfl) Try.func5
    (ChangeSpec.witness6 (enc := enc) (C := Try.checked) false ⟨#[], #[.agg #[.int .i64 0, .int .u32 0, .string ⟨#[]⟩, .slice none 0 0, .int .i64 0], .int .u16 0, .int .u32 0, .bool false], []⟩ 8 (by kernel_rfl) (by kernel_rfl) (by kernel_rfl) (by kernel_rfl)) ?_
  intro W base args ds gs before hval0 hW hcnd _
  have hval : ∀ (j : Nat) t v, Try.f5.params[j]? = some t → args[j]? = some v → Value.okWide Try.prog W .any base t v := hval0
  have hW' := hW
  obtain ⟨p, q, hA0, hV, rfl, hfz, hnd⟩ := hW
  have hA : DataW.TrodAll enc Try.prog W 0 (fun _ => true) true Try.f5.params.toList args.toList ds p := hA0
  rw [Try.params5] at hA hval
  obtain ⟨v0, vs0, d0, ds0, p0, q0, hargs, rfl, rfl, h0, r0⟩ := trodAll_cons hA
  obtain ⟨v1, vs1, d1, ds1, p1, q1, rfl, rfl, rfl, h1, r1⟩ := trodAll_cons r0
  obtain ⟨v2, vs2, d2, ds2, p2, q2, rfl, rfl, rfl, h2, r2⟩ := trodAll_cons r1
  obtain ⟨v3, vs3, d3, ds3, p3, q3, rfl, rfl, rfl, h3, r3⟩ := trodAll_cons r2
  obtain ⟨rfl, rfl, rfl⟩ := trodAll_nil r3
  obtain rfl : args = #[v0, v1, v2, v3] := by cases args; simp_all
  obtain ⟨rfl, rfl⟩ := trodVars_none hV
  obtain ⟨k, t, c, s, A, n, cap, xs, rfl, t1, t2, hX, hXn⟩ := open_rec (hval 0 25 v0 rfl rfl) h0
  obtain ⟨z, rfl, z1, z2⟩ := open_u16_ (hval 1 38 v1 rfl rfl) h1
  obtain ⟨y, rfl, y1, y2⟩ := open_u32_ (hval 2 22 v2 rfl rfl) h2
  obtain ⟨b, rfl⟩ := open_b (hval 3 4 v3 rfl rfl) h3
  refine (recTurned_calls k t c s A n cap xs z y b W hX hXn t1 t2 z1 z2 y1 y2).mono fun e W' ⟨he, hb⟩ => ?_
  subst he
  exact ⟨_, rfl, law_post Try.allLaid (of_decide_eq_true (by kernel_rfl)) rfl Try.underlying4 rfl hW' rfl rfl rfl hb⟩

/-- The statement: RecTurned returns true, and its arguments read as they did. -/
theorem recTurned_holds : Rows.RecTurnedSaid :=
  OpenClaim.holds_of_wide 5 Try.f5 rfl rfl rfl rfl rfl rfl rfl ⟨rfl, rfl, rfl, rfl, rfl⟩ rfl rfl rfl rfl rfl (by kernel_rfl) Try.func5 (by kernel_rfl)
    (of_decide_eq_true (by kernel_rfl)) (by unfold Func.isWrapper; first | (rw [if_pos (by decide +kernel)]; kernel_rfl) | (rw [if_neg (by decide +kernel)]; exact ⟨rfl, rfl⟩))
    (fun os started H enc _ => recTurned_lifted os started H enc)

end Go.Proofs.Ytglagchgaclhaaa
