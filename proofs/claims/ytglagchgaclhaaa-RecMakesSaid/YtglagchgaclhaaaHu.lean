/- Proved: whatever its arguments are, RecMakes returns true and leaves them as they were. Conditions: none but the row's own (the arguments can be read as data). -/
import Derived.Test.YtglagchgaclhaaaHt
import Derived.Test.YtglagchgaclhaaaHp
namespace Go.Proofs.Ytglagchgaclhaaa
open Go.ChangeShapes Go.WideShapes Go.ChangeAt Go.RowKit Go.Joins

theorem recMakes_calls (k t c : Int) (s : ByteArray) (A B : Option Addr) (n cap m cap2 : Nat) (xs ms : List UInt8) (l : Int) (w : World) (hB0 : ByteSl w (fun q => w.heap.size ≤ q) A n cap xs) (hA : A = none → n = 0 ∧ cap = 0)
    (hM0 : ByteSl w (fun q => w.heap.size ≤ q) B m cap2 ms) (hBn : B = none → m = 0 ∧ cap2 = 0) (t1 : 0 ≤ t) (t2 : t ≤ 4294967295) (l1 : 0 ≤ l) (l2 : l ≤ 255) :
    Calls Try.prog 3 #[.agg #[.int .i64 k, .int .u32 t, .string s, .slice A n cap, .int .i64 c], .int .u8 l, .slice B m cap2] w fun e w' => e = .returned (.bool true) ∧ Below w.heap.size w w' := by
  by_cases h : 300 < s.size ∨ 5000 < n ∨ 300 < m
  · exact recMakes_big k t c s A B n cap m cap2 l w h
  · cases hq : mayB k t (s.size : Int) (n : Int) c with
    | false => exact recMakes_no k t c s A B n cap m cap2 l w t1 (by omega) (by omega) (by omega) hq
    | true =>
      have hf := mayB_iff.1 hq
      obtain ⟨k', rfl⟩ := Int.eq_ofNat_of_zero_le (show 0 ≤ k by omega)
      obtain ⟨t', rfl⟩ := Int.eq_ofNat_of_zero_le t1
      obtain ⟨c', rfl⟩ := Int.eq_ofNat_of_zero_le (show 0 ≤ c by omega)
      obtain ⟨l', rfl⟩ := Int.eq_ofNat_of_zero_le l1
      obtain ⟨lb, hlb⟩ : ∃ lb : UInt8, lb.toNat = l' := ⟨UInt8.ofNat l', by rw [UInt8.toNat_ofNat']; omega⟩
      rw [← hlb]
      exact recMakes_yes k' t' c' s A B n cap m cap2 xs ms lb w hB0 hA hM0 hBn (by omega) (by omega) hq

set_option maxRecDepth 100000 in
theorem recMakes_lifted (os : Os) (started : os.Started) (H : Type) (enc : TypeId × Value → H) :
    ReturnsInHanded {} Try.checked os 3 .any (Rows.recMakesSpec.pre6 enc Try.prog Try.f3 Rows.recMakesRow.domain false) (Rows.recMakesSpec.post enc Try.prog Try.f3 false true false false) := by
  refine returnsInHanded_of_change (C := Try.checked) Try.ownKnobs started (by kernel_rfl) Try.func3
    (ChangeSpec.witness6 (enc := enc) (C := Try.checked) false ⟨#[], #[.agg #[.int .i64 0, .int .u32 0, .string ⟨#[]⟩, .slice none 0 0, .int .i64 0], .int .u8 0, .slice none 0 0], []⟩ 8 (by kernel_rfl) (by kernel_rfl) (by kernel_rfl) (by kernel_rfl)) ?_
  intro W base args ds gs before hval0 hW hcnd _
  have hval : ∀ (j : Nat) t v, Try.f3.params[j]? = some t → args[j]? = some v → Value.okWide Try.prog W .any base t v := hval0
  have hW' := hW
  obtain ⟨p, q, hA0, hV, rfl, hfz, hnd⟩ := hW
  have hA : DataW.TrodAll enc Try.prog W 0 (fun _ => true) true Try.f3.params.toList args.toList ds p := hA0
  rw [Try.params3] at hA hval
  obtain ⟨v0, vs0, d0, ds0, p0, q0, hargs, rfl, rfl, h0, r0⟩ := trodAll_cons hA
  obtain ⟨v1, vs1, d1, ds1, p1, q1, rfl, rfl, rfl, h1, r1⟩ := trodAll_cons r0
  obtain ⟨v2, vs2, d2, ds2, p2, q2, rfl, rfl, rfl, h2, r2⟩ := trodAll_cons r1
  obtain ⟨rfl, rfl, rfl⟩ := trodAll_nil r2
  obtain rfl : args = #[v0, v1, v2] := by cases args; simp_all
  obtain ⟨rfl, rfl⟩ := trodVars_none hV
  obtain ⟨k, t, c, s, A, n, cap, xs, rfl, t1, t2, hX, hXn⟩ := open_rec (hval 0 25 v0 rfl rfl) h0
  obtain ⟨l, rfl, l1, l2⟩ := open_u8 (hval 1 5 v1 rfl rfl) h1
  obtain ⟨B, m, cap2, ms, rfl, hM, hMn⟩ := open_bytes (hval 2 23 v2 rfl rfl) h2
  refine (recMakes_calls k t c s A B n cap m cap2 xs ms l W hX hXn hM hMn t1 t2 l1 l2).mono fun e W' ⟨he, hb⟩ => ?_
  subst he
  exact ⟨_, rfl, law_post Try.allLaid (of_decide_eq_true (by kernel_rfl)) rfl Try.underlying4 rfl hW' rfl rfl rfl hb⟩

/-- The statement: RecMakes returns true, and its arguments read as they did. -/
theorem recMakes_holds : Rows.RecMakesSaid :=
  OpenClaim.holds_of_wide 3 Try.f3 rfl rfl rfl rfl rfl rfl rfl ⟨rfl, rfl, rfl, rfl, rfl⟩ rfl rfl rfl rfl rfl (by kernel_rfl) Try.func3 (by kernel_rfl)
    (of_decide_eq_true (by kernel_rfl)) (by unfold Func.isWrapper; first | (rw [if_pos (by decide +kernel)]; kernel_rfl) | (rw [if_neg (by decide +kernel)]; exact ⟨rfl, rfl⟩))
    (fun os started H enc _ => recMakes_lifted os started H enc)

end Go.Proofs.Ytglagchgaclhaaa
