/- Proved: whatever its two arguments are, NorPlays returns true and leaves them as they were. Conditions: none but the row's own (the arguments can be read as data). -/
import Derived.Test.YtaepdmifenkhcaaQ4
namespace Go.Proofs.Ytaepdmifenkhcaa
open Go.ChangeShapes Go.WideShapes Go.ChangeAt Go.RowKit Go.Joins

theorem open_geo {H : Type} {enc : TypeId × Value → H} {W : World} {base : Nat} {v : Value} {d : DataW H} {p : List MemPlace} (hv : Value.okWide Try.prog W .any base 23 v) (h : DataW.Trod enc Try.prog W 0 (fun _ => true) true 23 v d p) :
    ∃ (S Z L : Int), v = .agg #[.int .i64 S, .int .i64 Z, .int .i64 L] := by
  obtain ⟨v0, v1, v2, y0, y1, y2, n, rfl, rfl, rfl, h0, h1, h2⟩ := open_agg3 Try.underlying23 (by kernel_rfl) (by kernel_rfl) hv h
  obtain ⟨S, e0, _, _⟩ := DataW.trod_int Try.underlying3 h0
  obtain ⟨Z, e1, _, _⟩ := DataW.trod_int Try.underlying3 h1
  obtain ⟨L, e2, _, _⟩ := DataW.trod_int Try.underlying3 h2
  simp at e0 e1 e2
  subst e0 e1 e2
  exact ⟨S, Z, L, rfl⟩

theorem norPlays_any (S Z L : Int) (V : Value) (w : World) (hV : (∃ A cap, V = .slice A 0 cap) ∨ ∃ (b o n cap : Nat) (F : Nat → OneAct), V = .slice (some ⟨b, o, none⟩) n cap ∧ n ≤ cap ∧ cap ≤ maxLen ∧ b < w.heap.size ∧ ∀ i, i < n → ActOk w b (o + i * 6) (F i)) :
    Calls Try.prog 3 #[.agg #[.int .i64 S, .int .i64 Z, .int .i64 L], V] w fun e w' => e = .returned (.bool true) ∧ Below w.heap.size w w' := by
  by_cases hg : GeoOk S Z L
  · obtain ⟨S, rfl⟩ := Int.eq_ofNat_of_zero_le (show 0 ≤ S by have := hg.s1; omega)
    obtain ⟨Z, rfl⟩ := Int.eq_ofNat_of_zero_le (show 0 ≤ Z by have := hg.z1; omega)
    obtain ⟨L, rfl⟩ := Int.eq_ofNat_of_zero_le (show 0 ≤ L by have := hg.l1; omega)
    rcases hV with ⟨A, cap, rfl⟩ | ⟨b, o, n, cap, F, rfl, hn, hcap, hb, hF⟩
    · exact norPlays_empty S Z L A cap w hg
    · exact norPlays_yes S Z L b o n cap F w hg hn hcap hb hF
  · exact norPlays_no S Z L V w hg

set_option maxRecDepth 100000 in
theorem norPlays_lifted (os : Os) (started : os.Started) (H : Type) (enc : TypeId × Value → H) :
    ReturnsInHanded {} Try.checked os 3 .any (Rows.norPlaysSpec.pre6 enc Try.prog Try.f3 Rows.norPlaysRow.domain false) (Rows.norPlaysSpec.post enc Try.prog Try.f3 false true false false) := by
  refine returnsInHanded_of_change (C := Try.checked) Try.ownKnobs started (by kernel_rfl) Try.func3
    (ChangeSpec.witness6 (enc := enc) (C := Try.checked) false ⟨#[], #[.agg #[.int .i64 0, .int .i64 0, .int .i64 0], .slice none 0 0], []⟩ 8 (by kernel_rfl) (by kernel_rfl) (by kernel_rfl) (by kernel_rfl)) ?_
  intro W base args ds gs before hval0 hW hcnd _
  have hval : ∀ (j : Nat) t v, Try.f3.params[j]? = some t → args[j]? = some v → Value.okWide Try.prog W .any base t v := hval0
  have hW' := hW
  obtain ⟨p, q, hA0, hV, rfl, hfz, hnd⟩ := hW
  have hA : DataW.TrodAll enc Try.prog W 0 (fun _ => true) true Try.f3.params.toList args.toList ds p := hA0
  rw [Try.params3] at hA hval
  obtain ⟨v0, vs0, d0, ds0, p0, q0, hargs, rfl, rfl, h0, r0⟩ := trodAll_cons hA
  obtain ⟨v1, vs1, d1, ds1, p1, q1, rfl, rfl, rfl, h1, r1⟩ := trodAll_cons r0
  obtain ⟨rfl, rfl, rfl⟩ := trodAll_nil r1
  obtain rfl : args = #[v0, v1] := by cases args; simp_all
  obtain ⟨rfl, rfl⟩ := trodVars_none hV
  obtain ⟨S, Z, L, rfl⟩ := open_geo (hval 0 23 v0 rfl rfl) h0
  have hV := open_acts (hval 1 24 v1 rfl rfl) h1
  refine (norPlays_any S Z L v1 W hV).mono fun e W' ⟨he, hb⟩ => ?_
  subst he
  exact ⟨_, rfl, law_post Try.allLaid (of_decide_eq_true (by kernel_rfl)) rfl Try.underlying4 rfl hW' rfl rfl rfl hb⟩

/-- The statement: NorPlays returns true, and its arguments read as they did. -/
theorem norPlays_holds : Rows.NorPlaysSaid :=
  OpenClaim.holds_of_wide 3 Try.f3 rfl rfl rfl rfl rfl rfl rfl ⟨rfl, rfl, rfl, rfl, rfl⟩ rfl rfl rfl rfl rfl (by kernel_rfl) Try.func3 (by kernel_rfl)
    (of_decide_eq_true (by kernel_rfl)) (by unfold Func.isWrapper; first | (rw [if_pos (by decide +kernel)]; kernel_rfl) | (rw [if_neg (by decide +kernel)]; exact ⟨rfl, rfl⟩))
    (fun os started H enc _ => norPlays_lifted os started H enc)

end Go.Proofs.Ytaepdmifenkhcaa
