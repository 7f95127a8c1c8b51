/- Proved: whatever its arguments are, ScanTorn returns true and leaves them as they were. Conditions: none but the row's own (the arguments can be read as data). -/
import Derived.Test.YtidcgobnhfganaaIo
namespace Go.Proofs.Ytidcgobnhfganaa
open Go.ChangeShapes Go.WideShapes Go.ChangeAt Go.RowKit Go.Joins

theorem scanTorn_any (A : Option Addr) (n cap : Nat) (l : List Ch) (cut mask : Int) (w : World) (hR : Chs w (fun q => w.heap.size ≤ q) A n cap l) (c1 : 0 ≤ cut) (c2 : cut ≤ 65535) (m1 : 0 ≤ mask) (m2 : mask ≤ 255) :
    Calls Try.prog 4 #[.slice A n cap, .int .u16 cut, .int .u8 mask] w fun e w' => e = .returned (.bool true) ∧ Below w.heap.size w w' := by
  by_cases h : 16 < n ∨ n = 0
  · exact scanTorn_out A n cap cut mask w h
  · obtain ⟨k, rfl⟩ := Int.eq_ofNat_of_zero_le c1
    obtain ⟨m, rfl⟩ := Int.eq_ofNat_of_zero_le m1
    obtain ⟨mb, hmb⟩ : ∃ mb : UInt8, mb.toNat = m := ⟨UInt8.ofNat m, by rw [UInt8.toNat_ofNat']; omega⟩
    rw [← hmb]
    exact scanTorn_yes A n cap l k mb w hR (by omega) (by omega) (by omega)

set_option maxRecDepth 100000 in
theorem scanTorn_lifted (os : Os) (started : os.Started) (H : Type) (enc : TypeId × Value → H) :
    ReturnsInHanded {} Try.checked os 4 .any (Rows.scanTornSpec.pre6 enc Try.prog Try.f4 Rows.scanTornRow.domain false) (Rows.scanTornSpec.post enc Try.prog Try.f4 false true false false) := by
  refine returnsInHanded_of_change (C := Try.checked) Try.ownKnobs started (by kernel_rfl) Try.func4
    (ChangeSpec.witness6 (enc := enc) (C := Try.checked) false ⟨#[], #[.slice none 0 0, .int .u16 0, .int .u8 0], []⟩ 8 (by kernel_rfl) (by kernel_rfl) (by kernel_rfl) (by kernel_rfl)) ?_
  intro W base args ds gs before hval0 hW hcnd _
  have hval : ∀ (j : Nat) t v, Try.f4.params[j]? = some t → args[j]? = some v → Value.okWide Try.prog W .any base t v := hval0
  have hW' := hW
  obtain ⟨p, q, hA0, hV, rfl, hfz, hnd⟩ := hW
  have hA : DataW.TrodAll enc Try.prog W 0 (fun _ => true) true Try.f4.params.toList args.toList ds p := hA0
  rw [Try.params4] at hA hval
  obtain ⟨v0, vs0, d0, ds0, p0, q0, hargs, rfl, rfl, h0, r0⟩ := trodAll_cons hA
  obtain ⟨v1, vs1, d1, ds1, p1, q1, rfl, rfl, rfl, h1, r1⟩ := trodAll_cons r0
  obtain ⟨v2, vs2, d2, ds2, p2, q2, rfl, rfl, rfl, h2, r2⟩ := trodAll_cons r1
  obtain ⟨rfl, rfl, rfl⟩ := trodAll_nil r2
  obtain rfl : args = #[v0, v1, v2] := by cases args; simp_all
  obtain ⟨rfl, rfl⟩ := trodVars_none hV
  obtain ⟨A, n, cap, l, rfl, hL⟩ := open_changes (hval 0 38 v0 rfl rfl) h0
  obtain ⟨c, rfl, c1, c2⟩ := open_u16_ (hval 1 39 v1 rfl rfl) h1
  obtain ⟨m, rfl, m1, m2⟩ := open_u8 (hval 2 5 v2 rfl rfl) h2
  refine (scanTorn_any A n cap l c m W hL c1 c2 m1 m2).mono fun e W' ⟨he, hb⟩ => ?_
  subst he
  exact ⟨_, rfl, law_post Try.allLaid (of_decide_eq_true (by kernel_rfl)) rfl Try.underlying4 rfl hW' rfl rfl rfl hb⟩

/-- The statement: ScanTorn returns true, and its arguments read as they did. -/
theorem scanTorn_holds : Rows.ScanTornSaid :=
  OpenClaim.holds_of_wide 4 Try.f4 rfl rfl rfl rfl rfl rfl rfl ⟨rfl, rfl, rfl, rfl, rfl⟩ rfl rfl rfl rfl rfl (by kernel_rfl) Try.func4 (by kernel_rfl)
    (of_decide_eq_true (by kernel_rfl)) (by unfold Func.isWrapper; first | (rw [if_pos (by decide +kernel)]; kernel_rfl) | (rw [if_neg (by decide +kernel)]; exact ⟨rfl, rfl⟩))
    (fun os started H enc _ => scanTorn_lifted os started H enc)

end Go.Proofs.Ytidcgobnhfganaa
