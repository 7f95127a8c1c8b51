/- Proved: whatever its arguments are, WearTells returns true and leaves them as they were. Conditions: none but the row's own (the arguments can be read as data). -/
import Derived.Test.YtkblfmmhocogeaaJi
import Derived.Test.YtkblfmmhocogeaaJj
namespace Go.Proofs.Ytkblfmmhocogeaa
open Go.ChangeShapes Go.WideShapes Go.ChangeAt Go.RowKit Go.Joins

set_option maxHeartbeats 2000000 in
theorem wearTells_any (A : Option Addr) (n cap : Nat) (l : List Sc) (lim : Int) (w : World) (hS0 : Secs w (fun q => w.heap.size ≤ q) A n cap l) :
    Calls Try.prog 3 #[.slice A n cap, .int .i64 lim] w fun e w' => e = .returned (.bool true) ∧ Below w.heap.size w w' := by
  have HS := Lib.hid (hS0.mono (T := Empty) (fun _ _ h => h.elim))
  clear hS0
  go_enter Try.func3, Try.ntmps3
  go_wp2_with fail
  refine (fixed7_any _).mono ?_
  rintro e1 w1 ⟨rfl, hb1⟩
  have HB1 := Lib.hid hb1
  have HS1 := Lib.hid (HS.out.only (Only.of_below (S := Empty) hb1) (fun _ _ h => h))
  clear hb1
  go_wp2_with fail
  refine (right7_any A n cap l _ HS1.out).mono ?_
  rintro e2 w2 ⟨rfl, hb2⟩
  have HB2 := Lib.hid (HB1.out.trans (hb2.mono HB1.out.size))
  have HS2 := Lib.hid (HS1.out.only (Only.of_below (S := Empty) hb2) (fun _ _ h => h))
  clear hb2
  cases hR : rightB l with
  | false =>
    go_wp2_with fail
    go_ret
    exact ⟨rfl, HB2.out⟩
  | true =>
    obtain ⟨her, hlen⟩ := rightB_spec hR
    have hm : n ≤ 1048576 := by have := HS.out.1; omega
    have Her : Hid (∀ s ∈ l, 0 ≤ s.er ∧ s.er ≤ 16777216) := Lib.hid (fun s hs => by have := her s hs; omega)
    clear hR her hlen
    obtain ⟨r, hr⟩ : ∃ r, best (opensB lim) Sc.er l n = r := ⟨_, rfl⟩
    obtain ⟨u, hu⟩ : ∃ u, best usedB Sc.q l n = u := ⟨_, rfl⟩
    have N3 := Lib.hid (fun W h => next_any A n cap l lim W h hm r hr)
    have N4 := Lib.hid (fun W h => refNext_any A n cap l lim W h hm r hr)
    have N5 := Lib.hid (fun W h => oldest_any A n cap l W h hm u hu)
    have N6 := Lib.hid (fun W h => refOldest_any A n cap l W h hm u hu)
    have N7 := Lib.hid (fun W h => free_any A n cap l lim W h hm)
    have N8 := Lib.hid (fun W h => refFree_any A n cap l lim W h hm)
    have N9 := Lib.hid (fun W h => spread_any A n cap l W h hm Her.out)
    have N10 := Lib.hid (fun W h => refSpread_any A n cap l W h hm Her.out)
    unfold placeV at N3 N4 N5 N6
    generalize ((r.getD 0 : Nat) : Int) = x1 at N3 N4
    generalize r.isSome = y1 at N3 N4
    generalize ((u.getD 0 : Nat) : Int) = x2 at N5 N6
    generalize u.isSome = y2 at N5 N6
    generalize ((l.countP (opensB lim) : Nat) : Int) = x3 at N7 N8
    generalize spreadF l = x4 at N9 N10
    clear hr hu
    have t1 : (x1 == x1) = true := beq_self_eq_true x1
    have t2 : (x2 == x2) = true := beq_self_eq_true x2
    have t3 : (x3 == x3) = true := beq_self_eq_true x3
    have t4 : (x4 == x4) = true := beq_self_eq_true x4
    have t5 : (y1 == y1) = true := beq_self_eq_true y1
    have t6 : (y2 == y2) = true := beq_self_eq_true y2
    go_wp2_with fail
    refine (N3.out _ HS2.out).mono ?_
    rintro e3 w3 ⟨rfl, hb3⟩
    have HB3 := Lib.hid (HB2.out.trans (hb3.mono HB2.out.size))
    have HS3 := Lib.hid (HS2.out.only (Only.of_below (S := Empty) hb3) (fun _ _ h => h))
    clear hb3
    go_wp2_with fail
    refine (N4.out _ HS3.out).mono ?_
    rintro e4 w4 ⟨rfl, hb4⟩
    have HB4 := Lib.hid (HB3.out.trans (hb4.mono HB3.out.size))
    have HS4 := Lib.hid (HS3.out.only (Only.of_below (S := Empty) hb4) (fun _ _ h => h))
    clear hb4
    go_wp2_with fail
    refine (N5.out _ HS4.out).mono ?_
    rintro e5 w5 ⟨rfl, hb5⟩
    have HB5 := Lib.hid (HB4.out.trans (hb5.mono HB4.out.size))
    have HS5 := Lib.hid (HS4.out.only (Only.of_below (S := Empty) hb5) (fun _ _ h => h))
    clear hb5
    go_wp2_with fail
    refine (N6.out _ HS5.out).mono ?_
    rintro e6 w6 ⟨rfl, hb6⟩
    have HB6 := Lib.hid (HB5.out.trans (hb6.mono HB5.out.size))
    have HS6 := Lib.hid (HS5.out.only (Only.of_below (S := Empty) hb6) (fun _ _ h => h))
    clear hb6
    go_wp2_with fail
    refine (N7.out _ HS6.out).mono ?_
    rintro e7 w7 ⟨rfl, hb7⟩
    have HB7 := Lib.hid (HB6.out.trans (hb7.mono HB6.out.size))
    have HS7 := Lib.hid (HS6.out.only (Only.of_below (S := Empty) hb7) (fun _ _ h => h))
    clear hb7
    go_wp2_with fail
    refine (N8.out _ HS7.out).mono ?_
    rintro e8 w8 ⟨rfl, hb8⟩
    have HB8 := Lib.hid (HB7.out.trans (hb8.mono HB7.out.size))
    have HS8 := Lib.hid (HS7.out.only (Only.of_below (S := Empty) hb8) (fun _ _ h => h))
    clear hb8
    go_wp2_with fail
    refine (N9.out _ HS8.out).mono ?_
    rintro e9 w9 ⟨rfl, hb9⟩
    have HB9 := Lib.hid (HB8.out.trans (hb9.mono HB8.out.size))
    have HS9 := Lib.hid (HS8.out.only (Only.of_below (S := Empty) hb9) (fun _ _ h => h))
    clear hb9
    go_wp2_with fail
    refine (N10.out _ HS9.out).mono ?_
    rintro e10 w10 ⟨rfl, hb10⟩
    have HB10 := Lib.hid (HB9.out.trans (hb10.mono HB9.out.size))
    clear hb10
    go_wp2_with fail
    go_ret
    exact ⟨rfl, HB10.out⟩

set_option maxRecDepth 100000 in
theorem wearTells_lifted (os : Os) (started : os.Started) (H : Type) (enc : TypeId × Value → H) :
    ReturnsInHanded {} Try.checked os 3 .any (Rows.wearTellsSpec.pre6 enc Try.prog Try.f3 Rows.wearTellsRow.domain false) (Rows.wearTellsSpec.post enc Try.prog Try.f3 false true false false) := by
  refine returnsInHanded_of_change (C := Try.checked) Try.ownKnobs started (by kernel_rfl) Try.func3
    (ChangeSpec.witness6 (enc := enc) (C := Try.checked) false ⟨#[], #[.slice none 0 0, .int .i64 0], []⟩ 8 (by kernel_rfl) (by kernel_rfl) (by kernel_rfl) (by kernel_rfl)) ?_
  intro W base args ds gs before hval0 hW hcnd _
  have hval : ∀ (j : Nat) t v, Try.f3.params[j]? = some t → args[j]? = some v → Value.okWide Try.prog W .any base t v := hval0
  have hW' := hW
  obtain ⟨p, q, hA0, hV, rfl, hfz, hnd⟩ := hW
  have hA : DataW.TrodAll enc Try.prog W 0 (fun _ => true) true Try.f3.params.toList args.toList ds p := hA0
  rw [Try.params3] at hA hval
  obtain ⟨v0, vs0, d0, ds0, p0, q0, hargs, rfl, rfl, h0, r0⟩ := trodAll_cons hA
  obtain ⟨v1, vs1, d1, ds1, p1, q1, rfl, rfl, rfl, h1, r1⟩ := trodAll_cons r0
  obtain ⟨rfl, rfl, rfl⟩ := trodAll_nil r1
  obtain rfl : args = #[v0, v1] := by cases args; simp_all
  obtain ⟨rfl, rfl⟩ := trodVars_none hV
  obtain ⟨A, n, cap, l, rfl, hL, hA2⟩ := open_secs (hval 0 22 v0 rfl rfl) h0
  obtain ⟨m, rfl, m1, m2⟩ := open_int_ (hval 1 3 v1 rfl rfl) h1
  refine (wearTells_any A n cap l m W hL).mono fun e W' ⟨he, hb⟩ => ?_
  subst he
  exact ⟨_, rfl, law_post Try.allLaid (of_decide_eq_true (by kernel_rfl)) rfl Try.underlying4 rfl hW' rfl rfl rfl hb⟩

/-- The statement: WearTells returns true, and its arguments read as they did. -/
theorem wearTells_holds : Rows.WearTellsSaid :=
  OpenClaim.holds_of_wide 3 Try.f3 rfl rfl rfl rfl rfl rfl rfl ⟨rfl, rfl, rfl, rfl, rfl⟩ rfl rfl rfl rfl rfl (by kernel_rfl) Try.func3 (by kernel_rfl)
    (of_decide_eq_true (by kernel_rfl)) (by unfold Func.isWrapper; first | (rw [if_pos (by decide +kernel)]; kernel_rfl) | (rw [if_neg (by decide +kernel)]; exact ⟨rfl, rfl⟩))
    (fun os started H enc _ => wearTells_lifted os started H enc)

end Go.Proofs.Ytkblfmmhocogeaa
