/- Proved: whatever its arguments are, WearEven returns true and leaves them as they were. Conditions: none but the row's own (the arguments can be read as data). -/
import Derived.Test.YtkblfmmhocogeaaJj
import Derived.Test.YtkblfmmhocogeaaJo
import Derived.Test.YtkblfmmhocogeaaJm
namespace Go.Proofs.Ytkblfmmhocogeaa
open Go.ChangeShapes Go.WideShapes Go.ChangeAt Go.RowKit Go.Joins

set_option maxHeartbeats 4000000 in
set_option maxRecDepth 4000 in
theorem wearEven_any (A : Option Addr) (n cap : Nat) (l : List Sc) (N : Int) (w : World) (hS0 : Secs w (fun q => w.heap.size ≤ q) A n cap l) (hA : A = none → n = 0 ∧ cap = 0) (hN0 : 0 ≤ N) (hN : N ≤ 255) :
    Calls Try.prog 4 #[.slice A n cap, .int .u8 N] w fun e w' => e = .returned (.bool true) ∧ Below w.heap.size w w' := by
  have HS := Lib.hid (hS0.mono (T := Empty) (fun _ _ h => h.elim))
  have HA := Lib.hid hA
  have HSl := Lib.hid hS0.1
  have hcap := hS0.2.1
  have hcap2 : cap ≤ 9223372036854775807 := by have := hS0.2.2.1; unfold maxLen at this; omega
  clear hS0 hA
  go_enter Try.func4, Try.ntmps4
  go_wp2_with fail
  refine (fixed7_any _).mono ?_
  rintro e1 w1 ⟨rfl, hb1⟩
  have HO1 := Lib.hid (Only.of_below (S := Empty) hb1)
  clear hb1
  go_wp2_with fail
  refine (right7_any A n cap l _ (HS.out.only HO1.out (fun _ _ h => h))).mono ?_
  rintro e2 w2 ⟨rfl, hb2⟩
  have HO2 := Lib.hid (HO1.out.trans (Only.of_below (S := Empty) hb2))
  clear hb2
  cases hR : rightB l with
  | false =>
    go_wp2_with fail
    go_ret
    exact ⟨rfl, HO2.out.below (Nat.le_refl _) (fun _ _ h => h)⟩
  | true =>
    obtain ⟨her, hlen⟩ := rightB_spec hR
    have hm : n ≤ 100 := by have := HSl.out; omega
    have Her := Lib.hid her
    clear hR her hlen
    rcases Nat.eq_zero_or_pos n with h0 | h0
    · subst h0
      go_wp2_with fail
      go_ret
      exact ⟨rfl, HO2.out.below (Nat.le_refl _) (fun _ _ h => h)⟩
    · have hne : ((n : Int) == 0) = false := by rw [beq_eq_false_iff_ne]; omega
      have HO3 := Lib.hid (HO2.out.alloc (.cells #[] 33))
      have HS3 := Lib.hid (HS.out.only HO3.out (fun _ _ h => h))
      have Hown := Lib.hid (own_secs w2 w.heap.size HO2.out.size)
      go_wp2_with (at_builtin; refine wpList_append_secs rfl (.tmp 20) (.tmp 21) rfl w.heap.size _ rfl 0 [] Hown.out A n cap l Empty rfl HS3.out HA.out (by omega) HO3.out.size ?_; intro v4 w4 hown4 hg4; have hown5 : w4.ownsRow w.heap.size 33 3 v4 n (l.flatMap Sc.cells) := (by simpa using hown4); obtain ⟨A4, c4, rfl, hS4, hx4⟩ := Secs.of_own (S := Empty) hown5 HSl.out (fun _ _ _ h => h); obtain ⟨g, rfl, hg0, cur, hk4, hc4⟩ := hx4 h0)
      have HOw := Lib.hid (OwnS.of_flat hk4 HSl.out hc4)
      have HO4 := Lib.hid (HO3.out.row hg4 (fun k hk => (Hown.out.lt k hk).1))
      have hcn := hS4.2.1
      have Hcm := Lib.hid hS4.2.2.1
      have hc4b : c4 ≤ 9223372036854775807 := by have := Hcm.out; unfold maxLen at this; omega
      have Hg0 := Lib.hid hg0
      clear hown4 hg4 hown5 hS4 hk4 hc4 cur hne
      clear hx4
      go_loopw [25] (fun v wr => ∃ i : Nat, i ≤ n ∧ v = .int .i64 (i : Int) ∧ Hid (OwnS wr g n (dirtied l i)) ∧ Hid (Only Empty w wr)) (fun v _ => n - (intOf v).toNat)
      case atStart => exact ⟨0, Nat.zero_le _, rfl, HOw, HO4⟩
      case round =>
        obtain ⟨i, hi, rfl, HOr, HOn⟩ := hrel
        clear HOw HO4 hg0
        by_cases hlt : i < n
        · obtain ⟨f, hf⟩ : ∃ f, l[i]? = some f := ⟨_, List.getElem?_eq_getElem (by have := HSl.out; omega)⟩
          have hd := dirtied_at hf
          have d0 : wr.cell? ⟨g, i * 3, none⟩ = some (.int .i64 f.st) := HOr.out.cell hd.1 (j := 0) (by omega)
          have g0 : wr.frozen? ⟨g, i * 3, none⟩ = false := HOr.out.frozen _
          have hset : OwnS (wr.setCell ⟨g, i * 3 + 0, none⟩ (.int .i64 1)) g n ((dirtied l i).set i (dirtyS f)) := HOr.out.set_ hd.1 (by omega) rfl (fun k hk hne => by
            match k, hk, hne with
            | 0, _, hne => exact absurd rfl hne
            | 1, _, _ => rfl
            | 2, _, _ => rfl)
          rw [hd.2, Nat.add_zero] at hset
          have Hset := Lib.hid hset
          have HOs := Lib.hid (HOn.out.setCell (p := ⟨g, i * 3, none⟩) (Or.inr Hg0.out) (.int .i64 1))
          clear hf hd hset
          go_wp2_with fail
          go_roundw
          case rel => exact ⟨i + 1, by omega, by go_num, Hset, HOs⟩
          case measure => simp [intOf]; omega
        · obtain rfl : i = n := by omega
          have hall : dirtied l i = l.map dirtyS := by
            unfold dirtied
            rw [List.take_of_length_le (by rw [HSl.out]; omega), List.drop_eq_nil_of_le (by rw [HSl.out]; omega), List.append_nil]
          rw [hall] at HOr
          have hdirty : Dirty (l.map dirtyS) 1048576 := fun s hs => by
            obtain ⟨t, ht, rfl⟩ := List.mem_map.1 hs
            have := Her.out t ht
            exact ⟨rfl, this.1, this.2⟩
          have HD := Lib.hid hdirty
          have hSp := spread_any (some ⟨g, 0, none⟩) i c4 (l.map dirtyS) wr (HOr.out.secs hcn Hcm.out) (by omega) (fun s hs => by have := hdirty s hs; omega)
          obtain ⟨x0, hx0⟩ : ∃ x0, spreadF (l.map dirtyS) = x0 := ⟨_, rfl⟩
          rw [hx0] at hSp
          have Hx0 := Lib.hid hx0
          have HSp := Lib.hid hSp
          clear hall hdirty hSp hx0 hlt hi
          go_wp2_with fail
          refine HSp.out.mono ?_
          rintro e5 w5 ⟨rfl, hb5⟩
          have HO5 := Lib.hid (HOn.out.trans (Only.of_below (S := Empty) hb5))
          have HOw5 := Lib.hid (HOr.out.only (Only.of_below (S := Empty) hb5) (fun h => h))
          clear hb5
          obtain ⟨M, hM⟩ : ∃ M, (if x0 < 1 then (1 : Int) else x0) = M := ⟨_, rfl⟩
          have HM1 : Hid (x0 ≤ M) := Lib.hid (by split at hM <;> omega)
          have HM2 : Hid (1 ≤ M) := Lib.hid (by split at hM <;> omega)
          go_wp2_with fail
          clear hM
          go_loopw [37] (fun v wr => ∃ (m : Nat) (L : List Sc), (m : Int) ≤ N ∧ v = .int .u8 (m : Int) ∧ Hid (OwnS wr g i L) ∧ Hid (Dirty L (1048576 + (m : Int))) ∧ Hid (spreadF L ≤ M) ∧ Hid (Only Empty w wr)) (fun v _ => N.toNat - (intOf v).toNat)
          case atStart => exact ⟨0, l.map dirtyS, hN0, rfl, HOw5, Lib.hid (by simpa using HD.out), Lib.hid (by rw [Hx0.out]; exact HM1.out), HO5⟩
          case round =>
            obtain ⟨m, L, hmN, rfl, HOm, HDm, HSm, HOx⟩ := hrel
            clear HOr HOw5 HO5 HSp
            by_cases hlt : (m : Int) < N
            · obtain ⟨k, t, hbk, hk, ht, ht1, ht2, ht3, hmin⟩ := HDm.out.next (lim := 1049576) HOm.out.1 (by omega) (by omega)
              have N1 := next_any (some ⟨g, 0, none⟩) i c4 L 1049576 wr (HOm.out.secs hcn Hcm.out) (by omega) (some k) hbk
              unfold placeV at N1
              simp only [Option.isSome_some, Option.getD_some] at N1
              have HN1 := Lib.hid N1
              have Hmin := Lib.hid hmin
              have hkn : (k : Int) < (i : Int) := by omega
              have hk0 : (0 : Int) ≤ (k : Int) := by omega
              have hk1 : ¬ (k : Int) < (0 : Int) := by omega
              have hk2 : ¬ (i : Int) ≤ (k : Int) := by omega
              clear N1 hbk hmin
              go_wp2_with fail
              refine HN1.out.mono ?_
              rintro e6 w6 ⟨rfl, hb6⟩
              have HO6 := Lib.hid (HOx.out.trans (Only.of_below (S := Empty) hb6))
              have hOw6 := HOm.out.only (Only.of_below (S := Empty) hb6) (fun h => h)
              have d2 : w6.cell? ⟨g, k * 3 + 2, none⟩ = some (.int .i64 t.er) := hOw6.cell ht (j := 2) (by omega)
              have g2 : w6.frozen? ⟨g, k * 3 + 2, none⟩ = false := hOw6.frozen _
              have hset : OwnS (w6.setCell ⟨g, k * 3 + 2, none⟩ (.int .i64 (t.er + 1))) g i (L.set k ⟨t.st, t.q, t.er + 1⟩) := hOw6.set_ ht (by omega) rfl (fun k hk hne => by
                match k, hk, hne with
                | 0, _, _ => rfl
                | 1, _, _ => rfl
                | 2, _, hne => exact absurd rfl hne)
              have HOs := Lib.hid (HO6.out.setCell (p := ⟨g, k * 3 + 2, none⟩) (Or.inr Hg0.out) (.int .i64 (t.er + 1)))
              have hD2 : Dirty (L.set k ⟨t.st, t.q, t.er + 1⟩) (1048576 + (m : Int) + 1) := HDm.out.set_ ht1 (by show 0 ≤ t.er + 1; omega) (by show t.er + 1 ≤ _; omega)
              have hS2 : spreadF (L.set k ⟨t.st, t.q, t.er + 1⟩) ≤ M := spread_step ht Hmin.out rfl HSm.out HM2.out
              obtain ⟨x1, hx1⟩ : ∃ x1, spreadF (L.set k ⟨t.st, t.q, t.er + 1⟩) = x1 := ⟨_, rfl⟩
              have N2 := spread_any (some ⟨g, 0, none⟩) i c4 _ _ (hset.secs hcn Hcm.out) (by omega) (fun s hs => by have := hD2 s hs; omega)
              rw [hx1] at N2 hS2
              have HN2 := Lib.hid N2
              have Hset := Lib.hid hset
              have HD2 := Lib.hid hD2
              have HS2 : Hid (spreadF (L.set k ⟨t.st, t.q, t.er + 1⟩) ≤ M) := Lib.hid (by rw [hx1]; exact hS2)
              have hno : ¬ M < x1 := by omega
              obtain ⟨ter, hte⟩ : ∃ ter, t.er = ter := ⟨_, rfl⟩
              rw [hte] at d2 HN2 HOs Hset ht2 ht3
              clear hOw6 hset hD2 N2 hx1 ht ht1 hb6
              go_wp2_with fail
              refine HN2.out.mono ?_
              rintro e7 w7 ⟨rfl, hb7⟩
              have HO7 := Lib.hid (HOs.out.trans (Only.of_below (S := Empty) hb7))
              have HOw7 := Lib.hid (Hset.out.only (Only.of_below (S := Empty) hb7) (fun h => h))
              clear hb7
              go_wp2_with fail
              go_roundw
              case rel => exact ⟨m + 1, _, by omega, by go_num, HOw7, Lib.hid (by have := HD2.out; rw [hte] at this; rw [show (1048576 : Int) + ((m + 1 : Nat) : Int) = 1048576 + (m : Int) + 1 by omega]; exact this), Lib.hid (by have := HS2.out; rw [hte] at this; exact this), HO7⟩
              case measure => simp [intOf]; omega
            · go_wp2_with fail
              go_ret
              exact ⟨rfl, HOx.out.below (Nat.le_refl _) (fun _ _ h => h)⟩

set_option maxRecDepth 100000 in
theorem wearEven_lifted (os : Os) (started : os.Started) (H : Type) (enc : TypeId × Value → H) :
    ReturnsInHanded {} Try.checked os 4 .any (Rows.wearEvenSpec.pre6 enc Try.prog Try.f4 Rows.wearEvenRow.domain false) (Rows.wearEvenSpec.post enc Try.prog Try.f4 false true false false) := by
  refine returnsInHanded_of_change (C := Try.checked) Try.ownKnobs started (by kernel_rfl) Try.func4
    (ChangeSpec.witness6 (enc := enc) (C := Try.checked) false ⟨#[], #[.slice none 0 0, .int .u8 0], []⟩ 8 (by kernel_rfl) (by kernel_rfl) (by kernel_rfl) (by kernel_rfl)) ?_
  intro W base args ds gs before hval0 hW hcnd _
  have hval : ∀ (j : Nat) t v, Try.f4.params[j]? = some t → args[j]? = some v → Value.okWide Try.prog W .any base t v := hval0
  have hW' := hW
  obtain ⟨p, q, hA0, hV, rfl, hfz, hnd⟩ := hW
  have hA : DataW.TrodAll enc Try.prog W 0 (fun _ => true) true Try.f4.params.toList args.toList ds p := hA0
  rw [Try.params4] at hA hval
  obtain ⟨v0, vs0, d0, ds0, p0, q0, hargs, rfl, rfl, h0, r0⟩ := trodAll_cons hA
  obtain ⟨v1, vs1, d1, ds1, p1, q1, rfl, rfl, rfl, h1, r1⟩ := trodAll_cons r0
  obtain ⟨rfl, rfl, rfl⟩ := trodAll_nil r1
  obtain rfl : args = #[v0, v1] := by cases args; simp_all
  obtain ⟨rfl, rfl⟩ := trodVars_none hV
  obtain ⟨A, n, cap, l, rfl, hL, hA2⟩ := open_secs (hval 0 22 v0 rfl rfl) h0
  obtain ⟨m, rfl, m1, m2⟩ := open_u8 (hval 1 5 v1 rfl rfl) h1
  refine (wearEven_any A n cap l m W hL hA2 m1 m2).mono fun e W' ⟨he, hb⟩ => ?_
  subst he
  exact ⟨_, rfl, law_post Try.allLaid (of_decide_eq_true (by kernel_rfl)) rfl Try.underlying4 rfl hW' rfl rfl rfl hb⟩

/-- The statement: WearEven returns true, and its arguments read as they did. -/
theorem wearEven_holds : Rows.WearEvenSaid :=
  OpenClaim.holds_of_wide 4 Try.f4 rfl rfl rfl rfl rfl rfl rfl ⟨rfl, rfl, rfl, rfl, rfl⟩ rfl rfl rfl rfl rfl (by kernel_rfl) Try.func4 (by kernel_rfl)
    (of_decide_eq_true (by kernel_rfl)) (by unfold Func.isWrapper; first | (rw [if_pos (by decide +kernel)]; kernel_rfl) | (rw [if_neg (by decide +kernel)]; exact ⟨rfl, rfl⟩))
    (fun os started H enc _ => wearEven_lifted os started H enc)

end Go.Proofs.Ytkblfmmhocogeaa
