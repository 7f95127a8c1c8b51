/- The walks over the document's first, Method, Elem, ClassOf, IsRef. -/
import Derived.Test.YtinkjeifkjfkgaaDoorDg
namespace Go.Proofs.YtinkjeifkjfkgaaDoor
set_option maxRecDepth 100000
open Go.RowKit

set_option maxHeartbeats 1000000 in
theorem first_any (xs : List UInt8) (w : World) (hl : xs.length ≤ 1000000) :
    Calls Tryd.prog 27 #[.string (strB xs)] w fun e w' => e = .returned (.string (strB (xs.take (cutD 0 xs)))) ∧ w = w' := by
  have hz := strB_size xs
  have hcl := cut_le xs 0
  have HK := Lib.hid (type_cut xs 0)
  obtain ⟨c, hc⟩ : ∃ c, c = cutD 0 xs := ⟨_, rfl⟩
  rw [← hc] at HK hcl ⊢
  clear hc
  go_enter Tryd.func27, Tryd.ntmps27
  go_wp2
  go_loop [3] (fun i => ∃ k : Nat, 1 ≤ k ∧ k ≤ xs.length + 1 ∧ (c = 0 ∨ k ≤ c) ∧ i = .int .i64 (k : Int)) (fun i => xs.length + 1 - (intOf i).toNat)
  case atStart => exact ⟨1, by omega, by omega, by omega, rfl⟩
  case round =>
    obtain ⟨k, hk1, hk, hkc, rfl⟩ := hrel
    by_cases hlt : k ≤ xs.length
    · have c1 := refIsType_any (xs.take k) w (by rw [List.length_take]; omega)
      have he := strB_to xs k
      have hi := HK.out k (by omega) hlt
      cases ht : typeD 0 (xs.take k) with
      | true =>
        rw [ht] at c1 hi
        have hck : c = k := hi.1 rfl
        subst hck
        have C1 := Lib.hid c1
        clear c1 hi ht
        go_wp2_with fail
        refine C1.out.mono ?_
        rintro e w' ⟨rfl, rfl⟩
        go_wp2
        go_ret
        exact ⟨rfl, rfl⟩
      | false =>
        rw [ht] at c1 hi
        have hck : c ≠ k := fun e => by have := hi.2 e; cases this
        have C1 := Lib.hid c1
        clear c1 hi ht
        go_wp2_with fail
        refine C1.out.mono ?_
        rintro e w' ⟨rfl, rfl⟩
        go_wp2
        go_round
        case rel => exact ⟨k + 1, by omega, by omega, by omega, by go_num⟩
        case measure => simp [intOf]; omega
    · have hc0 : c = 0 := by omega
      have HE : Hid (xs.take c = []) := Lib.hid (by rw [hc0]; rfl)
      clear hc0 hkc
      go_wp2
      go_ret
      exact ⟨by rw [HE.out]; rfl, rfl⟩

theorem refElem_any (xs : List UInt8) (w : World) (hl : xs.length ≤ 1000000) : Calls Tryd.prog 10 #[.string (strB xs)] w fun e w' => e = .returned (elemV xs) ∧ w = w' := by
  have hz := strB_size xs
  have t1 := strB_toList xs
  unfold elemV
  cases xs with
  | nil =>
    go_enter Tryd.func10, Tryd.ntmps10
    go_wp2
    go_ret2
    exact ⟨rfl, rfl⟩
  | cons x t =>
    have h0 : ∀ h, (strB (x :: t))[0]'h = x := fun h => strB_get _ _ _ h rfl
    by_cases hx : x = 91
    · subst hx
      have he : (strB (91 :: t)).extract 1 (t.length + 1) = strB t := by rw [strB_ext]; simp
      go_enter Tryd.func10, Tryd.ntmps10
      go_wp2
      go_ret2
      exact ⟨rfl, rfl⟩
    · have q1 : ((x.toNat : Int) == 91) = false := ne8 (b := 91) hx
      have q2 := nen8 q1
      have hb : hdB 91 (x :: t) = false := beq_false_of_ne hx
      simp only [hb, Bool.false_eq_true, if_false]
      clear hx hb
      go_enter Tryd.func10, Tryd.ntmps10
      go_wp2
      go_ret2
      exact ⟨rfl, rfl⟩

theorem refIsRef_any (xs : List UInt8) (w : World) (hl : xs.length ≤ 1000000) : Calls Tryd.prog 19 #[.string (strB xs)] w fun e w' => e = .returned (.bool (refB xs)) ∧ w = w' := by
  have hz := strB_size xs
  have t1 := strB_toList xs
  unfold refB
  cases xs with
  | nil =>
    go_enter Tryd.func19, Tryd.ntmps19
    go_wp2
    go_ret
    exact ⟨rfl, rfl⟩
  | cons x t =>
    have h0 : ∀ h, (strB (x :: t))[0]'h = x := fun h => strB_get _ _ _ h rfl
    rw [hdB_cons, hdB_cons]
    by_cases hx : x = 76
    · subst hx
      go_enter Tryd.func19, Tryd.ntmps19
      go_wp2
      go_ret
      exact ⟨rfl, rfl⟩
    · have q1 : ((x.toNat : Int) == 76) = false := ne8 (b := 76) hx
      rw [beq_false_of_ne hx]
      by_cases hx2 : x = 91
      · subst hx2
        go_enter Tryd.func19, Tryd.ntmps19
        go_wp2
        go_ret
        exact ⟨rfl, rfl⟩
      · have q2 : ((x.toNat : Int) == 91) = false := ne8 (b := 91) hx2
        rw [beq_false_of_ne hx2]
        clear hx hx2
        go_enter Tryd.func19, Tryd.ntmps19
        go_wp2
        go_ret
        exact ⟨rfl, rfl⟩

theorem refClassOf_any (xs : List UInt8) (w : World) (hl : xs.length ≤ 1000000) : Calls Tryd.prog 12 #[.string (strB xs)] w fun e w' => e = .returned (coV (classOfF xs)) ∧ w = w' := by
  by_cases h2 : xs.length < 2
  · have HE : Hid (classOfF xs = none) := Lib.hid (by
      match xs, h2 with
      | [], _ => rfl
      | [x], _ => simp [classOfF])
    have hz := strB_size xs
    go_enter Tryd.func12, Tryd.ntmps12
    go_wp2
    go_ret2
    exact ⟨by rw [HE.out]; rfl, rfl⟩
  · obtain ⟨x, u, y, rfl⟩ := long_form xs (by omega)
    have hul : u.length + 2 ≤ 1000000 := by simp at hl; omega
    have hE : classOfF (x :: (u ++ [y])) = if x = 76 ∧ y = 59 then some u else none := by simp [classOfF]
    have HE := Lib.hid hE
    have hx0 : ∀ h, (strB (x :: (u ++ [y])))[0]'h = x := fun h => strB_get _ _ _ h rfl
    have hy0 : ∀ h, (strB (x :: (u ++ [y])))[u.length + 1]'h = y := fun h => strB_get _ _ _ h (by simp)
    have he : (strB (x :: (u ++ [y]))).extract 1 (u.length + 1) = strB u := by rw [strB_ext]; simp
    have hz : (strB (x :: (u ++ [y]))).size = u.length + 2 := by rw [strB_size]; simp
    obtain ⟨s, hs⟩ : ∃ s, s = strB (x :: (u ++ [y])) := ⟨_, rfl⟩
    rw [← hs] at hx0 hy0 he hz ⊢
    obtain ⟨r, hr⟩ : ∃ r, r = classOfF (x :: (u ++ [y])) := ⟨_, rfl⟩
    rw [← hr] at HE ⊢
    obtain ⟨m, hm⟩ : ∃ m, m = u.length := ⟨_, rfl⟩
    rw [← hm] at hul hy0 he hz
    clear hs hr hl h2 hm hE
    by_cases hx : x = 76
    · by_cases hy : y = 59
      · have HE2 : Hid (r = some u) := Lib.hid (by rw [HE.out, if_pos ⟨hx, hy⟩])
        subst hx hy
        go_enter Tryd.func12, Tryd.ntmps12
        go_wp2
        go_ret2
        refine ⟨?_, rfl⟩
        rw [HE2.out]
        show Ending.returned (.tuple #[.string (s.extract 1 (m + 1)), .bool true]) = _
        rw [he]
        rfl
      · have q2 : ((y.toNat : Int) == 59) = false := ne8 (b := 59) hy
        have q3 := nen8 q2
        have HE2 : Hid (r = none) := Lib.hid (by rw [HE.out, if_neg (fun h => hy h.2)])
        subst hx
        clear hy
        go_enter Tryd.func12, Tryd.ntmps12
        go_wp2
        go_ret2
        exact ⟨by rw [HE2.out]; rfl, rfl⟩
    · have q1 : ((x.toNat : Int) == 76) = false := ne8 (b := 76) hx
      have q3 := nen8 q1
      have HE2 : Hid (r = none) := Lib.hid (by rw [HE.out, if_neg (fun h => hx h.1)])
      clear hx
      go_enter Tryd.func12, Tryd.ntmps12
      go_wp2
      go_ret2
      exact ⟨by rw [HE2.out]; rfl, rfl⟩

set_option maxHeartbeats 8000000 in
theorem refMethod_any (xs : List UInt8) (w : World) (hl : xs.length ≤ 1000000) :
    Calls Tryd.prog 8 #[.string (strB xs)] w fun e w' => MethD w w' (methodF xs) e := by
  have hz := strB_size xs
  have t1 := strB_toList xs
  cases xs with
  | nil =>
    have HE : Hid (methodF [] = none) := Lib.hid rfl
    go_enter Tryd.func8, Tryd.ntmps8
    go_wp2
    go_ret3
    exact MethD.no HE.out rfl (Below.refl _ _)
  | cons x s =>
    have h0 : ∀ h, (strB (x :: s))[0]'h = x := fun h => strB_get _ _ _ h rfl
    by_cases hx : x = 40
    · subst hx
      have he : (strB (40 :: s)).extract 1 (s.length + 1) = strB s := by rw [strB_ext]; simp
      have HM : Hid (methodF (40 :: s) = match (argsF 16 s).2 with
        | [] => none
        | y :: ret => if y = 41 ∧ retOk ret = true then some ((argsF 16 s).1, ret) else none) := Lib.hid rfl
      have hsl : s.length ≤ 1000000 := by simp at hl; omega
      obtain ⟨m, hm⟩ : ∃ m, m = methodF (40 :: s) := ⟨_, rfl⟩
      rw [← hm] at HM ⊢
      clear hm
      go_enter Tryd.func8, Tryd.ntmps8
      go_wp2
      clear h0 he hz t1
      go_loopw [5, 6] (fun v r wr => ∃ (ys : List UInt8) (A : Option Addr) (n c : Nat) (l : List (List UInt8)), v = .slice A n c ∧ r = .string (strB ys) ∧ n ≤ 16 ∧ ys.length ≤ s.length ∧ Hid (l.length = n) ∧ Hid (argsF 16 s = (l ++ (argsF (16 - n) ys).1, (argsF (16 - n) ys).2)) ∧ Hid (GotR svC 1 9 w.heap.size wr A n c l) ∧ Hid (Below w.heap.size w wr)) (fun v _ _ => match v with | .slice _ n _ => 16 - n | _ => 0)
      case atStart => exact ⟨s, none, 0, 0, [], rfl, rfl, by omega, Nat.le_refl _, Lib.hid rfl, Lib.hid rfl, Lib.hid (GotR.nil_ _ _ _ _ _), Lib.hid (Below.refl _ _)⟩
      case round =>
        obtain ⟨ys, A, n, c, l, rfl, rfl, hn16, hyl, HL, HA, HG, HB⟩ := hrel
        have hz := strB_size ys
        have t1 := strB_toList ys
        cases ys with
        | nil =>
          have HE : Hid (m = none) := Lib.hid (by rw [HM.out, HA.out, argsF_none _ _ rfl])
          go_wp2
          go_ret3
          exact MethD.no HE.out rfl HB.out
        | cons y t =>
          have h0 : ∀ h, (strB (y :: t))[0]'h = y := fun h => strB_get _ _ _ h rfl
          by_cases hy : y = 41
          · subst hy
            have HM2 : Hid (m = if retOk t = true then some (l, t) else none) := Lib.hid (by rw [HM.out, HA.out, argsF_none _ _ (cut_close t)]; simp)
            have he : (strB (41 :: t)).extract 1 (t.length + 1) = strB t := by rw [strB_ext]; simp
            have t2 := strB_toList t
            have htl : t.length ≤ 1000000 := by simp at hyl; omega
            have c4 := refIsType_any t wr htl
            cases ht : typeD 0 t with
            | true =>
              rw [ht] at c4
              have C4 := Lib.hid c4
              have HE : Hid (m = some (l, t)) := Lib.hid (by rw [HM2.out, if_pos (by unfold retOk; rw [ht, Bool.or_true])])
              clear c4 ht
              go_wp2_with fail
              refine C4.out.mono ?_
              rintro e w2 ⟨rfl, rfl⟩
              go_wp2
              go_quiet (fail)
              go_wp2
              go_ret3
              refine ⟨⟨A, n, c, ?_, by rw [HE.out]; exact HG.out.only svC_len ((Only.refl Empty _).drewN _) (fun _ _ _ h => h)⟩, HB.out.drewN _⟩
              rw [HE.out]
              rfl
            | false =>
              rw [ht] at c4
              have C4 := Lib.hid c4
              by_cases hv : t = [86]
              · have q1 : (t == [86]) = true := by rw [hv]; rfl
                have HE : Hid (m = some (l, t)) := Lib.hid (by rw [HM2.out, if_pos (by rw [hv]; rfl)])
                clear c4 ht hv
                go_wp2_with fail
                refine C4.out.mono ?_
                rintro e w2 ⟨rfl, rfl⟩
                go_wp2
                go_quiet (fail)
                go_wp2
                go_ret3
                refine ⟨⟨A, n, c, ?_, by rw [HE.out]; exact HG.out.only svC_len ((Only.refl Empty _).drewN _) (fun _ _ _ h => h)⟩, HB.out.drewN _⟩
                rw [HE.out]
                rfl
              · have q1 : (t == [86]) = false := beq_false_of_ne hv
                have HE : Hid (m = none) := Lib.hid (by rw [HM2.out, if_neg (by unfold retOk; rw [ht, q1]; exact Bool.false_ne_true)])
                clear c4 ht hv
                go_wp2_with fail
                refine C4.out.mono ?_
                rintro e w2 ⟨rfl, rfl⟩
                go_wp2
                go_ret3
                exact MethD.no HE.out rfl HB.out
          · have q1 : ((y.toNat : Int) == 41) = false := ne8 (b := 41) hy
            have q2 := nen8 q1
            have C := Lib.hid (first_any (y :: t) wr (by simp at hyl ⊢; omega))
            have hcl := cut_le (y :: t) 0
            have hem := take_empty hcl
            have tt := strB_toList ((y :: t).take (cutD 0 (y :: t)))
            have hzt := strB_size ((y :: t).take (cutD 0 (y :: t)))
            rw [List.length_take, Nat.min_eq_left hcl] at hzt
            obtain ⟨k, hk⟩ : ∃ k, k = cutD 0 (y :: t) := ⟨_, rfl⟩
            rw [← hk] at C hcl hem tt hzt
            by_cases hk0 : k = 0
            · have HE : Hid (m = none) := Lib.hid (by
                rw [HM.out, HA.out, argsF_none _ _ (hk.symm.trans hk0)]
                simp [hy])
              have ht : (y :: t).take k = [] := by rw [hk0]; rfl
              rw [ht] at C tt
              clear hk hk0 hem ht hy hzt
              go_wp2_with fail
              refine C.out.mono ?_
              rintro e w' ⟨rfl, rfl⟩
              go_wp2
              go_ret3
              exact MethD.no HE.out rfl HB.out
            · have hne : ((y :: t).take k).isEmpty = false := by rw [hem]; exact decide_eq_false hk0
              have hne2 : (y :: t).take k ≠ [] := by
                intro e
                rw [e] at hne
                cases hne
              by_cases hlt : n < 16
              · have HA2 : Hid (argsF 16 s = ((l ++ [(y :: t).take k]) ++ (argsF (16 - (n + 1)) ((y :: t).drop k)).1, (argsF (16 - (n + 1)) ((y :: t).drop k)).2)) := Lib.hid (by
                  rw [HA.out, show 16 - n = (16 - (n + 1)) + 1 by omega, argsF_step _ _ (by rw [← hk]; exact hk0), ← hk]
                  simp)
                have hdl : ((y :: t).drop k).length ≤ s.length := by rw [List.length_drop]; omega
                have HL2 : Hid ((l ++ [(y :: t).take k]).length = n + 1) := Lib.hid (by rw [List.length_append, HL.out]; rfl)
                have he := strB_from (y :: t) k
                have hzl : (y :: t).length = t.length + 1 := rfl
                rw [hzl] at he hcl
                have qn : ((n : Int) == 16) = false := by rw [beq_eq_false_iff_ne]; omega
                obtain ⟨a, ha⟩ : ∃ a, a = (y :: t).take k := ⟨_, rfl⟩
                obtain ⟨b, hb⟩ : ∃ b, b = (y :: t).drop k := ⟨_, rfl⟩
                rw [← ha] at C tt hne hne2 HA2 HL2 hzt
                rw [← hb] at HA2 hdl he
                clear hk hk0 hem ha hb hy hzl
                go_wp2_with fail
                refine C.out.mono ?_
                rintro e w1 ⟨rfl, rfl⟩
                have HB2 := Lib.hid (HB.out.alloc HB.out.size (.cells #[.string (strB a)] 9))
                have HG2 := Lib.hid (HG.out.alloc svC_len (.cells #[.string (strB a)] 9))
                have HS := Lib.hid (sv_lit a wr)
                go_wp2_with (at_builtin; refine wpList_append_sv rfl (.tmp 33) (.tmp 35) rfl w.heap.size A n c l rfl HG2.out (some ⟨wr.heap.size, 0, none⟩) 1 1 [a] rfl HS.out (fun h => by cases h) (by omega) HB2.out.size ?_; intro A' c' w' hg' hgr' hr')
                have HG3 := Lib.hid hg'
                have HB3 := Lib.hid (below_gotR HB2.out HB2.out.size hgr' hr' (Nat.le_refl _))
                clear hg' hgr' hr'
                go_wp2
                go_roundw
                case rel => exact ⟨b, A', n + 1, c', l ++ [a], rfl, rfl, by omega, hdl, HL2, HA2, HG3, HB3⟩
                case measure => show 16 - (n + 1) < 16 - n; omega
              · obtain rfl : n = 16 := by omega
                have HE : Hid (m = none) := Lib.hid (by
                  rw [HM.out, HA.out]
                  simp [argsF, hy])
                obtain ⟨a, ha⟩ : ∃ a, a = (y :: t).take k := ⟨_, rfl⟩
                rw [← ha] at C tt hne hne2 hzt
                clear hk hk0 hem ha hy
                go_wp2_with fail
                refine C.out.mono ?_
                rintro e w1 ⟨rfl, rfl⟩
                go_wp2
                go_ret3
                exact MethD.no HE.out rfl HB.out
    · have q1 : ((x.toNat : Int) == 40) = false := ne8 (b := 40) hx
      have q2 := nen8 q1
      have HE : Hid (methodF (x :: s) = none) := Lib.hid (by simp [methodF, hx])
      clear hx
      go_enter Tryd.func8, Tryd.ntmps8
      go_wp2
      go_ret3
      exact MethD.no HE.out rfl (Below.refl _ _)

end Go.Proofs.YtinkjeifkjfkgaaDoor
