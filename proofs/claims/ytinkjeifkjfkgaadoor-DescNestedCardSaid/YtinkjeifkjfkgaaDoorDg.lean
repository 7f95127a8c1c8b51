/- The walks over the document's object, IsType, first, Method, Elem, ClassOf, IsRef. -/
import Derived.Test.YtinkjeifkjfkgaaDoorDd
import Derived.Test.YtinkjeifkjfkgaaDoorDf
namespace Go.Proofs.YtinkjeifkjfkgaaDoor
set_option maxRecDepth 100000
open Go.RowKit

/-- L, a class's name and a semicolon? -/
def objR : List UInt8 → Bool
  | [] => false
  | x :: t => x == 76 && objB t
theorem long_form (xs : List UInt8) (h : 2 ≤ xs.length) : ∃ x u y, xs = x :: (u ++ [y]) := by
  cases xs with
  | nil => simp at h
  | cons x t =>
    rcases List.eq_nil_or_concat t with rfl | ⟨u, y, rfl⟩
    · simp at h
    · exact ⟨x, u, y, by simp⟩
theorem objR_form (x y : UInt8) (u : List UInt8) : objR (x :: (u ++ [y])) = (x == 76 && (y == 59) && classB u) := by
  simp [objR, objB, Bool.and_assoc]
theorem objR_short (xs : List UInt8) (h : xs.length < 3) : objR xs = false := by
  match xs, h with
  | [], _ => rfl
  | [x], _ => simp [objR, objB]
  | [x, y], _ =>
    have := objR_form x y []
    simp only [List.nil_append] at this
    rw [this, show classB [] = false by decide, Bool.and_false]

theorem eq8 {a b : UInt8} (h : a = b) : ((a.toNat : Int) == (b.toNat : Int)) = true := by rw [h]; simp
theorem ne8 {a b : UInt8} (h : a ≠ b) : ((a.toNat : Int) == (b.toNat : Int)) = false := by
  rw [beq_eq_false_iff_ne]
  exact fun e => h (UInt8.toNat_inj.1 (by omega))
theorem eqn8 {a : Nat} {b : Int} (h : ((a : Int) == b) = true) : ((a : Int) != b) = false := by rw [bne, h]; rfl
theorem nen8 {a : Nat} {b : Int} (h : ((a : Int) == b) = false) : ((a : Int) != b) = true := by rw [bne, h]; rfl

theorem refObject_any (xs : List UInt8) (w : World) (hl : xs.length ≤ 1000000) :
    Calls Tryd.prog 32 #[.string (strB xs)] w fun e w' => e = .returned (.bool (objR xs)) ∧ w = w' := by
  by_cases h3 : xs.length < 3
  · have HE := Lib.hid (objR_short xs h3)
    have hz := strB_size xs
    go_enter Tryd.func32, Tryd.ntmps32
    go_wp2
    go_ret
    exact ⟨by rw [HE.out]; rfl, rfl⟩
  · obtain ⟨x, u, y, rfl⟩ := long_form xs (by omega)
    have hul : u.length + 2 ≤ 1000000 := by simp at hl; omega
    have hu1 : 1 ≤ u.length := by simp at h3; omega
    have HE := Lib.hid (objR_form x y u)
    have hx0 : ∀ h, (strB (x :: (u ++ [y])))[0]'h = x := fun h => strB_get _ _ _ h rfl
    have hy0 : ∀ h, (strB (x :: (u ++ [y])))[u.length + 1]'h = y := fun h => strB_get _ _ _ h (by simp)
    have he : (strB (x :: (u ++ [y]))).extract 1 (u.length + 1) = strB u := by rw [strB_ext]; simp
    have hz : (strB (x :: (u ++ [y]))).size = u.length + 2 := by rw [strB_size]; simp
    obtain ⟨s, hs⟩ : ∃ s, s = strB (x :: (u ++ [y])) := ⟨_, rfl⟩
    rw [← hs] at hx0 hy0 he hz ⊢
    obtain ⟨r, hr⟩ : ∃ r, r = objR (x :: (u ++ [y])) := ⟨_, rfl⟩
    rw [← hr] at HE ⊢
    have c1 := refIsClass_any u w (by omega)
    obtain ⟨m, hm⟩ : ∃ m, m = u.length := ⟨_, rfl⟩
    rw [← hm] at hul hu1 hy0 he hz
    clear hs hr hl h3 hm
    by_cases hx : x = 76
    · by_cases hy : y = 59
      · subst hx hy
        obtain ⟨b, hb⟩ : ∃ b, b = classB u := ⟨_, rfl⟩
        rw [← hb] at c1 HE
        have C1 := Lib.hid c1
        clear c1 hb
        go_enter Tryd.func32, Tryd.ntmps32
        go_wp2_with fail
        refine C1.out.mono ?_
        rintro e w' ⟨rfl, rfl⟩
        go_wp2
        go_ret
        exact ⟨by rw [HE.out]; rfl, rfl⟩
      · have q2 : ((y.toNat : Int) == 59) = false := ne8 (b := 59) hy
        have HE2 : Hid (r = false) := Lib.hid (by rw [HE.out, beq_false_of_ne hy]; simp)
        subst hx
        clear hy c1
        go_enter Tryd.func32, Tryd.ntmps32
        go_wp2
        go_ret
        exact ⟨by rw [HE2.out]; rfl, rfl⟩
    · have q1 : ((x.toNat : Int) == 76) = false := ne8 (b := 76) hx
      have HE2 : Hid (r = false) := Lib.hid (by rw [HE.out, beq_false_of_ne hx]; simp)
      clear hx c1
      go_enter Tryd.func32, Tryd.ntmps32
      go_wp2
      go_ret
      exact ⟨by rw [HE2.out]; rfl, rfl⟩

/-- What stands behind the brackets. -/
def restB (arr : Bool) (it : List UInt8) : Bool := (it == [73]) || (!arr && it == [74]) || (arr && it == [66]) || objR it
theorem typeD_drop : ∀ (l : List UInt8) (d : Nat), ∃ k it, l.drop k = it ∧ k ≤ l.length ∧ (∀ j, j < k → l[j]? = some 91) ∧ hdB 91 it = false ∧ typeD d l = (decide (d + k ≤ 8) && restB (decide (0 < d + k)) it)
  | [], d => ⟨0, [], rfl, Nat.le_refl _, fun j h => by omega, rfl, by simp [typeD, restB, objR]⟩
  | x :: t, d => by
    by_cases hx : x = 91
    · subst hx
      obtain ⟨k, it, h1, h2, h3, h4, h5⟩ := typeD_drop t (d + 1)
      refine ⟨k + 1, it, h1, by simp; omega, fun j hj => ?_, h4, ?_⟩
      · cases j with
        | zero => rfl
        | succ j => exact h3 j (by omega)
      · rw [typeD, if_pos rfl, h5, show d + 1 + k = d + (k + 1) by omega]
    · refine ⟨0, x :: t, rfl, by simp, fun j h => by omega, by simp [hdB, hx], ?_⟩
      rw [typeD, if_neg hx, Nat.add_zero]
      congr 1
      unfold restB
      have e : ∀ c : UInt8, ((x :: t) == [c]) = (x == c && t.isEmpty) := fun c => by cases t <;> simp
      rw [e, e, e]
      have e0 : (!decide (0 < d)) = decide (d = 0) := by rw [Bool.eq_iff_iff]; simp
      rw [e0]
      simp only [objR, Bool.and_assoc]

set_option maxHeartbeats 8000000 in
theorem refIsType_any (xs : List UInt8) (w : World) (hl : xs.length ≤ 1000000) :
    Calls Tryd.prog 16 #[.string (strB xs)] w fun e w' => e = .returned (.bool (typeD 0 xs)) ∧ w = w' := by
  obtain ⟨d, it, h1, h2, h3, h4, h5⟩ := typeD_drop xs 0
  rw [Nat.zero_add] at h5
  have hz := strB_size xs
  have he := strB_from xs d
  rw [h1] at he
  have t1 := strB_toList it
  have H3 := Lib.hid h3
  have H1 := Lib.hid h1
  have H4 := Lib.hid h4
  have HE := Lib.hid h5
  have hitl : it.length ≤ 1000000 := by rw [← h1, List.length_drop]; omega
  have CO := Lib.hid (refObject_any it w hitl)
  clear h1 h3 h4 h5
  go_enter Tryd.func16, Tryd.ntmps16
  go_wp2
  go_loop [3] (fun i => ∃ k : Nat, k ≤ d ∧ i = .int .i64 (k : Int)) (fun i => d - (intOf i).toNat)
  case atStart => exact ⟨0, Nat.zero_le _, rfl⟩
  case round =>
    obtain ⟨k, hk, rfl⟩ := hrel
    by_cases hlt : k < d
    · have hx := H3.out k hlt
      have hkl : k < xs.length := by omega
      have h0 : ∀ h, (strB xs)[k]'h = 91 := fun h => strB_get _ _ _ h hx
      have hkq : decide ((k : Int) < (xs.length : Int)) = true := by simp; omega
      clear hx
      go_wp2
      go_round
      case rel => exact ⟨k + 1, by omega, by go_num⟩
      case measure => simp [intOf]; omega
    · obtain rfl : k = d := by omega
      obtain ⟨o, ho⟩ : ∃ o, o = objR it := ⟨_, rfl⟩
      have HE2 : Hid (typeD 0 xs = (decide (k ≤ 8) && ((it == [73]) || (!decide (0 < k) && it == [74]) || (decide (0 < k) && it == [66]) || o))) := Lib.hid (by rw [HE.out, ho]; rfl)
      have ho66 : it = [66] → o = false := fun e => by rw [ho, e]; rfl
      rw [← ho] at CO
      have HO := Lib.hid ho66
      clear ho ho66 HE
      have hstop : (k = xs.length) ∨ (k < xs.length ∧ ∃ x, x ≠ 91 ∧ xs[k]? = some x) := by
        by_cases hkl : k = xs.length
        · exact .inl hkl
        · have hkl : k < xs.length := by omega
          refine .inr ⟨hkl, xs[k], fun e => ?_, List.getElem?_eq_getElem hkl⟩
          have h4 := H4.out
          rw [← H1.out, List.drop_eq_getElem_cons hkl, hdB_cons, e] at h4
          cases h4
      -- where the brackets end
      have hend : ∀ (v : Value), v = .bool (typeD 0 xs) → v = .bool (typeD 0 xs) := fun _ h => h
      clear hend
      by_cases h8 : 8 < k
      · have HF : Hid (typeD 0 xs = false) := Lib.hid (by rw [HE2.out, decide_eq_false (by omega)]; rfl)
        rcases hstop with hs | ⟨hs, x, hx, hg⟩
        · have q0 : ¬ k < xs.length := by omega
          clear hs
          go_wp2
          go_ret
          exact ⟨by rw [HF.out]; rfl, rfl⟩
        · have h0 : ∀ h, (strB xs)[k]'h = x := fun h => strB_get _ _ _ h hg
          have q1 : ((x.toNat : Int) == 91) = false := ne8 (b := 91) hx
          clear hx hg
          go_wp2
          go_ret
          exact ⟨by rw [HF.out]; rfl, rfl⟩
      · have h8' : decide (k ≤ 8) = true := decide_eq_true (by omega)
        rw [h8'] at HE2
        have q8 : decide ((k : Int) > 8) = false := decide_eq_false (by omega)
        clear h8 h8'
        by_cases hB : it = [66]
        · subst hB
          have ho : o = false := HO.out rfl
          subst ho
          by_cases hk0 : 0 < k
          · have HF : Hid (typeD 0 xs = true) := Lib.hid (by rw [HE2.out, decide_eq_true hk0]; rfl)
            rcases hstop with hs | ⟨hs, x, hx, hg⟩
            · have q0 : ¬ k < xs.length := by omega
              clear hs
              go_wp2
              go_ret
              exact ⟨by rw [HF.out]; rfl, rfl⟩
            · have h0 : ∀ h, (strB xs)[k]'h = x := fun h => strB_get _ _ _ h hg
              have q1 : ((x.toNat : Int) == 91) = false := ne8 (b := 91) hx
              clear hx hg
              go_wp2
              go_ret
              exact ⟨by rw [HF.out]; rfl, rfl⟩
          · obtain rfl : k = 0 := by omega
            have HF : Hid (typeD 0 xs = false) := Lib.hid (by rw [HE2.out]; rfl)
            rcases hstop with hs | ⟨hs, x, hx, hg⟩
            · have q0 : ¬ 0 < xs.length := by omega
              clear hs
              go_wp2_with fail
              refine CO.out.mono ?_
              rintro e w' ⟨rfl, rfl⟩
              go_wp2
              go_ret
              exact ⟨by rw [HF.out]; rfl, rfl⟩
            · have h0 : ∀ h, (strB xs)[0]'h = x := fun h => strB_get _ _ _ h hg
              have q1 : ((x.toNat : Int) == 91) = false := ne8 (b := 91) hx
              clear hx hg
              go_wp2_with fail
              refine CO.out.mono ?_
              rintro e w' ⟨rfl, rfl⟩
              go_wp2
              go_ret
              exact ⟨by rw [HF.out]; rfl, rfl⟩
        · have qB : (it == [66]) = false := beq_false_of_ne hB
          rw [qB] at HE2
          clear hB HO
          by_cases hI : it = [73]
          · have qI : (it == [73]) = true := by rw [hI]; rfl
            have HF : Hid (typeD 0 xs = true) := Lib.hid (by rw [HE2.out, qI]; rfl)
            clear hI
            rcases hstop with hs | ⟨hs, x, hx, hg⟩
            · have q0 : ¬ k < xs.length := by omega
              clear hs
              by_cases hk0 : 0 < k
              all_goals
                go_wp2
                go_ret
                exact ⟨by rw [HF.out]; rfl, rfl⟩
            · have h0 : ∀ h, (strB xs)[k]'h = x := fun h => strB_get _ _ _ h hg
              have q1 : ((x.toNat : Int) == 91) = false := ne8 (b := 91) hx
              clear hx hg
              by_cases hk0 : 0 < k
              all_goals
                go_wp2
                go_ret
                exact ⟨by rw [HF.out]; rfl, rfl⟩
          · have qI : (it == [73]) = false := beq_false_of_ne hI
            rw [qI] at HE2
            clear hI
            by_cases hk0 : 0 < k
            · have HF : Hid (typeD 0 xs = o) := Lib.hid (by rw [HE2.out, decide_eq_true hk0]; simp)
              have qk : ((k : Int) == 0) = false := by rw [beq_eq_false_iff_ne]; omega
              rcases hstop with hs | ⟨hs, x, hx, hg⟩
              · have q0 : ¬ k < xs.length := by omega
                clear hs
                go_wp2_with fail
                refine CO.out.mono ?_
                rintro e w' ⟨rfl, rfl⟩
                go_wp2
                go_ret
                exact ⟨by rw [HF.out]; rfl, rfl⟩
              · have h0 : ∀ h, (strB xs)[k]'h = x := fun h => strB_get _ _ _ h hg
                have q1 : ((x.toNat : Int) == 91) = false := ne8 (b := 91) hx
                clear hx hg
                go_wp2_with fail
                refine CO.out.mono ?_
                rintro e w' ⟨rfl, rfl⟩
                go_wp2
                go_ret
                exact ⟨by rw [HF.out]; rfl, rfl⟩
            · obtain rfl : k = 0 := by omega
              cases qJ : it == [74] with
              | true =>
                have HF : Hid (typeD 0 xs = true) := Lib.hid (by rw [HE2.out, qJ]; rfl)
                rcases hstop with hs | ⟨hs, x, hx, hg⟩
                · have q0 : ¬ 0 < xs.length := by omega
                  clear hs
                  go_wp2
                  go_ret
                  exact ⟨by rw [HF.out]; rfl, rfl⟩
                · have h0 : ∀ h, (strB xs)[0]'h = x := fun h => strB_get _ _ _ h hg
                  have q1 : ((x.toNat : Int) == 91) = false := ne8 (b := 91) hx
                  clear hx hg
                  go_wp2
                  go_ret
                  exact ⟨by rw [HF.out]; rfl, rfl⟩
              | false =>
                have HF : Hid (typeD 0 xs = o) := Lib.hid (by rw [HE2.out, qJ]; simp)
                rcases hstop with hs | ⟨hs, x, hx, hg⟩
                · have q0 : ¬ 0 < xs.length := by omega
                  clear hs
                  go_wp2_with fail
                  refine CO.out.mono ?_
                  rintro e w' ⟨rfl, rfl⟩
                  go_wp2
                  go_ret
                  exact ⟨by rw [HF.out]; rfl, rfl⟩
                · have h0 : ∀ h, (strB xs)[0]'h = x := fun h => strB_get _ _ _ h hg
                  have q1 : ((x.toNat : Int) == 91) = false := ne8 (b := 91) hx
                  clear hx hg
                  go_wp2_with fail
                  refine CO.out.mono ?_
                  rintro e w' ⟨rfl, rfl⟩
                  go_wp2
                  go_ret
                  exact ⟨by rw [HF.out]; rfl, rfl⟩

end Go.Proofs.YtinkjeifkjfkgaaDoor
