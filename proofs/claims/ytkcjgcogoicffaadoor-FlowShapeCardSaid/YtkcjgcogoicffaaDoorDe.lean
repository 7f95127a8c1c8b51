/- The walks over desc.ClassOf, objectSize, itemSize, cut, IsType, Elem, IsRef, Object. -/
import Derived.Test.YtkcjgcogoicffaaDoorDc
import Derived.Deep.QuietTactic
import Derived.BigQuiet
namespace Go.Proofs.YtkcjgcogoicffaaDoor
set_option maxRecDepth 100000
open Go.RowKit

def coV (r : Option (List UInt8)) : Value := match r with
  | none => .tuple #[.string ⟨#[]⟩, .bool false]
  | some c => .tuple #[.string (strB c), .bool true]

theorem hdB_cons (c x : UInt8) (t : List UInt8) : hdB c (x :: t) = (x == c) := rfl
theorem classOf_made (c : List UInt8) : classOfF (76 :: (c ++ [59])) = some c := by simp [classOfF]

theorem classOf_any (xs : List UInt8) (w : World) (hl : xs.length ≤ 1048576) :
    Calls Tryd.prog 76 #[.string (strB xs)] w fun e w' => e = .returned (coV (classOfF xs)) ∧ w = w' := by
  by_cases h : ∃ c, xs = 76 :: (c ++ [59])
  · obtain ⟨c, rfl⟩ := h
    have hc : c.length ≤ 1048576 := by simp at hl; omega
    have C1 := Lib.hid (cutPrefix_yes 76 (c ++ [59]) w)
    have C2 := Lib.hid (cutSuffix_yes 59 c w hc)
    rw [classOf_made]
    go_enter Tryd.func76, Tryd.ntmps76
    go_wp2_with fail
    refine C1.out.mono ?_
    rintro e w' ⟨rfl, rfl⟩
    go_wp2_with fail
    refine C2.out.mono ?_
    rintro e w' ⟨rfl, rfl⟩
    go_wp2
    go_ret2
    exact ⟨rfl, rfl⟩
  · have HE : Hid (classOfF xs = none) := Lib.hid (by
      cases xs with
      | nil => rfl
      | cons x t =>
        show (if x = 76 ∧ t.getLast? = some 59 then some t.dropLast else none) = none
        rw [if_neg]
        rintro ⟨rfl, ht⟩
        refine h ⟨t.dropLast, ?_⟩
        have hne : t ≠ [] := by rintro rfl; cases ht
        have hg : t.getLast hne = 59 := by rw [List.getLast?_eq_some_getLast hne] at ht; simpa using ht
        have := List.dropLast_concat_getLast hne
        rw [hg] at this
        rw [this])
    cases hp : hdB 76 xs with
    | true =>
      cases xs with
      | nil => cases hp
      | cons x t =>
        obtain rfl : x = 76 := by simpa [hdB] using hp
        have hlast : t.getLast? ≠ some 59 := by
          intro ht
          refine h ⟨t.dropLast, ?_⟩
          have hne : t ≠ [] := by rintro rfl; cases ht
          have hg : t.getLast hne = 59 := by rw [List.getLast?_eq_some_getLast hne] at ht; simpa using ht
          have := List.dropLast_concat_getLast hne
          rw [hg] at this
          rw [this]
        have C1 := Lib.hid (cutPrefix_yes 76 t w)
        have C2 := Lib.hid (cutSuffix_no 59 t w (by simp at hl; omega) hlast)
        clear hp h hlast
        go_enter Tryd.func76, Tryd.ntmps76
        go_wp2_with fail
        refine C1.out.mono ?_
        rintro e w' ⟨rfl, rfl⟩
        go_wp2_with fail
        refine C2.out.mono ?_
        rintro e w' ⟨rfl, rfl⟩
        go_wp2
        go_ret2
        exact ⟨by rw [HE.out]; rfl, rfl⟩
    | false =>
      have C1 := Lib.hid (cutPrefix_no 76 xs w hp)
      clear hp h
      by_cases hlast : xs.getLast? = some 59
      · have hne : xs ≠ [] := by rintro rfl; cases hlast
        have hg : xs.getLast hne = 59 := by rw [List.getLast?_eq_some_getLast hne] at hlast; simpa using hlast
        have hcat := List.dropLast_concat_getLast hne
        rw [hg] at hcat
        obtain ⟨t, ht⟩ : ∃ t, t = xs.dropLast := ⟨_, rfl⟩
        rw [← ht] at hcat
        subst hcat
        have C2 := Lib.hid (cutSuffix_yes 59 t w (by simp at hl; omega))
        clear hlast ht hne hg
        go_enter Tryd.func76, Tryd.ntmps76
        go_wp2_with fail
        refine C1.out.mono ?_
        rintro e w' ⟨rfl, rfl⟩
        go_wp2_with fail
        refine C2.out.mono ?_
        rintro e w' ⟨rfl, rfl⟩
        go_wp2
        go_ret2
        exact ⟨by rw [HE.out]; rfl, rfl⟩
      · have C2 := Lib.hid (cutSuffix_no 59 xs w hl hlast)
        clear hlast
        go_enter Tryd.func76, Tryd.ntmps76
        go_wp2_with fail
        refine C1.out.mono ?_
        rintro e w' ⟨rfl, rfl⟩
        go_wp2_with fail
        refine C2.out.mono ?_
        rintro e w' ⟨rfl, rfl⟩
        go_wp2
        go_ret2
        exact ⟨by rw [HE.out]; rfl, rfl⟩

theorem objectSize_any (t : List UInt8) (w : World) (hl : t.length ≤ 1000000) :
    Calls Tryd.prog 71 #[.string (strB (76 :: t))] w fun e w' => e = .returned (.int .i64 ((objN t : Nat) : Int)) ∧ Below w.heap.size w w' := by
  have c1 := index_any 59 (76 :: t) w
  unfold idxI at c1
  rw [List.idxOf?_cons] at c1
  unfold objN
  cases hi : t.idxOf? 59 with
  | none =>
    rw [hi] at c1
    have C1 := Lib.hid c1
    clear c1 hi
    go_enter Tryd.func71, Tryd.ntmps71
    go_wp2_with fail
    refine C1.out.mono ?_
    rintro e w' ⟨rfl, rfl⟩
    go_wp2
    go_ret
    exact ⟨rfl, Below.refl _ _⟩
  | some i =>
    obtain ⟨hil, hsp, -⟩ := idxOf_split t i hi
    rw [hi] at c1
    have C1 : Hid (Calls Tryd.prog 75 #[.string (strB (76 :: t)), .string ⟨#[59]⟩] w fun e w' => e = .returned (.int .i64 ((i : Int) + 1)) ∧ w = w') := Lib.hid (c1.mono fun e w' ⟨h1, h2⟩ => ⟨by rw [h1]; rfl, h2⟩)
    have hz := strB_size (76 :: t)
    have ht1 : (76 :: t).take (i + 2) = 76 :: (t.take i ++ [59]) := by
      show 76 :: t.take (i + 1) = _
      congr 1
      rw [List.take_succ_eq_append_getElem hil]
      congr 1
      have : t[i]? = some 59 := by rw [hsp, List.getElem?_append_right (by simp; omega)]; simp [Nat.min_eq_left (Nat.le_of_lt hil)]
      rw [List.getElem?_eq_getElem hil] at this
      simpa using this
    have he : (strB (76 :: t)).extract 0 (i + 2) = strB (76 :: (t.take i ++ [59])) := by rw [strB_to, ht1]
    have hlen : (t.take i).length = i := by rw [List.length_take]; omega
    have hz2 : (strB (76 :: ((t.take i) ++ [59]))).size = i + 2 := by rw [strB_size]; simp; omega
    obtain ⟨c, hc⟩ : ∃ c, c = t.take i := ⟨_, rfl⟩
    rw [← hc] at he hlen hz2
    show Calls _ _ _ _ fun e w' => e = .returned (.int .i64 (((if classB (t.take i) = true then i + 2 else 0 : Nat)) : Int)) ∧ _
    rw [← hc]
    have c2 := classOf_any (76 :: (c ++ [59])) w (by simp; omega)
    rw [classOf_made] at c2
    have C2 := Lib.hid c2
    have c3 := isClass_any c w (by omega)
    unfold coV at C2
    clear c1 c2 hi hc hsp ht1
    cases hb : classB c with
    | true =>
      rw [hb] at c3
      have C3 := Lib.hid c3
      clear c3 hb hlen
      go_enter Tryd.func71, Tryd.ntmps71
      go_wp2_with fail
      refine C1.out.mono ?_
      rintro e w' ⟨rfl, rfl⟩
      go_wp2_with fail
      refine C2.out.mono ?_
      rintro e w' ⟨rfl, rfl⟩
      go_wp2_with fail
      refine C3.out.mono ?_
      rintro e w' ⟨rfl, hbel⟩
      have HB := Lib.hid hbel
      clear hbel
      go_wp2
      go_ret
      exact ⟨rfl, HB.out⟩
    | false =>
      rw [hb] at c3
      have C3 := Lib.hid c3
      clear c3 hb hlen
      go_enter Tryd.func71, Tryd.ntmps71
      go_wp2_with fail
      refine C1.out.mono ?_
      rintro e w' ⟨rfl, rfl⟩
      go_wp2_with fail
      refine C2.out.mono ?_
      rintro e w' ⟨rfl, rfl⟩
      go_wp2_with fail
      refine C3.out.mono ?_
      rintro e w' ⟨rfl, hbel⟩
      have HB := Lib.hid hbel
      clear hbel
      go_wp2
      go_ret
      exact ⟨rfl, HB.out⟩

theorem hp_yes (c : UInt8) (t : List UInt8) (w : World) : Calls Tryd.prog 70 #[.string (strB (c :: t)), .string ⟨#[c]⟩] w fun e w' => e = .returned (.bool true) ∧ w = w' := by
  have := hasPrefix1 c (c :: t) w
  rw [hdB_cons, beq_self_eq_true] at this
  exact this
theorem hp_no (c x : UInt8) (t : List UInt8) (w : World) (h : x ≠ c) : Calls Tryd.prog 70 #[.string (strB (x :: t)), .string ⟨#[c]⟩] w fun e w' => e = .returned (.bool false) ∧ w = w' := by
  have := hasPrefix1 c (x :: t) w
  rw [hdB_cons, beq_false_of_ne h] at this
  exact this
theorem hp_nil (c : UInt8) (w : World) : Calls Tryd.prog 70 #[.string (strB []), .string ⟨#[c]⟩] w fun e w' => e = .returned (.bool false) ∧ w = w' := hasPrefix1 c [] w

theorem itemSize_any (arr : Bool) (xs : List UInt8) (w : World) (hl : xs.length ≤ 1000000) :
    Calls Tryd.prog 64 #[.string (strB xs), .bool arr] w fun e w' => e = .returned (.int .i64 ((itemN arr xs : Nat) : Int)) ∧ Below w.heap.size w w' := by
  cases xs with
  | nil =>
    go_enter Tryd.func64, Tryd.ntmps64
    go_wp2_with (go_at_call 70; (with_reducible refine (hp_nil _ _).mono ?_); rintro e w' ⟨rfl, rfl⟩)
    go_ret
    exact ⟨rfl, Below.refl _ _⟩
  | cons x t =>
    by_cases h73 : x = 73
    · subst h73
      go_enter Tryd.func64, Tryd.ntmps64
      go_wp2_with (go_at_call 70; (with_reducible refine (hp_yes _ _ _).mono ?_); rintro e w' ⟨rfl, rfl⟩)
      go_ret
      exact ⟨rfl, Below.refl _ _⟩
    · have C73 := Lib.hid (hp_no 73 x t w h73)
      by_cases h74 : x = 74
      · subst h74
        have C74 := Lib.hid (hp_yes 74 t w)
        clear h73
        cases arr
        all_goals
          go_enter Tryd.func64, Tryd.ntmps64
          go_wp2_with fail
          refine C73.out.mono ?_
          rintro e w' ⟨rfl, rfl⟩
          go_wp2_with fail
          refine C74.out.mono ?_
          rintro e w' ⟨rfl, rfl⟩
        · go_wp2
          go_ret
          exact ⟨rfl, Below.refl _ _⟩
        · have C66 := Lib.hid (hp_no 66 74 t w (by decide))
          have C76 := Lib.hid (hp_no 76 74 t w (by decide))
          go_wp2_with fail
          refine C66.out.mono ?_
          rintro e w' ⟨rfl, rfl⟩
          go_wp2_with fail
          refine C76.out.mono ?_
          rintro e w' ⟨rfl, rfl⟩
          go_wp2
          go_ret
          exact ⟨rfl, Below.refl _ _⟩
      · have C74 := Lib.hid (hp_no 74 x t w h74)
        by_cases h66 : x = 66
        · subst h66
          have C66 := Lib.hid (hp_yes 66 t w)
          clear h73 h74
          cases arr
          all_goals
            go_enter Tryd.func64, Tryd.ntmps64
            go_wp2_with fail
            refine C73.out.mono ?_
            rintro e w' ⟨rfl, rfl⟩
            go_wp2_with fail
            refine C74.out.mono ?_
            rintro e w' ⟨rfl, rfl⟩
            go_wp2_with fail
            refine C66.out.mono ?_
            rintro e w' ⟨rfl, rfl⟩
          · have C76 := Lib.hid (hp_no 76 66 t w (by decide))
            go_wp2_with fail
            refine C76.out.mono ?_
            rintro e w' ⟨rfl, rfl⟩
            go_wp2
            go_ret
            exact ⟨rfl, Below.refl _ _⟩
          · go_wp2
            go_ret
            exact ⟨rfl, Below.refl _ _⟩
        · have C66 := Lib.hid (hp_no 66 x t w h66)
          by_cases h76 : x = 76
          · subst h76
            have C76 := Lib.hid (hp_yes 76 t w)
            have CO := Lib.hid (objectSize_any t w (by simp at hl; omega))
            have HE : Hid (itemN arr (76 :: t) = objN t) := Lib.hid (by simp [itemN])
            clear h73 h74 h66
            go_enter Tryd.func64, Tryd.ntmps64
            go_wp2_with fail
            refine C73.out.mono ?_
            rintro e w' ⟨rfl, rfl⟩
            go_wp2_with fail
            refine C74.out.mono ?_
            rintro e w' ⟨rfl, rfl⟩
            go_wp2_with fail
            refine C66.out.mono ?_
            rintro e w' ⟨rfl, rfl⟩
            go_wp2_with fail
            refine C76.out.mono ?_
            rintro e w' ⟨rfl, rfl⟩
            go_wp2_with fail
            refine CO.out.mono ?_
            rintro e w' ⟨rfl, hb⟩
            have HB := Lib.hid hb
            clear hb
            go_wp2
            go_ret
            exact ⟨by rw [HE.out]; rfl, HB.out⟩
          · have C76 := Lib.hid (hp_no 76 x t w h76)
            have HE : Hid (itemN arr (x :: t) = 0) := Lib.hid (by simp [itemN, h73, h74, h66, h76])
            clear h73 h74 h66 h76
            go_enter Tryd.func64, Tryd.ntmps64
            go_wp2_with fail
            refine C73.out.mono ?_
            rintro e w' ⟨rfl, rfl⟩
            go_wp2_with fail
            refine C74.out.mono ?_
            rintro e w' ⟨rfl, rfl⟩
            go_wp2_with fail
            refine C66.out.mono ?_
            rintro e w' ⟨rfl, rfl⟩
            go_wp2_with fail
            refine C76.out.mono ?_
            rintro e w' ⟨rfl, rfl⟩
            go_wp2
            go_ret
            exact ⟨by rw [HE.out]; rfl, Below.refl _ _⟩

theorem cutD_drop : ∀ (l : List UInt8) (d : Nat), ∃ k it, l.dropWhile (· == 91) = it ∧ l.length = k + it.length ∧ cutD d l = (if itemN (decide (0 < d + k)) it = 0 ∨ 8 < d + k then 0 else k + itemN (decide (0 < d + k)) it)
  | [], d => ⟨0, [], rfl, rfl, by simp [cutD, itemN]⟩
  | x :: t, d => by
    by_cases hx : x = 91
    · subst hx
      obtain ⟨k, it, h1, h2, h3⟩ := cutD_drop t (d + 1)
      refine ⟨k + 1, it, ?_, by simp; omega, ?_⟩
      · rw [List.dropWhile_cons]
        simpa using h1
      · rw [cutD, if_pos rfl, h3, show d + 1 + k = d + (k + 1) by omega]
        by_cases h : itemN (decide (0 < d + (k + 1))) it = 0 ∨ 8 < d + (k + 1)
        · rw [if_pos h, if_pos rfl, if_pos h]
        · have h9 : itemN (decide (0 < d + (k + 1))) it ≠ 0 := fun e => h (.inl e)
          rw [if_neg h, if_neg h, if_neg (by omega)]
          omega
    · refine ⟨0, x :: t, ?_, by simp, ?_⟩
      · rw [List.dropWhile_cons]
        simp [hx]
      · rw [cutD, if_neg hx, Nat.add_zero, Nat.zero_add]
        by_cases hd : d ≤ 8
        · rw [if_pos hd]
          by_cases h0 : itemN (decide (0 < d)) (x :: t) = 0
          · rw [if_pos (.inl h0), h0]
          · rw [if_neg (by omega)]
        · rw [if_neg hd, if_pos (.inr (by omega))]

theorem cut_any (xs : List UInt8) (w : World) (hl : xs.length ≤ 1000000) :
    Calls Tryd.prog 55 #[.string (strB xs)] w fun e w' => e = .returned (.tuple #[.string (strB (xs.take (cutD 0 xs))), .string (strB (xs.drop (cutD 0 xs)))]) ∧ Below w.heap.size w w' := by
  obtain ⟨d, it, h1, h2, h3⟩ := cutD_drop xs 0
  rw [Nat.zero_add] at h3
  have c1 := trimLeft_any xs w (by omega)
  rw [h1] at c1
  have C1 := Lib.hid c1
  have hz := strB_size xs
  rw [h2] at hz
  have hz2 := strB_size it
  have C2 := Lib.hid (itemSize_any (decide (0 < d)) it w (by omega))
  have hdl : d ≤ 1000000 := by omega
  have hil : it.length ≤ 1000000 := by omega
  obtain ⟨n, hn⟩ : ∃ n, n = itemN (decide (0 < d)) it := ⟨_, rfl⟩
  obtain ⟨b, hb⟩ : ∃ b, b = decide (0 < d) := ⟨_, rfl⟩
  have hcl := cut_le xs 0
  rw [← hn] at h3 C2
  rw [← hb] at C2
  have hbq : decide ((0 : Int) < (d : Int)) = b := by rw [hb]; simp
  have hbq2 : decide (0 < d) = b := hb.symm
  by_cases h0 : n = 0 ∨ 8 < d
  · rw [if_pos h0] at h3
    have HE := Lib.hid h3
    clear h1 h2 h3 c1 hn hb hcl
    rcases h0 with h0 | h0
    · have hq : ((n : Int) == 0) = true := by rw [h0]; rfl
      clear h0
      go_enter Tryd.func55, Tryd.ntmps55
      go_wp2_with fail
      refine C1.out.mono ?_
      rintro e w' ⟨rfl, rfl⟩
      go_wp2_with fail
      refine C2.out.mono ?_
      rintro e w' ⟨rfl, hbel⟩
      have HB := Lib.hid hbel
      clear hbel
      go_wp2
      go_ret2
      exact ⟨by rw [HE.out]; rfl, HB.out⟩
    · go_enter Tryd.func55, Tryd.ntmps55
      go_wp2_with fail
      refine C1.out.mono ?_
      rintro e w' ⟨rfl, rfl⟩
      go_wp2_with fail
      refine C2.out.mono ?_
      rintro e w' ⟨rfl, hbel⟩
      have HB := Lib.hid hbel
      clear hbel
      go_wp2
      all_goals
        go_ret2
        exact ⟨by rw [HE.out]; rfl, HB.out⟩
  · rw [if_neg h0] at h3
    have hq : ((n : Int) == 0) = false := by rw [beq_eq_false_iff_ne]; omega
    have hd8 : decide ((d : Int) > 8) = false := decide_eq_false (by omega)
    have hnl : n ≤ it.length := by omega
    have he1 := strB_to xs (d + n)
    have he2 := strB_from xs (d + n)
    rw [h2] at he2
    have HE := Lib.hid h3
    clear h1 h2 h3 c1 hn hb hcl h0
    go_enter Tryd.func55, Tryd.ntmps55
    go_wp2_with fail
    refine C1.out.mono ?_
    rintro e w' ⟨rfl, rfl⟩
    go_wp2_with fail
    refine C2.out.mono ?_
    rintro e w' ⟨rfl, hbel⟩
    have HB := Lib.hid hbel
    clear hbel
    go_wp2
    go_quiet (fail)
    go_wp2
    go_ret2
    exact ⟨by rw [HE.out, ← he1, ← he2]; rfl, HB.out.drewN _⟩

theorem isType_any (xs : List UInt8) (w : World) (hl : xs.length ≤ 1000000) :
    Calls Tryd.prog 38 #[.string (strB xs)] w fun e w' => e = .returned (.bool (typeD 0 xs)) ∧ Below w.heap.size w w' := by
  have C := Lib.hid (cut_any xs w hl)
  have hi := type_iff xs 0
  have hcl := cut_le xs 0
  obtain ⟨k, hk⟩ : ∃ k, k = cutD 0 xs := ⟨_, rfl⟩
  rw [← hk] at C hi hcl
  have t1 := strB_toList (xs.take k)
  have t2 := strB_toList (xs.drop k)
  clear hk
  by_cases hk0 : k = 0
  · subst hk0
    have HE : Hid (typeD 0 xs = false) := Lib.hid (by rw [hi]; simp)
    have t3 : xs.take 0 = [] := rfl
    clear hi
    go_enter Tryd.func38, Tryd.ntmps38
    go_wp2_with fail
    refine C.out.mono ?_
    rintro e w' ⟨rfl, hbel⟩
    have HB := Lib.hid hbel
    clear hbel
    go_wp2
    go_ret
    exact ⟨by rw [HE.out]; rfl, HB.out⟩
  · have hne : (xs.take k).isEmpty = false := by
      rw [take_empty hcl]
      exact decide_eq_false hk0
    have hem : (xs.drop k).isEmpty = decide (k = xs.length) := by
      rw [Bool.eq_iff_iff]
      simp
      omega
    have HE : Hid (typeD 0 xs = (xs.drop k).isEmpty) := Lib.hid (by rw [hi, hem]; simp [hk0])
    have hne2 : xs.take k ≠ [] := by
      intro e
      rw [e] at hne
      cases hne
    obtain ⟨a, ha⟩ : ∃ a, a = xs.take k := ⟨_, rfl⟩
    obtain ⟨b, hb⟩ : ∃ b, b = xs.drop k := ⟨_, rfl⟩
    rw [← ha] at C t1 hne hne2
    rw [← hb] at C t2 HE
    clear hi hem ha hb
    go_enter Tryd.func38, Tryd.ntmps38
    go_wp2_with fail
    refine C.out.mono ?_
    rintro e w' ⟨rfl, hbel⟩
    have HB := Lib.hid hbel
    clear hbel
    go_wp2
    go_ret
    exact ⟨by rw [HE.out]; rfl, HB.out⟩

end Go.Proofs.YtkcjgcogoicffaaDoor
