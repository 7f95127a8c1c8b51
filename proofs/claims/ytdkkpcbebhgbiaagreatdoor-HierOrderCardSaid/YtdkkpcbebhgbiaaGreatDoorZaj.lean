/- The walks over desc.ClassOf, objectSize, itemSize, cut, IsType, Elem, IsRef, Object. -/
import Derived.Test.YtdkkpcbebhgbiaaGreatDoorZai
import Derived.Deep.QuietTactic
import Derived.BigQuiet
import Derived.Test.YtdkkpcbebhgbiaaGreatDoorZab
import Derived.Test.YtdkkpcbebhgbiaaGreatDoorZae
import Derived.Test.YtdkkpcbebhgbiaaGreatDoorZad
import Derived.Test.YtdkkpcbebhgbiaaGreatDoorZaf
namespace Go.Proofs.YtdkkpcbebhgbiaaGreatDoor
set_option maxRecDepth 100000
open Go.RowKit

def coV (r : Option (List UInt8)) : Value := match r with
  | none => .tuple #[.string ⟨#[]⟩, .bool false]
  | some c => .tuple #[.string (strB c), .bool true]

theorem hdB_cons (c x : UInt8) (t : List UInt8) : hdB c (x :: t) = (x == c) := rfl
theorem classOf_made (c : List UInt8) : classOfF (76 :: (c ++ [59])) = some c := by simp [classOfF]

theorem classOf_any (xs : List UInt8) (w : World) (hl : xs.length ≤ 1048576) :
    Calls Tryz.prog 126 #[.string (strB xs)] w fun e w' => e = .returned (coV (classOfF xs)) ∧ w = w' := by
  by_cases h : ∃ c, xs = 76 :: (c ++ [59])
  · obtain ⟨c, rfl⟩ := h
    have hc : c.length ≤ 1048576 := by simp at hl; omega
    have C1 := Lib.hid (cutPrefix_yes 76 (c ++ [59]) w)
    have C2 := Lib.hid (cutSuffix_yes 59 c w hc)
    rw [classOf_made]
    go_enter Tryz.func126, Tryz.ntmps126
    go_wp2_with fail
    refine C1.out.mono ?_
    rintro e w' ⟨rfl, rfl⟩
    go_wp2_with fail
    refine C2.out.mono ?_
    rintro e w' ⟨rfl, rfl⟩
    go_wp2
    go_ret2
    exact ⟨rfl, rfl⟩
  · have HE : Hid (classOfF xs = none) := Lib.hid (by
      cases xs with
      | nil => rfl
      | cons x t =>
        show (if x = 76 ∧ t.getLast? = some 59 then some t.dropLast else none) = none
        rw [if_neg]
        rintro ⟨rfl, ht⟩
        refine h ⟨t.dropLast, ?_⟩
        have hne : t ≠ [] := by rintro rfl; cases ht
        have hg : t.getLast hne = 59 := by rw [List.getLast?_eq_some_getLast hne] at ht; simpa using ht
        have := List.dropLast_concat_getLast hne
        rw [hg] at this
        rw [this])
    cases hp : hdB 76 xs with
    | true =>
      cases xs with
      | nil => cases hp
      | cons x t =>
        obtain rfl : x = 76 := by simpa [hdB] using hp
        have hlast : t.getLast? ≠ some 59 := by
          intro ht
          refine h ⟨t.dropLast, ?_⟩
          have hne : t ≠ [] := by rintro rfl; cases ht
          have hg : t.getLast hne = 59 := by rw [List.getLast?_eq_some_getLast hne] at ht; simpa using ht
          have := List.dropLast_concat_getLast hne
          rw [hg] at this
          rw [this]
        have C1 := Lib.hid (cutPrefix_yes 76 t w)
        have C2 := Lib.hid (cutSuffix_no 59 t w (by simp at hl; omega) hlast)
        clear hp h hlast
        go_enter Tryz.func126, Tryz.ntmps126
        go_wp2_with fail
        refine C1.out.mono ?_
        rintro e w' ⟨rfl, rfl⟩
        go_wp2_with fail
        refine C2.out.mono ?_
        rintro e w' ⟨rfl, rfl⟩
        go_wp2
        go_ret2
        exact ⟨by rw [HE.out]; rfl, rfl⟩
    | false =>
      have C1 := Lib.hid (cutPrefix_no 76 xs w hp)
      clear hp h
      by_cases hlast : xs.getLast? = some 59
      · have hne : xs ≠ [] := by rintro rfl; cases hlast
        have hg : xs.getLast hne = 59 := by rw [List.getLast?_eq_some_getLast hne] at hlast; simpa using hlast
        have hcat := List.dropLast_concat_getLast hne
        rw [hg] at hcat
        obtain ⟨t, ht⟩ : ∃ t, t = xs.dropLast := ⟨_, rfl⟩
        rw [← ht] at hcat
        subst hcat
        have C2 := Lib.hid (cutSuffix_yes 59 t w (by simp at hl; omega))
        clear hlast ht hne hg
        go_enter Tryz.func126, Tryz.ntmps126
        go_wp2_with fail
        refine C1.out.mono ?_
        rintro e w' ⟨rfl, rfl⟩
        go_wp2_with fail
        refine C2.out.mono ?_
        rintro e w' ⟨rfl, rfl⟩
        go_wp2
        go_ret2
        exact ⟨by rw [HE.out]; rfl, rfl⟩
      · have C2 := Lib.hid (cutSuffix_no 59 xs w hl hlast)
        clear hlast
        go_enter Tryz.func126, Tryz.ntmps126
        go_wp2_with fail
        refine C1.out.mono ?_
        rintro e w' ⟨rfl, rfl⟩
        go_wp2_with fail
        refine C2.out.mono ?_
        rintro e w' ⟨rfl, rfl⟩
        go_wp2
        go_ret2
        exact ⟨by rw [HE.out]; rfl, rfl⟩

theorem objectSize_any (t : List UInt8) (w : World) (hl : t.length ≤ 1000000) :
    Calls Tryz.prog 239 #[.string (strB (76 :: t))] w fun e w' => e = .returned (.int .i64 ((objN t : Nat) : Int)) ∧ Below w.heap.size w w' := by
  have c1 := index_any 59 (76 :: t) w
  unfold idxI at c1
  rw [List.idxOf?_cons] at c1
  unfold objN
  cases hi : t.idxOf? 59 with
  | none =>
    rw [hi] at c1
    have C1 := Lib.hid c1
    clear c1 hi
    go_enter Tryz.func239, Tryz.ntmps239
    go_wp2_with fail
    refine C1.out.mono ?_
    rintro e w' ⟨rfl, rfl⟩
    go_wp2
    go_ret
    exact ⟨rfl, Below.refl _ _⟩
  | some i =>
    obtain ⟨hil, hsp, -⟩ := idxOf_split t i hi
    rw [hi] at c1
    have C1 : Hid (Calls Tryz.prog 231 #[.string (strB (76 :: t)), .string ⟨#[59]⟩] w fun e w' => e = .returned (.int .i64 ((i : Int) + 1)) ∧ w = w') := Lib.hid (c1.mono fun e w' ⟨h1, h2⟩ => ⟨by rw [h1]; rfl, h2⟩)
    have hz := strB_size (76 :: t)
    have ht1 : (76 :: t).take (i + 2) = 76 :: (t.take i ++ [59]) := by
      show 76 :: t.take (i + 1) = _
      congr 1
      rw [List.take_succ_eq_append_getElem hil]
      congr 1
      have : t[i]? = some 59 := by rw [hsp, List.getElem?_append_right (by simp; omega)]; simp [Nat.min_eq_left (Nat.le_of_lt hil)]
      rw [List.getElem?_eq_getElem hil] at this
      simpa using this
    have he : (strB (76 :: t)).extract 0 (i + 2) = strB (76 :: (t.take i ++ [59])) := by rw [strB_to, ht1]
    have hlen : (t.take i).length = i := by rw [List.length_take]; omega
    have hz2 : (strB (76 :: ((t.take i) ++ [59]))).size = i + 2 := by rw [strB_size]; simp; omega
    obtain ⟨c, hc⟩ : ∃ c, c = t.take i := ⟨_, rfl⟩
    rw [← hc] at he hlen hz2
    show Calls _ _ _ _ fun e w' => e = .returned (.int .i64 (((if classB (t.take i) = true then i + 2 else 0 : Nat)) : Int)) ∧ _
    rw [← hc]
    have c2 := classOf_any (76 :: (c ++ [59])) w (by simp; omega)
    rw [classOf_made] at c2
    have C2 := Lib.hid c2
    have c3 := isClass_any c w (by omega)
    unfold coV at C2
    clear c1 c2 hi hc hsp ht1
    cases hb : classB c with
    | true =>
      rw [hb] at c3
      have C3 := Lib.hid c3
      clear c3 hb hlen
      go_enter Tryz.func239, Tryz.ntmps239
      go_wp2_with fail
      refine C1.out.mono ?_
      rintro e w' ⟨rfl, rfl⟩
      go_wp2_with fail
      refine C2.out.mono ?_
      rintro e w' ⟨rfl, rfl⟩
      go_wp2_with fail
      refine C3.out.mono ?_
      rintro e w' ⟨rfl, hbel⟩
      have HB := Lib.hid hbel
      clear hbel
      go_wp2
      go_ret
      exact ⟨rfl, HB.out⟩
    | false =>
      rw [hb] at c3
      have C3 := Lib.hid c3
      clear c3 hb hlen
      go_enter Tryz.func239, Tryz.ntmps239
      go_wp2_with fail
      refine C1.out.mono ?_
      rintro e w' ⟨rfl, rfl⟩
      go_wp2_with fail
      refine C2.out.mono ?_
      rintro e w' ⟨rfl, rfl⟩
      go_wp2_with fail
      refine C3.out.mono ?_
      rintro e w' ⟨rfl, hbel⟩
      have HB := Lib.hid hbel
      clear hbel
      go_wp2
      go_ret
      exact ⟨rfl, HB.out⟩

theorem hp_yes (c : UInt8) (t : List UInt8) (w : World) : Calls Tryz.prog 128 #[.string (strB (c :: t)), .string ⟨#[c]⟩] w fun e w' => e = .returned (.bool true) ∧ w = w' := by
  have := hasPrefix1 c (c :: t) w
  rw [hdB_cons, beq_self_eq_true] at this
  exact this
theorem hp_no (c x : UInt8) (t : List UInt8) (w : World) (h : x ≠ c) : Calls Tryz.prog 128 #[.string (strB (x :: t)), .string ⟨#[c]⟩] w fun e w' => e = .returned (.bool false) ∧ w = w' := by
  have := hasPrefix1 c (x :: t) w
  rw [hdB_cons, beq_false_of_ne h] at this
  exact this
theorem hp_nil (c : UInt8) (w : World) : Calls Tryz.prog 128 #[.string (strB []), .string ⟨#[c]⟩] w fun e w' => e = .returned (.bool false) ∧ w = w' := hasPrefix1 c [] w

theorem itemSize_any (arr : Bool) (xs : List UInt8) (w : World) (hl : xs.length ≤ 1000000) :
    Calls Tryz.prog 219 #[.string (strB xs), .bool arr] w fun e w' => e = .returned (.int .i64 ((itemN arr xs : Nat) : Int)) ∧ Below w.heap.size w w' := by
  cases xs with
  | nil =>
    go_enter Tryz.func219, Tryz.ntmps219
    go_wp2_with (go_at_call 128; (with_reducible refine (hp_nil _ _).mono ?_); rintro e w' ⟨rfl, rfl⟩)
    go_ret
    exact ⟨rfl, Below.refl _ _⟩
  | cons x t =>
    by_cases h73 : x = 73
    · subst h73
      go_enter Tryz.func219, Tryz.ntmps219
      go_wp2_with (go_at_call 128; (with_reducible refine (hp_yes _ _ _).mono ?_); rintro e w' ⟨rfl, rfl⟩)
      go_ret
      exact ⟨rfl, Below.refl _ _⟩
    · have C73 := Lib.hid (hp_no 73 x t w h73)
      by_cases h74 : x = 74
      · subst h74
        have C74 := Lib.hid (hp_yes 74 t w)
        clear h73
        cases arr
        all_goals
          go_enter Tryz.func219, Tryz.ntmps219
          go_wp2_with fail
          refine C73.out.mono ?_
          rintro e w' ⟨rfl, rfl⟩
          go_wp2_with fail
          refine C74.out.mono ?_
          rintro e w' ⟨rfl, rfl⟩
        · go_wp2
          go_ret
          exact ⟨rfl, Below.refl _ _⟩
        · have C66 := Lib.hid (hp_no 66 74 t w (by decide))
          have C76 := Lib.hid (hp_no 76 74 t w (by decide))
          go_wp2_with fail
          refine C66.out.mono ?_
          rintro e w' ⟨rfl, rfl⟩
          go_wp2_with fail
          refine C76.out.mono ?_
          rintro e w' ⟨rfl, rfl⟩
          go_wp2
          go_ret
          exact ⟨rfl, Below.refl _ _⟩
      · have C74 := Lib.hid (hp_no 74 x t w h74)
        by_cases h66 : x = 66
        · subst h66
          have C66 := Lib.hid (hp_yes 66 t w)
          clear h73 h74
          cases arr
          all_goals
            go_enter Tryz.func219, Tryz.ntmps219
            go_wp2_with fail
            refine C73.out.mono ?_
            rintro e w' ⟨rfl, rfl⟩
            go_wp2_with fail
            refine C74.out.mono ?_
            rintro e w' ⟨rfl, rfl⟩
            go_wp2_with fail
            refine C66.out.mono ?_
            rintro e w' ⟨rfl, rfl⟩
          · have C76 := Lib.hid (hp_no 76 66 t w (by decide))
            go_wp2_with fail
            refine C76.out.mono ?_
            rintro e w' ⟨rfl, rfl⟩
            go_wp2
            go_ret
            exact ⟨rfl, Below.refl _ _⟩
          · go_wp2
            go_ret
            exact ⟨rfl, Below.refl _ _⟩
        · have C66 := Lib.hid (hp_no 66 x t w h66)
          by_cases h76 : x = 76
          · subst h76
            have C76 := Lib.hid (hp_yes 76 t w)
            have CO := Lib.hid (objectSize_any t w (by simp at hl; omega))
            have HE : Hid (itemN arr (76 :: t) = objN t) := Lib.hid (by simp [itemN])
            clear h73 h74 h66
            go_enter Tryz.func219, Tryz.ntmps219
            go_wp2_with fail
            refine C73.out.mono ?_
            rintro e w' ⟨rfl, rfl⟩
            go_wp2_with fail
            refine C74.out.mono ?_
            rintro e w' ⟨rfl, rfl⟩
            go_wp2_with fail
            refine C66.out.mono ?_
            rintro e w' ⟨rfl, rfl⟩
            go_wp2_with fail
            refine C76.out.mono ?_
            rintro e w' ⟨rfl, rfl⟩
            go_wp2_with fail
            refine CO.out.mono ?_
            rintro e w' ⟨rfl, hb⟩
            have HB := Lib.hid hb
            clear hb
            go_wp2
            go_ret
            exact ⟨by rw [HE.out]; rfl, HB.out⟩
          · have C76 := Lib.hid (hp_no 76 x t w h76)
            have HE : Hid (itemN arr (x :: t) = 0) := Lib.hid (by simp [itemN, h73, h74, h66, h76])
            clear h73 h74 h66 h76
            go_enter Tryz.func219, Tryz.ntmps219
            go_wp2_with fail
            refine C73.out.mono ?_
            rintro e w' ⟨rfl, rfl⟩
            go_wp2_with fail
            refine C74.out.mono ?_
            rintro e w' ⟨rfl, rfl⟩
            go_wp2_with fail
            refine C66.out.mono ?_
            rintro e w' ⟨rfl, rfl⟩
            go_wp2_with fail
            refine C76.out.mono ?_
            rintro e w' ⟨rfl, rfl⟩
            go_wp2
            go_ret
            exact ⟨by rw [HE.out]; rfl, Below.refl _ _⟩

theorem cutD_drop : ∀ (l : List UInt8) (d : Nat), ∃ k it, l.dropWhile (· == 91) = it ∧ l.length = k + it.length ∧ cutD d l = (if itemN (decide (0 < d + k)) it = 0 ∨ 8 < d + k then 0 else k + itemN (decide (0 < d + k)) it)
  | [], d => ⟨0, [], rfl, rfl, by simp [cutD, itemN]⟩
  | x :: t, d => by
    by_cases hx : x = 91
    · subst hx
      obtain ⟨k, it, h1, h2, h3⟩ := cutD_drop t (d + 1)
      refine ⟨k + 1, it, ?_, by simp; omega, ?_⟩
      · rw [List.dropWhile_cons]
        simpa using h1
      · rw [cutD, if_pos rfl, h3, show d + 1 + k = d + (k + 1) by omega]
        by_cases h : itemN (decide (0 < d + (k + 1))) it = 0 ∨ 8 < d + (k + 1)
        · rw [if_pos h, if_pos rfl, if_pos h]
        · have h9 : itemN (decide (0 < d + (k + 1))) it ≠ 0 := fun e => h (.inl e)
          rw [if_neg h, if_neg h, if_neg (by omega)]
          omega
    · refine ⟨0, x :: t, ?_, by simp, ?_⟩
      · rw [List.dropWhile_cons]
        simp [hx]
      · rw [cutD, if_neg hx, Nat.add_zero, Nat.zero_add]
        by_cases hd : d ≤ 8
        · rw [if_pos hd]
          by_cases h0 : itemN (decide (0 < d)) (x :: t) = 0
          · rw [if_pos (.inl h0), h0]
          · rw [if_neg (by omega)]
        · rw [if_neg hd, if_pos (.inr (by omega))]

theorem cut_any (xs : List UInt8) (w : World) (hl : xs.length ≤ 1000000) :
    Calls Tryz.prog 186 #[.string (strB xs)] w fun e w' => e = .returned (.tuple #[.string (strB (xs.take (cutD 0 xs))), .string (strB (xs.drop (cutD 0 xs)))]) ∧ Below w.heap.size w w' := by
  obtain ⟨d, it, h1, h2, h3⟩ := cutD_drop xs 0
  rw [Nat.zero_add] at h3
  have c1 := trimLeft_any xs w (by omega)
  rw [h1] at c1
  have C1 := Lib.hid c1
  have hz := strB_size xs
  rw [h2] at hz
  have hz2 := strB_size it
  have C2 := Lib.hid (itemSize_any (decide (0 < d)) it w (by omega))
  have hdl : d ≤ 1000000 := by omega
  have hil : it.length ≤ 1000000 := by omega
  obtain ⟨n, hn⟩ : ∃ n, n = itemN (decide (0 < d)) it := ⟨_, rfl⟩
  obtain ⟨b, hb⟩ : ∃ b, b = decide (0 < d) := ⟨_, rfl⟩
  have hcl := cut_le xs 0
  rw [← hn] at h3 C2
  rw [← hb] at C2
  have hbq : decide ((0 : Int) < (d : Int)) = b := by rw [hb]; simp
  have hbq2 : decide (0 < d) = b := hb.symm
  by_cases h0 : n = 0 ∨ 8 < d
  · rw [if_pos h0] at h3
    have HE := Lib.hid h3
    clear h1 h2 h3 c1 hn hb hcl
    rcases h0 with h0 | h0
    · have hq : ((n : Int) == 0) = true := by rw [h0]; rfl
      clear h0
      go_enter Tryz.func186, Tryz.ntmps186
      go_wp2_with fail
      refine C1.out.mono ?_
      rintro e w' ⟨rfl, rfl⟩
      go_wp2_with fail
      refine C2.out.mono ?_
      rintro e w' ⟨rfl, hbel⟩
      have HB := Lib.hid hbel
      clear hbel
      go_wp2
      go_ret2
      exact ⟨by rw [HE.out]; rfl, HB.out⟩
    · go_enter Tryz.func186, Tryz.ntmps186
      go_wp2_with fail
      refine C1.out.mono ?_
      rintro e w' ⟨rfl, rfl⟩
      go_wp2_with fail
      refine C2.out.mono ?_
      rintro e w' ⟨rfl, hbel⟩
      have HB := Lib.hid hbel
      clear hbel
      go_wp2
      all_goals
        go_ret2
        exact ⟨by rw [HE.out]; rfl, HB.out⟩
  · rw [if_neg h0] at h3
    have hq : ((n : Int) == 0) = false := by rw [beq_eq_false_iff_ne]; omega
    have hd8 : decide ((d : Int) > 8) = false := decide_eq_false (by omega)
    have hnl : n ≤ it.length := by omega
    have he1 := strB_to xs (d + n)
    have he2 := strB_from xs (d + n)
    rw [h2] at he2
    have HE := Lib.hid h3
    clear h1 h2 h3 c1 hn hb hcl h0
    go_enter Tryz.func186, Tryz.ntmps186
    go_wp2_with fail
    refine C1.out.mono ?_
    rintro e w' ⟨rfl, rfl⟩
    go_wp2_with fail
    refine C2.out.mono ?_
    rintro e w' ⟨rfl, hbel⟩
    have HB := Lib.hid hbel
    clear hbel
    go_wp2
    go_quiet (fail)
    go_wp2
    go_ret2
    exact ⟨by rw [HE.out, ← he1, ← he2]; rfl, HB.out.drewN _⟩

theorem isType_any (xs : List UInt8) (w : World) (hl : xs.length ≤ 1000000) :
    Calls Tryz.prog 133 #[.string (strB xs)] w fun e w' => e = .returned (.bool (typeD 0 xs)) ∧ Below w.heap.size w w' := by
  have C := Lib.hid (cut_any xs w hl)
  have hi := type_iff xs 0
  have hcl := cut_le xs 0
  obtain ⟨k, hk⟩ : ∃ k, k = cutD 0 xs := ⟨_, rfl⟩
  rw [← hk] at C hi hcl
  have t1 := strB_toList (xs.take k)
  have t2 := strB_toList (xs.drop k)
  clear hk
  by_cases hk0 : k = 0
  · subst hk0
    have HE : Hid (typeD 0 xs = false) := Lib.hid (by rw [hi]; simp)
    have t3 : xs.take 0 = [] := rfl
    clear hi
    go_enter Tryz.func133, Tryz.ntmps133
    go_wp2_with fail
    refine C.out.mono ?_
    rintro e w' ⟨rfl, hbel⟩
    have HB := Lib.hid hbel
    clear hbel
    go_wp2
    go_ret
    exact ⟨by rw [HE.out]; rfl, HB.out⟩
  · have hne : (xs.take k).isEmpty = false := by
      rw [take_empty hcl]
      exact decide_eq_false hk0
    have hem : (xs.drop k).isEmpty = decide (k = xs.length) := by
      rw [Bool.eq_iff_iff]
      simp
      omega
    have HE : Hid (typeD 0 xs = (xs.drop k).isEmpty) := Lib.hid (by rw [hi, hem]; simp [hk0])
    have hne2 : xs.take k ≠ [] := by
      intro e
      rw [e] at hne
      cases hne
    obtain ⟨a, ha⟩ : ∃ a, a = xs.take k := ⟨_, rfl⟩
    obtain ⟨b, hb⟩ : ∃ b, b = xs.drop k := ⟨_, rfl⟩
    rw [← ha] at C t1 hne hne2
    rw [← hb] at C t2 HE
    clear hi hem ha hb
    go_enter Tryz.func133, Tryz.ntmps133
    go_wp2_with fail
    refine C.out.mono ?_
    rintro e w' ⟨rfl, hbel⟩
    have HB := Lib.hid hbel
    clear hbel
    go_wp2
    go_ret
    exact ⟨by rw [HE.out]; rfl, HB.out⟩

end Go.Proofs.YtdkkpcbebhgbiaaGreatDoor

/- The walks over desc.cutArgs, Method, Elem, IsRef, Object. -/
namespace Go.Proofs.YtdkkpcbebhgbiaaGreatDoor
set_option maxRecDepth 100000
open Go.RowKit

def svC (l : List UInt8) : List Value := [SV l]
theorem svC_len : ∀ l, (svC l).length = 1 := fun _ => rfl
theorem svC_one : ∀ l, ∀ v ∈ svC l, v.oneCell' = true := fun l v hv => by
  simp only [svC, List.mem_singleton] at hv
  subst hv
  rfl
theorem wpList_append_sv {ops : Array Oper} {rest : List Oper} {q : Oper} {u : Act} {w : World} {S : Nat → Prop} {Q : Exit → Act → World → Prop} (hgd : q.guard = none) (s x : Operand) (hq : q.op = .call { callee := .builtin .append, args := #[s, x], argTypes := #[42, 42] })
    (base : Nat) (B : Option Addr) (m0 c0 : Nat) (zs : List (List UInt8)) (hs : u.eval s = .slice B m0 c0) (hown : GotR svC 1 9 base w B m0 c0 zs) (A : Option Addr) (m c : Nat) (l : List (List UInt8))
    (hx : u.eval x = .slice A m c) (hB : RowSl svC 1 w S A m c l) (hn : A = none → m = 0 ∧ c = 0) (hm : m0 + m ≤ 16777216) (hbase : base ≤ w.heap.size)
    (h : ∀ A' c' w', GotR svC 1 9 base w' A' (m0 + m) c' (zs ++ l) → w.grownBy w' (Value.slice B m0 c0).ownBlock → (∀ g, (Value.slice B m0 c0).ownBlock = some g → base ≤ g) → wpList Tryz.prog ops Q rest (u.put q.dst (.slice A' (m0 + m) c')) w') : wpList Tryz.prog ops Q (q :: rest) u w :=
  wpList_append_rows svC_len svC_one (by decide) 42 9 _ 16 Tryz.underlying42 Tryz.infoStr (by simp [Value.cells]) (by decide) hgd s x hq base B m0 c0 zs hs hown A m c l hx hB hn hm hbase (fun A' c' w' h1 h2 h3 _ => h A' c' w' h1 h2 h3)
theorem sv_lit (l : List UInt8) (w : World) : RowSl svC 1 (w.alloc (.cells #[.string (strB l)] 9)) Empty (some ⟨w.heap.size, 0, none⟩) 1 1 [l] :=
  RowSl.lit svC_len w Empty 9 [l] 1 [.string (strB l)] rfl rfl (by unfold maxLen; omega) (fun h => h)

theorem argsF_step (k : Nat) (s : List UInt8) (h : cutD 0 s ≠ 0) : argsF (k + 1) s = (s.take (cutD 0 s) :: (argsF k (s.drop (cutD 0 s))).1, (argsF k (s.drop (cutD 0 s))).2) := by
  rw [argsF, if_neg h]

set_option maxHeartbeats 2000000 in
theorem cutArgs_any (xs : List UInt8) (w : World) (hl : xs.length ≤ 1000000) :
    Calls Tryz.prog 132 #[.string (strB xs)] w fun e w' => (∃ (A : Option Addr) (n c : Nat), e = .returned (.tuple #[.slice A n c, .string (strB (argsF 16 xs).2)]) ∧ GotR svC 1 9 w.heap.size w' A n c (argsF 16 xs).1) ∧ Below w.heap.size w w' := by
  go_enter Tryz.func132, Tryz.ntmps132
  go_wp2
  go_loopw [0, 2] (fun s v wr => ∃ (ys : List UInt8) (A : Option Addr) (n c : Nat) (l : List (List UInt8)), s = .string (strB ys) ∧ v = .slice A n c ∧ n ≤ 16 ∧ ys.length ≤ xs.length ∧ Hid (l.length = n) ∧ Hid (argsF 16 xs = (l ++ (argsF (16 - n) ys).1, (argsF (16 - n) ys).2)) ∧ Hid (GotR svC 1 9 w.heap.size wr A n c l) ∧ Hid (Below w.heap.size w wr)) (fun _ v _ => match v with | .slice _ n _ => 16 - n | _ => 0)
  case atStart => exact ⟨xs, none, 0, 0, [], rfl, rfl, by omega, Nat.le_refl _, Lib.hid rfl, Lib.hid rfl, Lib.hid (GotR.nil_ _ _ _ _ _), Lib.hid (Below.refl _ _)⟩
  case round =>
    obtain ⟨ys, A, n, c, l, rfl, rfl, hn16, hyl, HL, HA, HG, HB⟩ := hrel
    by_cases hlt : n < 16
    · have C := Lib.hid (cut_any ys wr (by omega))
      have hcl := cut_le ys 0
      have t1 := strB_toList (ys.take (cutD 0 ys))
      have hem := take_empty hcl
      obtain ⟨k, hk⟩ : ∃ k, k = cutD 0 ys := ⟨_, rfl⟩
      rw [← hk] at C hcl t1 hem
      by_cases hk0 : k = 0
      · have HE : Hid (argsF 16 xs = (l, ys)) := Lib.hid (by rw [HA.out, argsF_none _ _ (hk.symm.trans hk0)]; simp)
        have ht : ys.take k = [] := by rw [hk0]; rfl
        rw [ht] at t1 C
        clear hk hk0 hem ht
        go_wp2_with fail
        refine C.out.mono ?_
        rintro e w' ⟨rfl, hbel⟩
        have HB2 := Lib.hid (HB.out.trans (hbel.mono HB.out.size))
        have HG2 := Lib.hid (HG.out.below svC_len hbel)
        clear hbel
        go_wp2
        go_ret2
        exact ⟨⟨A, n, c, by rw [HE.out]; rfl, by rw [HE.out]; exact HG2.out⟩, HB2.out⟩
      · have HA2 : Hid (argsF 16 xs = ((l ++ [ys.take k]) ++ (argsF (16 - (n + 1)) (ys.drop k)).1, (argsF (16 - (n + 1)) (ys.drop k)).2)) := Lib.hid (by
          rw [HA.out, show 16 - n = (16 - (n + 1)) + 1 by omega, argsF_step _ _ (by rw [← hk]; exact hk0), ← hk]
          simp)
        have hne : (ys.take k).isEmpty = false := by rw [hem]; exact decide_eq_false hk0
        have hdl : (ys.drop k).length ≤ xs.length := by rw [List.length_drop]; omega
        have hne2 : ys.take k ≠ [] := by
          intro e
          rw [e] at hne
          cases hne
        have HL2 : Hid ((l ++ [ys.take k]).length = n + 1) := Lib.hid (by rw [List.length_append, HL.out]; rfl)
        obtain ⟨a, ha⟩ : ∃ a, a = ys.take k := ⟨_, rfl⟩
        obtain ⟨b, hb⟩ : ∃ b, b = ys.drop k := ⟨_, rfl⟩
        rw [← ha] at C t1 hne hne2 HA2 HL2
        rw [← hb] at C HA2 hdl
        clear hk hk0 hem ha hb
        go_wp2_with fail
        refine C.out.mono ?_
        rintro e w1 ⟨rfl, hbel⟩
        have HB2 := Lib.hid ((HB.out.trans (hbel.mono HB.out.size)).alloc (Nat.le_trans HB.out.size hbel.size) (.cells #[.string (strB a)] 9))
        have HG2 := Lib.hid ((HG.out.below svC_len hbel).alloc svC_len (.cells #[.string (strB a)] 9))
        have HS := Lib.hid (sv_lit a w1)
        clear hbel
        go_wp2_with (at_builtin; refine wpList_append_sv rfl (.tmp 16) (.tmp 18) rfl w.heap.size A n c l rfl HG2.out (some ⟨w1.heap.size, 0, none⟩) 1 1 [a] rfl HS.out (fun h => by cases h) (by omega) HB2.out.size ?_; intro A' c' w' hg' hgr' hr')
        have HG3 := Lib.hid hg'
        have HB3 := Lib.hid (below_gotR HB2.out HB2.out.size hgr' hr' (Nat.le_refl _))
        clear hg' hgr' hr'
        go_wp2
        go_roundw
        case rel => exact ⟨b, A', n + 1, c', l ++ [a], rfl, rfl, by omega, hdl, HL2, HA2, HG3, HB3⟩
        case measure => show 16 - (n + 1) < 16 - n; omega
    · obtain rfl : n = 16 := by omega
      have HE : Hid (argsF 16 xs = (l, ys)) := Lib.hid (by rw [HA.out]; simp [argsF])
      go_wp2
      go_ret2
      exact ⟨⟨A, 16, c, by rw [HE.out]; rfl, by rw [HE.out]; exact HG.out⟩, HB.out⟩

def mArgs (r : Option (List (List UInt8) × List UInt8)) : List (List UInt8) := (r.map (·.1)).getD []
def mRet (r : Option (List (List UInt8) × List UInt8)) : List UInt8 := (r.map (·.2)).getD []
def mErr (r : Option (List (List UInt8) × List UInt8)) : Int := if r.isSome then 0 else 8
/-- What a call that tells a method's types answers. -/
def MethD (w w' : World) (r : Option (List (List UInt8) × List UInt8)) (e : Ending) : Prop :=
  (∃ (A : Option Addr) (n c : Nat), e = .returned (.tuple #[.slice A n c, .string (strB (mRet r)), .int .i64 (mErr r)]) ∧ GotR svC 1 9 w.heap.size w' A n c (mArgs r)) ∧ Below w.heap.size w w'
theorem MethD.no {w w' : World} {r : Option (List (List UInt8) × List UInt8)} {e : Ending} (hr : r = none) (he : e = .returned (.tuple #[.slice none 0 0, .string ⟨#[]⟩, .int .i64 8])) (hb : Below w.heap.size w w') : MethD w w' r e := by
  subst hr
  exact ⟨⟨none, 0, 0, he, GotR.nil_ _ _ _ _ _⟩, hb⟩

theorem argsF_rest_le : ∀ (k : Nat) (s : List UInt8), (argsF k s).2.length ≤ s.length
  | 0, s => Nat.le_refl _
  | k + 1, s => by
    have := argsF_rest_le k (s.drop (cutD 0 s))
    rw [List.length_drop] at this
    unfold argsF
    split
    · exact Nat.le_refl _
    · simp only; omega

set_option maxHeartbeats 4000000 in
theorem method_any (xs : List UInt8) (w : World) (hl : xs.length ≤ 1000000) :
    Calls Tryz.prog 67 #[.string (strB xs)] w fun e w' => MethD w w' (methodF xs) e := by
  cases hb : hdB 40 xs with
  | false =>
    have C1 := Lib.hid (cutPrefix_no 40 xs w hb)
    have C2 := Lib.hid (cutArgs_any xs w hl)
    have HE : Hid (methodF xs = none) := Lib.hid (by
      cases xs with
      | nil => rfl
      | cons x t =>
        have hx : x ≠ 40 := fun e => by rw [e] at hb; simp [hdB] at hb
        simp [methodF, hx])
    obtain ⟨r, hr⟩ : ∃ r, r = (argsF 16 xs).2 := ⟨_, rfl⟩
    rw [← hr] at C2
    clear hb hr
    go_enter Tryz.func67, Tryz.ntmps67
    go_wp2_with fail
    refine C1.out.mono ?_
    rintro e w' ⟨rfl, rfl⟩
    go_wp2_with fail
    refine C2.out.mono ?_
    rintro e w1 ⟨⟨A, n, c, rfl, -⟩, hbel⟩
    have HB := Lib.hid hbel
    clear hbel
    cases hr : hdB 41 r with
    | true =>
      cases r with
      | nil => cases hr
      | cons x t =>
        obtain rfl : x = 41 := by simpa [hdB] using hr
        have C3 := Lib.hid (cutPrefix_yes 41 t w1)
        clear hr
        go_wp2_with fail
        refine C3.out.mono ?_
        rintro e w' ⟨rfl, rfl⟩
        go_wp2
        go_ret3
        exact MethD.no HE.out rfl HB.out
    | false =>
      have C3 := Lib.hid (cutPrefix_no 41 r w1 hr)
      clear hr
      go_wp2_with fail
      refine C3.out.mono ?_
      rintro e w' ⟨rfl, rfl⟩
      go_wp2
      go_ret3
      exact MethD.no HE.out rfl HB.out
  | true =>
    cases xs with
    | nil => cases hb
    | cons x s =>
      obtain rfl : x = 40 := by simpa [hdB] using hb
      have hsl : s.length ≤ 1000000 := by simp at hl; omega
      have C1 := Lib.hid (cutPrefix_yes 40 s w)
      have C2 := Lib.hid (cutArgs_any s w hsl)
      have hrl := argsF_rest_le 16 s
      have HM : Hid (methodF (40 :: s) = match (argsF 16 s).2 with
        | [] => none
        | y :: ret => if y = 41 ∧ retOk ret = true then some ((argsF 16 s).1, ret) else none) := Lib.hid rfl
      obtain ⟨r, hr⟩ : ∃ r, r = (argsF 16 s).2 := ⟨_, rfl⟩
      obtain ⟨la, has⟩ : ∃ la, la = (argsF 16 s).1 := ⟨_, rfl⟩
      rw [← hr] at C2 HM hrl
      rw [← has] at C2 HM
      obtain ⟨m, hm⟩ : ∃ m, m = methodF (40 :: s) := ⟨_, rfl⟩
      rw [← hm] at HM ⊢
      clear hb hr has hm
      go_enter Tryz.func67, Tryz.ntmps67
      go_wp2_with fail
      refine C1.out.mono ?_
      rintro e w' ⟨rfl, rfl⟩
      go_wp2_with fail
      refine C2.out.mono ?_
      rintro e w1 ⟨⟨A, n, c, rfl, hg⟩, hbel⟩
      have HG := Lib.hid hg
      have HB := Lib.hid hbel
      clear hg hbel
      cases hr : hdB 41 r with
      | false =>
        have C3 := Lib.hid (cutPrefix_no 41 r w1 hr)
        have HE : Hid (m = none) := Lib.hid (by
          rw [HM.out]
          cases r with
          | nil => rfl
          | cons y ret =>
            have hy : y ≠ 41 := fun e => by rw [e] at hr; simp [hdB] at hr
            simp [hy])
        clear hr
        go_wp2_with fail
        refine C3.out.mono ?_
        rintro e w' ⟨rfl, rfl⟩
        go_wp2
        go_ret3
        exact MethD.no HE.out rfl HB.out
      | true =>
        cases r with
        | nil => cases hr
        | cons y ret =>
          obtain rfl : y = 41 := by simpa [hdB] using hr
          have C3 := Lib.hid (cutPrefix_yes 41 ret w1)
          have t1 := strB_toList ret
          have HM2 : Hid (m = if retOk ret = true then some (la, ret) else none) := Lib.hid (by rw [HM.out]; simp)
          clear hr HM
          by_cases hv : ret = [86]
          · have q1 : (ret == [86]) = true := by rw [hv]; rfl
            have HE : Hid (m = some (la, ret)) := Lib.hid (by rw [HM2.out, if_pos (by rw [hv]; rfl)])
            clear hv
            go_wp2_with fail
            refine C3.out.mono ?_
            rintro e w' ⟨rfl, rfl⟩
            go_wp2
            go_ret3
            exact ⟨⟨A, n, c, by rw [HE.out]; rfl, by rw [HE.out]; exact HG.out⟩, HB.out⟩
          · have q1 : (ret == [86]) = false := beq_false_of_ne hv
            have hrt : retOk ret = typeD 0 ret := by unfold retOk; rw [q1]; rfl
            have C4 := Lib.hid (isType_any ret w1 (by simp at hrl; omega))
            rw [hrt] at HM2
            clear hrt
            cases ht : typeD 0 ret with
            | true =>
              rw [ht] at C4 HM2
              have HE : Hid (m = some (la, ret)) := Lib.hid (by rw [HM2.out, if_pos rfl])
              clear hv ht
              go_wp2_with fail
              refine C3.out.mono ?_
              rintro e w' ⟨rfl, rfl⟩
              go_wp2_with fail
              refine C4.out.mono ?_
              rintro e w2 ⟨rfl, hb2⟩
              have HB2 := Lib.hid (HB.out.trans (hb2.mono HB.out.size))
              have HG2 := Lib.hid (HG.out.below svC_len hb2)
              clear hb2
              go_wp2
              go_ret3
              exact ⟨⟨A, n, c, by rw [HE.out]; rfl, by rw [HE.out]; exact HG2.out⟩, HB2.out⟩
            | false =>
              rw [ht] at C4 HM2
              have HE : Hid (m = none) := Lib.hid (by rw [HM2.out, if_neg Bool.false_ne_true])
              clear hv ht
              go_wp2_with fail
              refine C3.out.mono ?_
              rintro e w' ⟨rfl, rfl⟩
              go_wp2_with fail
              refine C4.out.mono ?_
              rintro e w2 ⟨rfl, hb2⟩
              have HB2 := Lib.hid (HB.out.trans (hb2.mono HB.out.size))
              clear hb2
              go_wp2
              go_ret3
              exact MethD.no HE.out rfl HB2.out

def elemV (xs : List UInt8) : Value := if hdB 91 xs = true then .tuple #[.string (strB xs.tail), .bool true] else .tuple #[.string ⟨#[]⟩, .bool false]
theorem elem_any (xs : List UInt8) (w : World) : Calls Tryz.prog 60 #[.string (strB xs)] w fun e w' => e = .returned (elemV xs) ∧ w = w' := by
  unfold elemV
  cases hb : hdB 91 xs with
  | true =>
    cases xs with
    | nil => cases hb
    | cons x t =>
      obtain rfl : x = 91 := by simpa [hdB] using hb
      have C1 := Lib.hid (cutPrefix_yes 91 t w)
      clear hb
      go_enter Tryz.func60, Tryz.ntmps60
      go_wp2_with fail
      refine C1.out.mono ?_
      rintro e w' ⟨rfl, rfl⟩
      go_wp2
      go_ret2
      exact ⟨rfl, rfl⟩
  | false =>
    have C1 := Lib.hid (cutPrefix_no 91 xs w hb)
    clear hb
    go_enter Tryz.func60, Tryz.ntmps60
    go_wp2_with fail
    refine C1.out.mono ?_
    rintro e w' ⟨rfl, rfl⟩
    go_wp2
    go_ret2
    exact ⟨rfl, rfl⟩

def refB (xs : List UInt8) : Bool := hdB 76 xs || hdB 91 xs
theorem isRef_any (xs : List UInt8) (w : World) : Calls Tryz.prog 61 #[.string (strB xs)] w fun e w' => e = .returned (.bool (refB xs)) ∧ w = w' := by
  have c1 := hasPrefix1 76 xs w
  have c2 := hasPrefix1 91 xs w
  unfold refB
  cases hb : hdB 76 xs with
  | true =>
    rw [hb] at c1
    have C1 := Lib.hid c1
    clear c1 c2 hb
    go_enter Tryz.func61, Tryz.ntmps61
    go_wp2_with fail
    refine C1.out.mono ?_
    rintro e w' ⟨rfl, rfl⟩
    go_wp2
    go_ret
    exact ⟨rfl, rfl⟩
  | false =>
    rw [hb] at c1
    obtain ⟨b, hb2⟩ : ∃ b, b = hdB 91 xs := ⟨_, rfl⟩
    rw [← hb2] at c2 ⊢
    have C1 := Lib.hid c1
    have C2 := Lib.hid c2
    clear c1 c2 hb hb2
    go_enter Tryz.func61, Tryz.ntmps61
    go_wp2_with fail
    refine C1.out.mono ?_
    rintro e w' ⟨rfl, rfl⟩
    go_wp2_with fail
    refine C2.out.mono ?_
    rintro e w' ⟨rfl, rfl⟩
    go_wp2
    go_ret
    exact ⟨rfl, rfl⟩

/-- The type of a class. -/
def objL (xs : List UInt8) : List UInt8 := 76 :: (xs ++ [59])
theorem lit_strB (c : UInt8) : (⟨#[c]⟩ : ByteArray) = strB [c] := rfl
theorem object_any (xs : List UInt8) (w : World) (hl : xs.length ≤ 1000000) : Calls Tryz.prog 62 #[.string (strB xs)] w fun e w' => e = .returned (.string (strB (objL xs))) ∧ w = w' := by
  have hz := strB_size xs
  have h1 : (⟨#[76]⟩ : ByteArray) ++ strB xs = strB (76 :: xs) := by rw [lit_strB, strB_cat]; rfl
  have h2 : strB (76 :: xs) ++ (⟨#[59]⟩ : ByteArray) = strB (objL xs) := by rw [lit_strB, strB_cat]; rfl
  have hz2 := strB_size (76 :: xs)
  go_enter Tryz.func62, Tryz.ntmps62
  go_wp2
  go_ret
  exact ⟨rfl, rfl⟩

end Go.Proofs.YtdkkpcbebhgbiaaGreatDoor

/- The writer of carpetbagmake as it lies in memory, as plain data; what one append, one store does to it. -/
namespace Go.Proofs.YtdkkpcbebhgbiaaGreatDoor
set_option maxRecDepth 100000
open Go.RowKit

def inC (x : InD) : List Value := [.int .u8 (x.op.toNat : Int), .int .i64 x.n, .int .i64 x.m, .string (strB x.cls), .string (strB x.name), .string (strB x.desc), .string (strB x.text)]
def trC (x : TrD) : List Value := [.int .i64 x.a, .int .i64 x.b, .int .i64 x.c, .string (strB x.cls)]
/-- A map as it lies: its two rows aren't looked at. -/
structure MpR where
  at_ : Int
  A : Option Addr
  n : Nat
  c : Nat
  A2 : Option Addr
  n2 : Nat
  c2 : Nat
def mpC (x : MpR) : List Value := [.int .i64 x.at_, .slice x.A x.n x.c, .slice x.A2 x.n2 x.c2]
theorem inC_len : ∀ x, (inC x).length = 7 := fun _ => rfl
theorem trC_len : ∀ x, (trC x).length = 4 := fun _ => rfl
theorem mpC_len : ∀ x, (mpC x).length = 3 := fun _ => rfl
theorem inC_one : ∀ x, ∀ v ∈ inC x, v.oneCell' = true := fun x v hv => by
  simp [inC] at hv
  rcases hv with rfl | rfl | rfl | rfl | rfl | rfl | rfl <;> rfl
theorem trC_one : ∀ x, ∀ v ∈ trC x, v.oneCell' = true := fun x v hv => by
  simp [trC] at hv
  rcases hv with rfl | rfl | rfl | rfl <;> rfl
theorem mpC_one : ∀ x, ∀ v ∈ mpC x, v.oneCell' = true := fun x v hv => by
  simp [mpC] at hv
  rcases hv with rfl | rfl | rfl <;> rfl
theorem Tryz.infoIn : (Tryz.prog.info? 98).map (fun i => (i.zero, i.size, i.bytes)) = some (some (Value.agg #[.int .u8 0, .int .i64 0, .int .i64 0, .string ⟨#[]⟩, .string ⟨#[]⟩, .string ⟨#[]⟩, .string ⟨#[]⟩]), 7, 88) := by kernel_rfl
theorem Tryz.infoTr : (Tryz.prog.info? 133).map (fun i => (i.zero, i.size, i.bytes)) = some (some (Value.agg #[.int .i64 0, .int .i64 0, .int .i64 0, .string ⟨#[]⟩]), 4, 40) := by kernel_rfl
theorem Tryz.infoMp : (Tryz.prog.info? 44).map (fun i => (i.zero, i.size, i.bytes)) = some (some (Value.agg #[.int .i64 0, .slice none 0 0, .slice none 0 0]), 3, 56) := by kernel_rfl
/-- Where a writer stands: its tape (bytes below B), its rows (blocks from b0 on), its own block. -/
structure Wx where
  B : Nat
  b0 : Nat
  g : Nat
  tp : Nat
  A : Option Addr
  n : Nat
  cap : Nat
  xs : List UInt8
/-- What a writer turns. -/
def Ow (x : Wx) : Nat → Prop := fun q => q = x.tp ∨ x.b0 ≤ q

theorem Keep.of_only {E : TypeId → Prop} {S : Nat → Prop} {w w' : World} (h : Only S w w') (hS : ∀ q t cs, S q → Blk w q t cs → E t) : Keep E w w' := fun q t cs hb hE => h.blk hb (fun hs => hE (hS q t cs hs hb))
theorem blk_type {w : World} {q : Nat} {t t2 : TypeId} {cs cs2 : Array Value} (h : Blk w q t cs) (h2 : Blk w q t2 cs2) : t = t2 := by
  rcases Nat.decEq t t2 with h3 | h3
  · exact absurd rfl (Blk.ne_ h h2 h3)
  · exact h3
/-- The types of the blocks that a writer turns. -/
def WE (t : TypeId) : Prop := t = 166 ∨ t = 32 ∨ t = 98 ∨ t = 133 ∨ t = 44
def Fr (x : Wx) (w w' : World) : Prop := Only (Ow x) w w' ∧ Keep WE w w'
theorem Fr.refl (x : Wx) (w : World) : Fr x w w := ⟨Only.refl _ _, Keep.of_empty (Only.refl _ _)⟩
theorem Fr.trans {x : Wx} {a b c : World} (h : Fr x a b) (k : Fr x b c) : Fr x a c := ⟨h.1.trans k.1, h.2.trans k.2⟩
theorem Fr.of_below {x : Wx} {w w' : World} (h : Below w.heap.size w w') : Fr x w w' := ⟨Only.of_below h, Keep.of_empty (Only.of_below h)⟩
/-- Texts in a block of their own, or none. -/
def StrB (w : World) (A : Option Addr) (n c : Nat) (l : List Bs) : Prop := (l = [] ∧ A = none ∧ n = 0 ∧ c = 0) ∨ ∃ b, A = some ⟨b, 0, none⟩ ∧ n = l.length ∧ c = l.length ∧ Blk w b 9 (l.map SV).toArray
theorem StrB.keep {w w' : World} {A : Option Addr} {n c : Nat} {l : List Bs} (h : StrB w A n c l) (k : Keep WE w w') : StrB w' A n c l := by
  rcases h with h | ⟨b, h1, h2, h3, h4⟩
  · exact Or.inl h
  · exact Or.inr ⟨b, h1, h2, h3, k _ _ _ h4 (by unfold WE; decide)⟩
def MapsAt (w : World) (lm : List MpR) (maps : List MpD) : Prop := lm.length = maps.length ∧ ∀ (i : Nat) (r : MpR) (d : MpD), lm[i]? = some r → maps[i]? = some d → r.at_ = d.at_ ∧ StrB w r.A r.n r.c d.locals ∧ StrB w r.A2 r.n2 r.c2 d.stack
theorem MapsAt.keep {w w' : World} {lm : List MpR} {maps : List MpD} (h : MapsAt w lm maps) (k : Keep WE w w') : MapsAt w' lm maps :=
  ⟨h.1, fun i r d h1 h2 => ⟨(h.2 i r d h1 h2).1, (h.2 i r d h1 h2).2.1.keep k, (h.2 i r d h1 h2).2.2.keep k⟩⟩
/-- A writer in memory. -/
structure WrD (x : Wx) (w : World) (D : Int) (s : Ws) (C : Option Addr) (nc cc : Nat) (T : Option Addr) (nt ct : Nat) (M : Option Addr) (nm cm : Nat) (lm : List MpR) : Prop where
  blk : Blk w x.g 166 #[.pointer (some ⟨x.tp, 0, none⟩), .slice C nc cc, .slice T nt ct, .slice M nm cm, .int .i64 D, .int .i64 s.bud]
  bud : -9223372036854775808 ≤ s.bud ∧ s.bud ≤ 9223372036854775807
  tape : TapeAt w x.B x.tp x.A x.n x.cap x.xs s.at_
  code : GotR inC 7 98 x.b0 w C nc cc s.code
  traps : GotR trC 4 133 x.b0 w T nt ct s.traps
  maps : GotR mpC 3 44 x.b0 w M nm cm lm
  mps : MapsAt w lm s.maps
  g0 : x.b0 ≤ x.g
  tp0 : x.tp < x.b0
  b0 : x.b0 ≤ w.heap.size
def WrS (x : Wx) (w : World) (D : Int) (s : Ws) : Prop := ∃ C nc cc T nt ct M nm cm lm, WrD x w D s C nc cc T nt ct M nm cm lm
section
variable {x : Wx} {w w' : World} {D : Int} {s : Ws} {C T M : Option Addr} {nc cc nt ct nm cm : Nat} {lm : List MpR}
theorem WrD.below (h : WrD x w D s C nc cc T nt ct M nm cm lm) (q : Below w.heap.size w w') : WrD x w' D s C nc cc T nt ct M nm cm lm :=
  ⟨h.blk.of (q.block _ h.blk.lt), h.bud, h.tape.below q, h.code.below inC_len q, h.traps.below trC_len q, h.maps.below mpC_len q, h.mps.keep (Keep.of_empty (Only.of_below q)), h.g0, h.tp0, Nat.le_trans h.b0 q.size⟩
theorem WrS.below (h : WrS x w D s) (q : Below w.heap.size w w') : WrS x w' D s := by
  obtain ⟨C, nc, cc, T, nt, ct, M, nm, cm, lm, h⟩ := h
  exact ⟨C, nc, cc, T, nt, ct, M, nm, cm, lm, h.below q⟩
theorem keep_tape (h : WrD x w D s C nc cc T nt ct M nm cm lm) (q : Only (· = x.tp) w w') : Keep WE w w' :=
  Keep.of_block h.tape.blk (Or.inr (Or.inl rfl)) q
theorem ow_tape (x : Wx) : ∀ q, q = x.tp → Ow x q := fun q h => Or.inl h
/-- Only the tape turned. -/
theorem WrD.tape_ {a : Nat} (h : WrD x w D s C nc cc T nt ct M nm cm lm) (q : Only (· = x.tp) w w') (ht : TapeAt w' x.B x.tp x.A x.n x.cap x.xs a) : WrD x w' D { s with at_ := a } C nc cc T nt ct M nm cm lm :=
  ⟨q.blk h.blk (fun e => by have := h.tp0; have := h.g0; omega), h.bud, ht, h.code.only inC_len q (fun i h1 _ e => by have := h.tp0; omega), h.traps.only trC_len q (fun i h1 _ e => by have := h.tp0; omega), h.maps.only mpC_len q (fun i h1 _ e => by have := h.tp0; omega), h.mps.keep (keep_tape h q), h.g0, h.tp0, Nat.le_trans h.b0 q.size⟩
/-- One of the writer's rows grew; what isn't that row's block stays. -/
theorem only_grown {base : Nat} {A : Option Addr} {n c : Nat} (g : w.grownBy w' (Value.slice A n c).ownBlock) (hr : ∀ q, (Value.slice A n c).ownBlock = some q → base ≤ q) : Only (fun q => (Value.slice A n c).ownBlock = some q) w w' := Only.of_grown g (fun k e _ => e)
theorem gotR_block {α : Type} {cells : α → List Value} {k : Nat} {t : TypeId} {base : Nat} {A : Option Addr} {n c : Nat} {l : List α} (h : GotR cells k t base w A n c l) {q : Nat} (hq : (Value.slice A n c).ownBlock = some q) : ∃ cur, Blk w q t cur ∧ base ≤ q := by
  rcases h.here with h0 | ⟨g, cur, h1, h2, h3, _⟩
  · subst h0; cases hq
  · subst h1
    cases hq
    exact ⟨cur, h3, h2⟩
/-- Rows of two types lie apart. -/
theorem GotR.apart {α β : Type} {cells : α → List Value} {cells2 : β → List Value} {k k2 : Nat} {t t2 : TypeId} {base base2 : Nat} {A A2 : Option Addr} {n c n2 c2 : Nat} {l : List α} {l2 : List β} (hk2 : ∀ f, (cells2 f).length = k2) (h : GotR cells k t base w A n c l) (h2 : GotR cells2 k2 t2 base2 w A2 n2 c2 l2) (hne : t ≠ t2)
    (o : Only (fun q => (Value.slice A n c).ownBlock = some q) w w') : GotR cells2 k2 t2 base2 w' A2 n2 c2 l2 := by
  rcases h2.here with h0 | ⟨g, cur, h1, hg, hb, _⟩
  · subst h0
    obtain ⟨rfl, rfl⟩ := h2.isNil rfl
    have hl : l2 = [] := List.eq_nil_of_length_eq_zero h2.row.1
    subst hl
    exact GotR.nil_ _ _ _ _ _
  · subst h1
    have hnq : ¬ ((Value.slice A n c).ownBlock = some g) := fun e => by
      obtain ⟨cur2, hb2, _⟩ := gotR_block h e
      exact Blk.ne_ hb2 hb hne rfl
    have own' : w'.ownsRow base2 t2 k2 (.slice (some ⟨g, 0, none⟩) n2 c2) n2 (l2.flatMap cells2) := by
      rcases h2.own.2 with ⟨e, _⟩ | ⟨g', cap', cur', e, hg', hh, r⟩
      · cases e
      · cases e
        exact ⟨h2.own.1, Or.inr ⟨g, c2, cur', rfl, hg', (o.block g (Array.getElem?_eq_some_iff.1 hh).1 hnq).trans hh, r⟩⟩
    obtain ⟨A', c', e, h'⟩ := GotR.of_own hk2 own' h2.row.1
    cases e
    exact h'
/-- A row beside a block of another type. -/
theorem GotR.near {α : Type} {cells : α → List Value} {k : Nat} {t t2 : TypeId} {base g2 : Nat} {A : Option Addr} {n c : Nat} {l : List α} {w w' : World} {cs : Array Value} (hk : ∀ f, (cells f).length = k) (h : GotR cells k t base w A n c l) (hb2 : Blk w g2 t2 cs) (hne : t ≠ t2) (o : Only (· = g2) w w') : GotR cells k t base w' A n c l := by
  rcases h.here with h0 | ⟨g, cur, h1, hg, hb, _⟩
  · subst h0
    obtain ⟨rfl, rfl⟩ := h.isNil rfl
    have hl : l = [] := List.eq_nil_of_length_eq_zero h.row.1
    subst hl
    exact GotR.nil_ _ _ _ _ _
  · subst h1
    have hgx : g ≠ g2 := Blk.ne_ hb hb2 hne
    have own' : w'.ownsRow base t k (.slice (some ⟨g, 0, none⟩) n c) n (l.flatMap cells) := by
      rcases h.own.2 with ⟨e, _⟩ | ⟨g', cap', cur', e, hg', hh, r⟩
      · cases e
      · cases e
        exact ⟨h.own.1, Or.inr ⟨g, c, cur', rfl, hg', (o.block g (Array.getElem?_eq_some_iff.1 hh).1 hgx).trans hh, r⟩⟩
    obtain ⟨A', c', e, h'⟩ := GotR.of_own hk own' h.row.1
    cases e
    exact h'
/-- A cell of the writer's own block turned. -/
theorem WrD.own_ (h : WrD x w D s C nc cc T nt ct M nm cm lm) (i : Nat) (v : Value) : Only (· = x.g) w (w.setCell ⟨x.g, i, none⟩ v) ∧ Fr x w (w.setCell ⟨x.g, i, none⟩ v) := by
  have o2 : Only (· = x.g) w (w.setCell ⟨x.g, i, none⟩ v) := (Only.refl (· = x.g) w).setCell (p := ⟨x.g, i, none⟩) (Or.inl rfl) _
  exact ⟨o2, o2.mono (fun i _ e => Or.inr (by rw [e]; exact h.g0)), Keep.of_block h.blk (Or.inl rfl) o2⟩
/-- The rows, the tape beside a turn of the writer's own block. -/
theorem WrD.beside (h : WrD x w D s C nc cc T nt ct M nm cm lm) (o2 : Only (· = x.g) w w') : TapeAt w' x.B x.tp x.A x.n x.cap x.xs s.at_ ∧ GotR inC 7 98 x.b0 w' C nc cc s.code ∧ GotR trC 4 133 x.b0 w' T nt ct s.traps ∧ GotR mpC 3 44 x.b0 w' M nm cm lm ∧ MapsAt w' lm s.maps ∧ x.b0 ≤ w'.heap.size :=
  ⟨h.tape.only o2 (fun e => by have := h.g0; have := h.tp0; omega) (fun i e => by have := h.g0; have := h.tp0; have := h.tape.new; omega), h.code.near inC_len h.blk (by decide) o2, h.traps.near trC_len h.blk (by decide) o2, h.maps.near mpC_len h.blk (by decide) o2, h.mps.keep (Keep.of_block h.blk (Or.inl rfl) o2), Nat.le_trans h.b0 o2.size⟩
theorem wrap_bd (n : Int) : -9223372036854775808 ≤ wrap64 n ∧ wrap64 n ≤ 9223372036854775807 := by unfold wrap64; omega
/-- The budget turned; the depth. -/
theorem WrD.paid_ (h : WrD x w D s C nc cc T nt ct M nm cm lm) : WrD x (w.setCell ⟨x.g, 5, none⟩ (.int .i64 (wrap64 (s.bud - 1)))) D s.paid C nc cc T nt ct M nm cm lm ∧ Fr x w (w.setCell ⟨x.g, 5, none⟩ (.int .i64 (wrap64 (s.bud - 1)))) := by
  obtain ⟨o2, f2⟩ := h.own_ 5 (.int .i64 (wrap64 (s.bud - 1)))
  obtain ⟨h1, h2, h3, h4, h5, h6⟩ := h.beside o2
  exact ⟨⟨by have := h.blk.set_ 5 (.int .i64 (wrap64 (s.bud - 1))); simpa [Ws.paid] using this, wrap_bd _, h1, h2, h3, h4, h5, h.g0, h.tp0, h6⟩, f2⟩
theorem WrD.depth_ (h : WrD x w D s C nc cc T nt ct M nm cm lm) (D2 : Int) : WrD x (w.setCell ⟨x.g, 4, none⟩ (.int .i64 D2)) D2 s C nc cc T nt ct M nm cm lm ∧ Fr x w (w.setCell ⟨x.g, 4, none⟩ (.int .i64 D2)) := by
  obtain ⟨o2, f2⟩ := h.own_ 4 (.int .i64 D2)
  obtain ⟨h1, h2, h3, h4, h5, h6⟩ := h.beside o2
  exact ⟨⟨by have := h.blk.set_ 4 (.int .i64 D2); simpa using this, h.bud, h1, h2, h3, h4, h5, h.g0, h.tp0, h6⟩, f2⟩
theorem ne_own {α : Type} {cells : α → List Value} {k : Nat} {t : TypeId} {A : Option Addr} {n c : Nat} {l : List α} (h : GotR cells k t x.b0 w A n c l) {t2 : TypeId} {cs : Array Value} {g : Nat} (hb : Blk w g t2 cs) (hne : t ≠ t2) : ¬ ((Value.slice A n c).ownBlock = some g) := fun e => by
  obtain ⟨cur, hb2, _⟩ := gotR_block h e
  exact Blk.ne_ hb2 hb hne rfl
theorem keep_grown {α : Type} {cells : α → List Value} {k : Nat} {t : TypeId} {A : Option Addr} {n c : Nat} {l : List α} (h : GotR cells k t x.b0 w A n c l) (ht : WE t) (o : Only (fun q => (Value.slice A n c).ownBlock = some q) w w') : Keep WE w w' :=
  Keep.of_only o (fun q t2 cs hq hb => by
    obtain ⟨cur, hb2, _⟩ := gotR_block h hq
    exact blk_type hb2 hb ▸ ht)
theorem tape_grown {A : Option Addr} {n c : Nat} (h : WrD x w D s C nc cc T nt ct M nm cm lm) (hr : ∀ q, (Value.slice A n c).ownBlock = some q → x.b0 ≤ q) (o : Only (fun q => (Value.slice A n c).ownBlock = some q) w w') : TapeAt w' x.B x.tp x.A x.n x.cap x.xs s.at_ :=
  h.tape.only o (fun e => by have := hr _ e; have := h.tp0; omega) (fun i e => by have := hr i e; have := h.tp0; have : x.B ≤ x.tp := h.tape.new; omega)
/-- An instruction more. -/
theorem WrD.push {w2 : World} (h : WrD x w D s C nc cc T nt ct M nm cm lm) {C2 : Option Addr} {c2 : Nat} {i : InD} (hG : GotR inC 7 98 x.b0 w2 C2 (nc + 1) c2 (s.code ++ [i])) (hg : w.grownBy w2 (Value.slice C nc cc).ownBlock) (hr : ∀ q, (Value.slice C nc cc).ownBlock = some q → x.b0 ≤ q) :
    WrD x (w2.setCell ⟨x.g, 1, none⟩ (.slice C2 (nc + 1) c2)) D (s.push i) C2 (nc + 1) c2 T nt ct M nm cm lm ∧ Fr x w (w2.setCell ⟨x.g, 1, none⟩ (.slice C2 (nc + 1) c2)) := by
  have o1 := only_grown hg hr
  have hk := keep_grown h.code (Or.inr (Or.inr (Or.inl rfl))) o1
  have b2 := o1.blk h.blk (ne_own h.code h.blk (by decide))
  have o2 : Only (· = x.g) w2 (w2.setCell ⟨x.g, 1, none⟩ (.slice C2 (nc + 1) c2)) := (Only.refl (· = x.g) w2).setCell (p := ⟨x.g, 1, none⟩) (Or.inl rfl) _
  have k2 : Keep WE w2 (w2.setCell ⟨x.g, 1, none⟩ (.slice C2 (nc + 1) c2)) := Keep.of_block b2 (Or.inl rfl) o2
  refine ⟨⟨by have := b2.set_ 1 (.slice C2 (nc + 1) c2); simpa [Ws.push] using this, h.bud, ?_, hG.near inC_len b2 (by decide) o2, (GotR.apart trC_len h.code h.traps (by decide) o1).near trC_len b2 (by decide) o2, (GotR.apart mpC_len h.code h.maps (by decide) o1).near mpC_len b2 (by decide) o2, (h.mps.keep hk).keep k2, h.g0, h.tp0, Nat.le_trans h.b0 (Nat.le_trans o1.size o2.size)⟩, (o1.mono (fun i _ e => Or.inr (hr i e))).trans (o2.mono (fun i _ e => Or.inr (by rw [e]; exact h.g0))), hk.trans k2⟩
  exact (tape_grown h hr o1).only o2 (fun e => by have := h.g0; have := h.tp0; omega) (fun i e => by have := h.g0; have := h.tp0; have : x.B ≤ x.tp := h.tape.new; omega)
/-- A trap more. -/
theorem WrD.trap_ {w2 : World} (h : WrD x w D s C nc cc T nt ct M nm cm lm) {T2 : Option Addr} {c2 : Nat} {i : TrD} (hG : GotR trC 4 133 x.b0 w2 T2 (nt + 1) c2 (s.traps ++ [i])) (hg : w.grownBy w2 (Value.slice T nt ct).ownBlock) (hr : ∀ q, (Value.slice T nt ct).ownBlock = some q → x.b0 ≤ q) :
    WrD x (w2.setCell ⟨x.g, 2, none⟩ (.slice T2 (nt + 1) c2)) D (s.trapped i) C nc cc T2 (nt + 1) c2 M nm cm lm ∧ Fr x w (w2.setCell ⟨x.g, 2, none⟩ (.slice T2 (nt + 1) c2)) := by
  have o1 := only_grown hg hr
  have hk := keep_grown h.traps (Or.inr (Or.inr (Or.inr (Or.inl rfl)))) o1
  have b2 := o1.blk h.blk (ne_own h.traps h.blk (by decide))
  have o2 : Only (· = x.g) w2 (w2.setCell ⟨x.g, 2, none⟩ (.slice T2 (nt + 1) c2)) := (Only.refl (· = x.g) w2).setCell (p := ⟨x.g, 2, none⟩) (Or.inl rfl) _
  have k2 : Keep WE w2 (w2.setCell ⟨x.g, 2, none⟩ (.slice T2 (nt + 1) c2)) := Keep.of_block b2 (Or.inl rfl) o2
  refine ⟨⟨by have := b2.set_ 2 (.slice T2 (nt + 1) c2); simpa [Ws.trapped] using this, h.bud, ?_, (GotR.apart inC_len h.traps h.code (by decide) o1).near inC_len b2 (by decide) o2, hG.near trC_len b2 (by decide) o2, (GotR.apart mpC_len h.traps h.maps (by decide) o1).near mpC_len b2 (by decide) o2, (h.mps.keep hk).keep k2, h.g0, h.tp0, Nat.le_trans h.b0 (Nat.le_trans o1.size o2.size)⟩, (o1.mono (fun i _ e => Or.inr (hr i e))).trans (o2.mono (fun i _ e => Or.inr (by rw [e]; exact h.g0))), hk.trans k2⟩
  exact (tape_grown h hr o1).only o2 (fun e => by have := h.g0; have := h.tp0; omega) (fun i e => by have := h.g0; have := h.tp0; have : x.B ≤ x.tp := h.tape.new; omega)
/-- A map more. -/
theorem WrD.map_ {w2 : World} (h : WrD x w D s C nc cc T nt ct M nm cm lm) {M2 : Option Addr} {c2 : Nat} {r : MpR} {d : MpD} (hG : GotR mpC 3 44 x.b0 w2 M2 (nm + 1) c2 (lm ++ [r])) (hg : w.grownBy w2 (Value.slice M nm cm).ownBlock) (hr : ∀ q, (Value.slice M nm cm).ownBlock = some q → x.b0 ≤ q)
    (hd : r.at_ = d.at_ ∧ StrB w r.A r.n r.c d.locals ∧ StrB w r.A2 r.n2 r.c2 d.stack) :
    WrD x (w2.setCell ⟨x.g, 3, none⟩ (.slice M2 (nm + 1) c2)) D { s with maps := s.maps ++ [d] } C nc cc T nt ct M2 (nm + 1) c2 (lm ++ [r]) ∧ Fr x w (w2.setCell ⟨x.g, 3, none⟩ (.slice M2 (nm + 1) c2)) := by
  have o1 := only_grown hg hr
  have hk := keep_grown h.maps (Or.inr (Or.inr (Or.inr (Or.inr rfl)))) o1
  have b2 := o1.blk h.blk (ne_own h.maps h.blk (by decide))
  have o2 : Only (· = x.g) w2 (w2.setCell ⟨x.g, 3, none⟩ (.slice M2 (nm + 1) c2)) := (Only.refl (· = x.g) w2).setCell (p := ⟨x.g, 3, none⟩) (Or.inl rfl) _
  have k2 : Keep WE w2 (w2.setCell ⟨x.g, 3, none⟩ (.slice M2 (nm + 1) c2)) := Keep.of_block b2 (Or.inl rfl) o2
  have hm : MapsAt w (lm ++ [r]) (s.maps ++ [d]) := by
    refine ⟨by simp [h.mps.1], fun i r' d' h1 h2 => ?_⟩
    rcases Nat.lt_or_ge i lm.length with hi | hi
    · rw [List.getElem?_append_left hi] at h1
      rw [List.getElem?_append_left (by rw [← h.mps.1]; exact hi)] at h2
      exact h.mps.2 i r' d' h1 h2
    · rw [List.getElem?_append_right hi] at h1
      rw [List.getElem?_append_right (by rw [← h.mps.1]; exact hi)] at h2
      rw [h.mps.1] at h1
      rcases Nat.eq_zero_or_pos (i - s.maps.length) with h0 | h0
      · rw [h0] at h1 h2
        cases h1
        cases h2
        exact hd
      · rw [List.getElem?_eq_none (by simp; omega)] at h1
        cases h1
  refine ⟨⟨by have := b2.set_ 3 (.slice M2 (nm + 1) c2); simpa using this, h.bud, ?_, (GotR.apart inC_len h.maps h.code (by decide) o1).near inC_len b2 (by decide) o2, (GotR.apart trC_len h.maps h.traps (by decide) o1).near trC_len b2 (by decide) o2, hG.near mpC_len b2 (by decide) o2, (hm.keep hk).keep k2, h.g0, h.tp0, Nat.le_trans h.b0 (Nat.le_trans o1.size o2.size)⟩, (o1.mono (fun i _ e => Or.inr (hr i e))).trans (o2.mono (fun i _ e => Or.inr (by rw [e]; exact h.g0))), hk.trans k2⟩
  exact (tape_grown h hr o1).only o2 (fun e => by have := h.g0; have := h.tp0; omega) (fun i e => by have := h.g0; have := h.tp0; have : x.B ≤ x.tp := h.tape.new; omega)
end

theorem wpList_push {ops : Array Oper} {rest : List Oper} {q : Oper} {u : Act} {w : World} {Q : Exit → Act → World → Prop} (hgd : q.guard = none) (s y : Operand) (hq : q.op = .call { callee := .builtin .append, args := #[s, y], argTypes := #[37, 37] })
    (b0 : Nat) (C : Option Addr) (nc cc : Nat) (lc : List InD) (hs : u.eval s = .slice C nc cc) (hown : GotR inC 7 98 b0 w C nc cc lc) (gl : Nat) (i : InD) (hx : u.eval y = .slice (some ⟨gl, 0, none⟩) 1 1) (hB : Blk w gl 98 (inC i).toArray) (hm : nc + 1 ≤ 16777216) (hbase : b0 ≤ w.heap.size)
    (h : ∀ A' c' w', GotR inC 7 98 b0 w' A' (nc + 1) c' (lc ++ [i]) → w.grownBy w' (Value.slice C nc cc).ownBlock → (∀ g, (Value.slice C nc cc).ownBlock = some g → b0 ≤ g) → wpList Tryz.prog ops Q rest (u.put q.dst (.slice A' (nc + 1) c')) w') : wpList Tryz.prog ops Q (q :: rest) u w :=
  wpList_append_rows (S := Empty) inC_len inC_one (by decide) 37 98 _ 88 Tryz.underlying37 Tryz.infoIn (by simp [Value.cells]) (by decide) hgd s y hq b0 C nc cc lc hs hown (some ⟨gl, 0, none⟩) 1 1 [i] hx
    (RowSl.of_blk inC_len hB rfl (Nat.le_refl _) (by unfold maxLen; omega) (fun j _ => by simp) (fun h => h)) (fun h => by cases h) hm hbase (fun A' c' w' h1 h2 h3 _ => h A' c' w' h1 h2 h3)


end Go.Proofs.YtdkkpcbebhgbiaaGreatDoor

/- carpetbagmake's Next, told exactly; its writer's op, name, number, branch, label; printed by gen/gen_wc.py. -/
namespace Go.Proofs.YtdkkpcbebhgbiaaGreatDoor
set_option maxRecDepth 100000
open Go.RowKit Go.Maps

theorem belowA (w : World) (o : Obj) : Below w.heap.size w (w.alloc o) := (Below.refl _ _).alloc (Nat.le_refl _) _
theorem cellA {w : World} {a : Addr} {v : Value} (o : Obj) (h : w.cell? a = some v) : (w.alloc o).cell? a = some v := ((belowA w o).cell (cell_lt h)).trans h
set_option maxHeartbeats 2000000 in
theorem next_ex (B g : Nat) (A : Option Addr) (n cap : Nat) (xs : List UInt8) (at_ k : Nat) (w : World) (h : TapeAt w B g A n cap xs at_) (hk : 2 ≤ k) (hk2 : k ≤ 1048576) :
    Calls Tryz.prog 57 #[.pointer (some ⟨g, 0, none⟩), .int .i64 (k : Int)] w fun e1 w' => e1 = .returned (.int .i64 (nxV xs k at_ : Int)) ∧ TapeAt w' B g A n cap xs (nxA xs at_) ∧ Only (· = g) w w' := by
  have hxl : xs.length = n := h.row.1
  have hn1 := h.n1
  have hle := h.le
  have c0 : w.cell? ⟨g, 0, none⟩ = some (.slice A n cap) := h.blk.cell 0
  have c1 : w.cell? ⟨g, 1, none⟩ = some (.int .i64 (at_ : Int)) := h.blk.cell 1
  have f1 := h.blk.frozen 1
  have hgl := h.blk.lt
  have hcap := h.row.2.1
  have hk3 : decide ((k : Int) < 2) = false := by simp; omega
  by_cases hlt : at_ < n
  · obtain ⟨ad, x, rfl, had, hadB, hx, hc⟩ := h.row.at_ hlt
    have HV : Hid (nxV xs k at_ = x.toNat % k ∧ nxA xs at_ = at_ + 1) := Lib.hid (by
      have h1 : at_ < xs.length := by omega
      unfold nxV nxA
      rw [if_pos h1, if_pos h1]
      refine ⟨?_, rfl⟩
      rw [List.getD_eq_getElem?_getD, hx]
      rfl)
    have hag : ad.block ≠ g := fun e => hadB (by rw [e]; exact h.new)
    have hO : Only (· = g) w (w.setCell ⟨g, 1, none⟩ (.int .i64 ((at_ : Int) + 1))) := (Only.refl (· = g) w).setCell (p := ⟨g, 1, none⟩) (Or.inl rfl) _
    have hb1 := h.blk.set_ 1 (.int .i64 ((at_ : Int) + 1))
    have HT : Hid (TapeAt (w.setCell ⟨g, 1, none⟩ (.int .i64 ((at_ : Int) + 1))) B g (some ad) n cap xs (at_ + 1)) := Lib.hid ⟨by simpa using hb1, h.row.only hO (fun i _ e => by rw [e]; exact h.new), by omega, h.new, hn1⟩
    have hlt2 : decide ((n : Int) ≤ (at_ : Int)) = false := by simp; omega
    have HO := Lib.hid hO
    have hxb : x.toNat < 256 := x.toNat_lt
    have hd : ((at_ : Int) + 1 - 1) = (at_ : Int) := by omega
    have hc2 : (w.setCell ⟨g, 1, none⟩ (.int .i64 ((at_ : Int) + 1))).cell? (ad.add at_) = some (.int .u8 (x.toNat : Int)) := (hO.cell (p := ad.add at_) (by rw [addr_add_block]; exact had) (by rw [addr_add_block]; exact hag)).trans hc
    have hd0 : (w.setCell ⟨g, 1, none⟩ (.int .i64 ((at_ : Int) + 1))).cell? ⟨g, 0, none⟩ = some (.slice (some ad) n cap) := hb1.cell 0
    have hd1 : (w.setCell ⟨g, 1, none⟩ (.int .i64 ((at_ : Int) + 1))).cell? ⟨g, 1, none⟩ = some (.int .i64 ((at_ : Int) + 1)) := by rw [hb1.cell]; rfl
    clear h hx hO hb1
    go_enter Tryz.func57, Tryz.ntmps57
    go_wp2_with fail
    go_region
    go_wp2_with fail
    obtain ⟨w1, hw1⟩ : ∃ w1, w1 = w.setCell ⟨g, 1, none⟩ (.int .i64 ((at_ : Int) + 1)) := ⟨_, rfl⟩
    rw [← hw1] at HT HO hc2 hd0 hd1 ⊢
    have hmod : (x.toNat : Int) % (k : Int) = ((x.toNat % k : Nat) : Int) := by simp
    have hk0 : ((k : Int) == 0) = false := by simp; omega
    clear hw1 c0 c1 f1
    go_region
    go_wp2_with fail
    go_ret
    rw [HV.out.1, HV.out.2]
    exact ⟨by simp, HT.out.only ((Only.refl Empty w1).drew.drew) (fun h => h) (fun _ h => h.elim), HO.out.drew.drew⟩
  · have hlt2 : decide ((n : Int) ≤ (at_ : Int)) = true := by simp; omega
    have HV : Hid (nxV xs k at_ = 0 ∧ nxA xs at_ = at_) := Lib.hid (by
      have h1 : ¬ at_ < xs.length := by omega
      unfold nxV nxA
      rw [if_neg h1, if_neg h1]
      exact ⟨rfl, rfl⟩)
    have HT := Lib.hid h
    clear h
    go_enter Tryz.func57, Tryz.ntmps57
    go_wp2_with fail
    go_region
    go_wp2_with fail
    go_ret
    rw [HV.out.1, HV.out.2]
    exact ⟨rfl, HT.out.only (Only.refl Empty w).drew (fun h => h) (fun _ h => h.elim), (Only.refl _ _).drew⟩


theorem next_s (x : Wx) (w : World) (D : Int) (s : Ws) (k : Nat) (kv : Int) (h : WrS x w D s) (hk : 2 ≤ k) (hk2 : k ≤ 1048576) (hv : kv = (k : Int)) :
    Calls Tryz.prog 57 #[.pointer (some ⟨x.tp, 0, none⟩), .int .i64 kv] w fun e w' => e = .returned (.int .i64 (nxV x.xs k s.at_ : Int)) ∧ WrS x w' D (s.nx x.xs) ∧ Fr x w w' := by
  subst hv
  obtain ⟨C, nc, cc, T, nt, ct, M, nm, cm, lm, hD⟩ := h
  refine (next_ex x.B x.tp x.A x.n x.cap x.xs s.at_ k w hD.tape hk hk2).mono ?_
  rintro e w' ⟨rfl, ht, ho⟩
  exact ⟨rfl, ⟨C, nc, cc, T, nt, ct, M, nm, cm, lm, hD.tape_ ho ht⟩, ho.mono (fun i _ e => ow_tape x i e), keep_tape hD ho⟩
theorem WrS.t {x : Wx} {w : World} {D : Int} {s : Ws} (h : WrS x w D s) : w.cell? ⟨x.g, 0, none⟩ = some (.pointer (some ⟨x.tp, 0, none⟩)) := by
  obtain ⟨C, nc, cc, T, nt, ct, M, nm, cm, lm, hD⟩ := h
  exact hD.blk.cell 0
theorem WrS.depth {x : Wx} {w : World} {D : Int} {s : Ws} (h : WrS x w D s) : w.cell? ⟨x.g, 4, none⟩ = some (.int .i64 D) := by
  obtain ⟨C, nc, cc, T, nt, ct, M, nm, cm, lm, hD⟩ := h
  exact hD.blk.cell 4
theorem WrS.lt {x : Wx} {w : World} {D : Int} {s : Ws} (h : WrS x w D s) : x.g < w.heap.size := by
  obtain ⟨C, nc, cc, T, nt, ct, M, nm, cm, lm, hD⟩ := h
  exact hD.blk.lt

set_option maxHeartbeats 1000000 in
theorem op_s (x : Wx) (w : World) (D : Int) (s : Ws) (N : Nat) (o : UInt8) (n : Int) (h : WrS x w D s) (hz : s.sz N) (hN : N ≤ 16000000) :
    Calls Tryz.prog 121 #[.pointer (some ⟨x.g, 0, none⟩), .int .u8 (o.toNat : Int), .int .i64 n] w fun e w' => e = .returned (.tuple #[]) ∧ WrS x w' D (s.op o n) ∧ Fr x w w' := by
  obtain ⟨C, nc, cc, T, nt, ct, M, nm, cm, lm, hD⟩ := h
  have hnc : nc ≤ N := by rw [← hD.code.row.1]; exact hz.1
  have c1 : w.cell? ⟨x.g, 1, none⟩ = some (.slice C nc cc) := hD.blk.cell 1
  have hgl := hD.blk.lt
  have hb := belowA w (.cells (inC (⟨o, n, 0, [], [], [], []⟩ : InD)).toArray 98)
  have hD1 := hD.below hb
  have f1 : w.frozen? ⟨x.g, 1, none⟩ = false := hD.blk.frozen 1
  have HC : Hid (GotR inC 7 98 x.b0 (w.alloc (.cells (inC (⟨o, n, 0, [], [], [], []⟩ : InD)).toArray 98)) C nc cc s.code) := Lib.hid hD1.code
  have HB : Hid (Blk (w.alloc (.cells (inC (⟨o, n, 0, [], [], [], []⟩ : InD)).toArray 98)) w.heap.size 98 (inC (⟨o, n, 0, [], [], [], []⟩ : InD)).toArray) := Lib.hid (Blk.new _ _ _)
  have hb0 := hD1.b0
  have HGO := Lib.hid (ne_own hD.code hD.blk (by decide))
  have HD1 := Lib.hid hD1
  have HBE := Lib.hid hb
  clear hD hD1 hb hz
  simp only [inC] at HC HB HBE HD1 hb0
  go_enter Tryz.func121, Tryz.ntmps121
  go_wp2_with (at_builtin; refine wpList_push rfl _ _ rfl x.b0 C nc cc s.code rfl HC.out w.heap.size (⟨o, n, 0, [], [], [], []⟩ : InD) rfl HB.out (by omega) hb0 ?_; intro C2 c2 w2 hG hg hr; have s1 : w2.cell? ⟨x.g, 1, none⟩ = some (.slice C nc cc) := ((only_grown hg hr).cell (p := ⟨x.g, 1, none⟩) (by simp; omega) HGO.out).trans (cellA _ c1); have s2 : w2.frozen? ⟨x.g, 1, none⟩ = false := (((only_grown hg hr).blk HD1.out.blk HGO.out)).frozen 1)
  go_end0
  obtain ⟨hP, hF⟩ := HD1.out.push hG hg hr
  exact ⟨rfl, ⟨C2, nc + 1, c2, T, nt, ct, M, nm, cm, lm, hP⟩, (Fr.of_below HBE.out).trans hF⟩

set_option maxHeartbeats 1000000 in
theorem name_s (x : Wx) (w : World) (D : Int) (s : Ws) (N : Nat) (o : UInt8) (xc xn xd : Bs) (h : WrS x w D s) (hz : s.sz N) (hN : N ≤ 16000000) :
    Calls Tryz.prog 123 #[.pointer (some ⟨x.g, 0, none⟩), .int .u8 (o.toNat : Int), .string (strB xc), .string (strB xn), .string (strB xd)] w fun e w' => e = .returned (.tuple #[]) ∧ WrS x w' D (s.name o xc xn xd) ∧ Fr x w w' := by
  obtain ⟨C, nc, cc, T, nt, ct, M, nm, cm, lm, hD⟩ := h
  have hnc : nc ≤ N := by rw [← hD.code.row.1]; exact hz.1
  have c1 : w.cell? ⟨x.g, 1, none⟩ = some (.slice C nc cc) := hD.blk.cell 1
  have hgl := hD.blk.lt
  have hb := belowA w (.cells (inC (⟨o, 0, 0, xc, xn, xd, []⟩ : InD)).toArray 98)
  have hD1 := hD.below hb
  have f1 : w.frozen? ⟨x.g, 1, none⟩ = false := hD.blk.frozen 1
  have HC : Hid (GotR inC 7 98 x.b0 (w.alloc (.cells (inC (⟨o, 0, 0, xc, xn, xd, []⟩ : InD)).toArray 98)) C nc cc s.code) := Lib.hid hD1.code
  have HB : Hid (Blk (w.alloc (.cells (inC (⟨o, 0, 0, xc, xn, xd, []⟩ : InD)).toArray 98)) w.heap.size 98 (inC (⟨o, 0, 0, xc, xn, xd, []⟩ : InD)).toArray) := Lib.hid (Blk.new _ _ _)
  have hb0 := hD1.b0
  have HGO := Lib.hid (ne_own hD.code hD.blk (by decide))
  have HD1 := Lib.hid hD1
  have HBE := Lib.hid hb
  clear hD hD1 hb hz
  simp only [inC] at HC HB HBE HD1 hb0
  go_enter Tryz.func123, Tryz.ntmps123
  go_wp2_with (at_builtin; refine wpList_push rfl _ _ rfl x.b0 C nc cc s.code rfl HC.out w.heap.size (⟨o, 0, 0, xc, xn, xd, []⟩ : InD) rfl HB.out (by omega) hb0 ?_; intro C2 c2 w2 hG hg hr; have s1 : w2.cell? ⟨x.g, 1, none⟩ = some (.slice C nc cc) := ((only_grown hg hr).cell (p := ⟨x.g, 1, none⟩) (by simp; omega) HGO.out).trans (cellA _ c1); have s2 : w2.frozen? ⟨x.g, 1, none⟩ = false := (((only_grown hg hr).blk HD1.out.blk HGO.out)).frozen 1)
  go_end0
  obtain ⟨hP, hF⟩ := HD1.out.push hG hg hr
  exact ⟨rfl, ⟨C2, nc + 1, c2, T, nt, ct, M, nm, cm, lm, hP⟩, (Fr.of_below HBE.out).trans hF⟩

theorem op_v (x : Wx) (w : World) (D : Int) (s : Ws) (N : Nat) (o : UInt8) (v n : Int) (hv : (o.toNat : Int) = v) (h : WrS x w D s) (hz : s.sz N) (hN : N ≤ 16000000) :
    Calls Tryz.prog 121 #[.pointer (some ⟨x.g, 0, none⟩), .int .u8 v, .int .i64 n] w fun e w' => e = .returned (.tuple #[]) ∧ WrS x w' D (s.op o n) ∧ Fr x w w' := by
  subst hv
  exact op_s x w D s N o n h hz hN
theorem name_v (x : Wx) (w : World) (D : Int) (s : Ws) (N : Nat) (o : UInt8) (v : Int) (xc xn xd : Bs) (s1 s2 s3 : ByteArray) (hv : (o.toNat : Int) = v) (h1 : strB xc = s1) (h2 : strB xn = s2) (h3 : strB xd = s3) (h : WrS x w D s) (hz : s.sz N) (hN : N ≤ 16000000) :
    Calls Tryz.prog 123 #[.pointer (some ⟨x.g, 0, none⟩), .int .u8 v, .string s1, .string s2, .string s3] w fun e w' => e = .returned (.tuple #[]) ∧ WrS x w' D (s.name o xc xn xd) ∧ Fr x w w' := by
  subst hv h1 h2 h3
  exact name_s x w D s N o xc xn xd h hz hN
set_option maxHeartbeats 1000000 in
theorem number_s (x : Wx) (w : World) (D : Int) (s : Ws) (N : Nat) (n : Int) (hn : -32768 ≤ n ∧ n < 32768) (h : WrS x w D s) (hz : s.sz N) (hN : N ≤ 16000000) :
    Calls Tryz.prog 122 #[.pointer (some ⟨x.g, 0, none⟩), .int .i64 n] w fun e w' => e = .returned (.tuple #[]) ∧ WrS x w' D (s.push (numI n)) ∧ Fr x w w' := by
  obtain ⟨hn1, hn2⟩ := hn
  by_cases ha : -1 ≤ n ∧ n ≤ 5
  · have hi : numI n = ⟨UInt8.ofNat (3 + n).toNat, 0, 0, [], [], [], []⟩ := by unfold numI; rw [if_pos ha]
    obtain ⟨ha1, ha2⟩ := ha
    have C := Lib.hid (fun (v : Int) (hv : ((UInt8.ofNat (3 + n).toNat).toNat : Int) = v) => op_v x w D s N (UInt8.ofNat (3 + n).toNat) v 0 hv h hz hN)
    have HI := Lib.hid hi
    clear h hi
    go_enter Tryz.func122, Tryz.ntmps122
    go_wp2_with fail
    refine (C.out _ (by rw [UInt8.toNat_ofNat']; omega)).mono ?_
    rintro e w1 ⟨rfl, h, ho⟩
    go_wp2
    go_end0
    rw [HI.out]
    exact ⟨rfl, h, ho⟩
  · by_cases hb : -128 ≤ n ∧ n < 128
    · have hi : numI n = ⟨16, n, 0, [], [], [], []⟩ := by unfold numI; rw [if_neg ha, if_pos hb]
      obtain ⟨hb1, hb2⟩ := hb
      have C := Lib.hid (op_v x w D s N 16 16 n rfl h hz hN)
      have HI := Lib.hid hi
      clear h hi
      by_cases h1 : -1 ≤ n
      · have h2 : ¬ n ≤ 5 := fun h => ha ⟨h1, h⟩
        clear ha
        go_enter Tryz.func122, Tryz.ntmps122
        go_wp2_with fail
        refine C.out.mono ?_
        rintro e w1 ⟨rfl, h, ho⟩
        go_wp2
        go_end0
        rw [HI.out]
        exact ⟨rfl, h, ho⟩
      · clear ha
        go_enter Tryz.func122, Tryz.ntmps122
        go_wp2_with fail
        refine C.out.mono ?_
        rintro e w1 ⟨rfl, h, ho⟩
        go_wp2
        go_end0
        rw [HI.out]
        exact ⟨rfl, h, ho⟩
    · have hi : numI n = ⟨17, n, 0, [], [], [], []⟩ := by unfold numI; rw [if_neg ha, if_neg hb, if_pos ⟨hn1, hn2⟩]
      have C := Lib.hid (op_v x w D s N 17 17 n rfl h hz hN)
      have HI := Lib.hid hi
      clear h hi
      by_cases h1 : -1 ≤ n
      · have h2 : ¬ n ≤ 5 := fun h => ha ⟨h1, h⟩
        have h3 : -128 ≤ n := by omega
        have h4 : ¬ n < 128 := fun h => hb ⟨h3, h⟩
        clear ha hb
        go_enter Tryz.func122, Tryz.ntmps122
        go_wp2_with fail
        refine C.out.mono ?_
        rintro e w1 ⟨rfl, h, ho⟩
        go_wp2
        go_end0
        rw [HI.out]
        exact ⟨rfl, h, ho⟩
      · have h3 : ¬ -128 ≤ n := fun h => hb ⟨h, by omega⟩
        clear ha hb
        go_enter Tryz.func122, Tryz.ntmps122
        go_wp2_with fail
        refine C.out.mono ?_
        rintro e w1 ⟨rfl, h, ho⟩
        go_wp2
        go_end0
        rw [HI.out]
        exact ⟨rfl, h, ho⟩
/-- branch: its place is where the code ended. -/
theorem branch_s (x : Wx) (w : World) (D : Int) (s : Ws) (N : Nat) (o : UInt8) (v : Int) (hv : (o.toNat : Int) = v) (h : WrS x w D s) (hz : s.sz N) (hN : N ≤ 16000000) :
    Calls Tryz.prog 214 #[.pointer (some ⟨x.g, 0, none⟩), .int .u8 v] w fun e w' => e = .returned (.int .i64 (s.code.length : Int)) ∧ WrS x w' D (s.op o 0) ∧ Fr x w w' := by
  have C1 := Lib.hid (op_v x w D s N o v 0 hv h hz hN)
  clear h
  go_enter Tryz.func214, Tryz.ntmps214
  go_wp2_with fail
  refine C1.out.mono ?_
  rintro e w1 ⟨rfl, h, ho⟩
  have HO := Lib.hid ho
  have HW := Lib.hid h
  obtain ⟨C, nc, cc, T, nt, ct, M, nm, cm, lm, hD⟩ := h
  have hl : nc = s.code.length + 1 := by rw [← hD.code.row.1]; simp [Ws.op, Ws.push]
  have c1 : w1.cell? ⟨x.g, 1, none⟩ = some (.slice C nc cc) := hD.blk.cell 1
  have hz1 := hz.1
  subst hl
  obtain ⟨q, hq⟩ : ∃ q, s.code.length = q := ⟨_, rfl⟩
  rw [hq] at c1 hz1
  have HQ := Lib.hid hq
  clear hD ho hq hz
  go_wp2
  go_ret
  exact ⟨by rw [HQ.out]; simp, HW.out, HO.out⟩
theorem locals_any (w : World) : Calls Tryz.prog 233 #[] w fun e w' => e = .returned (.slice (some ⟨w.heap.size, 0, none⟩) 7 7) ∧ w' = w.alloc (.cells (localsL.map SV).toArray 9) := by
  go_enter Tryz.func233, Tryz.ntmps233
  go_wp2
  go_ret
  exact ⟨rfl, rfl⟩

end Go.Proofs.YtdkkpcbebhgbiaaGreatDoor

/- The walk over carpetbagmake's object; printed by gen/gen_wd.py. -/
namespace Go.Proofs.YtdkkpcbebhgbiaaGreatDoor
set_option maxRecDepth 100000
open Go.RowKit Go.Maps

set_option maxHeartbeats 4000000 in
theorem object_s (x : Wx) (w : World) (D : Int) (s : Ws) (N : Nat) (h : WrS x w D s) (hz : s.sz N) (hN : N ≤ 15000000) :
    Calls Tryz.prog 175 #[.pointer (some ⟨x.g, 0, none⟩)] w fun e w' => e = .returned (.tuple #[]) ∧ WrS x w' D (objW x.xs s) ∧ Fr x w w' := by
  obtain ⟨w0, rfl⟩ : ∃ w0, w0 = w := ⟨_, rfl⟩
  have HW0 := Lib.hid h
  have HO0 : Hid (Fr x w0 w0) := Lib.hid (Fr.refl x w0)
  have HZ0 := Lib.hid hz
  obtain ⟨FS, hFS⟩ : ∃ FS, objW x.xs s = FS := ⟨_, rfl⟩
  have HFS := Lib.hid hFS
  rw [hFS]
  clear h hz hFS
  go_enter Tryz.func175, Tryz.ntmps175
  have t0 := HW0.out.t
  go_wp2_with fail
  refine (next_s x _ _ _ 5 _ HW0.out (by omega) (by omega) rfl).mono ?_
  rintro e w1 ⟨rfl, h, ho⟩
  have HW1 := Lib.hid h
  have HO1 : Hid (Fr x w0 w1) := Lib.hid (HO0.out.trans ho)
  have HZ1 : Hid (((s).nx x.xs).sz N) := Lib.hid ((Ws.sz_nx x.xs HZ0.out).more (by omega))
  clear h ho
  obtain ⟨v, hv⟩ : ∃ v, nxV x.xs 5 (s).at_ = v := ⟨_, rfl⟩
  have bv : v < 5 := by rw [← hv]; exact nxV_lt (by omega)
  rw [hv]
  have HVv := Lib.hid hv
  clear hv t0
  have hcs : v = 0 ∨ v = 1 ∨ v = 2 ∨ v = 3 ∨ v = 4 := by omega
  clear bv
  rcases hcs with rfl | rfl | rfl | rfl | rfl
  · go_wp2_with fail
    refine (op_v x _ _ _ N 1 _ _ (by first | rfl | decide | assumption) HW1.out HZ1.out (by omega)).mono ?_
    rintro e w2 ⟨rfl, h, ho⟩
    have HW2 := Lib.hid h
    have HO2 : Hid (Fr x w0 w2) := Lib.hid (HO1.out.trans ho)
    have HZ2 : Hid ((((s).nx x.xs).op 1 0).sz (N + 1)) := Lib.hid ((Ws.sz_op _ _ HZ1.out).more (by omega))
    clear h ho
    have HE : Hid (FS = ((s).nx x.xs).op 1 0) := Lib.hid (by rw [← HFS.out]; unfold objW; simp only [HVv.out]; rfl)
    go_wp2
    go_end0
    rw [HE.out]
    exact ⟨rfl, HW2.out, HO2.out⟩
  · obtain ⟨C1, nc1, cc1, T1, nt1, ct1, M1, nm1, cm1, lm1, hD⟩ := HW1.out
    have hnc1 : nc1 ≤ N := by rw [← hD.code.row.1]; exact HZ1.out.1
    have c11 : w1.cell? ⟨x.g, 1, none⟩ = some (.slice C1 nc1 cc1) := hD.blk.cell 1
    have hgl1 := hD.blk.lt
    have hb := belowA w1 (.cells (inC (⟨187, 0, 0, [66], [], [], []⟩ : InD)).toArray 98)
    have hD1 := hD.below hb
    have f11 : w1.frozen? ⟨x.g, 1, none⟩ = false := hD.blk.frozen 1
    have HC1 : Hid (GotR inC 7 98 x.b0 (w1.alloc (.cells (inC (⟨187, 0, 0, [66], [], [], []⟩ : InD)).toArray 98)) C1 nc1 cc1 ((s).nx x.xs).code) := Lib.hid hD1.code
    have HB1 : Hid (Blk (w1.alloc (.cells (inC (⟨187, 0, 0, [66], [], [], []⟩ : InD)).toArray 98)) w1.heap.size 98 (inC (⟨187, 0, 0, [66], [], [], []⟩ : InD)).toArray) := Lib.hid (Blk.new _ _ _)
    have hb01 := hD1.b0
    have HGO1 := Lib.hid (ne_own hD.code hD.blk (by decide))
    have HD11 := Lib.hid hD1
    have HBE1 := Lib.hid hb
    clear hD hD1 hb
    simp only [inC] at HC1 HB1 HBE1 HD11 hb01
    go_wp2_with (at_builtin; refine wpList_push rfl _ _ rfl x.b0 C1 nc1 cc1 ((s).nx x.xs).code rfl HC1.out w1.heap.size (⟨187, 0, 0, [66], [], [], []⟩ : InD) rfl HB1.out (by omega) hb01 ?_; intro C21 c21 wx1 hG1 hg1 hr1; have s11 : wx1.cell? ⟨x.g, 1, none⟩ = some (.slice C1 nc1 cc1) := ((only_grown hg1 hr1).cell (p := ⟨x.g, 1, none⟩) (by simp; omega) HGO1.out).trans (cellA _ c11); have s21 : wx1.frozen? ⟨x.g, 1, none⟩ = false := (((only_grown hg1 hr1).blk HD11.out.blk HGO1.out)).frozen 1)
    obtain ⟨hP, hF⟩ := HD11.out.push hG1 hg1 hr1
    obtain ⟨w2, hwe⟩ : ∃ W, wx1.setCell ⟨x.g, 1, none⟩ (.slice C21 (nc1 + 1) c21) = W := ⟨_, rfl⟩
    rw [hwe] at hP hF ⊢
    have h : WrS x w2 _ (((s).nx x.xs).push ⟨187, 0, 0, [66], [], [], []⟩) := ⟨C21, nc1 + 1, c21, T1, nt1, ct1, M1, nm1, cm1, lm1, hP⟩
    have ho : Fr x w1 w2 := (Fr.of_below HBE1.out).trans hF
    clear hwe hP hF hG1 hg1 hr1 s11 s21 c11 f11
    have HW2 := Lib.hid h
    have HO2 : Hid (Fr x w0 w2) := Lib.hid (HO1.out.trans ho)
    have HZ2 : Hid ((((s).nx x.xs).push ⟨187, 0, 0, [66], [], [], []⟩).sz (N + 1)) := Lib.hid ((Ws.sz_push _ HZ1.out).more (by omega))
    clear h ho
    have HE : Hid (FS = ((s).nx x.xs).push ⟨187, 0, 0, [66], [], [], []⟩) := Lib.hid (by rw [← HFS.out]; unfold objW; simp only [HVv.out]; rfl)
    go_end0
    rw [HE.out]
    exact ⟨rfl, HW2.out, HO2.out⟩
  · go_wp2_with fail
    refine (op_v x _ _ _ N 25 _ _ (by first | rfl | decide | assumption) HW1.out HZ1.out (by omega)).mono ?_
    rintro e w2 ⟨rfl, h, ho⟩
    have HW2 := Lib.hid h
    have HO2 : Hid (Fr x w0 w2) := Lib.hid (HO1.out.trans ho)
    have HZ2 : Hid ((((s).nx x.xs).op 25 5).sz (N + 1)) := Lib.hid ((Ws.sz_op _ _ HZ1.out).more (by omega))
    clear h ho
    obtain ⟨C2, nc2, cc2, T2, nt2, ct2, M2, nm2, cm2, lm2, hD⟩ := HW2.out
    have hnc2 : nc2 ≤ (N + 1) := by rw [← hD.code.row.1]; exact HZ2.out.1
    have c12 : w2.cell? ⟨x.g, 1, none⟩ = some (.slice C2 nc2 cc2) := hD.blk.cell 1
    have hgl2 := hD.blk.lt
    have hb := belowA w2 (.cells (inC (⟨192, 0, 0, [66], [], [], []⟩ : InD)).toArray 98)
    have hD1 := hD.below hb
    have f12 : w2.frozen? ⟨x.g, 1, none⟩ = false := hD.blk.frozen 1
    have HC2 : Hid (GotR inC 7 98 x.b0 (w2.alloc (.cells (inC (⟨192, 0, 0, [66], [], [], []⟩ : InD)).toArray 98)) C2 nc2 cc2 (((s).nx x.xs).op 25 5).code) := Lib.hid hD1.code
    have HB2 : Hid (Blk (w2.alloc (.cells (inC (⟨192, 0, 0, [66], [], [], []⟩ : InD)).toArray 98)) w2.heap.size 98 (inC (⟨192, 0, 0, [66], [], [], []⟩ : InD)).toArray) := Lib.hid (Blk.new _ _ _)
    have hb02 := hD1.b0
    have HGO2 := Lib.hid (ne_own hD.code hD.blk (by decide))
    have HD12 := Lib.hid hD1
    have HBE2 := Lib.hid hb
    clear hD hD1 hb
    simp only [inC] at HC2 HB2 HBE2 HD12 hb02
    go_wp2_with (at_builtin; refine wpList_push rfl _ _ rfl x.b0 C2 nc2 cc2 (((s).nx x.xs).op 25 5).code rfl HC2.out w2.heap.size (⟨192, 0, 0, [66], [], [], []⟩ : InD) rfl HB2.out (by omega) hb02 ?_; intro C22 c22 wx2 hG2 hg2 hr2; have s12 : wx2.cell? ⟨x.g, 1, none⟩ = some (.slice C2 nc2 cc2) := ((only_grown hg2 hr2).cell (p := ⟨x.g, 1, none⟩) (by simp; omega) HGO2.out).trans (cellA _ c12); have s22 : wx2.frozen? ⟨x.g, 1, none⟩ = false := (((only_grown hg2 hr2).blk HD12.out.blk HGO2.out)).frozen 1)
    obtain ⟨hP, hF⟩ := HD12.out.push hG2 hg2 hr2
    obtain ⟨w3, hwe⟩ : ∃ W, wx2.setCell ⟨x.g, 1, none⟩ (.slice C22 (nc2 + 1) c22) = W := ⟨_, rfl⟩
    rw [hwe] at hP hF ⊢
    have h : WrS x w3 _ ((((s).nx x.xs).op 25 5).push ⟨192, 0, 0, [66], [], [], []⟩) := ⟨C22, nc2 + 1, c22, T2, nt2, ct2, M2, nm2, cm2, lm2, hP⟩
    have ho : Fr x w2 w3 := (Fr.of_below HBE2.out).trans hF
    clear hwe hP hF hG2 hg2 hr2 s12 s22 c12 f12
    have HW3 := Lib.hid h
    have HO3 : Hid (Fr x w0 w3) := Lib.hid (HO2.out.trans ho)
    have HZ3 : Hid (((((s).nx x.xs).op 25 5).push ⟨192, 0, 0, [66], [], [], []⟩).sz (N + 2)) := Lib.hid ((Ws.sz_push _ HZ2.out).more (by omega))
    clear h ho
    have HE : Hid (FS = (((s).nx x.xs).op 25 5).push ⟨192, 0, 0, [66], [], [], []⟩) := Lib.hid (by rw [← HFS.out]; unfold objW; simp only [HVv.out]; rfl)
    go_end0
    rw [HE.out]
    exact ⟨rfl, HW3.out, HO3.out⟩
  · obtain ⟨C1, nc1, cc1, T1, nt1, ct1, M1, nm1, cm1, lm1, hD⟩ := HW1.out
    have hnc1 : nc1 ≤ N := by rw [← hD.code.row.1]; exact HZ1.out.1
    have c11 : w1.cell? ⟨x.g, 1, none⟩ = some (.slice C1 nc1 cc1) := hD.blk.cell 1
    have hgl1 := hD.blk.lt
    have hb := belowA w1 (.cells (inC (⟨187, 0, 0, [65], [], [], []⟩ : InD)).toArray 98)
    have hD1 := hD.below hb
    have f11 : w1.frozen? ⟨x.g, 1, none⟩ = false := hD.blk.frozen 1
    have HC1 : Hid (GotR inC 7 98 x.b0 (w1.alloc (.cells (inC (⟨187, 0, 0, [65], [], [], []⟩ : InD)).toArray 98)) C1 nc1 cc1 ((s).nx x.xs).code) := Lib.hid hD1.code
    have HB1 : Hid (Blk (w1.alloc (.cells (inC (⟨187, 0, 0, [65], [], [], []⟩ : InD)).toArray 98)) w1.heap.size 98 (inC (⟨187, 0, 0, [65], [], [], []⟩ : InD)).toArray) := Lib.hid (Blk.new _ _ _)
    have hb01 := hD1.b0
    have HGO1 := Lib.hid (ne_own hD.code hD.blk (by decide))
    have HD11 := Lib.hid hD1
    have HBE1 := Lib.hid hb
    clear hD hD1 hb
    simp only [inC] at HC1 HB1 HBE1 HD11 hb01
    go_wp2_with (at_builtin; refine wpList_push rfl _ _ rfl x.b0 C1 nc1 cc1 ((s).nx x.xs).code rfl HC1.out w1.heap.size (⟨187, 0, 0, [65], [], [], []⟩ : InD) rfl HB1.out (by omega) hb01 ?_; intro C21 c21 wx1 hG1 hg1 hr1; have s11 : wx1.cell? ⟨x.g, 1, none⟩ = some (.slice C1 nc1 cc1) := ((only_grown hg1 hr1).cell (p := ⟨x.g, 1, none⟩) (by simp; omega) HGO1.out).trans (cellA _ c11); have s21 : wx1.frozen? ⟨x.g, 1, none⟩ = false := (((only_grown hg1 hr1).blk HD11.out.blk HGO1.out)).frozen 1)
    obtain ⟨hP, hF⟩ := HD11.out.push hG1 hg1 hr1
    obtain ⟨w2, hwe⟩ : ∃ W, wx1.setCell ⟨x.g, 1, none⟩ (.slice C21 (nc1 + 1) c21) = W := ⟨_, rfl⟩
    rw [hwe] at hP hF ⊢
    have h : WrS x w2 _ (((s).nx x.xs).push ⟨187, 0, 0, [65], [], [], []⟩) := ⟨C21, nc1 + 1, c21, T1, nt1, ct1, M1, nm1, cm1, lm1, hP⟩
    have ho : Fr x w1 w2 := (Fr.of_below HBE1.out).trans hF
    clear hwe hP hF hG1 hg1 hr1 s11 s21 c11 f11
    have HW2 := Lib.hid h
    have HO2 : Hid (Fr x w0 w2) := Lib.hid (HO1.out.trans ho)
    have HZ2 : Hid ((((s).nx x.xs).push ⟨187, 0, 0, [65], [], [], []⟩).sz (N + 1)) := Lib.hid ((Ws.sz_push _ HZ1.out).more (by omega))
    clear h ho
    have HE : Hid (FS = ((s).nx x.xs).push ⟨187, 0, 0, [65], [], [], []⟩) := Lib.hid (by rw [← HFS.out]; unfold objW; simp only [HVv.out]; rfl)
    go_end0
    rw [HE.out]
    exact ⟨rfl, HW2.out, HO2.out⟩
  · obtain ⟨C1, nc1, cc1, T1, nt1, ct1, M1, nm1, cm1, lm1, hD⟩ := HW1.out
    have hnc1 : nc1 ≤ N := by rw [← hD.code.row.1]; exact HZ1.out.1
    have c11 : w1.cell? ⟨x.g, 1, none⟩ = some (.slice C1 nc1 cc1) := hD.blk.cell 1
    have hgl1 := hD.blk.lt
    have hb := belowA w1 (.cells (inC (⟨187, 0, 0, [65], [], [], []⟩ : InD)).toArray 98)
    have hD1 := hD.below hb
    have f11 : w1.frozen? ⟨x.g, 1, none⟩ = false := hD.blk.frozen 1
    have HC1 : Hid (GotR inC 7 98 x.b0 (w1.alloc (.cells (inC (⟨187, 0, 0, [65], [], [], []⟩ : InD)).toArray 98)) C1 nc1 cc1 ((s).nx x.xs).code) := Lib.hid hD1.code
    have HB1 : Hid (Blk (w1.alloc (.cells (inC (⟨187, 0, 0, [65], [], [], []⟩ : InD)).toArray 98)) w1.heap.size 98 (inC (⟨187, 0, 0, [65], [], [], []⟩ : InD)).toArray) := Lib.hid (Blk.new _ _ _)
    have hb01 := hD1.b0
    have HGO1 := Lib.hid (ne_own hD.code hD.blk (by decide))
    have HD11 := Lib.hid hD1
    have HBE1 := Lib.hid hb
    clear hD hD1 hb
    simp only [inC] at HC1 HB1 HBE1 HD11 hb01
    go_wp2_with (at_builtin; refine wpList_push rfl _ _ rfl x.b0 C1 nc1 cc1 ((s).nx x.xs).code rfl HC1.out w1.heap.size (⟨187, 0, 0, [65], [], [], []⟩ : InD) rfl HB1.out (by omega) hb01 ?_; intro C21 c21 wx1 hG1 hg1 hr1; have s11 : wx1.cell? ⟨x.g, 1, none⟩ = some (.slice C1 nc1 cc1) := ((only_grown hg1 hr1).cell (p := ⟨x.g, 1, none⟩) (by simp; omega) HGO1.out).trans (cellA _ c11); have s21 : wx1.frozen? ⟨x.g, 1, none⟩ = false := (((only_grown hg1 hr1).blk HD11.out.blk HGO1.out)).frozen 1)
    obtain ⟨hP, hF⟩ := HD11.out.push hG1 hg1 hr1
    obtain ⟨w2, hwe⟩ : ∃ W, wx1.setCell ⟨x.g, 1, none⟩ (.slice C21 (nc1 + 1) c21) = W := ⟨_, rfl⟩
    rw [hwe] at hP hF ⊢
    have h : WrS x w2 _ (((s).nx x.xs).push ⟨187, 0, 0, [65], [], [], []⟩) := ⟨C21, nc1 + 1, c21, T1, nt1, ct1, M1, nm1, cm1, lm1, hP⟩
    have ho : Fr x w1 w2 := (Fr.of_below HBE1.out).trans hF
    clear hwe hP hF hG1 hg1 hr1 s11 s21 c11 f11
    have HW2 := Lib.hid h
    have HO2 : Hid (Fr x w0 w2) := Lib.hid (HO1.out.trans ho)
    have HZ2 : Hid ((((s).nx x.xs).push ⟨187, 0, 0, [65], [], [], []⟩).sz (N + 1)) := Lib.hid ((Ws.sz_push _ HZ1.out).more (by omega))
    clear h ho
    have HE : Hid (FS = ((s).nx x.xs).push ⟨187, 0, 0, [65], [], [], []⟩) := Lib.hid (by rw [← HFS.out]; unfold objW; simp only [HVv.out]; rfl)
    go_end0
    rw [HE.out]
    exact ⟨rfl, HW2.out, HO2.out⟩

end Go.Proofs.YtdkkpcbebhgbiaaGreatDoor
