/- The walks over desc.ClassOf, objectSize, itemSize, cut, IsType, Elem, IsRef, Object. -/
import Derived.Test.YtblnhobbnkcbeaaGreatDoorZah
import Derived.Deep.QuietTactic
import Derived.BigQuiet
import Derived.Test.YtblnhobbnkcbeaaGreatDoorZae
import Derived.Test.YtblnhobbnkcbeaaGreatDoorZaa
import Derived.Test.YtblnhobbnkcbeaaGreatDoorZaf
namespace Go.Proofs.YtblnhobbnkcbeaaGreatDoor
set_option maxRecDepth 100000
open Go.RowKit

def coV (r : Option (List UInt8)) : Value := match r with
  | none => .tuple #[.string ⟨#[]⟩, .bool false]
  | some c => .tuple #[.string (strB c), .bool true]

theorem hdB_cons (c x : UInt8) (t : List UInt8) : hdB c (x :: t) = (x == c) := rfl
theorem classOf_made (c : List UInt8) : classOfF (76 :: (c ++ [59])) = some c := by simp [classOfF]

theorem classOf_any (xs : List UInt8) (w : World) (hl : xs.length ≤ 1048576) :
    Calls Tryz.prog 111 #[.string (strB xs)] w fun e w' => e = .returned (coV (classOfF xs)) ∧ w = w' := by
  by_cases h : ∃ c, xs = 76 :: (c ++ [59])
  · obtain ⟨c, rfl⟩ := h
    have hc : c.length ≤ 1048576 := by simp at hl; omega
    have C1 := Lib.hid (cutPrefix_yes 76 (c ++ [59]) w)
    have C2 := Lib.hid (cutSuffix_yes 59 c w hc)
    rw [classOf_made]
    go_enter Tryz.func111, Tryz.ntmps111
    go_wp2_with fail
    refine C1.out.mono ?_
    rintro e w' ⟨rfl, rfl⟩
    go_wp2_with fail
    refine C2.out.mono ?_
    rintro e w' ⟨rfl, rfl⟩
    go_wp2
    go_ret2
    exact ⟨rfl, rfl⟩
  · have HE : Hid (classOfF xs = none) := Lib.hid (by
      cases xs with
      | nil => rfl
      | cons x t =>
        show (if x = 76 ∧ t.getLast? = some 59 then some t.dropLast else none) = none
        rw [if_neg]
        rintro ⟨rfl, ht⟩
        refine h ⟨t.dropLast, ?_⟩
        have hne : t ≠ [] := by rintro rfl; cases ht
        have hg : t.getLast hne = 59 := by rw [List.getLast?_eq_some_getLast hne] at ht; simpa using ht
        have := List.dropLast_concat_getLast hne
        rw [hg] at this
        rw [this])
    cases hp : hdB 76 xs with
    | true =>
      cases xs with
      | nil => cases hp
      | cons x t =>
        obtain rfl : x = 76 := by simpa [hdB] using hp
        have hlast : t.getLast? ≠ some 59 := by
          intro ht
          refine h ⟨t.dropLast, ?_⟩
          have hne : t ≠ [] := by rintro rfl; cases ht
          have hg : t.getLast hne = 59 := by rw [List.getLast?_eq_some_getLast hne] at ht; simpa using ht
          have := List.dropLast_concat_getLast hne
          rw [hg] at this
          rw [this]
        have C1 := Lib.hid (cutPrefix_yes 76 t w)
        have C2 := Lib.hid (cutSuffix_no 59 t w (by simp at hl; omega) hlast)
        clear hp h hlast
        go_enter Tryz.func111, Tryz.ntmps111
        go_wp2_with fail
        refine C1.out.mono ?_
        rintro e w' ⟨rfl, rfl⟩
        go_wp2_with fail
        refine C2.out.mono ?_
        rintro e w' ⟨rfl, rfl⟩
        go_wp2
        go_ret2
        exact ⟨by rw [HE.out]; rfl, rfl⟩
    | false =>
      have C1 := Lib.hid (cutPrefix_no 76 xs w hp)
      clear hp h
      by_cases hlast : xs.getLast? = some 59
      · have hne : xs ≠ [] := by rintro rfl; cases hlast
        have hg : xs.getLast hne = 59 := by rw [List.getLast?_eq_some_getLast hne] at hlast; simpa using hlast
        have hcat := List.dropLast_concat_getLast hne
        rw [hg] at hcat
        obtain ⟨t, ht⟩ : ∃ t, t = xs.dropLast := ⟨_, rfl⟩
        rw [← ht] at hcat
        subst hcat
        have C2 := Lib.hid (cutSuffix_yes 59 t w (by simp at hl; omega))
        clear hlast ht hne hg
        go_enter Tryz.func111, Tryz.ntmps111
        go_wp2_with fail
        refine C1.out.mono ?_
        rintro e w' ⟨rfl, rfl⟩
        go_wp2_with fail
        refine C2.out.mono ?_
        rintro e w' ⟨rfl, rfl⟩
        go_wp2
        go_ret2
        exact ⟨by rw [HE.out]; rfl, rfl⟩
      · have C2 := Lib.hid (cutSuffix_no 59 xs w hl hlast)
        clear hlast
        go_enter Tryz.func111, Tryz.ntmps111
        go_wp2_with fail
        refine C1.out.mono ?_
        rintro e w' ⟨rfl, rfl⟩
        go_wp2_with fail
        refine C2.out.mono ?_
        rintro e w' ⟨rfl, rfl⟩
        go_wp2
        go_ret2
        exact ⟨by rw [HE.out]; rfl, rfl⟩

theorem objectSize_any (t : List UInt8) (w : World) (hl : t.length ≤ 1000000) :
    Calls Tryz.prog 181 #[.string (strB (76 :: t))] w fun e w' => e = .returned (.int .i64 ((objN t : Nat) : Int)) ∧ Below w.heap.size w w' := by
  have c1 := index_any 59 (76 :: t) w
  unfold idxI at c1
  rw [List.idxOf?_cons] at c1
  unfold objN
  cases hi : t.idxOf? 59 with
  | none =>
    rw [hi] at c1
    have C1 := Lib.hid c1
    clear c1 hi
    go_enter Tryz.func181, Tryz.ntmps181
    go_wp2_with fail
    refine C1.out.mono ?_
    rintro e w' ⟨rfl, rfl⟩
    go_wp2
    go_ret
    exact ⟨rfl, Below.refl _ _⟩
  | some i =>
    obtain ⟨hil, hsp, -⟩ := idxOf_split t i hi
    rw [hi] at c1
    have C1 : Hid (Calls Tryz.prog 172 #[.string (strB (76 :: t)), .string ⟨#[59]⟩] w fun e w' => e = .returned (.int .i64 ((i : Int) + 1)) ∧ w = w') := Lib.hid (c1.mono fun e w' ⟨h1, h2⟩ => ⟨by rw [h1]; rfl, h2⟩)
    have hz := strB_size (76 :: t)
    have ht1 : (76 :: t).take (i + 2) = 76 :: (t.take i ++ [59]) := by
      show 76 :: t.take (i + 1) = _
      congr 1
      rw [List.take_succ_eq_append_getElem hil]
      congr 1
      have : t[i]? = some 59 := by rw [hsp, List.getElem?_append_right (by simp; omega)]; simp [Nat.min_eq_left (Nat.le_of_lt hil)]
      rw [List.getElem?_eq_getElem hil] at this
      simpa using this
    have he : (strB (76 :: t)).extract 0 (i + 2) = strB (76 :: (t.take i ++ [59])) := by rw [strB_to, ht1]
    have hlen : (t.take i).length = i := by rw [List.length_take]; omega
    have hz2 : (strB (76 :: ((t.take i) ++ [59]))).size = i + 2 := by rw [strB_size]; simp; omega
    obtain ⟨c, hc⟩ : ∃ c, c = t.take i := ⟨_, rfl⟩
    rw [← hc] at he hlen hz2
    show Calls _ _ _ _ fun e w' => e = .returned (.int .i64 (((if classB (t.take i) = true then i + 2 else 0 : Nat)) : Int)) ∧ _
    rw [← hc]
    have c2 := classOf_any (76 :: (c ++ [59])) w (by simp; omega)
    rw [classOf_made] at c2
    have C2 := Lib.hid c2
    have c3 := isClass_any c w (by omega)
    unfold coV at C2
    clear c1 c2 hi hc hsp ht1
    cases hb : classB c with
    | true =>
      rw [hb] at c3
      have C3 := Lib.hid c3
      clear c3 hb hlen
      go_enter Tryz.func181, Tryz.ntmps181
      go_wp2_with fail
      refine C1.out.mono ?_
      rintro e w' ⟨rfl, rfl⟩
      go_wp2_with fail
      refine C2.out.mono ?_
      rintro e w' ⟨rfl, rfl⟩
      go_wp2_with fail
      refine C3.out.mono ?_
      rintro e w' ⟨rfl, hbel⟩
      have HB := Lib.hid hbel
      clear hbel
      go_wp2
      go_ret
      exact ⟨rfl, HB.out⟩
    | false =>
      rw [hb] at c3
      have C3 := Lib.hid c3
      clear c3 hb hlen
      go_enter Tryz.func181, Tryz.ntmps181
      go_wp2_with fail
      refine C1.out.mono ?_
      rintro e w' ⟨rfl, rfl⟩
      go_wp2_with fail
      refine C2.out.mono ?_
      rintro e w' ⟨rfl, rfl⟩
      go_wp2_with fail
      refine C3.out.mono ?_
      rintro e w' ⟨rfl, hbel⟩
      have HB := Lib.hid hbel
      clear hbel
      go_wp2
      go_ret
      exact ⟨rfl, HB.out⟩

theorem hp_yes (c : UInt8) (t : List UInt8) (w : World) : Calls Tryz.prog 113 #[.string (strB (c :: t)), .string ⟨#[c]⟩] w fun e w' => e = .returned (.bool true) ∧ w = w' := by
  have := hasPrefix1 c (c :: t) w
  rw [hdB_cons, beq_self_eq_true] at this
  exact this
theorem hp_no (c x : UInt8) (t : List UInt8) (w : World) (h : x ≠ c) : Calls Tryz.prog 113 #[.string (strB (x :: t)), .string ⟨#[c]⟩] w fun e w' => e = .returned (.bool false) ∧ w = w' := by
  have := hasPrefix1 c (x :: t) w
  rw [hdB_cons, beq_false_of_ne h] at this
  exact this
theorem hp_nil (c : UInt8) (w : World) : Calls Tryz.prog 113 #[.string (strB []), .string ⟨#[c]⟩] w fun e w' => e = .returned (.bool false) ∧ w = w' := hasPrefix1 c [] w

theorem itemSize_any (arr : Bool) (xs : List UInt8) (w : World) (hl : xs.length ≤ 1000000) :
    Calls Tryz.prog 166 #[.string (strB xs), .bool arr] w fun e w' => e = .returned (.int .i64 ((itemN arr xs : Nat) : Int)) ∧ Below w.heap.size w w' := by
  cases xs with
  | nil =>
    go_enter Tryz.func166, Tryz.ntmps166
    go_wp2_with (go_at_call 113; (with_reducible refine (hp_nil _ _).mono ?_); rintro e w' ⟨rfl, rfl⟩)
    go_ret
    exact ⟨rfl, Below.refl _ _⟩
  | cons x t =>
    by_cases h73 : x = 73
    · subst h73
      go_enter Tryz.func166, Tryz.ntmps166
      go_wp2_with (go_at_call 113; (with_reducible refine (hp_yes _ _ _).mono ?_); rintro e w' ⟨rfl, rfl⟩)
      go_ret
      exact ⟨rfl, Below.refl _ _⟩
    · have C73 := Lib.hid (hp_no 73 x t w h73)
      by_cases h74 : x = 74
      · subst h74
        have C74 := Lib.hid (hp_yes 74 t w)
        clear h73
        cases arr
        all_goals
          go_enter Tryz.func166, Tryz.ntmps166
          go_wp2_with fail
          refine C73.out.mono ?_
          rintro e w' ⟨rfl, rfl⟩
          go_wp2_with fail
          refine C74.out.mono ?_
          rintro e w' ⟨rfl, rfl⟩
        · go_wp2
          go_ret
          exact ⟨rfl, Below.refl _ _⟩
        · have C66 := Lib.hid (hp_no 66 74 t w (by decide))
          have C76 := Lib.hid (hp_no 76 74 t w (by decide))
          go_wp2_with fail
          refine C66.out.mono ?_
          rintro e w' ⟨rfl, rfl⟩
          go_wp2_with fail
          refine C76.out.mono ?_
          rintro e w' ⟨rfl, rfl⟩
          go_wp2
          go_ret
          exact ⟨rfl, Below.refl _ _⟩
      · have C74 := Lib.hid (hp_no 74 x t w h74)
        by_cases h66 : x = 66
        · subst h66
          have C66 := Lib.hid (hp_yes 66 t w)
          clear h73 h74
          cases arr
          all_goals
            go_enter Tryz.func166, Tryz.ntmps166
            go_wp2_with fail
            refine C73.out.mono ?_
            rintro e w' ⟨rfl, rfl⟩
            go_wp2_with fail
            refine C74.out.mono ?_
            rintro e w' ⟨rfl, rfl⟩
            go_wp2_with fail
            refine C66.out.mono ?_
            rintro e w' ⟨rfl, rfl⟩
          · have C76 := Lib.hid (hp_no 76 66 t w (by decide))
            go_wp2_with fail
            refine C76.out.mono ?_
            rintro e w' ⟨rfl, rfl⟩
            go_wp2
            go_ret
            exact ⟨rfl, Below.refl _ _⟩
          · go_wp2
            go_ret
            exact ⟨rfl, Below.refl _ _⟩
        · have C66 := Lib.hid (hp_no 66 x t w h66)
          by_cases h76 : x = 76
          · subst h76
            have C76 := Lib.hid (hp_yes 76 t w)
            have CO := Lib.hid (objectSize_any t w (by simp at hl; omega))
            have HE : Hid (itemN arr (76 :: t) = objN t) := Lib.hid (by simp [itemN])
            clear h73 h74 h66
            go_enter Tryz.func166, Tryz.ntmps166
            go_wp2_with fail
            refine C73.out.mono ?_
            rintro e w' ⟨rfl, rfl⟩
            go_wp2_with fail
            refine C74.out.mono ?_
            rintro e w' ⟨rfl, rfl⟩
            go_wp2_with fail
            refine C66.out.mono ?_
            rintro e w' ⟨rfl, rfl⟩
            go_wp2_with fail
            refine C76.out.mono ?_
            rintro e w' ⟨rfl, rfl⟩
            go_wp2_with fail
            refine CO.out.mono ?_
            rintro e w' ⟨rfl, hb⟩
            have HB := Lib.hid hb
            clear hb
            go_wp2
            go_ret
            exact ⟨by rw [HE.out]; rfl, HB.out⟩
          · have C76 := Lib.hid (hp_no 76 x t w h76)
            have HE : Hid (itemN arr (x :: t) = 0) := Lib.hid (by simp [itemN, h73, h74, h66, h76])
            clear h73 h74 h66 h76
            go_enter Tryz.func166, Tryz.ntmps166
            go_wp2_with fail
            refine C73.out.mono ?_
            rintro e w' ⟨rfl, rfl⟩
            go_wp2_with fail
            refine C74.out.mono ?_
            rintro e w' ⟨rfl, rfl⟩
            go_wp2_with fail
            refine C66.out.mono ?_
            rintro e w' ⟨rfl, rfl⟩
            go_wp2_with fail
            refine C76.out.mono ?_
            rintro e w' ⟨rfl, rfl⟩
            go_wp2
            go_ret
            exact ⟨by rw [HE.out]; rfl, Below.refl _ _⟩

theorem cutD_drop : ∀ (l : List UInt8) (d : Nat), ∃ k it, l.dropWhile (· == 91) = it ∧ l.length = k + it.length ∧ cutD d l = (if itemN (decide (0 < d + k)) it = 0 ∨ 8 < d + k then 0 else k + itemN (decide (0 < d + k)) it)
  | [], d => ⟨0, [], rfl, rfl, by simp [cutD, itemN]⟩
  | x :: t, d => by
    by_cases hx : x = 91
    · subst hx
      obtain ⟨k, it, h1, h2, h3⟩ := cutD_drop t (d + 1)
      refine ⟨k + 1, it, ?_, by simp; omega, ?_⟩
      · rw [List.dropWhile_cons]
        simpa using h1
      · rw [cutD, if_pos rfl, h3, show d + 1 + k = d + (k + 1) by omega]
        by_cases h : itemN (decide (0 < d + (k + 1))) it = 0 ∨ 8 < d + (k + 1)
        · rw [if_pos h, if_pos rfl, if_pos h]
        · have h9 : itemN (decide (0 < d + (k + 1))) it ≠ 0 := fun e => h (.inl e)
          rw [if_neg h, if_neg h, if_neg (by omega)]
          omega
    · refine ⟨0, x :: t, ?_, by simp, ?_⟩
      · rw [List.dropWhile_cons]
        simp [hx]
      · rw [cutD, if_neg hx, Nat.add_zero, Nat.zero_add]
        by_cases hd : d ≤ 8
        · rw [if_pos hd]
          by_cases h0 : itemN (decide (0 < d)) (x :: t) = 0
          · rw [if_pos (.inl h0), h0]
          · rw [if_neg (by omega)]
        · rw [if_neg hd, if_pos (.inr (by omega))]

theorem cut_any (xs : List UInt8) (w : World) (hl : xs.length ≤ 1000000) :
    Calls Tryz.prog 149 #[.string (strB xs)] w fun e w' => e = .returned (.tuple #[.string (strB (xs.take (cutD 0 xs))), .string (strB (xs.drop (cutD 0 xs)))]) ∧ Below w.heap.size w w' := by
  obtain ⟨d, it, h1, h2, h3⟩ := cutD_drop xs 0
  rw [Nat.zero_add] at h3
  have c1 := trimLeft_any xs w (by omega)
  rw [h1] at c1
  have C1 := Lib.hid c1
  have hz := strB_size xs
  rw [h2] at hz
  have hz2 := strB_size it
  have C2 := Lib.hid (itemSize_any (decide (0 < d)) it w (by omega))
  have hdl : d ≤ 1000000 := by omega
  have hil : it.length ≤ 1000000 := by omega
  obtain ⟨n, hn⟩ : ∃ n, n = itemN (decide (0 < d)) it := ⟨_, rfl⟩
  obtain ⟨b, hb⟩ : ∃ b, b = decide (0 < d) := ⟨_, rfl⟩
  have hcl := cut_le xs 0
  rw [← hn] at h3 C2
  rw [← hb] at C2
  have hbq : decide ((0 : Int) < (d : Int)) = b := by rw [hb]; simp
  have hbq2 : decide (0 < d) = b := hb.symm
  by_cases h0 : n = 0 ∨ 8 < d
  · rw [if_pos h0] at h3
    have HE := Lib.hid h3
    clear h1 h2 h3 c1 hn hb hcl
    rcases h0 with h0 | h0
    · have hq : ((n : Int) == 0) = true := by rw [h0]; rfl
      clear h0
      go_enter Tryz.func149, Tryz.ntmps149
      go_wp2_with fail
      refine C1.out.mono ?_
      rintro e w' ⟨rfl, rfl⟩
      go_wp2_with fail
      refine C2.out.mono ?_
      rintro e w' ⟨rfl, hbel⟩
      have HB := Lib.hid hbel
      clear hbel
      go_wp2
      go_ret2
      exact ⟨by rw [HE.out]; rfl, HB.out⟩
    · go_enter Tryz.func149, Tryz.ntmps149
      go_wp2_with fail
      refine C1.out.mono ?_
      rintro e w' ⟨rfl, rfl⟩
      go_wp2_with fail
      refine C2.out.mono ?_
      rintro e w' ⟨rfl, hbel⟩
      have HB := Lib.hid hbel
      clear hbel
      go_wp2
      all_goals
        go_ret2
        exact ⟨by rw [HE.out]; rfl, HB.out⟩
  · rw [if_neg h0] at h3
    have hq : ((n : Int) == 0) = false := by rw [beq_eq_false_iff_ne]; omega
    have hd8 : decide ((d : Int) > 8) = false := decide_eq_false (by omega)
    have hnl : n ≤ it.length := by omega
    have he1 := strB_to xs (d + n)
    have he2 := strB_from xs (d + n)
    rw [h2] at he2
    have HE := Lib.hid h3
    clear h1 h2 h3 c1 hn hb hcl h0
    go_enter Tryz.func149, Tryz.ntmps149
    go_wp2_with fail
    refine C1.out.mono ?_
    rintro e w' ⟨rfl, rfl⟩
    go_wp2_with fail
    refine C2.out.mono ?_
    rintro e w' ⟨rfl, hbel⟩
    have HB := Lib.hid hbel
    clear hbel
    go_wp2
    go_quiet (fail)
    go_wp2
    go_ret2
    exact ⟨by rw [HE.out, ← he1, ← he2]; rfl, HB.out.drewN _⟩

theorem isType_any (xs : List UInt8) (w : World) (hl : xs.length ≤ 1000000) :
    Calls Tryz.prog 116 #[.string (strB xs)] w fun e w' => e = .returned (.bool (typeD 0 xs)) ∧ Below w.heap.size w w' := by
  have C := Lib.hid (cut_any xs w hl)
  have hi := type_iff xs 0
  have hcl := cut_le xs 0
  obtain ⟨k, hk⟩ : ∃ k, k = cutD 0 xs := ⟨_, rfl⟩
  rw [← hk] at C hi hcl
  have t1 := strB_toList (xs.take k)
  have t2 := strB_toList (xs.drop k)
  clear hk
  by_cases hk0 : k = 0
  · subst hk0
    have HE : Hid (typeD 0 xs = false) := Lib.hid (by rw [hi]; simp)
    have t3 : xs.take 0 = [] := rfl
    clear hi
    go_enter Tryz.func116, Tryz.ntmps116
    go_wp2_with fail
    refine C.out.mono ?_
    rintro e w' ⟨rfl, hbel⟩
    have HB := Lib.hid hbel
    clear hbel
    go_wp2
    go_ret
    exact ⟨by rw [HE.out]; rfl, HB.out⟩
  · have hne : (xs.take k).isEmpty = false := by
      rw [take_empty hcl]
      exact decide_eq_false hk0
    have hem : (xs.drop k).isEmpty = decide (k = xs.length) := by
      rw [Bool.eq_iff_iff]
      simp
      omega
    have HE : Hid (typeD 0 xs = (xs.drop k).isEmpty) := Lib.hid (by rw [hi, hem]; simp [hk0])
    have hne2 : xs.take k ≠ [] := by
      intro e
      rw [e] at hne
      cases hne
    obtain ⟨a, ha⟩ : ∃ a, a = xs.take k := ⟨_, rfl⟩
    obtain ⟨b, hb⟩ : ∃ b, b = xs.drop k := ⟨_, rfl⟩
    rw [← ha] at C t1 hne hne2
    rw [← hb] at C t2 HE
    clear hi hem ha hb
    go_enter Tryz.func116, Tryz.ntmps116
    go_wp2_with fail
    refine C.out.mono ?_
    rintro e w' ⟨rfl, hbel⟩
    have HB := Lib.hid hbel
    clear hbel
    go_wp2
    go_ret
    exact ⟨by rw [HE.out]; rfl, HB.out⟩

end Go.Proofs.YtblnhobbnkcbeaaGreatDoor

/- The walks over desc.cutArgs, Method, Elem, IsRef, Object. -/
namespace Go.Proofs.YtblnhobbnkcbeaaGreatDoor
set_option maxRecDepth 100000
open Go.RowKit

def svC (l : List UInt8) : List Value := [SV l]
theorem svC_len : ∀ l, (svC l).length = 1 := fun _ => rfl
theorem svC_one : ∀ l, ∀ v ∈ svC l, v.oneCell' = true := fun l v hv => by
  simp only [svC, List.mem_singleton] at hv
  subst hv
  rfl
theorem wpList_append_sv {ops : Array Oper} {rest : List Oper} {q : Oper} {u : Act} {w : World} {S : Nat → Prop} {Q : Exit → Act → World → Prop} (hgd : q.guard = none) (s x : Operand) (hq : q.op = .call { callee := .builtin .append, args := #[s, x], argTypes := #[53, 53] })
    (base : Nat) (B : Option Addr) (m0 c0 : Nat) (zs : List (List UInt8)) (hs : u.eval s = .slice B m0 c0) (hown : GotR svC 1 9 base w B m0 c0 zs) (A : Option Addr) (m c : Nat) (l : List (List UInt8))
    (hx : u.eval x = .slice A m c) (hB : RowSl svC 1 w S A m c l) (hn : A = none → m = 0 ∧ c = 0) (hm : m0 + m ≤ 16777216) (hbase : base ≤ w.heap.size)
    (h : ∀ A' c' w', GotR svC 1 9 base w' A' (m0 + m) c' (zs ++ l) → w.grownBy w' (Value.slice B m0 c0).ownBlock → (∀ g, (Value.slice B m0 c0).ownBlock = some g → base ≤ g) → wpList Tryz.prog ops Q rest (u.put q.dst (.slice A' (m0 + m) c')) w') : wpList Tryz.prog ops Q (q :: rest) u w :=
  wpList_append_rows svC_len svC_one (by decide) 53 9 _ 16 Tryz.underlying53 Tryz.infoStr (by simp [Value.cells]) (by decide) hgd s x hq base B m0 c0 zs hs hown A m c l hx hB hn hm hbase (fun A' c' w' h1 h2 h3 _ => h A' c' w' h1 h2 h3)
theorem sv_lit (l : List UInt8) (w : World) : RowSl svC 1 (w.alloc (.cells #[.string (strB l)] 9)) Empty (some ⟨w.heap.size, 0, none⟩) 1 1 [l] :=
  RowSl.lit svC_len w Empty 9 [l] 1 [.string (strB l)] rfl rfl (by unfold maxLen; omega) (fun h => h)

theorem argsF_step (k : Nat) (s : List UInt8) (h : cutD 0 s ≠ 0) : argsF (k + 1) s = (s.take (cutD 0 s) :: (argsF k (s.drop (cutD 0 s))).1, (argsF k (s.drop (cutD 0 s))).2) := by
  rw [argsF, if_neg h]

set_option maxHeartbeats 2000000 in
theorem cutArgs_any (xs : List UInt8) (w : World) (hl : xs.length ≤ 1000000) :
    Calls Tryz.prog 115 #[.string (strB xs)] w fun e w' => (∃ (A : Option Addr) (n c : Nat), e = .returned (.tuple #[.slice A n c, .string (strB (argsF 16 xs).2)]) ∧ GotR svC 1 9 w.heap.size w' A n c (argsF 16 xs).1) ∧ Below w.heap.size w w' := by
  go_enter Tryz.func115, Tryz.ntmps115
  go_wp2
  go_loopw [0, 2] (fun s v wr => ∃ (ys : List UInt8) (A : Option Addr) (n c : Nat) (l : List (List UInt8)), s = .string (strB ys) ∧ v = .slice A n c ∧ n ≤ 16 ∧ ys.length ≤ xs.length ∧ Hid (l.length = n) ∧ Hid (argsF 16 xs = (l ++ (argsF (16 - n) ys).1, (argsF (16 - n) ys).2)) ∧ Hid (GotR svC 1 9 w.heap.size wr A n c l) ∧ Hid (Below w.heap.size w wr)) (fun _ v _ => match v with | .slice _ n _ => 16 - n | _ => 0)
  case atStart => exact ⟨xs, none, 0, 0, [], rfl, rfl, by omega, Nat.le_refl _, Lib.hid rfl, Lib.hid rfl, Lib.hid (GotR.nil_ _ _ _ _ _), Lib.hid (Below.refl _ _)⟩
  case round =>
    obtain ⟨ys, A, n, c, l, rfl, rfl, hn16, hyl, HL, HA, HG, HB⟩ := hrel
    by_cases hlt : n < 16
    · have C := Lib.hid (cut_any ys wr (by omega))
      have hcl := cut_le ys 0
      have t1 := strB_toList (ys.take (cutD 0 ys))
      have hem := take_empty hcl
      obtain ⟨k, hk⟩ : ∃ k, k = cutD 0 ys := ⟨_, rfl⟩
      rw [← hk] at C hcl t1 hem
      by_cases hk0 : k = 0
      · have HE : Hid (argsF 16 xs = (l, ys)) := Lib.hid (by rw [HA.out, argsF_none _ _ (hk.symm.trans hk0)]; simp)
        have ht : ys.take k = [] := by rw [hk0]; rfl
        rw [ht] at t1 C
        clear hk hk0 hem ht
        go_wp2_with fail
        refine C.out.mono ?_
        rintro e w' ⟨rfl, hbel⟩
        have HB2 := Lib.hid (HB.out.trans (hbel.mono HB.out.size))
        have HG2 := Lib.hid (HG.out.below svC_len hbel)
        clear hbel
        go_wp2
        go_ret2
        exact ⟨⟨A, n, c, by rw [HE.out]; rfl, by rw [HE.out]; exact HG2.out⟩, HB2.out⟩
      · have HA2 : Hid (argsF 16 xs = ((l ++ [ys.take k]) ++ (argsF (16 - (n + 1)) (ys.drop k)).1, (argsF (16 - (n + 1)) (ys.drop k)).2)) := Lib.hid (by
          rw [HA.out, show 16 - n = (16 - (n + 1)) + 1 by omega, argsF_step _ _ (by rw [← hk]; exact hk0), ← hk]
          simp)
        have hne : (ys.take k).isEmpty = false := by rw [hem]; exact decide_eq_false hk0
        have hdl : (ys.drop k).length ≤ xs.length := by rw [List.length_drop]; omega
        have hne2 : ys.take k ≠ [] := by
          intro e
          rw [e] at hne
          cases hne
        have HL2 : Hid ((l ++ [ys.take k]).length = n + 1) := Lib.hid (by rw [List.length_append, HL.out]; rfl)
        obtain ⟨a, ha⟩ : ∃ a, a = ys.take k := ⟨_, rfl⟩
        obtain ⟨b, hb⟩ : ∃ b, b = ys.drop k := ⟨_, rfl⟩
        rw [← ha] at C t1 hne hne2 HA2 HL2
        rw [← hb] at C HA2 hdl
        clear hk hk0 hem ha hb
        go_wp2_with fail
        refine C.out.mono ?_
        rintro e w1 ⟨rfl, hbel⟩
        have HB2 := Lib.hid ((HB.out.trans (hbel.mono HB.out.size)).alloc (Nat.le_trans HB.out.size hbel.size) (.cells #[.string (strB a)] 9))
        have HG2 := Lib.hid ((HG.out.below svC_len hbel).alloc svC_len (.cells #[.string (strB a)] 9))
        have HS := Lib.hid (sv_lit a w1)
        clear hbel
        go_wp2_with (at_builtin; refine wpList_append_sv rfl (.tmp 16) (.tmp 18) rfl w.heap.size A n c l rfl HG2.out (some ⟨w1.heap.size, 0, none⟩) 1 1 [a] rfl HS.out (fun h => by cases h) (by omega) HB2.out.size ?_; intro A' c' w' hg' hgr' hr')
        have HG3 := Lib.hid hg'
        have HB3 := Lib.hid (below_gotR HB2.out HB2.out.size hgr' hr' (Nat.le_refl _))
        clear hg' hgr' hr'
        go_wp2
        go_roundw
        case rel => exact ⟨b, A', n + 1, c', l ++ [a], rfl, rfl, by omega, hdl, HL2, HA2, HG3, HB3⟩
        case measure => show 16 - (n + 1) < 16 - n; omega
    · obtain rfl : n = 16 := by omega
      have HE : Hid (argsF 16 xs = (l, ys)) := Lib.hid (by rw [HA.out]; simp [argsF])
      go_wp2
      go_ret2
      exact ⟨⟨A, 16, c, by rw [HE.out]; rfl, by rw [HE.out]; exact HG.out⟩, HB.out⟩

def mArgs (r : Option (List (List UInt8) × List UInt8)) : List (List UInt8) := (r.map (·.1)).getD []
def mRet (r : Option (List (List UInt8) × List UInt8)) : List UInt8 := (r.map (·.2)).getD []
def mErr (r : Option (List (List UInt8) × List UInt8)) : Int := if r.isSome then 0 else 8
/-- What a call that tells a method's types answers. -/
def MethD (w w' : World) (r : Option (List (List UInt8) × List UInt8)) (e : Ending) : Prop :=
  (∃ (A : Option Addr) (n c : Nat), e = .returned (.tuple #[.slice A n c, .string (strB (mRet r)), .int .i64 (mErr r)]) ∧ GotR svC 1 9 w.heap.size w' A n c (mArgs r)) ∧ Below w.heap.size w w'
theorem MethD.no {w w' : World} {r : Option (List (List UInt8) × List UInt8)} {e : Ending} (hr : r = none) (he : e = .returned (.tuple #[.slice none 0 0, .string ⟨#[]⟩, .int .i64 8])) (hb : Below w.heap.size w w') : MethD w w' r e := by
  subst hr
  exact ⟨⟨none, 0, 0, he, GotR.nil_ _ _ _ _ _⟩, hb⟩

theorem argsF_rest_le : ∀ (k : Nat) (s : List UInt8), (argsF k s).2.length ≤ s.length
  | 0, s => Nat.le_refl _
  | k + 1, s => by
    have := argsF_rest_le k (s.drop (cutD 0 s))
    rw [List.length_drop] at this
    unfold argsF
    split
    · exact Nat.le_refl _
    · simp only; omega

set_option maxHeartbeats 4000000 in
theorem method_any (xs : List UInt8) (w : World) (hl : xs.length ≤ 1000000) :
    Calls Tryz.prog 66 #[.string (strB xs)] w fun e w' => MethD w w' (methodF xs) e := by
  cases hb : hdB 40 xs with
  | false =>
    have C1 := Lib.hid (cutPrefix_no 40 xs w hb)
    have C2 := Lib.hid (cutArgs_any xs w hl)
    have HE : Hid (methodF xs = none) := Lib.hid (by
      cases xs with
      | nil => rfl
      | cons x t =>
        have hx : x ≠ 40 := fun e => by rw [e] at hb; simp [hdB] at hb
        simp [methodF, hx])
    obtain ⟨r, hr⟩ : ∃ r, r = (argsF 16 xs).2 := ⟨_, rfl⟩
    rw [← hr] at C2
    clear hb hr
    go_enter Tryz.func66, Tryz.ntmps66
    go_wp2_with fail
    refine C1.out.mono ?_
    rintro e w' ⟨rfl, rfl⟩
    go_wp2_with fail
    refine C2.out.mono ?_
    rintro e w1 ⟨⟨A, n, c, rfl, -⟩, hbel⟩
    have HB := Lib.hid hbel
    clear hbel
    cases hr : hdB 41 r with
    | true =>
      cases r with
      | nil => cases hr
      | cons x t =>
        obtain rfl : x = 41 := by simpa [hdB] using hr
        have C3 := Lib.hid (cutPrefix_yes 41 t w1)
        clear hr
        go_wp2_with fail
        refine C3.out.mono ?_
        rintro e w' ⟨rfl, rfl⟩
        go_wp2
        go_ret3
        exact MethD.no HE.out rfl HB.out
    | false =>
      have C3 := Lib.hid (cutPrefix_no 41 r w1 hr)
      clear hr
      go_wp2_with fail
      refine C3.out.mono ?_
      rintro e w' ⟨rfl, rfl⟩
      go_wp2
      go_ret3
      exact MethD.no HE.out rfl HB.out
  | true =>
    cases xs with
    | nil => cases hb
    | cons x s =>
      obtain rfl : x = 40 := by simpa [hdB] using hb
      have hsl : s.length ≤ 1000000 := by simp at hl; omega
      have C1 := Lib.hid (cutPrefix_yes 40 s w)
      have C2 := Lib.hid (cutArgs_any s w hsl)
      have hrl := argsF_rest_le 16 s
      have HM : Hid (methodF (40 :: s) = match (argsF 16 s).2 with
        | [] => none
        | y :: ret => if y = 41 ∧ retOk ret = true then some ((argsF 16 s).1, ret) else none) := Lib.hid rfl
      obtain ⟨r, hr⟩ : ∃ r, r = (argsF 16 s).2 := ⟨_, rfl⟩
      obtain ⟨la, has⟩ : ∃ la, la = (argsF 16 s).1 := ⟨_, rfl⟩
      rw [← hr] at C2 HM hrl
      rw [← has] at C2 HM
      obtain ⟨m, hm⟩ : ∃ m, m = methodF (40 :: s) := ⟨_, rfl⟩
      rw [← hm] at HM ⊢
      clear hb hr has hm
      go_enter Tryz.func66, Tryz.ntmps66
      go_wp2_with fail
      refine C1.out.mono ?_
      rintro e w' ⟨rfl, rfl⟩
      go_wp2_with fail
      refine C2.out.mono ?_
      rintro e w1 ⟨⟨A, n, c, rfl, hg⟩, hbel⟩
      have HG := Lib.hid hg
      have HB := Lib.hid hbel
      clear hg hbel
      cases hr : hdB 41 r with
      | false =>
        have C3 := Lib.hid (cutPrefix_no 41 r w1 hr)
        have HE : Hid (m = none) := Lib.hid (by
          rw [HM.out]
          cases r with
          | nil => rfl
          | cons y ret =>
            have hy : y ≠ 41 := fun e => by rw [e] at hr; simp [hdB] at hr
            simp [hy])
        clear hr
        go_wp2_with fail
        refine C3.out.mono ?_
        rintro e w' ⟨rfl, rfl⟩
        go_wp2
        go_ret3
        exact MethD.no HE.out rfl HB.out
      | true =>
        cases r with
        | nil => cases hr
        | cons y ret =>
          obtain rfl : y = 41 := by simpa [hdB] using hr
          have C3 := Lib.hid (cutPrefix_yes 41 ret w1)
          have t1 := strB_toList ret
          have HM2 : Hid (m = if retOk ret = true then some (la, ret) else none) := Lib.hid (by rw [HM.out]; simp)
          clear hr HM
          by_cases hv : ret = [86]
          · have q1 : (ret == [86]) = true := by rw [hv]; rfl
            have HE : Hid (m = some (la, ret)) := Lib.hid (by rw [HM2.out, if_pos (by rw [hv]; rfl)])
            clear hv
            go_wp2_with fail
            refine C3.out.mono ?_
            rintro e w' ⟨rfl, rfl⟩
            go_wp2
            go_ret3
            exact ⟨⟨A, n, c, by rw [HE.out]; rfl, by rw [HE.out]; exact HG.out⟩, HB.out⟩
          · have q1 : (ret == [86]) = false := beq_false_of_ne hv
            have hrt : retOk ret = typeD 0 ret := by unfold retOk; rw [q1]; rfl
            have C4 := Lib.hid (isType_any ret w1 (by simp at hrl; omega))
            rw [hrt] at HM2
            clear hrt
            cases ht : typeD 0 ret with
            | true =>
              rw [ht] at C4 HM2
              have HE : Hid (m = some (la, ret)) := Lib.hid (by rw [HM2.out, if_pos rfl])
              clear hv ht
              go_wp2_with fail
              refine C3.out.mono ?_
              rintro e w' ⟨rfl, rfl⟩
              go_wp2_with fail
              refine C4.out.mono ?_
              rintro e w2 ⟨rfl, hb2⟩
              have HB2 := Lib.hid (HB.out.trans (hb2.mono HB.out.size))
              have HG2 := Lib.hid (HG.out.below svC_len hb2)
              clear hb2
              go_wp2
              go_ret3
              exact ⟨⟨A, n, c, by rw [HE.out]; rfl, by rw [HE.out]; exact HG2.out⟩, HB2.out⟩
            | false =>
              rw [ht] at C4 HM2
              have HE : Hid (m = none) := Lib.hid (by rw [HM2.out, if_neg Bool.false_ne_true])
              clear hv ht
              go_wp2_with fail
              refine C3.out.mono ?_
              rintro e w' ⟨rfl, rfl⟩
              go_wp2_with fail
              refine C4.out.mono ?_
              rintro e w2 ⟨rfl, hb2⟩
              have HB2 := Lib.hid (HB.out.trans (hb2.mono HB.out.size))
              clear hb2
              go_wp2
              go_ret3
              exact MethD.no HE.out rfl HB2.out

def elemV (xs : List UInt8) : Value := if hdB 91 xs = true then .tuple #[.string (strB xs.tail), .bool true] else .tuple #[.string ⟨#[]⟩, .bool false]
theorem elem_any (xs : List UInt8) (w : World) : Calls Tryz.prog 60 #[.string (strB xs)] w fun e w' => e = .returned (elemV xs) ∧ w = w' := by
  unfold elemV
  cases hb : hdB 91 xs with
  | true =>
    cases xs with
    | nil => cases hb
    | cons x t =>
      obtain rfl : x = 91 := by simpa [hdB] using hb
      have C1 := Lib.hid (cutPrefix_yes 91 t w)
      clear hb
      go_enter Tryz.func60, Tryz.ntmps60
      go_wp2_with fail
      refine C1.out.mono ?_
      rintro e w' ⟨rfl, rfl⟩
      go_wp2
      go_ret2
      exact ⟨rfl, rfl⟩
  | false =>
    have C1 := Lib.hid (cutPrefix_no 91 xs w hb)
    clear hb
    go_enter Tryz.func60, Tryz.ntmps60
    go_wp2_with fail
    refine C1.out.mono ?_
    rintro e w' ⟨rfl, rfl⟩
    go_wp2
    go_ret2
    exact ⟨rfl, rfl⟩

def refB (xs : List UInt8) : Bool := hdB 76 xs || hdB 91 xs
theorem isRef_any (xs : List UInt8) (w : World) : Calls Tryz.prog 61 #[.string (strB xs)] w fun e w' => e = .returned (.bool (refB xs)) ∧ w = w' := by
  have c1 := hasPrefix1 76 xs w
  have c2 := hasPrefix1 91 xs w
  unfold refB
  cases hb : hdB 76 xs with
  | true =>
    rw [hb] at c1
    have C1 := Lib.hid c1
    clear c1 c2 hb
    go_enter Tryz.func61, Tryz.ntmps61
    go_wp2_with fail
    refine C1.out.mono ?_
    rintro e w' ⟨rfl, rfl⟩
    go_wp2
    go_ret
    exact ⟨rfl, rfl⟩
  | false =>
    rw [hb] at c1
    obtain ⟨b, hb2⟩ : ∃ b, b = hdB 91 xs := ⟨_, rfl⟩
    rw [← hb2] at c2 ⊢
    have C1 := Lib.hid c1
    have C2 := Lib.hid c2
    clear c1 c2 hb hb2
    go_enter Tryz.func61, Tryz.ntmps61
    go_wp2_with fail
    refine C1.out.mono ?_
    rintro e w' ⟨rfl, rfl⟩
    go_wp2_with fail
    refine C2.out.mono ?_
    rintro e w' ⟨rfl, rfl⟩
    go_wp2
    go_ret
    exact ⟨rfl, rfl⟩

/-- The type of a class. -/
def objL (xs : List UInt8) : List UInt8 := 76 :: (xs ++ [59])
theorem lit_strB (c : UInt8) : (⟨#[c]⟩ : ByteArray) = strB [c] := rfl
theorem object_any (xs : List UInt8) (w : World) (hl : xs.length ≤ 1000000) : Calls Tryz.prog 62 #[.string (strB xs)] w fun e w' => e = .returned (.string (strB (objL xs))) ∧ w = w' := by
  have hz := strB_size xs
  have h1 : (⟨#[76]⟩ : ByteArray) ++ strB xs = strB (76 :: xs) := by rw [lit_strB, strB_cat]; rfl
  have h2 : strB (76 :: xs) ++ (⟨#[59]⟩ : ByteArray) = strB (objL xs) := by rw [lit_strB, strB_cat]; rfl
  have hz2 := strB_size (76 :: xs)
  go_enter Tryz.func62, Tryz.ntmps62
  go_wp2
  go_ret
  exact ⟨rfl, rfl⟩

end Go.Proofs.YtblnhobbnkcbeaaGreatDoor

/- The walks over the document's object, IsType, first, Method, Elem, ClassOf, IsRef. -/
namespace Go.Proofs.YtblnhobbnkcbeaaGreatDoor
set_option maxRecDepth 100000
open Go.RowKit

/-- L, a class's name and a semicolon? -/
def objR : List UInt8 → Bool
  | [] => false
  | x :: t => x == 76 && objB t
theorem long_form (xs : List UInt8) (h : 2 ≤ xs.length) : ∃ x u y, xs = x :: (u ++ [y]) := by
  cases xs with
  | nil => simp at h
  | cons x t =>
    rcases List.eq_nil_or_concat t with rfl | ⟨u, y, rfl⟩
    · simp at h
    · exact ⟨x, u, y, by simp⟩
theorem objR_form (x y : UInt8) (u : List UInt8) : objR (x :: (u ++ [y])) = (x == 76 && (y == 59) && classB u) := by
  simp [objR, objB, Bool.and_assoc]
theorem objR_short (xs : List UInt8) (h : xs.length < 3) : objR xs = false := by
  match xs, h with
  | [], _ => rfl
  | [x], _ => simp [objR, objB]
  | [x, y], _ =>
    have := objR_form x y []
    simp only [List.nil_append] at this
    rw [this, show classB [] = false by decide, Bool.and_false]

theorem eq8 {a b : UInt8} (h : a = b) : ((a.toNat : Int) == (b.toNat : Int)) = true := by rw [h]; simp
theorem ne8 {a b : UInt8} (h : a ≠ b) : ((a.toNat : Int) == (b.toNat : Int)) = false := by
  rw [beq_eq_false_iff_ne]
  exact fun e => h (UInt8.toNat_inj.1 (by omega))
theorem eqn8 {a : Nat} {b : Int} (h : ((a : Int) == b) = true) : ((a : Int) != b) = false := by rw [bne, h]; rfl
theorem nen8 {a : Nat} {b : Int} (h : ((a : Int) == b) = false) : ((a : Int) != b) = true := by rw [bne, h]; rfl

theorem refObject_any (xs : List UInt8) (w : World) (hl : xs.length ≤ 1000000) :
    Calls Tryz.prog 139 #[.string (strB xs)] w fun e w' => e = .returned (.bool (objR xs)) ∧ w = w' := by
  by_cases h3 : xs.length < 3
  · have HE := Lib.hid (objR_short xs h3)
    have hz := strB_size xs
    go_enter Tryz.func139, Tryz.ntmps139
    go_wp2
    go_ret
    exact ⟨by rw [HE.out]; rfl, rfl⟩
  · obtain ⟨x, u, y, rfl⟩ := long_form xs (by omega)
    have hul : u.length + 2 ≤ 1000000 := by simp at hl; omega
    have hu1 : 1 ≤ u.length := by simp at h3; omega
    have HE := Lib.hid (objR_form x y u)
    have hx0 : ∀ h, (strB (x :: (u ++ [y])))[0]'h = x := fun h => strB_get _ _ _ h rfl
    have hy0 : ∀ h, (strB (x :: (u ++ [y])))[u.length + 1]'h = y := fun h => strB_get _ _ _ h (by simp)
    have he : (strB (x :: (u ++ [y]))).extract 1 (u.length + 1) = strB u := by rw [strB_ext]; simp
    have hz : (strB (x :: (u ++ [y]))).size = u.length + 2 := by rw [strB_size]; simp
    obtain ⟨s, hs⟩ : ∃ s, s = strB (x :: (u ++ [y])) := ⟨_, rfl⟩
    rw [← hs] at hx0 hy0 he hz ⊢
    obtain ⟨r, hr⟩ : ∃ r, r = objR (x :: (u ++ [y])) := ⟨_, rfl⟩
    rw [← hr] at HE ⊢
    have c1 := refIsClass_any u w (by omega)
    obtain ⟨m, hm⟩ : ∃ m, m = u.length := ⟨_, rfl⟩
    rw [← hm] at hul hu1 hy0 he hz
    clear hs hr hl h3 hm
    by_cases hx : x = 76
    · by_cases hy : y = 59
      · subst hx hy
        obtain ⟨b, hb⟩ : ∃ b, b = classB u := ⟨_, rfl⟩
        rw [← hb] at c1 HE
        have C1 := Lib.hid c1
        clear c1 hb
        go_enter Tryz.func139, Tryz.ntmps139
        go_wp2_with fail
        refine C1.out.mono ?_
        rintro e w' ⟨rfl, rfl⟩
        go_wp2
        go_ret
        exact ⟨by rw [HE.out]; rfl, rfl⟩
      · have q2 : ((y.toNat : Int) == 59) = false := ne8 (b := 59) hy
        have HE2 : Hid (r = false) := Lib.hid (by rw [HE.out, beq_false_of_ne hy]; simp)
        subst hx
        clear hy c1
        go_enter Tryz.func139, Tryz.ntmps139
        go_wp2
        go_ret
        exact ⟨by rw [HE2.out]; rfl, rfl⟩
    · have q1 : ((x.toNat : Int) == 76) = false := ne8 (b := 76) hx
      have HE2 : Hid (r = false) := Lib.hid (by rw [HE.out, beq_false_of_ne hx]; simp)
      clear hx c1
      go_enter Tryz.func139, Tryz.ntmps139
      go_wp2
      go_ret
      exact ⟨by rw [HE2.out]; rfl, rfl⟩

/-- What stands behind the brackets. -/
def restB (arr : Bool) (it : List UInt8) : Bool := (it == [73]) || (!arr && it == [74]) || (arr && it == [66]) || objR it
theorem typeD_drop : ∀ (l : List UInt8) (d : Nat), ∃ k it, l.drop k = it ∧ k ≤ l.length ∧ (∀ j, j < k → l[j]? = some 91) ∧ hdB 91 it = false ∧ typeD d l = (decide (d + k ≤ 8) && restB (decide (0 < d + k)) it)
  | [], d => ⟨0, [], rfl, Nat.le_refl _, fun j h => by omega, rfl, by simp [typeD, restB, objR]⟩
  | x :: t, d => by
    by_cases hx : x = 91
    · subst hx
      obtain ⟨k, it, h1, h2, h3, h4, h5⟩ := typeD_drop t (d + 1)
      refine ⟨k + 1, it, h1, by simp; omega, fun j hj => ?_, h4, ?_⟩
      · cases j with
        | zero => rfl
        | succ j => exact h3 j (by omega)
      · rw [typeD, if_pos rfl, h5, show d + 1 + k = d + (k + 1) by omega]
    · refine ⟨0, x :: t, rfl, by simp, fun j h => by omega, by simp [hdB, hx], ?_⟩
      rw [typeD, if_neg hx, Nat.add_zero]
      congr 1
      unfold restB
      have e : ∀ c : UInt8, ((x :: t) == [c]) = (x == c && t.isEmpty) := fun c => by cases t <;> simp
      rw [e, e, e]
      have e0 : (!decide (0 < d)) = decide (d = 0) := by rw [Bool.eq_iff_iff]; simp
      rw [e0]
      simp only [objR, Bool.and_assoc]

set_option maxHeartbeats 8000000 in
theorem refIsType_any (xs : List UInt8) (w : World) (hl : xs.length ≤ 1000000) :
    Calls Tryz.prog 102 #[.string (strB xs)] w fun e w' => e = .returned (.bool (typeD 0 xs)) ∧ w = w' := by
  obtain ⟨d, it, h1, h2, h3, h4, h5⟩ := typeD_drop xs 0
  rw [Nat.zero_add] at h5
  have hz := strB_size xs
  have he := strB_from xs d
  rw [h1] at he
  have t1 := strB_toList it
  have H3 := Lib.hid h3
  have H1 := Lib.hid h1
  have H4 := Lib.hid h4
  have HE := Lib.hid h5
  have hitl : it.length ≤ 1000000 := by rw [← h1, List.length_drop]; omega
  have CO := Lib.hid (refObject_any it w hitl)
  clear h1 h3 h4 h5
  go_enter Tryz.func102, Tryz.ntmps102
  go_wp2
  go_loop [3] (fun i => ∃ k : Nat, k ≤ d ∧ i = .int .i64 (k : Int)) (fun i => d - (intOf i).toNat)
  case atStart => exact ⟨0, Nat.zero_le _, rfl⟩
  case round =>
    obtain ⟨k, hk, rfl⟩ := hrel
    by_cases hlt : k < d
    · have hx := H3.out k hlt
      have hkl : k < xs.length := by omega
      have h0 : ∀ h, (strB xs)[k]'h = 91 := fun h => strB_get _ _ _ h hx
      have hkq : decide ((k : Int) < (xs.length : Int)) = true := by simp; omega
      clear hx
      go_wp2
      go_round
      case rel => exact ⟨k + 1, by omega, by go_num⟩
      case measure => simp [intOf]; omega
    · obtain rfl : k = d := by omega
      obtain ⟨o, ho⟩ : ∃ o, o = objR it := ⟨_, rfl⟩
      have HE2 : Hid (typeD 0 xs = (decide (k ≤ 8) && ((it == [73]) || (!decide (0 < k) && it == [74]) || (decide (0 < k) && it == [66]) || o))) := Lib.hid (by rw [HE.out, ho]; rfl)
      have ho66 : it = [66] → o = false := fun e => by rw [ho, e]; rfl
      rw [← ho] at CO
      have HO := Lib.hid ho66
      clear ho ho66 HE
      have hstop : (k = xs.length) ∨ (k < xs.length ∧ ∃ x, x ≠ 91 ∧ xs[k]? = some x) := by
        by_cases hkl : k = xs.length
        · exact .inl hkl
        · have hkl : k < xs.length := by omega
          refine .inr ⟨hkl, xs[k], fun e => ?_, List.getElem?_eq_getElem hkl⟩
          have h4 := H4.out
          rw [← H1.out, List.drop_eq_getElem_cons hkl, hdB_cons, e] at h4
          cases h4
      -- where the brackets end
      have hend : ∀ (v : Value), v = .bool (typeD 0 xs) → v = .bool (typeD 0 xs) := fun _ h => h
      clear hend
      by_cases h8 : 8 < k
      · have HF : Hid (typeD 0 xs = false) := Lib.hid (by rw [HE2.out, decide_eq_false (by omega)]; rfl)
        rcases hstop with hs | ⟨hs, x, hx, hg⟩
        · have q0 : ¬ k < xs.length := by omega
          clear hs
          go_wp2
          go_ret
          exact ⟨by rw [HF.out]; rfl, rfl⟩
        · have h0 : ∀ h, (strB xs)[k]'h = x := fun h => strB_get _ _ _ h hg
          have q1 : ((x.toNat : Int) == 91) = false := ne8 (b := 91) hx
          clear hx hg
          go_wp2
          go_ret
          exact ⟨by rw [HF.out]; rfl, rfl⟩
      · have h8' : decide (k ≤ 8) = true := decide_eq_true (by omega)
        rw [h8'] at HE2
        have q8 : decide ((k : Int) > 8) = false := decide_eq_false (by omega)
        clear h8 h8'
        by_cases hB : it = [66]
        · subst hB
          have ho : o = false := HO.out rfl
          subst ho
          by_cases hk0 : 0 < k
          · have HF : Hid (typeD 0 xs = true) := Lib.hid (by rw [HE2.out, decide_eq_true hk0]; rfl)
            rcases hstop with hs | ⟨hs, x, hx, hg⟩
            · have q0 : ¬ k < xs.length := by omega
              clear hs
              go_wp2
              go_ret
              exact ⟨by rw [HF.out]; rfl, rfl⟩
            · have h0 : ∀ h, (strB xs)[k]'h = x := fun h => strB_get _ _ _ h hg
              have q1 : ((x.toNat : Int) == 91) = false := ne8 (b := 91) hx
              clear hx hg
              go_wp2
              go_ret
              exact ⟨by rw [HF.out]; rfl, rfl⟩
          · obtain rfl : k = 0 := by omega
            have HF : Hid (typeD 0 xs = false) := Lib.hid (by rw [HE2.out]; rfl)
            rcases hstop with hs | ⟨hs, x, hx, hg⟩
            · have q0 : ¬ 0 < xs.length := by omega
              clear hs
              go_wp2_with fail
              refine CO.out.mono ?_
              rintro e w' ⟨rfl, rfl⟩
              go_wp2
              go_ret
              exact ⟨by rw [HF.out]; rfl, rfl⟩
            · have h0 : ∀ h, (strB xs)[0]'h = x := fun h => strB_get _ _ _ h hg
              have q1 : ((x.toNat : Int) == 91) = false := ne8 (b := 91) hx
              clear hx hg
              go_wp2_with fail
              refine CO.out.mono ?_
              rintro e w' ⟨rfl, rfl⟩
              go_wp2
              go_ret
              exact ⟨by rw [HF.out]; rfl, rfl⟩
        · have qB : (it == [66]) = false := beq_false_of_ne hB
          rw [qB] at HE2
          clear hB HO
          by_cases hI : it = [73]
          · have qI : (it == [73]) = true := by rw [hI]; rfl
            have HF : Hid (typeD 0 xs = true) := Lib.hid (by rw [HE2.out, qI]; rfl)
            clear hI
            rcases hstop with hs | ⟨hs, x, hx, hg⟩
            · have q0 : ¬ k < xs.length := by omega
              clear hs
              by_cases hk0 : 0 < k
              all_goals
                go_wp2
                go_ret
                exact ⟨by rw [HF.out]; rfl, rfl⟩
            · have h0 : ∀ h, (strB xs)[k]'h = x := fun h => strB_get _ _ _ h hg
              have q1 : ((x.toNat : Int) == 91) = false := ne8 (b := 91) hx
              clear hx hg
              by_cases hk0 : 0 < k
              all_goals
                go_wp2
                go_ret
                exact ⟨by rw [HF.out]; rfl, rfl⟩
          · have qI : (it == [73]) = false := beq_false_of_ne hI
            rw [qI] at HE2
            clear hI
            by_cases hk0 : 0 < k
            · have HF : Hid (typeD 0 xs = o) := Lib.hid (by rw [HE2.out, decide_eq_true hk0]; simp)
              have qk : ((k : Int) == 0) = false := by rw [beq_eq_false_iff_ne]; omega
              rcases hstop with hs | ⟨hs, x, hx, hg⟩
              · have q0 : ¬ k < xs.length := by omega
                clear hs
                go_wp2_with fail
                refine CO.out.mono ?_
                rintro e w' ⟨rfl, rfl⟩
                go_wp2
                go_ret
                exact ⟨by rw [HF.out]; rfl, rfl⟩
              · have h0 : ∀ h, (strB xs)[k]'h = x := fun h => strB_get _ _ _ h hg
                have q1 : ((x.toNat : Int) == 91) = false := ne8 (b := 91) hx
                clear hx hg
                go_wp2_with fail
                refine CO.out.mono ?_
                rintro e w' ⟨rfl, rfl⟩
                go_wp2
                go_ret
                exact ⟨by rw [HF.out]; rfl, rfl⟩
            · obtain rfl : k = 0 := by omega
              cases qJ : it == [74] with
              | true =>
                have HF : Hid (typeD 0 xs = true) := Lib.hid (by rw [HE2.out, qJ]; rfl)
                rcases hstop with hs | ⟨hs, x, hx, hg⟩
                · have q0 : ¬ 0 < xs.length := by omega
                  clear hs
                  go_wp2
                  go_ret
                  exact ⟨by rw [HF.out]; rfl, rfl⟩
                · have h0 : ∀ h, (strB xs)[0]'h = x := fun h => strB_get _ _ _ h hg
                  have q1 : ((x.toNat : Int) == 91) = false := ne8 (b := 91) hx
                  clear hx hg
                  go_wp2
                  go_ret
                  exact ⟨by rw [HF.out]; rfl, rfl⟩
              | false =>
                have HF : Hid (typeD 0 xs = o) := Lib.hid (by rw [HE2.out, qJ]; simp)
                rcases hstop with hs | ⟨hs, x, hx, hg⟩
                · have q0 : ¬ 0 < xs.length := by omega
                  clear hs
                  go_wp2_with fail
                  refine CO.out.mono ?_
                  rintro e w' ⟨rfl, rfl⟩
                  go_wp2
                  go_ret
                  exact ⟨by rw [HF.out]; rfl, rfl⟩
                · have h0 : ∀ h, (strB xs)[0]'h = x := fun h => strB_get _ _ _ h hg
                  have q1 : ((x.toNat : Int) == 91) = false := ne8 (b := 91) hx
                  clear hx hg
                  go_wp2_with fail
                  refine CO.out.mono ?_
                  rintro e w' ⟨rfl, rfl⟩
                  go_wp2
                  go_ret
                  exact ⟨by rw [HF.out]; rfl, rfl⟩

end Go.Proofs.YtblnhobbnkcbeaaGreatDoor

/- The walks over the document's first, Method, Elem, ClassOf, IsRef. -/
namespace Go.Proofs.YtblnhobbnkcbeaaGreatDoor
set_option maxRecDepth 100000
open Go.RowKit

set_option maxHeartbeats 1000000 in
theorem first_any (xs : List UInt8) (w : World) (hl : xs.length ≤ 1000000) :
    Calls Tryz.prog 120 #[.string (strB xs)] w fun e w' => e = .returned (.string (strB (xs.take (cutD 0 xs)))) ∧ w = w' := by
  have hz := strB_size xs
  have hcl := cut_le xs 0
  have HK := Lib.hid (type_cut xs 0)
  obtain ⟨c, hc⟩ : ∃ c, c = cutD 0 xs := ⟨_, rfl⟩
  rw [← hc] at HK hcl ⊢
  clear hc
  go_enter Tryz.func120, Tryz.ntmps120
  go_wp2
  go_loop [3] (fun i => ∃ k : Nat, 1 ≤ k ∧ k ≤ xs.length + 1 ∧ (c = 0 ∨ k ≤ c) ∧ i = .int .i64 (k : Int)) (fun i => xs.length + 1 - (intOf i).toNat)
  case atStart => exact ⟨1, by omega, by omega, by omega, rfl⟩
  case round =>
    obtain ⟨k, hk1, hk, hkc, rfl⟩ := hrel
    by_cases hlt : k ≤ xs.length
    · have c1 := refIsType_any (xs.take k) w (by rw [List.length_take]; omega)
      have he := strB_to xs k
      have hi := HK.out k (by omega) hlt
      cases ht : typeD 0 (xs.take k) with
      | true =>
        rw [ht] at c1 hi
        have hck : c = k := hi.1 rfl
        subst hck
        have C1 := Lib.hid c1
        clear c1 hi ht
        go_wp2_with fail
        refine C1.out.mono ?_
        rintro e w' ⟨rfl, rfl⟩
        go_wp2
        go_ret
        exact ⟨rfl, rfl⟩
      | false =>
        rw [ht] at c1 hi
        have hck : c ≠ k := fun e => by have := hi.2 e; cases this
        have C1 := Lib.hid c1
        clear c1 hi ht
        go_wp2_with fail
        refine C1.out.mono ?_
        rintro e w' ⟨rfl, rfl⟩
        go_wp2
        go_round
        case rel => exact ⟨k + 1, by omega, by omega, by omega, by go_num⟩
        case measure => simp [intOf]; omega
    · have hc0 : c = 0 := by omega
      have HE : Hid (xs.take c = []) := Lib.hid (by rw [hc0]; rfl)
      clear hc0 hkc
      go_wp2
      go_ret
      exact ⟨by rw [HE.out]; rfl, rfl⟩

theorem refElem_any (xs : List UInt8) (w : World) (hl : xs.length ≤ 1000000) : Calls Tryz.prog 125 #[.string (strB xs)] w fun e w' => e = .returned (elemV xs) ∧ w = w' := by
  have hz := strB_size xs
  have t1 := strB_toList xs
  unfold elemV
  cases xs with
  | nil =>
    go_enter Tryz.func125, Tryz.ntmps125
    go_wp2
    go_ret2
    exact ⟨rfl, rfl⟩
  | cons x t =>
    have h0 : ∀ h, (strB (x :: t))[0]'h = x := fun h => strB_get _ _ _ h rfl
    by_cases hx : x = 91
    · subst hx
      have he : (strB (91 :: t)).extract 1 (t.length + 1) = strB t := by rw [strB_ext]; simp
      go_enter Tryz.func125, Tryz.ntmps125
      go_wp2
      go_ret2
      exact ⟨rfl, rfl⟩
    · have q1 : ((x.toNat : Int) == 91) = false := ne8 (b := 91) hx
      have q2 := nen8 q1
      have hb : hdB 91 (x :: t) = false := beq_false_of_ne hx
      simp only [hb, Bool.false_eq_true, if_false]
      clear hx hb
      go_enter Tryz.func125, Tryz.ntmps125
      go_wp2
      go_ret2
      exact ⟨rfl, rfl⟩

theorem refIsRef_any (xs : List UInt8) (w : World) (hl : xs.length ≤ 1000000) : Calls Tryz.prog 123 #[.string (strB xs)] w fun e w' => e = .returned (.bool (refB xs)) ∧ w = w' := by
  have hz := strB_size xs
  have t1 := strB_toList xs
  unfold refB
  cases xs with
  | nil =>
    go_enter Tryz.func123, Tryz.ntmps123
    go_wp2
    go_ret
    exact ⟨rfl, rfl⟩
  | cons x t =>
    have h0 : ∀ h, (strB (x :: t))[0]'h = x := fun h => strB_get _ _ _ h rfl
    rw [hdB_cons, hdB_cons]
    by_cases hx : x = 76
    · subst hx
      go_enter Tryz.func123, Tryz.ntmps123
      go_wp2
      go_ret
      exact ⟨rfl, rfl⟩
    · have q1 : ((x.toNat : Int) == 76) = false := ne8 (b := 76) hx
      rw [beq_false_of_ne hx]
      by_cases hx2 : x = 91
      · subst hx2
        go_enter Tryz.func123, Tryz.ntmps123
        go_wp2
        go_ret
        exact ⟨rfl, rfl⟩
      · have q2 : ((x.toNat : Int) == 91) = false := ne8 (b := 91) hx2
        rw [beq_false_of_ne hx2]
        clear hx hx2
        go_enter Tryz.func123, Tryz.ntmps123
        go_wp2
        go_ret
        exact ⟨rfl, rfl⟩

theorem refClassOf_any (xs : List UInt8) (w : World) (hl : xs.length ≤ 1000000) : Calls Tryz.prog 122 #[.string (strB xs)] w fun e w' => e = .returned (coV (classOfF xs)) ∧ w = w' := by
  by_cases h2 : xs.length < 2
  · have HE : Hid (classOfF xs = none) := Lib.hid (by
      match xs, h2 with
      | [], _ => rfl
      | [x], _ => simp [classOfF])
    have hz := strB_size xs
    go_enter Tryz.func122, Tryz.ntmps122
    go_wp2
    go_ret2
    exact ⟨by rw [HE.out]; rfl, rfl⟩
  · obtain ⟨x, u, y, rfl⟩ := long_form xs (by omega)
    have hul : u.length + 2 ≤ 1000000 := by simp at hl; omega
    have hE : classOfF (x :: (u ++ [y])) = if x = 76 ∧ y = 59 then some u else none := by simp [classOfF]
    have HE := Lib.hid hE
    have hx0 : ∀ h, (strB (x :: (u ++ [y])))[0]'h = x := fun h => strB_get _ _ _ h rfl
    have hy0 : ∀ h, (strB (x :: (u ++ [y])))[u.length + 1]'h = y := fun h => strB_get _ _ _ h (by simp)
    have he : (strB (x :: (u ++ [y]))).extract 1 (u.length + 1) = strB u := by rw [strB_ext]; simp
    have hz : (strB (x :: (u ++ [y]))).size = u.length + 2 := by rw [strB_size]; simp
    obtain ⟨s, hs⟩ : ∃ s, s = strB (x :: (u ++ [y])) := ⟨_, rfl⟩
    rw [← hs] at hx0 hy0 he hz ⊢
    obtain ⟨r, hr⟩ : ∃ r, r = classOfF (x :: (u ++ [y])) := ⟨_, rfl⟩
    rw [← hr] at HE ⊢
    obtain ⟨m, hm⟩ : ∃ m, m = u.length := ⟨_, rfl⟩
    rw [← hm] at hul hy0 he hz
    clear hs hr hl h2 hm hE
    by_cases hx : x = 76
    · by_cases hy : y = 59
      · have HE2 : Hid (r = some u) := Lib.hid (by rw [HE.out, if_pos ⟨hx, hy⟩])
        subst hx hy
        go_enter Tryz.func122, Tryz.ntmps122
        go_wp2
        go_ret2
        refine ⟨?_, rfl⟩
        rw [HE2.out]
        show Ending.returned (.tuple #[.string (s.extract 1 (m + 1)), .bool true]) = _
        rw [he]
        rfl
      · have q2 : ((y.toNat : Int) == 59) = false := ne8 (b := 59) hy
        have q3 := nen8 q2
        have HE2 : Hid (r = none) := Lib.hid (by rw [HE.out, if_neg (fun h => hy h.2)])
        subst hx
        clear hy
        go_enter Tryz.func122, Tryz.ntmps122
        go_wp2
        go_ret2
        exact ⟨by rw [HE2.out]; rfl, rfl⟩
    · have q1 : ((x.toNat : Int) == 76) = false := ne8 (b := 76) hx
      have q3 := nen8 q1
      have HE2 : Hid (r = none) := Lib.hid (by rw [HE.out, if_neg (fun h => hx h.1)])
      clear hx
      go_enter Tryz.func122, Tryz.ntmps122
      go_wp2
      go_ret2
      exact ⟨by rw [HE2.out]; rfl, rfl⟩

set_option maxHeartbeats 8000000 in
theorem refMethod_any (xs : List UInt8) (w : World) (hl : xs.length ≤ 1000000) :
    Calls Tryz.prog 69 #[.string (strB xs)] w fun e w' => MethD w w' (methodF xs) e := by
  have hz := strB_size xs
  have t1 := strB_toList xs
  cases xs with
  | nil =>
    have HE : Hid (methodF [] = none) := Lib.hid rfl
    go_enter Tryz.func69, Tryz.ntmps69
    go_wp2
    go_ret3
    exact MethD.no HE.out rfl (Below.refl _ _)
  | cons x s =>
    have h0 : ∀ h, (strB (x :: s))[0]'h = x := fun h => strB_get _ _ _ h rfl
    by_cases hx : x = 40
    · subst hx
      have he : (strB (40 :: s)).extract 1 (s.length + 1) = strB s := by rw [strB_ext]; simp
      have HM : Hid (methodF (40 :: s) = match (argsF 16 s).2 with
        | [] => none
        | y :: ret => if y = 41 ∧ retOk ret = true then some ((argsF 16 s).1, ret) else none) := Lib.hid rfl
      have hsl : s.length ≤ 1000000 := by simp at hl; omega
      obtain ⟨m, hm⟩ : ∃ m, m = methodF (40 :: s) := ⟨_, rfl⟩
      rw [← hm] at HM ⊢
      clear hm
      go_enter Tryz.func69, Tryz.ntmps69
      go_wp2
      clear h0 he hz t1
      go_loopw [5, 6] (fun v r wr => ∃ (ys : List UInt8) (A : Option Addr) (n c : Nat) (l : List (List UInt8)), v = .slice A n c ∧ r = .string (strB ys) ∧ n ≤ 16 ∧ ys.length ≤ s.length ∧ Hid (l.length = n) ∧ Hid (argsF 16 s = (l ++ (argsF (16 - n) ys).1, (argsF (16 - n) ys).2)) ∧ Hid (GotR svC 1 9 w.heap.size wr A n c l) ∧ Hid (Below w.heap.size w wr)) (fun v _ _ => match v with | .slice _ n _ => 16 - n | _ => 0)
      case atStart => exact ⟨s, none, 0, 0, [], rfl, rfl, by omega, Nat.le_refl _, Lib.hid rfl, Lib.hid rfl, Lib.hid (GotR.nil_ _ _ _ _ _), Lib.hid (Below.refl _ _)⟩
      case round =>
        obtain ⟨ys, A, n, c, l, rfl, rfl, hn16, hyl, HL, HA, HG, HB⟩ := hrel
        have hz := strB_size ys
        have t1 := strB_toList ys
        cases ys with
        | nil =>
          have HE : Hid (m = none) := Lib.hid (by rw [HM.out, HA.out, argsF_none _ _ rfl])
          go_wp2
          go_ret3
          exact MethD.no HE.out rfl HB.out
        | cons y t =>
          have h0 : ∀ h, (strB (y :: t))[0]'h = y := fun h => strB_get _ _ _ h rfl
          by_cases hy : y = 41
          · subst hy
            have HM2 : Hid (m = if retOk t = true then some (l, t) else none) := Lib.hid (by rw [HM.out, HA.out, argsF_none _ _ (cut_close t)]; simp)
            have he : (strB (41 :: t)).extract 1 (t.length + 1) = strB t := by rw [strB_ext]; simp
            have t2 := strB_toList t
            have htl : t.length ≤ 1000000 := by simp at hyl; omega
            have c4 := refIsType_any t wr htl
            cases ht : typeD 0 t with
            | true =>
              rw [ht] at c4
              have C4 := Lib.hid c4
              have HE : Hid (m = some (l, t)) := Lib.hid (by rw [HM2.out, if_pos (by unfold retOk; rw [ht, Bool.or_true])])
              clear c4 ht
              go_wp2_with fail
              refine C4.out.mono ?_
              rintro e w2 ⟨rfl, rfl⟩
              go_wp2
              go_quiet (fail)
              go_wp2
              go_ret3
              refine ⟨⟨A, n, c, ?_, by rw [HE.out]; exact HG.out.only svC_len ((Only.refl Empty _).drewN _) (fun _ _ _ h => h)⟩, HB.out.drewN _⟩
              rw [HE.out]
              rfl
            | false =>
              rw [ht] at c4
              have C4 := Lib.hid c4
              by_cases hv : t = [86]
              · have q1 : (t == [86]) = true := by rw [hv]; rfl
                have HE : Hid (m = some (l, t)) := Lib.hid (by rw [HM2.out, if_pos (by rw [hv]; rfl)])
                clear c4 ht hv
                go_wp2_with fail
                refine C4.out.mono ?_
                rintro e w2 ⟨rfl, rfl⟩
                go_wp2
                go_quiet (fail)
                go_wp2
                go_ret3
                refine ⟨⟨A, n, c, ?_, by rw [HE.out]; exact HG.out.only svC_len ((Only.refl Empty _).drewN _) (fun _ _ _ h => h)⟩, HB.out.drewN _⟩
                rw [HE.out]
                rfl
              · have q1 : (t == [86]) = false := beq_false_of_ne hv
                have HE : Hid (m = none) := Lib.hid (by rw [HM2.out, if_neg (by unfold retOk; rw [ht, q1]; exact Bool.false_ne_true)])
                clear c4 ht hv
                go_wp2_with fail
                refine C4.out.mono ?_
                rintro e w2 ⟨rfl, rfl⟩
                go_wp2
                go_ret3
                exact MethD.no HE.out rfl HB.out
          · have q1 : ((y.toNat : Int) == 41) = false := ne8 (b := 41) hy
            have q2 := nen8 q1
            have C := Lib.hid (first_any (y :: t) wr (by simp at hyl ⊢; omega))
            have hcl := cut_le (y :: t) 0
            have hem := take_empty hcl
            have tt := strB_toList ((y :: t).take (cutD 0 (y :: t)))
            have hzt := strB_size ((y :: t).take (cutD 0 (y :: t)))
            rw [List.length_take, Nat.min_eq_left hcl] at hzt
            obtain ⟨k, hk⟩ : ∃ k, k = cutD 0 (y :: t) := ⟨_, rfl⟩
            rw [← hk] at C hcl hem tt hzt
            by_cases hk0 : k = 0
            · have HE : Hid (m = none) := Lib.hid (by
                rw [HM.out, HA.out, argsF_none _ _ (hk.symm.trans hk0)]
                simp [hy])
              have ht : (y :: t).take k = [] := by rw [hk0]; rfl
              rw [ht] at C tt
              clear hk hk0 hem ht hy hzt
              go_wp2_with fail
              refine C.out.mono ?_
              rintro e w' ⟨rfl, rfl⟩
              go_wp2
              go_ret3
              exact MethD.no HE.out rfl HB.out
            · have hne : ((y :: t).take k).isEmpty = false := by rw [hem]; exact decide_eq_false hk0
              have hne2 : (y :: t).take k ≠ [] := by
                intro e
                rw [e] at hne
                cases hne
              by_cases hlt : n < 16
              · have HA2 : Hid (argsF 16 s = ((l ++ [(y :: t).take k]) ++ (argsF (16 - (n + 1)) ((y :: t).drop k)).1, (argsF (16 - (n + 1)) ((y :: t).drop k)).2)) := Lib.hid (by
                  rw [HA.out, show 16 - n = (16 - (n + 1)) + 1 by omega, argsF_step _ _ (by rw [← hk]; exact hk0), ← hk]
                  simp)
                have hdl : ((y :: t).drop k).length ≤ s.length := by rw [List.length_drop]; omega
                have HL2 : Hid ((l ++ [(y :: t).take k]).length = n + 1) := Lib.hid (by rw [List.length_append, HL.out]; rfl)
                have he := strB_from (y :: t) k
                have hzl : (y :: t).length = t.length + 1 := rfl
                rw [hzl] at he hcl
                have qn : ((n : Int) == 16) = false := by rw [beq_eq_false_iff_ne]; omega
                obtain ⟨a, ha⟩ : ∃ a, a = (y :: t).take k := ⟨_, rfl⟩
                obtain ⟨b, hb⟩ : ∃ b, b = (y :: t).drop k := ⟨_, rfl⟩
                rw [← ha] at C tt hne hne2 HA2 HL2 hzt
                rw [← hb] at HA2 hdl he
                clear hk hk0 hem ha hb hy hzl
                go_wp2_with fail
                refine C.out.mono ?_
                rintro e w1 ⟨rfl, rfl⟩
                have HB2 := Lib.hid (HB.out.alloc HB.out.size (.cells #[.string (strB a)] 9))
                have HG2 := Lib.hid (HG.out.alloc svC_len (.cells #[.string (strB a)] 9))
                have HS := Lib.hid (sv_lit a wr)
                go_wp2_with (at_builtin; refine wpList_append_sv rfl (.tmp 33) (.tmp 35) rfl w.heap.size A n c l rfl HG2.out (some ⟨wr.heap.size, 0, none⟩) 1 1 [a] rfl HS.out (fun h => by cases h) (by omega) HB2.out.size ?_; intro A' c' w' hg' hgr' hr')
                have HG3 := Lib.hid hg'
                have HB3 := Lib.hid (below_gotR HB2.out HB2.out.size hgr' hr' (Nat.le_refl _))
                clear hg' hgr' hr'
                go_wp2
                go_roundw
                case rel => exact ⟨b, A', n + 1, c', l ++ [a], rfl, rfl, by omega, hdl, HL2, HA2, HG3, HB3⟩
                case measure => show 16 - (n + 1) < 16 - n; omega
              · obtain rfl : n = 16 := by omega
                have HE : Hid (m = none) := Lib.hid (by
                  rw [HM.out, HA.out]
                  simp [argsF, hy])
                obtain ⟨a, ha⟩ : ∃ a, a = (y :: t).take k := ⟨_, rfl⟩
                rw [← ha] at C tt hne hne2 hzt
                clear hk hk0 hem ha hy
                go_wp2_with fail
                refine C.out.mono ?_
                rintro e w1 ⟨rfl, rfl⟩
                go_wp2
                go_ret3
                exact MethD.no HE.out rfl HB.out
    · have q1 : ((x.toNat : Int) == 40) = false := ne8 (b := 40) hx
      have q2 := nen8 q1
      have HE : Hid (methodF (x :: s) = none) := Lib.hid (by simp [methodF, hx])
      clear hx
      go_enter Tryz.func69, Tryz.ntmps69
      go_wp2
      go_ret3
      exact MethD.no HE.out rfl (Below.refl _ _)

end Go.Proofs.YtblnhobbnkcbeaaGreatDoor

/- Units as they lie in memory; the maps of a world of hier. -/
namespace Go.Proofs.YtblnhobbnkcbeaaGreatDoor
set_option maxRecDepth 100000
open Go.RowKit
open Go.Maps (Keyed)

def strT : RepT Bs where
  k := 1
  rep _ _ cs v := cs = [.string (strB v)]
  len h := by rw [h]; rfl
  next h _ _ := h
def fdT : RepT FdD where
  k := 3
  rep _ _ cs v := cs = [.bool v.static, .string (strB v.name), .string (strB v.desc)]
  len h := by rw [h]; rfl
  next h _ _ := h
def trT : RepT TrD where
  k := 4
  rep _ _ cs v := cs = [.int .i64 v.a, .int .i64 v.b, .int .i64 v.c, .string (strB v.cls)]
  len h := by rw [h]; rfl
  next h _ _ := h
def inT : RepT InD where
  k := 7
  rep _ _ cs v := cs = [.int .u8 (v.op.toNat : Int), .int .i64 v.n, .int .i64 v.m, .string (strB v.cls), .string (strB v.name), .string (strB v.desc), .string (strB v.text)]
  len h := by rw [h]; rfl
  next h _ _ := h
def mpT : RepT MpD where
  k := 3
  rep w Z cs v := ∃ a b, cs = [.int .i64 v.at_, a, b] ∧ (rowT strT).rep w Z [a] v.locals ∧ (rowT strT).rep w Z [b] v.stack
  len h := by obtain ⟨_, _, rfl, _⟩ := h; rfl
  next h k hZ := by
    obtain ⟨a, b, rfl, h1, h2⟩ := h
    exact ⟨a, b, rfl, (rowT strT).next h1 k hZ, (rowT strT).next h2 k hZ⟩
/-- A method; its codes and maps are looked at where 'full' says so. -/
def meT (full : Bool) : RepT MeD where
  k := 8
  rep w Z cs v := ∃ Ac nc cc At nt ct Ap np cp, cs = [.bool v.static, .string (strB v.name), .string (strB v.desc), .int .i64 v.stack, .int .i64 v.locals, .slice Ac nc cc, .slice At nt ct, .slice Ap np cp] ∧
    RowS trT w Z At nt ct v.traps ∧ (full = true → RowS inT w Z Ac nc cc v.code ∧ RowS mpT w Z Ap np cp v.maps)
  len h := by obtain ⟨_, _, _, _, _, _, _, _, _, rfl, _⟩ := h; rfl
  next h k hZ := by
    obtain ⟨Ac, nc, cc, At, nt, ct, Ap, np, cp, rfl, h1, h2⟩ := h
    exact ⟨Ac, nc, cc, At, nt, ct, Ap, np, cp, rfl, h1.next k hZ, fun hf => ⟨(h2 hf).1.next k hZ, (h2 hf).2.next k hZ⟩⟩
def unT (full : Bool) : RepT UnD where
  k := 4
  rep w Z cs v := ∃ Af nf cf Am nm cm, cs = [.string (strB v.name), .string (strB v.super), .slice Af nf cf, .slice Am nm cm] ∧ RowS fdT w Z Af nf cf v.fields ∧ RowS (meT full) w Z Am nm cm v.meths
  len h := by obtain ⟨_, _, _, _, _, _, rfl, _⟩ := h; rfl
  next h k hZ := by
    obtain ⟨Af, nf, cf, Am, nm, cm, rfl, h1, h2⟩ := h
    exact ⟨Af, nf, cf, Am, nm, cm, rfl, h1.next k hZ, h2.next k hZ⟩
/-- A method, a unit, whose codes and maps aren't looked at; and read whole. -/
abbrev meW : RepT MeD := meT false
abbrev unW : RepT UnD := unT false
abbrev meF : RepT MeD := meT true
abbrev unF : RepT UnD := unT true
theorem meW_of {w : World} {Z : Nat → Prop} {cs : List Value} {x : MeD} (h : meF.rep w Z cs x) : meW.rep w Z cs x := by
  obtain ⟨Ac, nc, cc, At, nt, ct, Ap, np, cp, rfl, h1, _⟩ := h
  exact ⟨Ac, nc, cc, At, nt, ct, Ap, np, cp, rfl, h1, fun h => by cases h⟩
theorem unW_of {w : World} {Z : Nat → Prop} {cs : List Value} {x : UnD} (h : unF.rep w Z cs x) : unW.rep w Z cs x := by
  obtain ⟨Af, nf, cf, Am, nm, cm, rfl, h1, h2⟩ := h
  exact ⟨Af, nf, cf, Am, nm, cm, rfl, h1, h2.weak rfl (fun _ _ h => meW_of h)⟩

/-- How keys and elements of a world's maps lie. -/
def strV (s : { s : Bs // s.length ≤ 1000000 }) : Value := .string (strB s.1)
def clsV (s : Bs) : Value := .agg #[.string (strB s)]
abbrev Key3 := Bs × Bs × Bs
def memKV (q : Key3) : Value := .agg #[.string (strB q.1), .string (strB q.2.1), .string (strB q.2.2)]
def memV (q : Bs × Bool) : Value := .agg #[.string (strB q.1), .bool q.2]
def voidV (_ : Unit) : Value := .agg #[]
theorem strB_inj {a b : Bs} (h : strB a = strB b) : a = b := by
  have := congrArg (fun s : ByteArray => s.data.toList) h
  simpa [strB] using this
def strKV (s : Bs) : Value := .string (strB s)
theorem strKV_inj : ∀ a b, strKV a = strKV b → a = b := fun a b h => strB_inj (by simpa [strKV] using h)
theorem memKV_inj : ∀ a b, memKV a = memKV b → a = b := fun a b h => by
  simp [memKV] at h
  exact Prod.ext (strB_inj h.1) (Prod.ext (strB_inj h.2.1) (strB_inj h.2.2))

theorem Tryz.strKeyed : Keyed Tryz.prog 9 := Go.Maps.string_keyed Tryz.underlying9
theorem Tryz.memKeyed : Keyed Tryz.prog 100 := Keyed.of_law (deep_law_laid (by kernel_rfl) (m := 3) (by omega) (of_decide_eq_true (by kernel_rfl)) (by kernel_rfl) (by kernel_rfl))
theorem str_key (s : Bs) (h : s.length ≤ 1000000) : keyOf Tryz.prog 9 (strKV s) = some (.string (strB s).data.toList) :=
  WideMaps.keyOf_string_mk Tryz.underlying9 (by rw [strB_size]; unfold maxLen; omega)
theorem mem_key (q : Key3) (h1 : q.1.length ≤ 1000000) (h2 : q.2.1.length ≤ 1000000) (h3 : q.2.2.length ≤ 1000000) : ∃ kl, keyOf Tryz.prog 100 (memKV q) = some kl := by
  unfold keyOf
  have e1 : Tryz.prog.keyType 100 = true := by kernel_rfl
  have e2 : Tryz.prog.cellsOf 100 = 3 := by kernel_rfl
  have e4 : Tryz.prog.cellsOf 9 = 1 := by kernel_rfl
  have e3 : ∃ d, Tryz.prog.types.size = d + 1 := ⟨Tryz.prog.types.size - 1, by have : 0 < Tryz.prog.types.size := of_decide_eq_true (by kernel_rfl); omega⟩
  obtain ⟨d, e3⟩ := e3
  have z : ∀ (x : Bs), x.length ≤ 1000000 → (strB x).size ≤ maxLen := fun x hx => by rw [strB_size]; unfold maxLen; omega
  rw [Tryz.underlying100]
  simp [e1, Value.formed, memKV, Tryz.underlying100, e2, e3]
  obtain ⟨d', e5⟩ : ∃ d', d = d' + 1 := ⟨d - 1, by have : 1 < Tryz.prog.types.size := of_decide_eq_true (by kernel_rfl); omega⟩
  subst e5
  simp [Program.keyLits, Tryz.underlying100, Tryz.underlying9, e2, e4, Value.cells, z _ h1, z _ h2, z _ h3]

end Go.Proofs.YtblnhobbnkcbeaaGreatDoor
