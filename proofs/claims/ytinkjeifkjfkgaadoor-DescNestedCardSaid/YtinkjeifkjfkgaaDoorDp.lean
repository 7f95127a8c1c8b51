/- The walk of DescNested. -/
import Derived.Test.YtinkjeifkjfkgaaDoorDi
namespace Go.Proofs.YtinkjeifkjfkgaaDoor
set_option maxRecDepth 100000
open Go.RowKit

/-- What stands behind a bracket is a type, or bytes. -/
theorem elem_type (d : Nat) (t : List UInt8) (h : typeD d (91 :: t) = true) : typeD (d + 1) t = true := by
  rw [typeD, if_pos rfl] at h
  exact h
theorem typeD_less : ∀ (t : List UInt8) (d : Nat), typeD (d + 1) t = true → typeD d t = true ∨ (d = 0 ∧ t = [66])
  | [], _, h => by cases h
  | x :: t, d, h => by
    rw [typeD] at h
    rw [typeD]
    by_cases hx : x = 91
    · rw [if_pos hx] at h ⊢
      rcases typeD_less t (d + 1) h with h | ⟨h, -⟩
      · exact .inl h
      · omega
    · rw [if_neg hx] at h ⊢
      rw [Bool.and_eq_true] at h
      obtain ⟨h8, h⟩ := h
      have h8 := of_decide_eq_true h8
      by_cases h66 : x = 66 ∧ d = 0 ∧ t = []
      · exact .inr ⟨h66.2.1, by rw [h66.1, h66.2.2]⟩
      · refine .inl ?_
        rw [Bool.and_eq_true]
        refine ⟨decide_eq_true (by omega), ?_⟩
        simp only [Bool.or_eq_true, Bool.and_eq_true, decide_eq_true_eq, beq_iff_eq] at h ⊢
        rcases h with ((h | h) | h) | h
        · exact .inl (.inl (.inl h))
        · omega
        · refine .inl (.inr ?_)
          refine ⟨⟨?_, h.1.2⟩, h.2⟩
          have ht : t = [] := by simpa using h.2
          have : d ≠ 0 := fun e => h66 ⟨h.1.2, e, ht⟩
          omega
        · exact .inr h
/-- How many brackets there may be more. -/
def depth : List UInt8 → Nat
  | [] => 0
  | x :: t => if x = 91 then depth t + 1 else 0
theorem typeD_depth : ∀ (t : List UInt8) (d : Nat), typeD d t = true → d + depth t ≤ 8
  | [], _, h => by cases h
  | x :: t, d, h => by
    rw [typeD] at h
    unfold depth
    by_cases hx : x = 91
    · rw [if_pos hx] at h ⊢
      have := typeD_depth t (d + 1) h
      omega
    · rw [if_neg hx] at h ⊢
      rw [Bool.and_eq_true] at h
      have := of_decide_eq_true h.1
      omega
/-- A type's class is one, and tells the type. -/
theorem type_class (t : List UInt8) (h : typeD 0 t = true) (c : List UInt8) (hc : classOfF t = some c) : classB c = true ∧ objL c = t := by
  cases t with
  | nil => cases h
  | cons x u =>
    unfold classOfF at hc
    by_cases hx : x = 76 ∧ u.getLast? = some 59
    · simp only [if_pos hx] at hc
      obtain rfl : u.dropLast = c := Option.some.inj hc
      obtain ⟨rfl, hl⟩ := hx
      rw [typeD] at h
      simp only [show ((76 : UInt8) = 91) = False by decide, if_false] at h
      have hb : objB u = true := by simpa using h
      refine ⟨?_, ?_⟩
      · unfold objB at hb
        rw [Bool.and_eq_true] at hb
        exact hb.2
      · have hne : u ≠ [] := by rintro rfl; cases hl
        have hg : u.getLast hne = 59 := by rw [List.getLast?_eq_some_getLast hne] at hl; simpa using hl
        have := List.dropLast_concat_getLast hne
        rw [hg] at this
        unfold objL
        rw [this]
    · simp only [if_neg hx] at hc
      cases hc

set_option maxHeartbeats 8000000 in
theorem descNested_calls (xs : List UInt8) (w : World) (hl0 : xs.length ≤ 9223372036854775807) :
    Calls Tryd.prog 5 #[.string (strB xs)] w fun e w' => e = .returned (.bool true) ∧ Below w.heap.size w w' := by
  have hz := strB_size xs
  have C0 := Lib.hid (fixed12_any w)
  by_cases hl : xs.length ≤ 300
  · cases ht : typeD 0 xs with
    | false =>
      have CT : Hid (∀ W, Calls Tryd.prog 15 #[.string (strB xs)] W fun e w' => e = .returned (.bool false) ∧ Below W.heap.size W w') := Lib.hid (fun W => by rw [← ht]; exact isType_any xs W (by omega))
      clear ht
      go_enter Tryd.func5, Tryd.ntmps5
      go_wp2_with fail
      refine C0.out.mono ?_
      rintro e w1 ⟨rfl, hb1⟩
      have HB1 := Lib.hid hb1
      clear hb1
      go_wp2_with fail
      refine (CT.out w1).mono ?_
      rintro e w2 ⟨rfl, hb2⟩
      have HB2 := Lib.hid (HB1.out.trans (hb2.mono HB1.out.size))
      clear hb2
      go_wp2
      go_ret
      exact ⟨rfl, HB2.out⟩
    | true =>
      have CT : Hid (∀ W, Calls Tryd.prog 15 #[.string (strB xs)] W fun e w' => e = .returned (.bool true) ∧ Below W.heap.size W w') := Lib.hid (fun W => by rw [← ht]; exact isType_any xs W (by omega))
      have HTY := Lib.hid ht
      have HDP := Lib.hid (typeD_depth xs 0 ht)
      clear ht
      go_enter Tryd.func5, Tryd.ntmps5
      go_wp2_with fail
      refine C0.out.mono ?_
      rintro e w1 ⟨rfl, hb1⟩
      have HB1 := Lib.hid hb1
      clear hb1
      go_wp2_with fail
      refine (CT.out w1).mono ?_
      rintro e w2 ⟨rfl, hb2⟩
      have HB2 := Lib.hid (HB1.out.trans (hb2.mono HB1.out.size))
      clear hb2
      go_wp2
      clear hz
      go_loopw [0, 17] (fun s i wr => ∃ (k : Nat) (ys : List UInt8), k ≤ 8 ∧ k + depth ys ≤ 8 ∧ ys.length ≤ 300 ∧ s = .string (strB ys) ∧ i = .int .i64 (k : Int) ∧ Hid (typeD 0 ys = true ∨ ys = [66]) ∧ Hid (Below w.heap.size w wr)) (fun _ i _ => 9 - (intOf i).toNat)
      case atStart => exact ⟨0, xs, by omega, by have := HDP.out; omega, hl, rfl, rfl, Lib.hid (.inl HTY.out), HB2⟩
      case round =>
        obtain ⟨k, ys, hk, hkd, hyl, rfl, rfl, HT, HB⟩ := hrel
        cases hb : hdB 91 ys with
        | true =>
          cases ys with
          | nil => cases hb
          | cons y t =>
            obtain rfl : y = 91 := by simpa [hdB] using hb
            have CE : Hid (Calls Tryd.prog 9 #[.string (strB (91 :: t))] wr fun e w' => e = .returned (.tuple #[.string (strB t), .bool true]) ∧ wr = w') := Lib.hid (elem_any (91 :: t) wr)
            have hdt : depth (91 :: t) = depth t + 1 := by rw [depth, if_pos rfl]
            rw [hdt] at hkd
            have hty : typeD 0 (91 :: t) = true := by
              rcases HT.out with h | h
              · exact h
              · simp at h
            have htl : t.length ≤ 300 := by simp at hyl; omega
            have c2 := isType_any t wr (by omega)
            have t1 := strB_toList t
            have hway := typeD_less t 0 (elem_type 0 t hty)
            have HW : Hid (typeD 0 t = true ∨ t = [66]) := Lib.hid (hway.imp id (·.2))
            clear hb hdt hty
            cases ht : typeD 0 t with
            | true =>
              rw [ht] at c2
              have C2 := Lib.hid c2
              clear c2 ht hway
              go_wp2_with fail
              refine CE.out.mono ?_
              rintro e w' ⟨rfl, rfl⟩
              go_wp2_with fail
              refine C2.out.mono ?_
              rintro e w3 ⟨rfl, hb3⟩
              have HB3 := Lib.hid (HB.out.trans (hb3.mono HB.out.size))
              clear hb3
              go_wp2
              go_roundw
              case rel => exact ⟨k + 1, t, by omega, by omega, htl, rfl, by go_num, HW, HB3⟩
              case measure => simp [intOf]; omega
            | false =>
              rw [ht] at c2 hway
              have C2 := Lib.hid c2
              have h66 : t = [66] := by
                rcases hway with h | h
                · cases h
                · exact h.2
              subst h66
              clear c2 ht hway
              go_wp2_with fail
              refine CE.out.mono ?_
              rintro e w' ⟨rfl, rfl⟩
              go_wp2_with fail
              refine C2.out.mono ?_
              rintro e w3 ⟨rfl, hb3⟩
              have HB3 := Lib.hid (HB.out.trans (hb3.mono HB.out.size))
              clear hb3
              go_wp2
              go_roundw
              case rel => exact ⟨k + 1, [66], by omega, by omega, by decide, rfl, by go_num, Lib.hid (.inr rfl), HB3⟩
              case measure => simp [intOf]; omega
        | false =>
          have CE : Hid (Calls Tryd.prog 9 #[.string (strB ys)] wr fun e w' => e = .returned (.tuple #[.string ⟨#[]⟩, .bool false]) ∧ wr = w') := Lib.hid (by
            have h := elem_any ys wr
            unfold elemV at h
            rw [hb] at h
            exact h)
          have c2 := classOf_any ys wr (by omega)
          clear hb
          cases hc : classOfF ys with
          | none =>
            rw [hc] at c2
            unfold coV at c2
            have C2 := Lib.hid c2
            clear c2 hc
            go_wp2_with fail
            refine CE.out.mono ?_
            rintro e w' ⟨rfl, rfl⟩
            go_wp2_with fail
            refine C2.out.mono ?_
            rintro e w' ⟨rfl, rfl⟩
            go_wp2
            go_ret
            exact ⟨rfl, HB.out⟩
          | some c =>
            rw [hc] at c2
            unfold coV at c2
            have C2 := Lib.hid c2
            have hty : typeD 0 ys = true := by
              rcases HT.out with h | h
              · exact h
              · rw [h] at hc; simp [classOfF] at hc
            obtain ⟨hcb, hob⟩ := type_class ys hty c hc
            have hcl := class_len c hcb
            have c3 := isClass_any c wr (by omega)
            rw [hcb] at c3
            have C3 := Lib.hid c3
            have CO : Hid (∀ W, Calls Tryd.prog 20 #[.string (strB c)] W fun e w' => e = .returned (.string (strB ys)) ∧ W = w') := Lib.hid (fun W => by
              have := object_any c W (by omega)
              rw [hob] at this
              exact this)
            have hrf : refB ys = true := by rw [← hob]; rfl
            have CR : Hid (∀ W, Calls Tryd.prog 18 #[.string (strB ys)] W fun e w' => e = .returned (.bool true) ∧ W = w') := Lib.hid (fun W => by
              have := isRef_any ys W
              rw [hrf] at this
              exact this)
            have ty := strB_toList ys
            clear c2 c3 hc hty hcb hob hrf
            go_wp2_with fail
            refine CE.out.mono ?_
            rintro e w' ⟨rfl, rfl⟩
            go_wp2_with fail
            refine C2.out.mono ?_
            rintro e w' ⟨rfl, rfl⟩
            go_wp2_with fail
            refine C3.out.mono ?_
            rintro e w3 ⟨rfl, hb3⟩
            have HB3 := Lib.hid (HB.out.trans (hb3.mono HB.out.size))
            clear hb3
            go_wp2_with fail
            refine (CO.out w3).mono ?_
            rintro e w' ⟨rfl, rfl⟩
            go_wp2_with fail
            refine (CR.out w3).mono ?_
            rintro e w' ⟨rfl, rfl⟩
            go_wp2
            go_ret
            exact ⟨rfl, HB3.out⟩
  · go_enter Tryd.func5, Tryd.ntmps5
    go_wp2_with fail
    refine C0.out.mono ?_
    rintro e w1 ⟨rfl, hb1⟩
    have HB1 := Lib.hid hb1
    clear hb1
    go_wp2
    go_ret
    exact ⟨rfl, HB1.out⟩

end Go.Proofs.YtinkjeifkjfkgaaDoor
