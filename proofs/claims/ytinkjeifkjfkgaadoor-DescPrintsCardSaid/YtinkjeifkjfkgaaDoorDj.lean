/- The walk of DescTells. -/
import Derived.Test.YtinkjeifkjfkgaaDoorDi
namespace Go.Proofs.YtinkjeifkjfkgaaDoor
set_option maxRecDepth 100000
open Go.RowKit

theorem mArgs_len (xs : List UInt8) : (mArgs (methodF xs)).length ≤ 16 := by
  cases xs with
  | nil => simp [mArgs, methodF]
  | cons x s =>
    unfold methodF
    have h := argsF_len 16 s
    by_cases hx : x = 40
    · simp only [if_pos hx]
      cases (argsF 16 s).2 with
      | nil => simp [mArgs]
      | cons y ret =>
        simp only
        split
        · exact h
        · simp [mArgs]
    · simp only [if_neg hx]
      simp [mArgs]
theorem elemV_form (xs : List UInt8) : ∃ s b, elemV xs = .tuple #[.string s, .bool b] := by
  unfold elemV
  split
  · exact ⟨_, _, rfl⟩
  · exact ⟨_, _, rfl⟩
theorem coV_form (r : Option (List UInt8)) : ∃ s b, coV r = .tuple #[.string s, .bool b] := by
  cases r with
  | none => exact ⟨_, _, rfl⟩
  | some c => exact ⟨_, _, rfl⟩

set_option maxHeartbeats 4000000 in
theorem descTells_calls (xs : List UInt8) (w : World) (hl0 : xs.length ≤ 9223372036854775807) :
    Calls Tryd.prog 3 #[.string (strB xs)] w fun e w' => e = .returned (.bool true) ∧ Below w.heap.size w w' := by
  have hz := strB_size xs
  by_cases hl : xs.length ≤ 400
  · have C0 := Lib.hid (fixed12_any w)
    obtain ⟨r, hr⟩ : ∃ r, r = methodF xs := ⟨_, rfl⟩
    obtain ⟨es, eb, hel⟩ := elemV_form xs
    obtain ⟨cs, cb, hco⟩ := coV_form (classOfF xs)
    have CM : Hid (∀ W, Calls Tryd.prog 7 #[.string (strB xs)] W fun e w' => MethD W w' r e) := Lib.hid (fun W => by rw [hr]; exact method_any xs W (by omega))
    have CM2 : Hid (∀ W, Calls Tryd.prog 8 #[.string (strB xs)] W fun e w' => MethD W w' r e) := Lib.hid (fun W => by rw [hr]; exact refMethod_any xs W (by omega))
    have CE : Hid (∀ W, Calls Tryd.prog 9 #[.string (strB xs)] W fun e w' => e = .returned (.tuple #[.string es, .bool eb]) ∧ W = w') := Lib.hid (fun W => by rw [← hel]; exact elem_any xs W)
    have CE2 : Hid (∀ W, Calls Tryd.prog 10 #[.string (strB xs)] W fun e w' => e = .returned (.tuple #[.string es, .bool eb]) ∧ W = w') := Lib.hid (fun W => by rw [← hel]; exact refElem_any xs W (by omega))
    have CC : Hid (∀ W, Calls Tryd.prog 11 #[.string (strB xs)] W fun e w' => e = .returned (.tuple #[.string cs, .bool cb]) ∧ W = w') := Lib.hid (fun W => by rw [← hco]; exact classOf_any xs W (by omega))
    have CC2 : Hid (∀ W, Calls Tryd.prog 12 #[.string (strB xs)] W fun e w' => e = .returned (.tuple #[.string cs, .bool cb]) ∧ W = w') := Lib.hid (fun W => by rw [← hco]; exact refClassOf_any xs W (by omega))
    obtain ⟨kb, hkb⟩ : ∃ kb, kb = classB xs := ⟨_, rfl⟩
    obtain ⟨tb, htb⟩ : ∃ tb, tb = typeD 0 xs := ⟨_, rfl⟩
    obtain ⟨rb, hrb⟩ : ∃ rb, rb = refB xs := ⟨_, rfl⟩
    have CK : Hid (∀ W, Calls Tryd.prog 13 #[.string (strB xs)] W fun e w' => e = .returned (.bool kb) ∧ Below W.heap.size W w') := Lib.hid (fun W => by rw [hkb]; exact isClass_any xs W (by omega))
    have CK2 : Hid (∀ W, Calls Tryd.prog 14 #[.string (strB xs)] W fun e w' => e = .returned (.bool kb) ∧ W = w') := Lib.hid (fun W => by rw [hkb]; exact refIsClass_any xs W (by omega))
    have CT : Hid (∀ W, Calls Tryd.prog 15 #[.string (strB xs)] W fun e w' => e = .returned (.bool tb) ∧ Below W.heap.size W w') := Lib.hid (fun W => by rw [htb]; exact isType_any xs W (by omega))
    have CT2 : Hid (∀ W, Calls Tryd.prog 16 #[.string (strB xs)] W fun e w' => e = .returned (.bool tb) ∧ W = w') := Lib.hid (fun W => by rw [htb]; exact refIsType_any xs W (by omega))
    have CR : Hid (∀ W, Calls Tryd.prog 18 #[.string (strB xs)] W fun e w' => e = .returned (.bool rb) ∧ W = w') := Lib.hid (fun W => by rw [hrb]; exact isRef_any xs W)
    have CR2 : Hid (∀ W, Calls Tryd.prog 19 #[.string (strB xs)] W fun e w' => e = .returned (.bool rb) ∧ W = w') := Lib.hid (fun W => by rw [hrb]; exact refIsRef_any xs W (by omega))
    have CO : Hid (∀ W, Calls Tryd.prog 20 #[.string (strB xs)] W fun e w' => e = .returned (.string (strB (objL xs))) ∧ W = w') := Lib.hid (fun W => object_any xs W (by omega))
    have h1 : (⟨#[76]⟩ : ByteArray) ++ strB xs = strB (76 :: xs) := by rw [lit_strB, strB_cat]; rfl
    have h2 : strB (76 :: xs) ++ (⟨#[59]⟩ : ByteArray) = strB (objL xs) := by rw [lit_strB, strB_cat]; rfl
    have hz2 := strB_size (76 :: xs)
    obtain ⟨er, her⟩ : ∃ er, er = mErr r := ⟨_, rfl⟩
    have HL16 : Hid ((mArgs r).length ≤ 16) := Lib.hid (by rw [hr]; exact mArgs_len xs)
    clear hr hel hco hkb htb hrb
    have HE := Lib.hid her
    clear her
    go_enter Tryd.func3, Tryd.ntmps3
    go_wp2_with fail
    refine C0.out.mono ?_
    rintro e w1 ⟨rfl, hb1⟩
    have HB1 := Lib.hid hb1
    clear hb1
    go_wp2_with fail
    refine (CM.out w1).mono ?_
    rintro e w2 ⟨⟨A, n, c, rfl, hg⟩, hb2⟩
    have HB2 := Lib.hid (HB1.out.trans (hb2.mono HB1.out.size))
    have HN := Lib.hid hg.row.1
    have HT : Hid (TextsSl w2 A n c (mArgs r)) := Lib.hid hg.row
    clear hb2 hg
    rw [← HE.out]
    go_wp2_with fail
    refine (CM2.out w2).mono ?_
    rintro e w3 ⟨⟨A2, n2, c2, rfl, hg2⟩, hb3⟩
    have hn2 : n2 = n := by have := HN.out; have := hg2.row.1; omega
    subst hn2
    have HB3 := Lib.hid (HB2.out.trans (hb3.mono HB2.out.size))
    have HT2 : Hid (TextsSl w3 A2 n2 c2 (mArgs r)) := Lib.hid hg2.row
    have HT1 : Hid (TextsSl w3 A n2 c (mArgs r)) := Lib.hid (HT.out.below hb3)
    clear hb3 hg2 HT
    rw [← HE.out]
    have hn16 : n2 ≤ 1000000 := by have := HN.out; have := HL16.out; omega
    go_wp2_with (first
      | (go_at_call 9; (with_reducible refine (CE.out _).mono ?_); rintro e w' ⟨rfl, rfl⟩)
      | (go_at_call 10; (with_reducible refine (CE2.out _).mono ?_); rintro e w' ⟨rfl, rfl⟩)
      | (go_at_call 11; (with_reducible refine (CC.out _).mono ?_); rintro e w' ⟨rfl, rfl⟩)
      | (go_at_call 12; (with_reducible refine (CC2.out _).mono ?_); rintro e w' ⟨rfl, rfl⟩)
      | fail)
    refine (CK.out w3).mono ?_
    rintro e w4 ⟨rfl, hb4⟩
    have HB4 := Lib.hid (HB3.out.trans (hb4.mono HB3.out.size))
    have HT3 : Hid (TextsSl w4 A n2 c (mArgs r)) := Lib.hid (HT1.out.below hb4)
    have HT4 : Hid (TextsSl w4 A2 n2 c2 (mArgs r)) := Lib.hid (HT2.out.below hb4)
    clear hb4 HT1 HT2
    go_wp2_with fail
    refine (CK2.out w4).mono ?_
    rintro e w' ⟨rfl, rfl⟩
    go_wp2_with fail
    refine (CT.out w4).mono ?_
    rintro e w5 ⟨rfl, hb5⟩
    have HB5 := Lib.hid (HB4.out.trans (hb5.mono HB4.out.size))
    have HT5 : Hid (TextsSl w5 A n2 c (mArgs r)) := Lib.hid (HT3.out.below hb5)
    have HT6 : Hid (TextsSl w5 A2 n2 c2 (mArgs r)) := Lib.hid (HT4.out.below hb5)
    clear hb5 HT3 HT4
    go_wp2_with fail
    refine (CT2.out w5).mono ?_
    rintro e w' ⟨rfl, rfl⟩
    go_wp2_with fail
    refine (same_yes A A2 n2 c c2 _ w5 HT5.out HT6.out hn16).mono ?_
    rintro e w6 ⟨rfl, q, rfl⟩
    have HB6 := Lib.hid (HB5.out.drewN q)
    go_wp2_with (first
      | (go_at_call 18; (with_reducible refine (CR.out _).mono ?_); rintro e w' ⟨rfl, rfl⟩)
      | (go_at_call 19; (with_reducible refine (CR2.out _).mono ?_); rintro e w' ⟨rfl, rfl⟩)
      | (go_at_call 20; (with_reducible refine (CO.out _).mono ?_); rintro e w' ⟨rfl, rfl⟩)
      | fail)
    go_ret
    exact ⟨rfl, HB6.out⟩
  · have C0 := Lib.hid (fixed12_any w)
    go_enter Tryd.func3, Tryd.ntmps3
    go_wp2_with fail
    refine C0.out.mono ?_
    rintro e w1 ⟨rfl, hb1⟩
    have HB1 := Lib.hid hb1
    clear hb1
    go_wp2
    go_ret
    exact ⟨rfl, HB1.out⟩

end Go.Proofs.YtinkjeifkjfkgaaDoor
