/- The walks over the law's same, the program's Slots, the law's fixed calls. -/
import Derived.Test.YtinkjeifkjfkgaaDoorDh
namespace Go.Proofs.YtinkjeifkjfkgaaDoor
set_option maxRecDepth 100000
open Go.RowKit

abbrev TextsSl (w : World) (A : Option Addr) (n c : Nat) (l : List (List UInt8)) : Prop := RowSl svC 1 w Empty A n c l
theorem texts_at {w : World} {A : Option Addr} {n c : Nat} {l : List (List UInt8)} (h : TextsSl w A n c l) {k : Nat} (hk : k < n) : ∃ b o p, A = some ⟨b, o, none⟩ ∧ l[k]? = some p ∧ b < w.heap.size ∧ w.cell? ⟨b, o + k, none⟩ = some (.string (strB p)) := by
  obtain ⟨b, o, p, hA, hb, _, hp, hc⟩ := RowSl.at_ h hk
  refine ⟨b, o, p, hA, hp, hb, ?_⟩
  have := hc 0 (by omega)
  simpa [svC, SV] using this

theorem same_yes (A B : Option Addr) (n c d : Nat) (l : List (List UInt8)) (w : World) (hA : TextsSl w A n c l) (hB : TextsSl w B n d l) (hn : n ≤ 1000000) :
    Calls Tryd.prog 17 #[.slice A n c, .slice B n d] w fun e w' => e = .returned (.bool true) ∧ ∃ q, w' = w.drewN q := by
  have HA := Lib.hid hA
  have HB := Lib.hid hB
  clear hA hB
  go_enter Tryd.func17, Tryd.ntmps17
  go_wp2
  go_loopw [5, 13] (fun _ i wr => ∃ k q : Nat, k ≤ n ∧ i = .int .i64 (k : Int) ∧ wr = w.drewN q) (fun _ i _ => n - (intOf i).toNat)
  case atStart => exact ⟨0, 0, Nat.zero_le _, rfl, rfl⟩
  case round =>
    obtain ⟨k, q, hk, rfl, rfl⟩ := hrel
    by_cases hlt : k < n
    · obtain ⟨b, o, p, rfl, hp, _, hc⟩ := texts_at HA.out hlt
      obtain ⟨b2, o2, p2, rfl, hp2, _, hc2⟩ := texts_at HB.out hlt
      obtain rfl : p2 = p := by rw [hp] at hp2; exact (Option.some.inj hp2).symm
      have t1 := strB_toList p2
      clear hp hp2
      go_wp2
      go_quiet (fail)
      go_wp2
      go_roundw
      case rel => exact ⟨k + 1, _, by omega, by go_num, rfl⟩
      case measure => simp [intOf]; omega
    · go_wp2
      go_ret
      exact ⟨rfl, _, rfl⟩

/-- How many places types have. -/
def slot1 (t : List UInt8) : Nat := if t = [74] then 2 else if t = [86] then 0 else 1
def slotsF (l : List (List UInt8)) : Nat := (l.map slot1).sum
theorem slots_snoc (l : List (List UInt8)) (k : Nat) (p : List UInt8) (h : l[k]? = some p) : slotsF (l.take (k + 1)) = slotsF (l.take k) + slot1 p := by
  rw [take_one l k p h]
  simp [slotsF]
theorem slots_le (l : List (List UInt8)) : slotsF l ≤ 2 * l.length := by
  induction l with
  | nil => simp [slotsF]
  | cons a l ih =>
    have h1 : slot1 a ≤ 2 := by unfold slot1; split <;> (try split) <;> omega
    simp only [slotsF, List.map_cons, List.sum_cons, List.length_cons] at ih ⊢
    omega
theorem take_le' (l : List (List UInt8)) (k : Nat) : slotsF (l.take k) ≤ 2 * k := by
  have h1 := slots_le (l.take k)
  have h2 : (l.take k).length ≤ k := List.length_take_le _ _
  omega

set_option maxHeartbeats 1000000 in
theorem slots_any (A : Option Addr) (n c : Nat) (l : List (List UInt8)) (w : World) (hA : TextsSl w A n c l) (hn : n ≤ 1000000) :
    Calls Tryd.prog 23 #[.slice A n c] w fun e w' => e = .returned (.int .i64 ((slotsF l : Nat) : Int)) ∧ w = w' := by
  have HL := Lib.hid hA.1
  have HA := Lib.hid hA
  clear hA
  go_enter Tryd.func23, Tryd.ntmps23
  go_wp2
  go_loop [3, 8] (fun v i => ∃ k m : Nat, k ≤ n ∧ m ≤ 2 * k ∧ v = .int .i64 (m : Int) ∧ i = .int .i64 (k : Int) ∧ Hid (m = slotsF (l.take k))) (fun _ i => n - (intOf i).toNat)
  case atStart => exact ⟨0, 0, Nat.zero_le _, by omega, rfl, rfl, Lib.hid rfl⟩
  case round =>
    obtain ⟨k, m, hk, hm2, rfl, rfl, HM⟩ := hrel
    by_cases hlt : k < n
    · obtain ⟨b, o, p, rfl, hp, _, hc⟩ := texts_at HA.out hlt
      have t1 := strB_toList p
      have hs := slots_snoc l k p hp
      have HS : Hid (slotsF (l.take (k + 1)) = m + slot1 p) := Lib.hid (by rw [hs, HM.out])
      clear hs hp
      by_cases h74 : p = [74]
      · subst h74
        have HS2 : Hid (m + 2 = slotsF (l.take (k + 1))) := Lib.hid HS.out.symm
        go_wp2
        go_round
        case rel => exact ⟨k + 1, m + 2, by omega, by omega, by go_num, by go_num, HS2⟩
        case measure => simp [intOf]; omega
      · have q1 : (p == [74]) = false := beq_false_of_ne h74
        by_cases h86 : p = [86]
        · subst h86
          have HS2 : Hid (m = slotsF (l.take (k + 1))) := Lib.hid HS.out.symm
          clear h74
          go_wp2
          go_round
          case rel => exact ⟨k + 1, m, by omega, by omega, rfl, by go_num, HS2⟩
          case measure => simp [intOf]; omega
        · have q2 : (p == [86]) = false := beq_false_of_ne h86
          have HS2 : Hid (m + 1 = slotsF (l.take (k + 1))) := Lib.hid (by rw [HS.out]; unfold slot1; rw [if_neg h74, if_neg h86])
          clear h74 h86
          go_wp2
          go_round
          case rel => exact ⟨k + 1, m + 1, by omega, by omega, by go_num, by go_num, HS2⟩
          case measure => simp [intOf]; omega
    · have hkn : k = n := by omega
      have HE : Hid (slotsF l = m) := Lib.hid (by rw [HM.out, List.take_of_length_le (by have := HL.out; omega)])
      clear hkn
      go_wp2
      go_ret
      exact ⟨by rw [HE.out]; rfl, rfl⟩

theorem meth_good : methodF [40, 73, 91, 66, 76, 97, 47, 66, 59, 41, 86] = some ([[73], [91, 66], [76, 97, 47, 66, 59]], [86]) := by decide
theorem meth_bad : methodF [40, 41] = none := by decide

set_option maxHeartbeats 2000000 in
theorem fixed12_any (w : World) :
    Calls Tryd.prog 6 #[] w fun e w' => e = .returned (.bool true) ∧ Below w.heap.size w w' := by
  have C1 : Hid (Calls Tryd.prog 7 #[.string ⟨#[40, 73, 91, 66, 76, 97, 47, 66, 59, 41, 86]⟩] w fun e w' => MethD w w' (some ([[73], [91, 66], [76, 97, 47, 66, 59]], [86])) e) := Lib.hid (by
    have := method_any [40, 73, 91, 66, 76, 97, 47, 66, 59, 41, 86] w (by decide)
    rw [meth_good] at this
    exact this)
  go_enter Tryd.func6, Tryd.ntmps6
  go_wp2_with fail
  refine C1.out.mono ?_
  rintro e w1 ⟨⟨A, n, c, rfl, hg⟩, hb1⟩
  have hrow : TextsSl w1 A n c [[73], [91, 66], [76, 97, 47, 66, 59]] := hg.row
  have hn3 : n = 3 := hrow.1.symm
  subst hn3
  obtain ⟨b, o, p, rfl, hp, hbl, hc⟩ := texts_at hrow (k := 1) (by omega)
  obtain rfl : p = [91, 66] := by simpa using hp.symm
  have HB1 := Lib.hid hb1
  have C2 : Hid (Calls Tryd.prog 7 #[.string ⟨#[40, 41]⟩] w1 fun e w' => MethD w1 w' none e) := Lib.hid (by
    have := method_any [40, 41] w1 (by decide)
    rw [meth_bad] at this
    exact this)
  clear hb1 hg hrow hp
  go_wp2_with fail
  refine C2.out.mono ?_
  rintro e w2 ⟨⟨A2, n2, c2, rfl, -⟩, hb2⟩
  have hc2 := (hb2.cell (p := ⟨b, o + 1, none⟩) hbl).trans hc
  have HB2 := Lib.hid (HB1.out.trans (hb2.mono HB1.out.size))
  have t1 := strB_toList [91, 66]
  have t2 := strB_toList [86]
  have hr : mRet (some ([[73], [91, 66], [76, 97, 47, 66, 59]], [86])) = [86] := rfl
  have he1 : mErr (some ([[73], [91, 66], [76, 97, 47, 66, 59]], [86])) = 0 := rfl
  have he2 : mErr none = 8 := rfl
  rw [hr, he1, he2]
  clear hb2 hc hr he1 he2
  go_wp2_with fail
  have HS := Lib.hid (RowSl.lit svC_len w2 Empty 9 [[74], [73], [86]] 3 [.string ⟨#[74]⟩, .string ⟨#[73]⟩, .string ⟨#[86]⟩] rfl rfl (by unfold maxLen; omega) (fun h => h))
  have HB3 := Lib.hid (HB2.out.alloc HB2.out.size (.cells #[.string ⟨#[74]⟩, .string ⟨#[73]⟩, .string ⟨#[86]⟩] 9))
  have C3 : Hid (∀ W, TextsSl W (some ⟨w2.heap.size, 0, none⟩) 3 3 [[74], [73], [86]] → Calls Tryd.prog 23 #[.slice (some ⟨w2.heap.size, 0, none⟩) 3 3] W fun e w' => e = .returned (.int .i64 3) ∧ W = w') := Lib.hid (fun W h => slots_any _ 3 3 _ W h (by omega))
  refine (C3.out _ HS.out).mono ?_
  rintro e w' ⟨rfl, rfl⟩
  obtain ⟨w3, hw3⟩ : ∃ w3, w3 = w2.alloc (.cells #[.string ⟨#[74]⟩, .string ⟨#[73]⟩, .string ⟨#[86]⟩] 9) := ⟨_, rfl⟩
  rw [← hw3] at HB3 ⊢
  have C4 : Hid (Calls Tryd.prog 13 #[.string ⟨#[97, 47, 66]⟩] w3 fun e w' => e = .returned (.bool true) ∧ Below w3.heap.size w3 w') := Lib.hid (isClass_any [97, 47, 66] w3 (by decide))
  clear hw3
  go_wp2_with fail
  refine C4.out.mono ?_
  rintro e w4 ⟨rfl, hb4⟩
  have HB4 := Lib.hid (HB3.out.trans (hb4.mono HB3.out.size))
  have C5 : Hid (Calls Tryd.prog 13 #[.string ⟨#[97, 47]⟩] w4 fun e w' => e = .returned (.bool false) ∧ Below w4.heap.size w4 w') := Lib.hid (isClass_any [97, 47] w4 (by decide))
  clear hb4
  go_wp2_with fail
  refine C5.out.mono ?_
  rintro e w5 ⟨rfl, hb5⟩
  have HB5 := Lib.hid (HB4.out.trans (hb5.mono HB4.out.size))
  clear hb5
  go_wp2
  go_ret
  exact ⟨rfl, HB5.out⟩

end Go.Proofs.YtinkjeifkjfkgaaDoor
