/- The walks over Print and the document's Print and Slots. -/
import Derived.Test.YtinkjeifkjfkgaaDoorDi
import Derived.Test.YtinkjeifkjfkgaaDoorDs
namespace Go.Proofs.YtinkjeifkjfkgaaDoor
set_option maxRecDepth 100000
open Go.RowKit

theorem join_flat : ∀ l : List (List UInt8), Lib.join l [] = l.flatten
  | [] => rfl
  | x :: r => by
    rw [Lib.join_cons]
    unfold Lib.joinTail
    simp
theorem back_strs (l : List (List UInt8)) : (l.map strB).map (fun s => s.data.toList) = l := by
  rw [List.map_map]
  have : ((fun s : ByteArray => s.data.toList) ∘ strB) = id := by
    funext x
    rfl
  rw [this, List.map_id]

theorem join_any (A : Option Addr) (n c : Nat) (l : List (List UInt8)) (w : World) (hA : TextsSl w A n c l) (hl : l.flatten.length ≤ 1000000) (hn1 : n ≤ 1000000) :
    Calls Tryd.prog 34 #[.slice A n c, .string ⟨#[]⟩] w fun e w' => e = .returned (.string (strB l.flatten)) ∧ Below w.heap.size w w' := by
  have hmx := hA.2.2.1
  unfold maxLen at hmx
  by_cases hn : n = 0
  · subst hn
    have hln : l = [] := List.eq_nil_of_length_eq_zero hA.1
    subst hln
    exact (strings_Join_none A c ⟨#[]⟩ w).mono fun e w' ⟨h1, h2⟩ => ⟨h1, by rw [h2]; exact Below.refl _ _⟩
  · obtain ⟨b, o, p, rfl, -, hb, -⟩ := texts_at hA (k := 0) (by omega)
    have hL : (l.map strB).length = n := by rw [List.length_map]; exact hA.1
    have e0 : (⟨#[]⟩ : ByteArray).data.toList = [] := rfl
    have hj := strings_Join b o c (l.map strB) ⟨#[]⟩ w (fun j x hx => by
      rw [List.getElem?_map] at hx
      obtain ⟨q, hq, rfl⟩ := Option.map_eq_some_iff.1 hx
      obtain ⟨b2, o2, p2, e2, hp2, _, hc2⟩ := texts_at hA (k := j) (by have := (List.getElem?_eq_some_iff.1 hq).1; have := hA.1; omega)
      cases e2
      rw [hq] at hp2
      cases hp2
      exact hc2) hb (by rw [hL]; omega) (by rw [hL]; exact hA.2.1) (by rw [back_strs, e0, join_flat]; omega)
    rw [hL, back_strs, e0, join_flat] at hj
    exact hj

/-- A method's description. -/
def printF (l : List (List UInt8)) (ret : List UInt8) : List UInt8 := 40 :: (l.flatten ++ 41 :: ret)

theorem print_any (A : Option Addr) (n c : Nat) (l : List (List UInt8)) (ret : List UInt8) (w : World) (hA : TextsSl w A n c l) (hl : l.flatten.length ≤ 1000000) (hn1 : n ≤ 1000000) (hr : ret.length ≤ 1000000) :
    Calls Tryd.prog 21 #[.slice A n c, .string (strB ret)] w fun e w' => e = .returned (.string (strB (printF l ret))) ∧ Below w.heap.size w w' := by
  have C := Lib.hid (join_any A n c l w hA hl hn1)
  obtain ⟨f, hf⟩ : ∃ f, f = l.flatten := ⟨_, rfl⟩
  rw [← hf] at C hl
  have HP : Hid (strB (printF l ret) = strB (40 :: f ++ [41] ++ ret)) := Lib.hid (by unfold printF; rw [hf]; simp)
  have h1 : (⟨#[40]⟩ : ByteArray) ++ strB f = strB (40 :: f) := by rw [lit_strB, strB_cat]; rfl
  have h2 : strB (40 :: f) ++ (⟨#[41]⟩ : ByteArray) = strB (40 :: f ++ [41]) := by rw [lit_strB, strB_cat]
  have h3 : strB (40 :: f ++ [41]) ++ strB ret = strB (40 :: f ++ [41] ++ ret) := by rw [strB_cat]
  have z1 := strB_size f
  have z2 : (strB (40 :: f)).size = f.length + 1 := strB_size _
  have z3 : (strB (40 :: f ++ [41])).size = f.length + 2 := by rw [strB_size]; simp
  have z4 := strB_size ret
  obtain ⟨s1, hs1⟩ : ∃ s, s = strB (40 :: f) := ⟨_, rfl⟩
  obtain ⟨s2, hs2⟩ : ∃ s, s = strB (40 :: f ++ [41]) := ⟨_, rfl⟩
  obtain ⟨s3, hs3⟩ : ∃ s, s = strB (40 :: f ++ [41] ++ ret) := ⟨_, rfl⟩
  rw [← hs1] at h1 h2 z2
  rw [← hs2] at h2 h3 z3
  rw [← hs3] at h3 HP
  clear hf hs1 hs2 hs3 hA
  go_enter Tryd.func21, Tryd.ntmps21
  go_wp2_with fail
  refine C.out.mono ?_
  rintro e w1 ⟨rfl, hb⟩
  have HB := Lib.hid hb
  clear hb
  go_wp2
  go_ret
  exact ⟨by rw [HP.out]; rfl, HB.out⟩

theorem flat_le (l : List (List UInt8)) (m : Nat) (h : ∀ a ∈ l, a.length ≤ m) : l.flatten.length ≤ m * l.length := by
  induction l with
  | nil => simp
  | cons a l ih =>
    have h1 := h a (by simp)
    have h2 := ih (fun x hx => h x (List.mem_cons_of_mem _ hx))
    rw [List.flatten_cons, List.length_append, List.length_cons, Nat.mul_succ]
    omega
theorem flat_take (l : List (List UInt8)) (k : Nat) : (l.take k).flatten.length ≤ l.flatten.length := by
  have h : l.flatten = (l.take k).flatten ++ (l.drop k).flatten := by rw [← List.flatten_append, List.take_append_drop]
  rw [h, List.length_append]
  omega

set_option maxHeartbeats 1000000 in
theorem refPrint_any (A : Option Addr) (n c : Nat) (l : List (List UInt8)) (ret : List UInt8) (w : World) (hA : TextsSl w A n c l) (hl : l.flatten.length ≤ 1000000) (hn1 : n ≤ 1000000) (hr : ret.length ≤ 1000000) :
    Calls Tryd.prog 22 #[.slice A n c, .string (strB ret)] w fun e w' => e = .returned (.string (strB (printF l ret))) ∧ w = w' := by
  have HL := Lib.hid hA.1
  have HA := Lib.hid hA
  clear hA
  go_enter Tryd.func22, Tryd.ntmps22
  go_wp2
  go_loop [5, 10] (fun v i => ∃ (k : Nat) (f : List UInt8), k ≤ n ∧ v = .string (strB f) ∧ i = .int .i64 (k : Int) ∧ f.length ≤ 1000001 ∧ Hid (f = 40 :: (l.take k).flatten)) (fun _ i => n - (intOf i).toNat)
  case atStart => exact ⟨0, [40], Nat.zero_le _, rfl, rfl, by simp, Lib.hid rfl⟩
  case round =>
    obtain ⟨k, f, hk, rfl, rfl, hfl, HF⟩ := hrel
    by_cases hlt : k < n
    · obtain ⟨b, o, p, rfl, hp, _, hc⟩ := texts_at HA.out hlt
      have HF2 : Hid (f ++ p = 40 :: (l.take (k + 1)).flatten) := Lib.hid (by rw [HF.out, take_one l k p hp, List.flatten_append]; simp)
      have hfl2 : (f ++ p).length ≤ 1000001 := by
        rw [HF2.out]
        have := flat_take l (k + 1)
        simp only [List.length_cons]
        omega
      have z1 := strB_size f
      have z2 := strB_size p
      have hcat := strB_cat f p
      have hpl : p.length ≤ 1000001 := by rw [List.length_append] at hfl2; omega
      clear hp
      go_wp2
      go_round
      case rel => exact ⟨k + 1, f ++ p, by omega, rfl, by go_num, hfl2, HF2⟩
      case measure => simp [intOf]; omega
    · have ht : l.take k = l := List.take_of_length_le (by have := HL.out; omega)
      have HP : Hid (strB (printF l ret) = strB (f ++ [41] ++ ret)) := Lib.hid (by rw [HF.out, ht]; unfold printF; simp)
      have h2 : strB f ++ (⟨#[41]⟩ : ByteArray) = strB (f ++ [41]) := by rw [lit_strB, strB_cat]
      have h3 := strB_cat (f ++ [41]) ret
      have z1 := strB_size f
      have z3 : (strB (f ++ [41])).size = f.length + 1 := by rw [strB_size]; simp
      have z4 := strB_size ret
      obtain ⟨s2, hs2⟩ : ∃ s, s = strB (f ++ [41]) := ⟨_, rfl⟩
      obtain ⟨s3, hs3⟩ : ∃ s, s = strB (f ++ [41] ++ ret) := ⟨_, rfl⟩
      rw [← hs2] at h2 h3 z3
      rw [← hs3] at h3 HP
      clear ht hs2 hs3
      go_wp2
      go_ret
      exact ⟨by rw [HP.out]; rfl, rfl⟩

set_option maxHeartbeats 1000000 in
theorem refSlots_any (A : Option Addr) (n c : Nat) (l : List (List UInt8)) (w : World) (hA : TextsSl w A n c l) (hn : n ≤ 1000000) :
    Calls Tryd.prog 24 #[.slice A n c] w fun e w' => e = .returned (.int .i64 ((slotsF l : Nat) : Int)) ∧ w = w' := by
  have HL := Lib.hid hA.1
  have HA := Lib.hid hA
  clear hA
  go_enter Tryd.func24, Tryd.ntmps24
  go_wp2
  go_loop [3, 8] (fun v i => ∃ k m : Nat, k ≤ n ∧ m ≤ 2 * k ∧ v = .int .i64 (m : Int) ∧ i = .int .i64 (k : Int) ∧ Hid (m = slotsF (l.take k))) (fun _ i => n - (intOf i).toNat)
  case atStart => exact ⟨0, 0, Nat.zero_le _, by omega, rfl, rfl, Lib.hid rfl⟩
  case round =>
    obtain ⟨k, m, hk, hm2, rfl, rfl, HM⟩ := hrel
    by_cases hlt : k < n
    · obtain ⟨b, o, p, rfl, hp, _, hc⟩ := texts_at HA.out hlt
      have t1 := strB_toList p
      have hs := slots_snoc l k p hp
      have HS : Hid (slotsF (l.take (k + 1)) = m + slot1 p) := Lib.hid (by rw [hs, HM.out])
      clear hs hp
      by_cases h74 : p = [74]
      · subst h74
        have HS2 : Hid (m + 2 = slotsF (l.take (k + 1))) := Lib.hid HS.out.symm
        go_wp2
        go_round
        case rel => exact ⟨k + 1, m + 2, by omega, by omega, by go_num, by go_num, HS2⟩
        case measure => simp [intOf]; omega
      · have q1 : (p == [74]) = false := beq_false_of_ne h74
        by_cases h86 : p = [86]
        · subst h86
          have HS2 : Hid (m = slotsF (l.take (k + 1))) := Lib.hid HS.out.symm
          clear h74
          go_wp2
          go_round
          case rel => exact ⟨k + 1, m, by omega, by omega, by go_num, by go_num, HS2⟩
          case measure => simp [intOf]; omega
        · have q2 : (p == [86]) = false := beq_false_of_ne h86
          have HS2 : Hid (m + 1 = slotsF (l.take (k + 1))) := Lib.hid (by rw [HS.out]; unfold slot1; rw [if_neg h74, if_neg h86])
          clear h74 h86
          go_wp2
          go_round
          case rel => exact ⟨k + 1, m + 1, by omega, by omega, by go_num, by go_num, HS2⟩
          case measure => simp [intOf]; omega
    · have hkn : k = n := by omega
      have HE : Hid (slotsF l = m) := Lib.hid (by rw [HM.out, List.take_of_length_le (by have := HL.out; omega)])
      clear hkn
      go_wp2
      go_ret
      exact ⟨by rw [HE.out]; rfl, rfl⟩

end Go.Proofs.YtinkjeifkjfkgaaDoor
