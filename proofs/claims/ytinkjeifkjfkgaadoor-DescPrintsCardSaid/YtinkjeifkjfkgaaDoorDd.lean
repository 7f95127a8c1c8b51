/- The walk over the document's IsClass. -/
import Derived.Test.YtinkjeifkjfkgaaDoorDc
namespace Go.Proofs.YtinkjeifkjfkgaaDoor
set_option maxRecDepth 100000
open Go.RowKit

theorem sign_yes (x : UInt8) (h : signB x = true) : (97 ≤ x.toNat ∧ x.toNat ≤ 122) ∨ (65 ≤ x.toNat ∧ x.toNat ≤ 90) ∨ (48 ≤ x.toNat ∧ x.toNat ≤ 57) ∨ (95 ≤ x.toNat ∧ x.toNat ≤ 95) ∨ (36 ≤ x.toNat ∧ x.toNat ≤ 36) := by
  unfold signB at h
  have := of_decide_eq_true h
  omega
theorem sign_no (x : UInt8) (h : signB x = false) : x.toNat ≤ 35 ∨ (37 ≤ x.toNat ∧ x.toNat ≤ 47) ∨ (58 ≤ x.toNat ∧ x.toNat ≤ 64) ∨ (91 ≤ x.toNat ∧ x.toNat ≤ 94) ∨ (96 ≤ x.toNat ∧ x.toNat ≤ 96) ∨ (123 ≤ x.toNat) := by
  unfold signB at h
  have := of_decide_eq_false h
  omega
theorem eqB {a b : Nat} (h : a = b) : ((a : Int) == (b : Int)) = true := by rw [h]; simp
theorem neB {a b : Nat} (h : a ≠ b) : ((a : Int) == (b : Int)) = false := by rw [beq_eq_false_iff_ne]; omega

set_option maxHeartbeats 4000000 in
theorem refIsClass_any (xs : List UInt8) (w : World) (hl : xs.length ≤ 1048576) :
    Calls Tryd.prog 14 #[.string (strB xs)] w fun e w' => e = .returned (.bool (classB xs)) ∧ w = w' := by
  have hz := strB_size xs
  go_enter Tryd.func14, Tryd.ntmps14
  go_wp2
  go_loop [3, 4] (fun v i => ∃ k l : Nat, k ≤ xs.length ∧ l ≤ 255 ∧ v = .int .u8 (l : Int) ∧ i = .int .i64 (k : Int) ∧ Hid (classGo true xs = classGo (decide (l = 47)) (xs.drop k))) (fun _ i => xs.length - (intOf i).toNat)
  case atStart => exact ⟨0, 47, Nat.zero_le _, by omega, rfl, rfl, Lib.hid rfl⟩
  case round =>
    obtain ⟨k, l, hk, hl255, rfl, rfl, HT⟩ := hrel
    by_cases hlt : k < xs.length
    · obtain ⟨x, hx⟩ : ∃ x, xs[k]? = some x := ⟨_, List.getElem?_eq_getElem hlt⟩
      have hd : xs.drop k = x :: xs.drop (k + 1) := by
        rw [List.drop_eq_getElem_cons hlt]
        congr 1
        rw [List.getElem?_eq_getElem hlt] at hx
        exact Option.some.inj hx
      have hx255 := byte_lt x
      have h0 : ∀ h, (strB xs)[k]'h = x := fun h => strB_get _ _ _ h hx
      rw [hd] at HT
      clear hx hd
      cases hs : signB x with
      | true =>
        have HT2 : Hid (classGo true xs = classGo (decide (x.toNat = 47)) (xs.drop (k + 1))) := Lib.hid (by
          rw [HT.out, classGo, hs, if_pos rfl]
          congr 1
          have := sign_yes x hs
          have h47 : x.toNat ≠ 47 := by omega
          simp [h47])
        rcases sign_yes x hs with h | h | h | h | h
        all_goals
          obtain ⟨ha, hb⟩ := h
          clear hs
          first
            | (have q : ((x.toNat : Int) == 95) = true := eqB (b := 95) (by omega))
            | (have q : ((x.toNat : Int) == 95) = false := neB (b := 95) (by omega))
          first
            | (have q2 : ((x.toNat : Int) == 36) = true := eqB (b := 36) (by omega))
            | (have q2 : ((x.toNat : Int) == 36) = false := neB (b := 36) (by omega))
          go_wp2
          go_round
          case rel => exact ⟨k + 1, x.toNat, by omega, by omega, rfl, by go_num, HT2⟩
          case measure => simp [intOf]; omega
      | false =>
        have hn := sign_no x hs
        by_cases h47 : x = 47
        · subst h47
          clear hn hs hx255
          have h47s : signB 47 = false := by decide
          have e47 : (47 : UInt8).toNat = 47 := rfl
          cases hb : decide (l = 47) with
          | true =>
            have hl47 : l = 47 := of_decide_eq_true hb
            have HF : Hid (classB xs = false) := Lib.hid (by
              unfold classB
              rw [HT.out, classGo, h47s, if_neg Bool.false_ne_true, if_pos rfl, hb]
              simp)
            subst hl47
            clear hb h47s
            go_wp2
            go_ret
            exact ⟨by rw [HF.out]; rfl, rfl⟩
          | false =>
            have hl47 : l ≠ 47 := of_decide_eq_false hb
            have q : ((l : Int) == 47) = false := neB (b := 47) hl47
            have HT2 : Hid (classGo true xs = classGo (decide (47 = 47)) (xs.drop (k + 1))) := Lib.hid (by
              rw [HT.out, classGo, h47s, if_neg Bool.false_ne_true, if_pos rfl, hb]
              rfl)
            clear hb hl47 h47s
            go_wp2
            go_round
            case rel => exact ⟨k + 1, 47, by omega, by omega, rfl, by go_num, HT2⟩
            case measure => simp [intOf]; omega
        · have HF : Hid (classB xs = false) := Lib.hid (by
            unfold classB
            rw [HT.out, classGo, hs, if_neg Bool.false_ne_true, if_neg h47]
            simp)
          have h47n : x.toNat ≠ 47 := fun e => h47 (UInt8.toNat_inj.1 e)
          have q0 : ((x.toNat : Int) == 47) = false := neB (b := 47) h47n
          have q1 : ((x.toNat : Int) != 47) = true := by rw [bne, q0]; rfl
          have q : ((x.toNat : Int) == 95) = false := neB (b := 95) (by omega)
          have q2 : ((x.toNat : Int) == 36) = false := neB (b := 36) (by omega)
          rcases hn with h | h | h | h | h | h
          all_goals
            clear hs h47 h47n
            try obtain ⟨ha, hb⟩ := h
            first
              | (have r1 : decide ((x.toNat : Int) ≤ 57) = false := decide_eq_false (by omega))
              | skip
            first
              | (have r2 : decide ((x.toNat : Int) ≤ 90) = false := decide_eq_false (by omega))
              | skip
            first
              | (have r3 : decide ((x.toNat : Int) ≤ 122) = false := decide_eq_false (by omega))
              | skip
            go_wp2
            go_ret
            exact ⟨by rw [HF.out]; rfl, rfl⟩
    · obtain rfl : k = xs.length := by omega
      rw [List.drop_length] at HT
      by_cases h64 : xs.length ≤ 64
      · have HE : Hid (classB xs = !decide (l = 47)) := Lib.hid (by
          unfold classB
          rw [HT.out]
          simp [h64, classGo])
        cases hb : decide (l = 47) with
        | true =>
          have hl47 : l = 47 := of_decide_eq_true hb
          rw [hb] at HE
          subst hl47
          clear hb
          go_wp2
          go_ret
          exact ⟨by rw [HE.out]; rfl, rfl⟩
        | false =>
          have hl47 : l ≠ 47 := of_decide_eq_false hb
          rw [hb] at HE
          have q : ((l : Int) == 47) = false := neB (b := 47) hl47
          have q1 : ((l : Int) != 47) = true := by rw [bne, q]; rfl
          clear hb hl47
          go_wp2
          go_ret
          exact ⟨by rw [HE.out]; rfl, rfl⟩
      · have HE : Hid (classB xs = false) := Lib.hid (by unfold classB; simp [h64])
        go_wp2
        go_ret
        exact ⟨by rw [HE.out]; rfl, rfl⟩

end Go.Proofs.YtinkjeifkjfkgaaDoor
