/- The document's right (layer 11), a tag at a time. -/
import Derived.Test.YtinkjeifkjfkgaaVx
namespace Go.Proofs.Ytinkjeifkjfkgaa
set_option maxRecDepth 100000
open Go.RowKit

set_option maxHeartbeats 1000000 in
theorem refright_x (n cap k : Nat) (l : List Cst) (w : World) (b o : Nat) (t : Int) (a b' nn : Int) (s : List UInt8) (H : PlaceC w b o n cap k l ⟨t, a, b', nn, s⟩) (ht : t ≠ 1 ∧ t ≠ 3 ∧ t ≠ 5 ∧ t ≠ 7 ∧ t ≠ 8 ∧ t ≠ 9 ∧ t ≠ 10 ∧ t ≠ 12) (h0' : t ≠ 0) :
    Calls Try.prog 22 #[.slice (some ⟨b, o, none⟩) n cap, .int .i64 (k : Int)] w fun e w' => e = .returned (.bool (rightR l k)) ∧ Below w.heap.size w w' := by
  obtain ⟨hP, hc, hb, h0, h1, h2, h3, h4, hn, hk, hok, hcs⟩ := H
  have hcn := hok.n
  simp only at h0 h1 h2 h3 h4 hcs hcn
  have CI : Hid (∀ p t W, Below w.heap.size w W → Calls Try.prog 28 #[.slice (some ⟨b, o, none⟩) n cap, .int .i64 p, .int .i64 t] W fun e w' => e = .returned (.bool (isF l p t)) ∧ W = w') := Lib.hid (fun p t W h => is_any _ n cap l p t W (hP.below h) hn)
  have HB0 : Hid (∀ o', Below w.heap.size w (w.alloc o')) := Lib.hid (fun o' => (Below.refl _ _).alloc (Nat.le_refl _) o')
  have HP := Lib.hid hP
  have Hok := Lib.hid hok
  clear hP hok
  by_cases xS : s = []
  case neg =>
    have HE : Hid (rightR l k = false) := Lib.hid (rightR_no hc (by unfold headR; exact decide_eq_false (by simp [xS, ht])))
    have hq := str_ne s xS
    clear hc xS
    have d1 : (t == 1) = false := by simpa using ht.1
    have e1 : (t != 1) = true := by simpa using ht.1
    have d3 : (t == 3) = false := by simpa using ht.2.1
    have e3 : (t != 3) = true := by simpa using ht.2.1
    have d5 : (t == 5) = false := by simpa using ht.2.2.1
    have e5 : (t != 5) = true := by simpa using ht.2.2.1
    have d7 : (t == 7) = false := by simpa using ht.2.2.2.1
    have e7 : (t != 7) = true := by simpa using ht.2.2.2.1
    have d8 : (t == 8) = false := by simpa using ht.2.2.2.2.1
    have e8 : (t != 8) = true := by simpa using ht.2.2.2.2.1
    have d9 : (t == 9) = false := by simpa using ht.2.2.2.2.2.1
    have e9 : (t != 9) = true := by simpa using ht.2.2.2.2.2.1
    have d10 : (t == 10) = false := by simpa using ht.2.2.2.2.2.2.1
    have e10 : (t != 10) = true := by simpa using ht.2.2.2.2.2.2.1
    have d12 : (t == 12) = false := by simpa using ht.2.2.2.2.2.2.2
    have e12 : (t != 12) = true := by simpa using ht.2.2.2.2.2.2.2
    have d0 : (t == 0) = false := by simpa using h0'
    clear ht h0'
    go_enter Try.func22, Try.ntmps22
    go_wp2
    go_ret
    exact ⟨by rw [HE.out]; rfl, HB0.out _⟩
  subst xS
  have hS0 : (strB []).toList = [] := strB_toList []
  by_cases xN : nn = 0
  case neg =>
    have HE : Hid (rightR l k = false) := Lib.hid (rightR_no hc (by unfold headR; exact decide_eq_false (by simp [xN, ht])))
    have hq : (nn == 0) = false := by simpa using xN
    have hq2 : (nn != 0) = true := by simpa using xN
    clear hc xN
    have d1 : (t == 1) = false := by simpa using ht.1
    have e1 : (t != 1) = true := by simpa using ht.1
    have d3 : (t == 3) = false := by simpa using ht.2.1
    have e3 : (t != 3) = true := by simpa using ht.2.1
    have d5 : (t == 5) = false := by simpa using ht.2.2.1
    have e5 : (t != 5) = true := by simpa using ht.2.2.1
    have d7 : (t == 7) = false := by simpa using ht.2.2.2.1
    have e7 : (t != 7) = true := by simpa using ht.2.2.2.1
    have d8 : (t == 8) = false := by simpa using ht.2.2.2.2.1
    have e8 : (t != 8) = true := by simpa using ht.2.2.2.2.1
    have d9 : (t == 9) = false := by simpa using ht.2.2.2.2.2.1
    have e9 : (t != 9) = true := by simpa using ht.2.2.2.2.2.1
    have d10 : (t == 10) = false := by simpa using ht.2.2.2.2.2.2.1
    have e10 : (t != 10) = true := by simpa using ht.2.2.2.2.2.2.1
    have d12 : (t == 12) = false := by simpa using ht.2.2.2.2.2.2.2
    have e12 : (t != 12) = true := by simpa using ht.2.2.2.2.2.2.2
    have d0 : (t == 0) = false := by simpa using h0'
    clear ht h0'
    go_enter Try.func22, Try.ntmps22
    go_wp2
    go_ret
    exact ⟨by rw [HE.out]; rfl, HB0.out _⟩
  subst xN
  by_cases xB : b' = 0
  case neg =>
    have HE : Hid (rightR l k = false) := Lib.hid (rightR_no hc (by unfold headR; exact decide_eq_false (by simp [xB, ht])))
    have hq : (b' == 0) = false := by simpa using xB
    have hq2 : (b' != 0) = true := by simpa using xB
    clear hc xB
    have d1 : (t == 1) = false := by simpa using ht.1
    have e1 : (t != 1) = true := by simpa using ht.1
    have d3 : (t == 3) = false := by simpa using ht.2.1
    have e3 : (t != 3) = true := by simpa using ht.2.1
    have d5 : (t == 5) = false := by simpa using ht.2.2.1
    have e5 : (t != 5) = true := by simpa using ht.2.2.1
    have d7 : (t == 7) = false := by simpa using ht.2.2.2.1
    have e7 : (t != 7) = true := by simpa using ht.2.2.2.1
    have d8 : (t == 8) = false := by simpa using ht.2.2.2.2.1
    have e8 : (t != 8) = true := by simpa using ht.2.2.2.2.1
    have d9 : (t == 9) = false := by simpa using ht.2.2.2.2.2.1
    have e9 : (t != 9) = true := by simpa using ht.2.2.2.2.2.1
    have d10 : (t == 10) = false := by simpa using ht.2.2.2.2.2.2.1
    have e10 : (t != 10) = true := by simpa using ht.2.2.2.2.2.2.1
    have d12 : (t == 12) = false := by simpa using ht.2.2.2.2.2.2.2
    have e12 : (t != 12) = true := by simpa using ht.2.2.2.2.2.2.2
    have d0 : (t == 0) = false := by simpa using h0'
    clear ht h0'
    go_enter Try.func22, Try.ntmps22
    go_wp2
    go_ret
    exact ⟨by rw [HE.out]; rfl, HB0.out _⟩
  subst xB
  by_cases xA : a = 0
  case neg =>
    have HE : Hid (rightR l k = false) := Lib.hid (rightR_no hc (by unfold headR; exact decide_eq_false (by simp [xA, ht])))
    have hq : (a == 0) = false := by simpa using xA
    have hq2 : (a != 0) = true := by simpa using xA
    clear hc xA
    have d1 : (t == 1) = false := by simpa using ht.1
    have e1 : (t != 1) = true := by simpa using ht.1
    have d3 : (t == 3) = false := by simpa using ht.2.1
    have e3 : (t != 3) = true := by simpa using ht.2.1
    have d5 : (t == 5) = false := by simpa using ht.2.2.1
    have e5 : (t != 5) = true := by simpa using ht.2.2.1
    have d7 : (t == 7) = false := by simpa using ht.2.2.2.1
    have e7 : (t != 7) = true := by simpa using ht.2.2.2.1
    have d8 : (t == 8) = false := by simpa using ht.2.2.2.2.1
    have e8 : (t != 8) = true := by simpa using ht.2.2.2.2.1
    have d9 : (t == 9) = false := by simpa using ht.2.2.2.2.2.1
    have e9 : (t != 9) = true := by simpa using ht.2.2.2.2.2.1
    have d10 : (t == 10) = false := by simpa using ht.2.2.2.2.2.2.1
    have e10 : (t != 10) = true := by simpa using ht.2.2.2.2.2.2.1
    have d12 : (t == 12) = false := by simpa using ht.2.2.2.2.2.2.2
    have e12 : (t != 12) = true := by simpa using ht.2.2.2.2.2.2.2
    have d0 : (t == 0) = false := by simpa using h0'
    clear ht h0'
    go_enter Try.func22, Try.ntmps22
    go_wp2
    go_ret
    exact ⟨by rw [HE.out]; rfl, HB0.out _⟩
  subst xA
  have HE0 := rightR_yes hc (by unfold headR; exact decide_eq_true (by simp [ht]))
  have HE : Hid (rightR l k = false) := Lib.hid (by rw [HE0]; unfold tailR; simp [ht, h0'])
  clear hc HE0
  have d1 : (t == 1) = false := by simpa using ht.1
  have e1 : (t != 1) = true := by simpa using ht.1
  have d3 : (t == 3) = false := by simpa using ht.2.1
  have e3 : (t != 3) = true := by simpa using ht.2.1
  have d5 : (t == 5) = false := by simpa using ht.2.2.1
  have e5 : (t != 5) = true := by simpa using ht.2.2.1
  have d7 : (t == 7) = false := by simpa using ht.2.2.2.1
  have e7 : (t != 7) = true := by simpa using ht.2.2.2.1
  have d8 : (t == 8) = false := by simpa using ht.2.2.2.2.1
  have e8 : (t != 8) = true := by simpa using ht.2.2.2.2.1
  have d9 : (t == 9) = false := by simpa using ht.2.2.2.2.2.1
  have e9 : (t != 9) = true := by simpa using ht.2.2.2.2.2.1
  have d10 : (t == 10) = false := by simpa using ht.2.2.2.2.2.2.1
  have e10 : (t != 10) = true := by simpa using ht.2.2.2.2.2.2.1
  have d12 : (t == 12) = false := by simpa using ht.2.2.2.2.2.2.2
  have e12 : (t != 12) = true := by simpa using ht.2.2.2.2.2.2.2
  have d0 : (t == 0) = false := by simpa using h0'
  clear ht h0'
  go_enter Try.func22, Try.ntmps22
  go_wp2
  go_ret
  exact ⟨by rw [HE.out]; rfl, HB0.out _⟩

end Go.Proofs.Ytinkjeifkjfkgaa
