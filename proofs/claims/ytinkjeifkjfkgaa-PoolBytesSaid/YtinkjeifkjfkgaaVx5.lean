/- The document's right (layer 11), a tag at a time. -/
import Derived.Test.YtinkjeifkjfkgaaVx
namespace Go.Proofs.Ytinkjeifkjfkgaa
set_option maxRecDepth 100000
open Go.RowKit

set_option maxHeartbeats 1000000 in
theorem refright_5 (n cap k : Nat) (l : List Cst) (w : World) (b o : Nat) (a b' nn : Int) (s : List UInt8) (H : PlaceC w b o n cap k l ⟨5, a, b', nn, s⟩) :
    Calls Try.prog 22 #[.slice (some ⟨b, o, none⟩) n cap, .int .i64 (k : Int)] w fun e w' => e = .returned (.bool (rightR l k)) ∧ Below w.heap.size w w' := by
  obtain ⟨hP, hc, hb, h0, h1, h2, h3, h4, hn, hk, hok, hcs⟩ := H
  have hcn := hok.n
  simp only at h0 h1 h2 h3 h4 hcs hcn
  have CI : Hid (∀ p t W, Below w.heap.size w W → Calls Try.prog 28 #[.slice (some ⟨b, o, none⟩) n cap, .int .i64 p, .int .i64 t] W fun e w' => e = .returned (.bool (isF l p t)) ∧ W = w') := Lib.hid (fun p t W h => is_any _ n cap l p t W (hP.below h) hn)
  have HB0 : Hid (∀ o', Below w.heap.size w (w.alloc o')) := Lib.hid (fun o' => (Below.refl _ _).alloc (Nat.le_refl _) o')
  have HP := Lib.hid hP
  have Hok := Lib.hid hok
  clear hP hok
  by_cases xS : s = []
  case neg =>
    have HE : Hid (rightR l k = false) := Lib.hid (rightR_no hc (by unfold headR; exact decide_eq_false (by simp [xS])))
    have hq := str_ne s xS
    clear hc xS
    go_enter Try.func22, Try.ntmps22
    go_wp2
    go_ret
    exact ⟨by rw [HE.out]; rfl, HB0.out _⟩
  subst xS
  have hS0 : (strB []).toList = [] := strB_toList []
  by_cases xB : b' = 0
  case neg =>
    have HE : Hid (rightR l k = false) := Lib.hid (rightR_no hc (by unfold headR; exact decide_eq_false (by simp [xB])))
    have hq : (b' == 0) = false := by simpa using xB
    have hq2 : (b' != 0) = true := by simpa using xB
    clear hc xB
    go_enter Try.func22, Try.ntmps22
    go_wp2
    go_ret
    exact ⟨by rw [HE.out]; rfl, HB0.out _⟩
  subst xB
  by_cases xA : a = 0
  case neg =>
    have HE : Hid (rightR l k = false) := Lib.hid (rightR_no hc (by unfold headR; exact decide_eq_false (by simp [xA])))
    have hq : (a == 0) = false := by simpa using xA
    have hq2 : (a != 0) = true := by simpa using xA
    clear hc xA
    go_enter Try.func22, Try.ntmps22
    go_wp2
    go_ret
    exact ⟨by rw [HE.out]; rfl, HB0.out _⟩
  subst xA
  have HE0 := rightR_yes hc (by unfold headR; exact decide_eq_true (by simp))
  by_cases hlt : k + 1 < n
  case pos =>
    obtain ⟨b2, o2, d, hA, hd, _, g0, -⟩ := pool_at HP.out hlt
    obtain ⟨rfl, rfl⟩ : b = b2 ∧ o = o2 := by simpa using hA
    have HE : Hid (rightR l k = (d.tag == 0)) := Lib.hid (by
      rw [HE0]
      show decide ((l[k + 1]?.map (·.tag)) = some 0) = _
      rw [hd, Bool.eq_iff_iff]
      simp)
    have hd1 : decide ((k : Int) + 1 < (n : Int)) = true := decide_eq_true (by omega)
    have htn : ((k : Int) + 1).toNat = k + 1 := by omega
    clear hc HE0 hd hA
    go_enter Try.func22, Try.ntmps22
    go_wp2
    go_ret
    exact ⟨by rw [HE.out]; rfl, HB0.out _⟩
  case neg =>
    have HE : Hid (rightR l k = false) := Lib.hid (by
      rw [HE0]
      show decide ((l[k + 1]?.map (·.tag)) = some 0) = _
      rw [List.getElem?_eq_none (by rw [HP.out.1]; omega)]
      rfl)
    have hd1 : decide ((k : Int) + 1 < (n : Int)) = false := decide_eq_false (by omega)
    clear hc HE0
    go_enter Try.func22, Try.ntmps22
    go_wp2
    go_ret
    exact ⟨by rw [HE.out]; rfl, HB0.out _⟩

end Go.Proofs.Ytinkjeifkjfkgaa
