/- The document's right (layer 11), a tag at a time. -/
import Derived.Test.YtendpbklcgiafaaZas
import Derived.Test.YtendpbklcgiafaaZar
namespace Go.Proofs.Ytendpbklcgiafaa
set_option maxRecDepth 100000
open Go.RowKit

set_option maxHeartbeats 1000000 in
theorem refright_x (n cap k : Nat) (l : List Cst) (w : World) (b o : Nat) (t : Int) (a b' nn : Int) (s : List UInt8) (H : PlaceC w b o n cap k l ⟨t, a, b', nn, s⟩) (ht : t ≠ 1 ∧ t ≠ 3 ∧ t ≠ 5 ∧ t ≠ 7 ∧ t ≠ 8 ∧ t ≠ 9 ∧ t ≠ 10 ∧ t ≠ 12) (h0' : t ≠ 0) :
    Calls Try.prog 21 #[.slice (some ⟨b, o, none⟩) n cap, .int .i64 (k : Int)] w fun e w' => e = .returned (.bool (rightR l k)) ∧ Below w.heap.size w w' := by
  obtain ⟨hP, hc, hb, h0, h1, h2, h3, h4, hn, hk, hok, hcs⟩ := H
  have hcn := hok.n
  simp only at h0 h1 h2 h3 h4 hcs hcn
  have CI : Hid (∀ p t W, Below w.heap.size w W → Calls Try.prog 38 #[.slice (some ⟨b, o, none⟩) n cap, .int .i64 p, .int .i64 t] W fun e w' => e = .returned (.bool (isF l p t)) ∧ W = w') := Lib.hid (fun p t W h => is_any _ n cap l p t W (hP.below h) hn)
  have HB0 : Hid (∀ o', Below w.heap.size w (w.alloc o')) := Lib.hid (fun o' => (Below.refl _ _).alloc (Nat.le_refl _) o')
  have HP := Lib.hid hP
  have Hok := Lib.hid hok
  clear hP hok
  by_cases xS : s = []
  case neg =>
    have HE : Hid (rightR l k = false) := Lib.hid (rightR_no hc (by unfold headR; exact decide_eq_false (by simp [xS, ht])))
    have hq := str_ne s xS
    clear hc xS
    have d1 : (t == 1) = false := by simpa using ht.1
    have e1 : (t != 1) = true := by simpa using ht.1
    have d3 : (t == 3) = false := by simpa using ht.2.1
    have e3 : (t != 3) = true := by simpa using ht.2.1
    have d5 : (t == 5) = false := by simpa using ht.2.2.1
    have e5 : (t != 5) = true := by simpa using ht.2.2.1
    have d7 : (t == 7) = false := by simpa using ht.2.2.2.1
    have e7 : (t != 7) = true := by simpa using ht.2.2.2.1
    have d8 : (t == 8) = false := by simpa using ht.2.2.2.2.1
    have e8 : (t != 8) = true := by simpa using ht.2.2.2.2.1
    have d9 : (t == 9) = false := by simpa using ht.2.2.2.2.2.1
    have e9 : (t != 9) = true := by simpa using ht.2.2.2.2.2.1
    have d10 : (t == 10) = false := by simpa using ht.2.2.2.2.2.2.1
    have e10 : (t != 10) = true := by simpa using ht.2.2.2.2.2.2.1
    have d12 : (t == 12) = false := by simpa using ht.2.2.2.2.2.2.2
    have e12 : (t != 12) = true := by simpa using ht.2.2.2.2.2.2.2
    have d0 : (t == 0) = false := by simpa using h0'
    clear ht h0'
    go_enter Try.func21, Try.ntmps21
    go_wp2
    go_ret
    exact ⟨by rw [HE.out]; rfl, HB0.out _⟩
  subst xS
  have hS0 : (strB []).toList = [] := strB_toList []
  by_cases xN : nn = 0
  case neg =>
    have HE : Hid (rightR l k = false) := Lib.hid (rightR_no hc (by unfold headR; exact decide_eq_false (by simp [xN, ht])))
    have hq : (nn == 0) = false := by simpa using xN
    have hq2 : (nn != 0) = true := by simpa using xN
    clear hc xN
    have d1 : (t == 1) = false := by simpa using ht.1
    have e1 : (t != 1) = true := by simpa using ht.1
    have d3 : (t == 3) = false := by simpa using ht.2.1
    have e3 : (t != 3) = true := by simpa using ht.2.1
    have d5 : (t == 5) = false := by simpa using ht.2.2.1
    have e5 : (t != 5) = true := by simpa using ht.2.2.1
    have d7 : (t == 7) = false := by simpa using ht.2.2.2.1
    have e7 : (t != 7) = true := by simpa using ht.2.2.2.1
    have d8 : (t == 8) = false := by simpa using ht.2.2.2.2.1
    have e8 : (t != 8) = true := by simpa using ht.2.2.2.2.1
    have d9 : (t == 9) = false := by simpa using ht.2.2.2.2.2.1
    have e9 : (t != 9) = true := by simpa using ht.2.2.2.2.2.1
    have d10 : (t == 10) = false := by simpa using ht.2.2.2.2.2.2.1
    have e10 : (t != 10) = true := by simpa using ht.2.2.2.2.2.2.1
    have d12 : (t == 12) = false := by simpa using ht.2.2.2.2.2.2.2
    have e12 : (t != 12) = true := by simpa using ht.2.2.2.2.2.2.2
    have d0 : (t == 0) = false := by simpa using h0'
    clear ht h0'
    go_enter Try.func21, Try.ntmps21
    go_wp2
    go_ret
    exact ⟨by rw [HE.out]; rfl, HB0.out _⟩
  subst xN
  by_cases xB : b' = 0
  case neg =>
    have HE : Hid (rightR l k = false) := Lib.hid (rightR_no hc (by unfold headR; exact decide_eq_false (by simp [xB, ht])))
    have hq : (b' == 0) = false := by simpa using xB
    have hq2 : (b' != 0) = true := by simpa using xB
    clear hc xB
    have d1 : (t == 1) = false := by simpa using ht.1
    have e1 : (t != 1) = true := by simpa using ht.1
    have d3 : (t == 3) = false := by simpa using ht.2.1
    have e3 : (t != 3) = true := by simpa using ht.2.1
    have d5 : (t == 5) = false := by simpa using ht.2.2.1
    have e5 : (t != 5) = true := by simpa using ht.2.2.1
    have d7 : (t == 7) = false := by simpa using ht.2.2.2.1
    have e7 : (t != 7) = true := by simpa using ht.2.2.2.1
    have d8 : (t == 8) = false := by simpa using ht.2.2.2.2.1
    have e8 : (t != 8) = true := by simpa using ht.2.2.2.2.1
    have d9 : (t == 9) = false := by simpa using ht.2.2.2.2.2.1
    have e9 : (t != 9) = true := by simpa using ht.2.2.2.2.2.1
    have d10 : (t == 10) = false := by simpa using ht.2.2.2.2.2.2.1
    have e10 : (t != 10) = true := by simpa using ht.2.2.2.2.2.2.1
    have d12 : (t == 12) = false := by simpa using ht.2.2.2.2.2.2.2
    have e12 : (t != 12) = true := by simpa using ht.2.2.2.2.2.2.2
    have d0 : (t == 0) = false := by simpa using h0'
    clear ht h0'
    go_enter Try.func21, Try.ntmps21
    go_wp2
    go_ret
    exact ⟨by rw [HE.out]; rfl, HB0.out _⟩
  subst xB
  by_cases xA : a = 0
  case neg =>
    have HE : Hid (rightR l k = false) := Lib.hid (rightR_no hc (by unfold headR; exact decide_eq_false (by simp [xA, ht])))
    have hq : (a == 0) = false := by simpa using xA
    have hq2 : (a != 0) = true := by simpa using xA
    clear hc xA
    have d1 : (t == 1) = false := by simpa using ht.1
    have e1 : (t != 1) = true := by simpa using ht.1
    have d3 : (t == 3) = false := by simpa using ht.2.1
    have e3 : (t != 3) = true := by simpa using ht.2.1
    have d5 : (t == 5) = false := by simpa using ht.2.2.1
    have e5 : (t != 5) = true := by simpa using ht.2.2.1
    have d7 : (t == 7) = false := by simpa using ht.2.2.2.1
    have e7 : (t != 7) = true := by simpa using ht.2.2.2.1
    have d8 : (t == 8) = false := by simpa using ht.2.2.2.2.1
    have e8 : (t != 8) = true := by simpa using ht.2.2.2.2.1
    have d9 : (t == 9) = false := by simpa using ht.2.2.2.2.2.1
    have e9 : (t != 9) = true := by simpa using ht.2.2.2.2.2.1
    have d10 : (t == 10) = false := by simpa using ht.2.2.2.2.2.2.1
    have e10 : (t != 10) = true := by simpa using ht.2.2.2.2.2.2.1
    have d12 : (t == 12) = false := by simpa using ht.2.2.2.2.2.2.2
    have e12 : (t != 12) = true := by simpa using ht.2.2.2.2.2.2.2
    have d0 : (t == 0) = false := by simpa using h0'
    clear ht h0'
    go_enter Try.func21, Try.ntmps21
    go_wp2
    go_ret
    exact ⟨by rw [HE.out]; rfl, HB0.out _⟩
  subst xA
  have HE0 := rightR_yes hc (by unfold headR; exact decide_eq_true (by simp [ht]))
  have HE : Hid (rightR l k = false) := Lib.hid (by rw [HE0]; unfold tailR; simp [ht, h0'])
  clear hc HE0
  have d1 : (t == 1) = false := by simpa using ht.1
  have e1 : (t != 1) = true := by simpa using ht.1
  have d3 : (t == 3) = false := by simpa using ht.2.1
  have e3 : (t != 3) = true := by simpa using ht.2.1
  have d5 : (t == 5) = false := by simpa using ht.2.2.1
  have e5 : (t != 5) = true := by simpa using ht.2.2.1
  have d7 : (t == 7) = false := by simpa using ht.2.2.2.1
  have e7 : (t != 7) = true := by simpa using ht.2.2.2.1
  have d8 : (t == 8) = false := by simpa using ht.2.2.2.2.1
  have e8 : (t != 8) = true := by simpa using ht.2.2.2.2.1
  have d9 : (t == 9) = false := by simpa using ht.2.2.2.2.2.1
  have e9 : (t != 9) = true := by simpa using ht.2.2.2.2.2.1
  have d10 : (t == 10) = false := by simpa using ht.2.2.2.2.2.2.1
  have e10 : (t != 10) = true := by simpa using ht.2.2.2.2.2.2.1
  have d12 : (t == 12) = false := by simpa using ht.2.2.2.2.2.2.2
  have e12 : (t != 12) = true := by simpa using ht.2.2.2.2.2.2.2
  have d0 : (t == 0) = false := by simpa using h0'
  clear ht h0'
  go_enter Try.func21, Try.ntmps21
  go_wp2
  go_ret
  exact ⟨by rw [HE.out]; rfl, HB0.out _⟩

end Go.Proofs.Ytendpbklcgiafaa

/- The document's right (layer 11), a tag at a time. -/
namespace Go.Proofs.Ytendpbklcgiafaa
set_option maxRecDepth 100000
open Go.RowKit

set_option maxHeartbeats 1000000 in
theorem refright_5 (n cap k : Nat) (l : List Cst) (w : World) (b o : Nat) (a b' nn : Int) (s : List UInt8) (H : PlaceC w b o n cap k l ⟨5, a, b', nn, s⟩) :
    Calls Try.prog 21 #[.slice (some ⟨b, o, none⟩) n cap, .int .i64 (k : Int)] w fun e w' => e = .returned (.bool (rightR l k)) ∧ Below w.heap.size w w' := by
  obtain ⟨hP, hc, hb, h0, h1, h2, h3, h4, hn, hk, hok, hcs⟩ := H
  have hcn := hok.n
  simp only at h0 h1 h2 h3 h4 hcs hcn
  have CI : Hid (∀ p t W, Below w.heap.size w W → Calls Try.prog 38 #[.slice (some ⟨b, o, none⟩) n cap, .int .i64 p, .int .i64 t] W fun e w' => e = .returned (.bool (isF l p t)) ∧ W = w') := Lib.hid (fun p t W h => is_any _ n cap l p t W (hP.below h) hn)
  have HB0 : Hid (∀ o', Below w.heap.size w (w.alloc o')) := Lib.hid (fun o' => (Below.refl _ _).alloc (Nat.le_refl _) o')
  have HP := Lib.hid hP
  have Hok := Lib.hid hok
  clear hP hok
  by_cases xS : s = []
  case neg =>
    have HE : Hid (rightR l k = false) := Lib.hid (rightR_no hc (by unfold headR; exact decide_eq_false (by simp [xS])))
    have hq := str_ne s xS
    clear hc xS
    go_enter Try.func21, Try.ntmps21
    go_wp2
    go_ret
    exact ⟨by rw [HE.out]; rfl, HB0.out _⟩
  subst xS
  have hS0 : (strB []).toList = [] := strB_toList []
  by_cases xB : b' = 0
  case neg =>
    have HE : Hid (rightR l k = false) := Lib.hid (rightR_no hc (by unfold headR; exact decide_eq_false (by simp [xB])))
    have hq : (b' == 0) = false := by simpa using xB
    have hq2 : (b' != 0) = true := by simpa using xB
    clear hc xB
    go_enter Try.func21, Try.ntmps21
    go_wp2
    go_ret
    exact ⟨by rw [HE.out]; rfl, HB0.out _⟩
  subst xB
  by_cases xA : a = 0
  case neg =>
    have HE : Hid (rightR l k = false) := Lib.hid (rightR_no hc (by unfold headR; exact decide_eq_false (by simp [xA])))
    have hq : (a == 0) = false := by simpa using xA
    have hq2 : (a != 0) = true := by simpa using xA
    clear hc xA
    go_enter Try.func21, Try.ntmps21
    go_wp2
    go_ret
    exact ⟨by rw [HE.out]; rfl, HB0.out _⟩
  subst xA
  have HE0 := rightR_yes hc (by unfold headR; exact decide_eq_true (by simp))
  by_cases hlt : k + 1 < n
  case pos =>
    obtain ⟨b2, o2, d, hA, hd, _, g0, -⟩ := pool_at HP.out hlt
    obtain ⟨rfl, rfl⟩ : b = b2 ∧ o = o2 := by simpa using hA
    have HE : Hid (rightR l k = (d.tag == 0)) := Lib.hid (by
      rw [HE0]
      show decide ((l[k + 1]?.map (·.tag)) = some 0) = _
      rw [hd, Bool.eq_iff_iff]
      simp)
    have hd1 : decide ((k : Int) + 1 < (n : Int)) = true := decide_eq_true (by omega)
    have htn : ((k : Int) + 1).toNat = k + 1 := by omega
    clear hc HE0 hd hA
    go_enter Try.func21, Try.ntmps21
    go_wp2
    go_ret
    exact ⟨by rw [HE.out]; rfl, HB0.out _⟩
  case neg =>
    have HE : Hid (rightR l k = false) := Lib.hid (by
      rw [HE0]
      show decide ((l[k + 1]?.map (·.tag)) = some 0) = _
      rw [List.getElem?_eq_none (by rw [HP.out.1]; omega)]
      rfl)
    have hd1 : decide ((k : Int) + 1 < (n : Int)) = false := decide_eq_false (by omega)
    clear hc HE0
    go_enter Try.func21, Try.ntmps21
    go_wp2
    go_ret
    exact ⟨by rw [HE.out]; rfl, HB0.out _⟩

end Go.Proofs.Ytendpbklcgiafaa

/- The walks over the document's Right and Same (layer 11). -/
namespace Go.Proofs.Ytendpbklcgiafaa
set_option maxRecDepth 100000
open Go.RowKit

theorem refright_any (A : Option Addr) (n cap k : Nat) (l : List Cst) (w : World) (hP : PoolSl w A n cap l) (hn : n ≤ 1000000) (hok : ∀ c ∈ l, c.ok) (hs : ∀ c ∈ l, c.s.length ≤ 100000) (hk : k < n) :
    Calls Try.prog 21 #[.slice A n cap, .int .i64 (k : Int)] w fun e w' => e = .returned (.bool (rightR l k)) ∧ Below w.heap.size w w' := by
  obtain ⟨b, o, c, rfl, hc, hb, h0, h1, h2, h3, h4⟩ := pool_at hP hk
  have hm := List.mem_of_getElem? hc
  have hcs := hs c hm
  have hck := hok c hm
  obtain ⟨t, a, b', nn, s⟩ := c
  rcases tag_ways t with rfl | rfl | rfl | rfl | rfl | rfl | rfl | rfl | h
  · exact refright_1 n cap k l w b o a b' nn s ⟨hP, hc, hb, h0, h1, h2, h3, h4, hn, hk, hck, hcs⟩
  · exact refright_3 n cap k l w b o a b' nn s ⟨hP, hc, hb, h0, h1, h2, h3, h4, hn, hk, hck, hcs⟩
  · exact refright_5 n cap k l w b o a b' nn s ⟨hP, hc, hb, h0, h1, h2, h3, h4, hn, hk, hck, hcs⟩
  · exact refright_7 n cap k l w b o a b' nn s ⟨hP, hc, hb, h0, h1, h2, h3, h4, hn, hk, hck, hcs⟩
  · exact refright_8 n cap k l w b o a b' nn s ⟨hP, hc, hb, h0, h1, h2, h3, h4, hn, hk, hck, hcs⟩
  · exact refright_9 n cap k l w b o a b' nn s ⟨hP, hc, hb, h0, h1, h2, h3, h4, hn, hk, hck, hcs⟩
  · exact refright_10 n cap k l w b o a b' nn s ⟨hP, hc, hb, h0, h1, h2, h3, h4, hn, hk, hck, hcs⟩
  · exact refright_12 n cap k l w b o a b' nn s ⟨hP, hc, hb, h0, h1, h2, h3, h4, hn, hk, hck, hcs⟩
  · by_cases ht : t = 0
    · subst ht
      exact refright_0 n cap k l w b o a b' nn s ⟨hP, hc, hb, h0, h1, h2, h3, h4, hn, hk, hck, hcs⟩
    · exact refright_x n cap k l w b o t a b' nn s ⟨hP, hc, hb, h0, h1, h2, h3, h4, hn, hk, hck, hcs⟩ h ht

theorem rightF_at {l : List Cst} (k : Nat) (hk : k < l.length) (h : rightR l k = false) : rightF l = false := by
  unfold rightF
  rw [Bool.and_eq_false_iff]
  right
  rw [← Bool.not_eq_true, List.all_eq_true]
  intro hA
  have := hA k (List.mem_range.mpr hk)
  rw [h] at this
  cases this

set_option maxHeartbeats 1000000 in
theorem refRight_any (A : Option Addr) (n cap : Nat) (l : List Cst) (w : World) (hP : PoolSl w A n cap l) (hn : n ≤ 1000000) (hok : ∀ c ∈ l, c.ok) (hs : ∀ c ∈ l, c.s.length ≤ 100000) :
    Calls Try.prog 12 #[.slice A n cap] w fun e w' => e = .returned (.bool (rightF l)) ∧ Below w.heap.size w w' := by
  have hl := hP.1
  have HP := Lib.hid hP
  have Hl := Lib.hid hl
  have CR : Hid (∀ k W, k < n → Below w.heap.size w W → Calls Try.prog 21 #[.slice A n cap, .int .i64 (k : Int)] W fun e w' => e = .returned (.bool (rightR l k)) ∧ Below W.heap.size W w') := Lib.hid (fun k W hk hb => refright_any A n cap k l W (hP.below hb) hn hok hs hk)
  clear hok hs
  by_cases hlen : 1 ≤ n ∧ n ≤ 1024
  · obtain ⟨b, o, c, rfl, hc, hb, h0, -⟩ := pool_at hP (show 0 < n by omega)
    rw [Nat.zero_mul, Nat.add_zero] at h0
    have hd1 : decide ((n : Int) < 1) = false := decide_eq_false (by omega)
    have hd2 : decide ((1024 : Int) < (n : Int)) = false := decide_eq_false (by omega)
    by_cases ht : c.tag = 0
    case neg =>
      have HE : Hid (rightF l = false) := Lib.hid (by
        unfold rightF
        rw [hc]
        simp [ht])
      have hq : (c.tag != 0) = true := by simpa using ht
      clear hP hl hc ht
      go_enter Try.func12, Try.ntmps12
      go_wp2
      go_ret
      exact ⟨by rw [HE.out]; rfl, Below.refl _ _⟩
    have HEall : Hid ((∀ k, k < n → rightR l k = true) → rightF l = true) := Lib.hid (fun h => by
      unfold rightF
      rw [decide_eq_true (by omega), hc, List.all_eq_true.mpr (fun k hk => h k (by rw [List.mem_range] at hk; omega))]
      simp [ht])
    have hq : (c.tag != 0) = false := by simpa using ht
    clear hP hl hc ht
    go_enter Try.func12, Try.ntmps12
    go_wp2
    go_loopw [2, 21] (fun a bb wr => ∃ k : Nat, k ≤ n ∧ a = .bool false ∧ bb = .int .i64 (k : Int) ∧ Hid (∀ j, j < k → rightR l j = true) ∧ Hid (Below w.heap.size w wr)) (fun _ bb _ => n - (intOf bb).toNat)
    case atStart => exact ⟨0, Nat.zero_le _, rfl, rfl, Lib.hid (fun j hj => by omega), Lib.hid (Below.refl _ _)⟩
    case round =>
      obtain ⟨k, hk, rfl, rfl, HA, HB⟩ := hrel
      by_cases hlt : k < n
      · have C := CR.out k wr hlt HB.out
        cases hm : rightR l k with
        | true =>
          have HA2 : Hid (∀ j, j < k + 1 → rightR l j = true) := Lib.hid (fun j hj => by
            by_cases h : j = k
            · rw [h]; exact hm
            · exact HA.out j (by omega))
          rw [hm] at C
          have C := Lib.hid C
          clear hm
          go_wp2_with fail
          refine C.out.mono ?_
          rintro e w2 ⟨rfl, hb2⟩
          have HB2 := Lib.hid (HB.out.trans (hb2.mono HB.out.size))
          clear hb2
          go_wp2
          go_roundw
          case rel => exact ⟨k + 1, by omega, rfl, by go_num, HA2, HB2⟩
          case measure => simp [intOf]; omega
        | false =>
          have HE : Hid (rightF l = false) := Lib.hid (rightF_at k (by rw [Hl.out]; exact hlt) hm)
          rw [hm] at C
          have C := Lib.hid C
          clear hm
          go_wp2_with fail
          refine C.out.mono ?_
          rintro e w2 ⟨rfl, hb2⟩
          have HB2 := Lib.hid (HB.out.trans (hb2.mono HB.out.size))
          clear hb2
          go_wp2
          go_ret
          exact ⟨by rw [HE.out]; rfl, HB2.out⟩
      · obtain rfl : k = n := by omega
        have HE : Hid (rightF l = true) := Lib.hid (HEall.out HA.out)
        go_wp2
        go_ret
        exact ⟨by rw [HE.out]; rfl, HB.out⟩
  · have HE : Hid (rightF l = false) := Lib.hid (by
      unfold rightF
      rw [decide_eq_false (by omega)]
      rfl)
    by_cases h1 : n < 1
    · have hd1 : decide ((n : Int) < 1) = true := decide_eq_true (by omega)
      clear hP hl hlen h1
      go_enter Try.func12, Try.ntmps12
      go_wp2
      go_ret
      exact ⟨by rw [HE.out]; rfl, Below.refl _ _⟩
    · have hd1 : decide ((n : Int) < 1) = false := decide_eq_false (by omega)
      have hd2 : decide ((1024 : Int) < (n : Int)) = true := decide_eq_true (by omega)
      clear hP hl hlen h1
      go_enter Try.func12, Try.ntmps12
      go_wp2
      go_ret
      exact ⟨by rw [HE.out]; rfl, Below.refl _ _⟩

/-- Same, where all is the same. -/
theorem refSame_cst (A B : Option Addr) (n c1 c2 : Nat) (l : List Cst) (w : World) (hA : PoolSl w A n c1 l) (hB : PoolSl w B n c2 l) (hn : n ≤ 1000000) :
    Calls Try.prog 19 #[.slice A n c1, .slice B n c2] w fun e w' => e = .returned (.bool true) ∧ ∃ q, w' = w.drewN q := by
  have HA := Lib.hid hA
  have HB := Lib.hid hB
  have hl := hA.1
  have Hl := Lib.hid hl
  clear hA hB hl
  go_enter Try.func19, Try.ntmps19
  go_wp2
  go_loopw [4, 13] (fun a bb wr => ∃ k q : Nat, k ≤ n ∧ a = .bool false ∧ bb = .int .i64 (k : Int) ∧ wr = w.drewN q) (fun _ bb _ => n - (intOf bb).toNat)
  case atStart => exact ⟨0, 0, Nat.zero_le _, rfl, rfl, rfl⟩
  case round =>
    obtain ⟨k, q, hk, rfl, rfl, rfl⟩ := hrel
    by_cases hlt : k < n
    · obtain ⟨b, o, c, rfl, hc, hb, h0, h1, h2, h3, h4⟩ := pool_at HA.out hlt
      obtain ⟨b2, o2, d, rfl, hd, hb2, g0, g1, g2, g3, g4⟩ := pool_at HB.out hlt
      obtain rfl : c = d := by rw [hc] at hd; exact Option.some.inj hd
      have HQ := neq_c c c
      rw [decide_eq_false (by simp)] at HQ
      clear hc hd
      go_wp2
      go_quiet (fail)
      go_wp2
      go_roundw
      case rel => exact ⟨k + 1, q + nq, by omega, rfl, by go_num, by simp⟩
      case measure => simp [intOf]; omega
    · obtain rfl : k = n := by omega
      go_wp2
      go_ret
      exact ⟨rfl, q, rfl⟩

end Go.Proofs.Ytendpbklcgiafaa

/- The walk over the document's Bytes (layer 11), of a pool that may be. -/
namespace Go.Proofs.Ytendpbklcgiafaa
set_option maxRecDepth 100000
open Go.RowKit

theorem slice_of_own {w : World} {base m : Nat} {v : Value} {zs : List UInt8} (h : w.ownsRow base 5 1 v m (zs.map B8)) : ∃ A c, v = .slice A m c ∧ ByteSl w Empty A m c zs ∧ (A = none → m = 0 ∧ c = 0) := by
  obtain ⟨A, c, rfl, hB, -⟩ := ByteSl.of_own (S := Empty) h (fun _ _ _ h => h)
  refine ⟨A, c, rfl, hB, fun e => ?_⟩
  subst e
  rcases h.2 with ⟨e, h0⟩ | ⟨g, c', cur, e, _⟩
  · cases e
    exact ⟨rfl, rfl⟩
  · cases e

/-- What the loop of the document's Bytes stands on: bytes of its own, the constant in a block of its own. -/
structure RB (w : World) (q : Nat) (c : Cst) (v : Value) (m : Nat) (zs : List UInt8) (W : World) : Prop where
  own : W.ownsRow w.heap.size 5 1 v m (zs.map B8)
  kc : Blk W q 30 c.cells.toArray
  below : Below w.heap.size w W
theorem RB.put {w W W' : World} {q : Nat} {c : Cst} {v v' : Value} {m m' : Nat} {zs zs' : List UInt8} (h : RB w q c v m zs W) (ho : W'.ownsRow W.heap.size 5 1 v' m' (zs'.map B8)) (hb : Below W.heap.size W W') : RB w q c v' m' zs' W' :=
  ⟨own_base ho h.below.size, h.kc.of (hb.block _ h.kc.lt), h.below.trans (hb.mono h.below.size)⟩
theorem RB.app {w W W' : World} {q : Nat} {c : Cst} {v v' : Value} {m m' : Nat} {zs zs' : List UInt8} (h : RB w q c v m zs W) (ho : W'.ownsRow w.heap.size 5 1 v' m' (zs'.map B8)) (hg : W.grownBy W' v.ownBlock) : RB w q c v' m' zs' W' := by
  have hr : ∀ k, v.ownBlock = some k → w.heap.size ≤ k ∧ k ≠ q := fun k hk => by
    rcases h.own.2 with ⟨e, _⟩ | ⟨g', c2, cur, e, hb, hB, -⟩
    · rw [e] at hk
      cases hk
    · rw [e] at hk
      cases hk
      exact ⟨hb, Blk.ne_ hB h.kc (by decide)⟩
  exact ⟨ho, (Only.of_grown (S := fun k => v.ownBlock = some k) hg (fun k e _ => e)).blk h.kc (fun e => (hr q e).2 rfl), below_grown h.below h.below.size hg (fun k hk => (hr k hk).1)⟩
theorem RB.only {w W W' : World} {q : Nat} {c : Cst} {v : Value} {m : Nat} {zs : List UInt8} (h : RB w q c v m zs W) (k : Only Empty W W') : RB w q c v m zs W' :=
  ⟨own_only h.own k (fun _ _ _ h => h), k.blk h.kc (fun h => h), h.below.trans (k.below h.below.size (fun _ _ h => h))⟩


end Go.Proofs.Ytendpbklcgiafaa

/- The walks over the document's words (layer 14): find, text, class, wide, u2, u4. -/
namespace Go.Proofs.Ytendpbklcgiafaa
set_option maxRecDepth 100000
open Go.RowKit

theorem r14text_any (A : Option Addr) (n cap : Nat) (C : List Cst) (x : Int) (w : World) (hP : PoolSl w A n cap C) (hn : n ≤ 1000000) :
    Calls Try.prog 23 #[.slice A n cap, .int .i64 x] w fun e w' => e = .returned (.bool (isTextC C x)) ∧ w = w' := by
  have CT := refText_any A n cap C x w hP hn
  unfold isTextC
  rw [textV_eq] at CT
  have CT := Lib.hid CT
  obtain ⟨B, hB⟩ : ∃ B, (textF C x).isSome = B := ⟨_, rfl⟩
  rw [hB] at CT ⊢
  obtain ⟨D, hD⟩ : ∃ D, textD (textF C x) = D := ⟨_, rfl⟩
  rw [hD] at CT
  clear hP hB hD
  go_enter Try.func23, Try.ntmps23
  go_wp2_with fail
  refine CT.out.mono ?_
  rintro e w1 ⟨rfl, rfl⟩
  go_wp2
  go_ret
  exact ⟨rfl, rfl⟩
theorem r14class_any (A : Option Addr) (n cap : Nat) (C : List Cst) (x : Int) (w : World) (hP : PoolSl w A n cap C) (hn : n ≤ 1000000) :
    Calls Try.prog 13 #[.slice A n cap, .int .i64 x] w fun e w' => e = .returned (.bool (isClassC C x)) ∧ w = w' := by
  have CT := refClass_any A n cap C x w hP hn
  unfold isClassC
  rw [textV_eq] at CT
  have CT := Lib.hid CT
  obtain ⟨B, hB⟩ : ∃ B, (classF C x).isSome = B := ⟨_, rfl⟩
  rw [hB] at CT ⊢
  obtain ⟨D, hD⟩ : ∃ D, textD (classF C x) = D := ⟨_, rfl⟩
  rw [hD] at CT
  clear hP hB hD
  go_enter Try.func13, Try.ntmps13
  go_wp2_with fail
  refine CT.out.mono ?_
  rintro e w1 ⟨rfl, rfl⟩
  go_wp2
  go_ret
  exact ⟨rfl, rfl⟩

theorem text_is {C : List Cst} {k : Nat} {c : Cst} {t : List UInt8} (hc : C[k]? = some c) (hz : ∀ c, C[0]? = some c → c.tag ≠ 1) : textF C (k : Int) = some t ↔ c.tag = 1 ∧ c.s = t := by
  unfold textF findF atF
  cases k with
  | zero =>
    have h1 := hz c hc
    rw [if_neg (by omega)]
    simp [h1]
  | succ k =>
    rw [if_pos (by omega), show ((k + 1 : Nat) : Int).toNat = k + 1 by omega, hc]
    by_cases h : c.tag = 1 <;> simp [h]

set_option maxHeartbeats 1000000 in
theorem r14find_any (A : Option Addr) (n cap : Nat) (C : List Cst) (t : List UInt8) (w : World) (hP : PoolSl w A n cap C) (hn : n ≤ 1000000) (hz : ∀ c, C[0]? = some c → c.tag ≠ 1) :
    Calls Try.prog 26 #[.slice A n cap, .string (strB t)] w fun e w' => e = .returned (.int .i64 (((firstC C t).getD 0 : Nat) : Int)) ∧ Below w.heap.size w w' := by
  have Hl := Lib.hid hP.1
  have HP := Lib.hid hP
  have HZ := Lib.hid hz
  clear hP hz
  go_enter Try.func26, Try.ntmps26
  go_wp2
  go_loopw [9] (fun i wr => ∃ k : Nat, k ≤ n ∧ i = .int .i64 k ∧ Hid (Below w.heap.size w wr) ∧ Hid (∀ j, j < k → textF C (j : Int) ≠ some t)) (fun i _ => n - (intOf i).toNat)
  case atStart => exact ⟨0, Nat.zero_le _, rfl, Lib.hid (Below.refl _ _), Lib.hid (fun j h => absurd h (by omega))⟩
  case round =>
    obtain ⟨k, hk, rfl, HB, HF⟩ := hrel
    by_cases hlt : k < n
    · obtain ⟨b, o, c, rfl, hc, hb, h0, h1, h2, h3, h4⟩ := pool_at (HP.out.below HB.out) hlt
      have HT : Hid (textF C (k : Int) = some t ↔ c.tag = 1 ∧ c.s = t) := Lib.hid (text_is hc HZ.out)
      have HA : Hid (∀ cs : Array Value, Below w.heap.size w (wr.alloc (.cells cs 30))) := Lib.hid (fun cs => HB.out.alloc HB.out.size _)
      obtain ⟨tg, a, b', nn, s⟩ := c
      simp only at h0 h1 h2 h3 h4 HT
      clear hc
      by_cases h1t : tg = 1
      · subst h1t
        by_cases hx : s = t
        · subst hx
          have HR : Hid (firstC C s = some k) := Lib.hid (firstC_some (by rw [Hl.out]; exact hlt) (HT.out.2 ⟨rfl, rfl⟩) HF.out)
          have hq : ((strB s).toList == (strB s).toList) = true := by simp
          go_wp2
          go_ret
          exact ⟨by rw [HR.out]; rfl, HA.out _⟩
        · have HF1 : Hid (∀ j, j < k + 1 → textF C (j : Int) ≠ some t) := Lib.hid (fun j hj => by
            by_cases h : j = k
            · subst h; exact fun h => hx (HT.out.1 h).2
            · exact HF.out j (by omega))
          have hq : ((strB s).toList == (strB t).toList) = false := by
            rw [strB_toList, strB_toList]
            simpa using hx
          clear hx
          go_wp2
          go_roundw
          case rel => exact ⟨k + 1, by omega, by go_num, Lib.hid (HA.out _), HF1⟩
          case measure => simp [intOf]; omega
      · have HF1 : Hid (∀ j, j < k + 1 → textF C (j : Int) ≠ some t) := Lib.hid (fun j hj => by
          by_cases h : j = k
          · subst h; exact fun h => h1t (HT.out.1 h).1
          · exact HF.out j (by omega))
        have hq1 : (tg == 1) = false := by simpa using h1t
        clear h1t
        go_wp2
        go_roundw
        case rel => exact ⟨k + 1, by omega, by go_num, Lib.hid (HA.out _), HF1⟩
        case measure => simp [intOf]; omega
    · have hkn : k = n := by omega
      subst hkn
      have HR : Hid (firstC C t = none) := Lib.hid (firstC_none (by rw [Hl.out]; exact HF.out))
      go_wp2
      go_ret
      exact ⟨by rw [HR.out]; rfl, HB.out⟩

/-- Numbers that are handed in one by one. -/
def IntsSl (w : World) (A : Option Addr) (n : Nat) (l : List Int) : Prop := l.length = n ∧ n ≤ 100 ∧ (0 < n → ∃ b, A = some ⟨b, 0, none⟩ ∧ b < w.heap.size ∧ ∀ (j : Nat) x, l[j]? = some x → w.cell? ⟨b, j, none⟩ = some (.int .i64 x))
theorem IntsSl.at_ {w : World} {A : Option Addr} {n : Nat} {l : List Int} (h : IntsSl w A n l) {k : Nat} (hk : k < n) : ∃ b x, A = some ⟨b, 0, none⟩ ∧ b < w.heap.size ∧ l[k]? = some x ∧ w.cell? ⟨b, k, none⟩ = some (.int .i64 x) := by
  obtain ⟨b, e, hb, hc⟩ := h.2.2 (by omega)
  have hl : k < l.length := by rw [h.1]; exact hk
  exact ⟨b, l[k], e, hb, List.getElem?_eq_getElem hl, hc k _ (List.getElem?_eq_getElem hl)⟩
theorem IntsSl.below {w w' : World} {A : Option Addr} {n : Nat} {l : List Int} (h : IntsSl w A n l) (hb : Below w.heap.size w w') : IntsSl w' A n l :=
  ⟨h.1, h.2.1, fun h0 => by
    obtain ⟨b, e, hlt, hc⟩ := h.2.2 h0
    exact ⟨b, e, Nat.lt_of_lt_of_le hlt hb.size, fun j x hx => (World.cell?_of_block (w := w) (hb.block b hlt)).trans (hc j x hx)⟩⟩
/-- Just such a row is built. -/
theorem IntsSl.lit (w : World) (l : List Int) (n : Nat) (hn : l.length = n) (h1 : n ≤ 100) : IntsSl (w.alloc (.cells (l.map (fun x => Value.int .i64 x)).toArray 3)) (some ⟨w.heap.size, 0, none⟩) n l :=
  ⟨hn, h1, fun _ => ⟨w.heap.size, rfl, by simp, fun j x hx => by
    have h := (Blk.new w 3 (l.map (fun x => Value.int .i64 x)).toArray).cell j
    rw [h]
    simp [hx]⟩⟩

def wideF (l : List Int) : Bool := l.all (upToC 65535)
theorem wide_no {l : List Int} {k : Nat} {x : Int} (h : l[k]? = some x) (hx : upToC 65535 x = false) : wideF l = false := by
  unfold wideF
  rw [Bool.eq_false_iff]
  intro ha
  have := (List.all_eq_true.1 ha) x (List.mem_of_getElem? h)
  rw [hx] at this
  cases this
theorem wide_yes {l : List Int} {n : Nat} (hl : l.length = n) (h : ∀ (j : Nat) x, j < n → l[j]? = some x → upToC 65535 x = true) : wideF l = true := by
  unfold wideF
  rw [List.all_eq_true]
  intro x hx
  obtain ⟨j, hj, rfl⟩ := List.mem_iff_getElem.1 hx
  exact h j _ (by omega) (List.getElem?_eq_getElem hj)
theorem r14wide_any (A : Option Addr) (n : Nat) (l : List Int) (w : World) (hI : IntsSl w A n l) :
    Calls Try.prog 24 #[.slice A n n] w fun e w' => e = .returned (.bool (wideF l)) ∧ w = w' := by
  have HI := Lib.hid hI
  have hn := hI.2.1
  clear hI
  go_enter Try.func24, Try.ntmps24
  go_wp2
  go_loopw [7] (fun i wr => ∃ k : Nat, k ≤ n ∧ i = .int .i64 k ∧ w = wr ∧ Hid (∀ (j : Nat) x, j < k → l[j]? = some x → upToC 65535 x = true)) (fun i _ => n - (intOf i).toNat)
  case atStart => exact ⟨0, Nat.zero_le _, rfl, rfl, Lib.hid (fun j x h => absurd h (by omega))⟩
  case round =>
    obtain ⟨k, hk, rfl, rfl, HF⟩ := hrel
    by_cases hlt : k < n
    · obtain ⟨b, x, rfl, hb, hx, hc⟩ := HI.out.at_ hlt
      have Hx := Lib.hid hx
      clear hx
      by_cases h0 : x < 0
      · have HR : Hid (wideF l = false) := Lib.hid (wide_no Hx.out (by unfold upToC; exact decide_eq_false (by omega)))
        go_wp2
        go_ret
        exact ⟨by rw [HR.out]; rfl, rfl⟩
      · by_cases h6 : 65535 < x
        · have HR : Hid (wideF l = false) := Lib.hid (wide_no Hx.out (by unfold upToC; exact decide_eq_false (by omega)))
          go_wp2
          go_ret
          exact ⟨by rw [HR.out]; rfl, rfl⟩
        · have HF1 : Hid (∀ (j : Nat) x, j < k + 1 → l[j]? = some x → upToC 65535 x = true) := Lib.hid (fun j y hj hy => by
            by_cases h : j = k
            · subst h
              rw [Hx.out] at hy
              cases hy
              unfold upToC
              exact decide_eq_true (by omega)
            · exact HF.out j y (by omega) hy)
          go_wp2
          go_roundw
          case rel => exact ⟨k + 1, by omega, by go_num, by trivial, HF1⟩
          case measure => simp [intOf]; omega
    · have hkn : k = n := by omega
      subst hkn
      have HR : Hid (wideF l = true) := Lib.hid (wide_yes HI.out.1 HF.out)
      go_wp2
      go_ret
      exact ⟨by rw [HR.out]; rfl, rfl⟩

/-- Numbers' bytes. -/
def u2B (l : List Int) : List UInt8 := l.flatMap (fun x => putL (bits64 x) 2)
theorem u2B_take (l : List Int) (k : Nat) (x : Int) (h : l[k]? = some x) : u2B (l.take (k + 1)) = u2B (l.take k) ++ putL (bits64 x) 2 := by
  unfold u2B
  rw [List.take_add_one, h, List.flatMap_append]
  simp
theorem u2B_len (l : List Int) : (u2B l).length = 2 * l.length := by
  unfold u2B
  induction l with
  | nil => rfl
  | cons x l ih => rw [List.flatMap_cons, List.length_append, ih, putL_len, List.length_cons]; omega
/-- Bytes of a call's own, or what came in. -/
structure OwnB2 (w : World) (v : Value) (m : Nat) (zs : List UInt8) (W : World) : Prop where
  own : W.ownsRow w.heap.size 5 1 v m (zs.map B8)
  below : Below w.heap.size w W

end Go.Proofs.Ytendpbklcgiafaa
