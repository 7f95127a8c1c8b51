/- The document's right (layer 11), a tag at a time. -/
import Derived.Test.YtendpbklcgiafaaGreatZas
import Derived.Test.YtendpbklcgiafaaGreatZar
namespace Go.Proofs.YtendpbklcgiafaaGreat
set_option maxRecDepth 100000
open Go.RowKit

set_option maxHeartbeats 1000000 in
theorem refright_x (n cap k : Nat) (l : List Cst) (w : World) (b o : Nat) (t : Int) (a b' nn : Int) (s : List UInt8) (H : PlaceC w b o n cap k l ⟨t, a, b', nn, s⟩) (ht : t ≠ 1 ∧ t ≠ 3 ∧ t ≠ 5 ∧ t ≠ 7 ∧ t ≠ 8 ∧ t ≠ 9 ∧ t ≠ 10 ∧ t ≠ 12) (h0' : t ≠ 0) :
    Calls Tryz.prog 38 #[.slice (some ⟨b, o, none⟩) n cap, .int .i64 (k : Int)] w fun e w' => e = .returned (.bool (rightR l k)) ∧ Below w.heap.size w w' := by
  obtain ⟨hP, hc, hb, h0, h1, h2, h3, h4, hn, hk, hok, hcs⟩ := H
  have hcn := hok.n
  simp only at h0 h1 h2 h3 h4 hcs hcn
  have CI : Hid (∀ p t W, Below w.heap.size w W → Calls Tryz.prog 54 #[.slice (some ⟨b, o, none⟩) n cap, .int .i64 p, .int .i64 t] W fun e w' => e = .returned (.bool (isF l p t)) ∧ W = w') := Lib.hid (fun p t W h => is_any _ n cap l p t W (hP.below h) hn)
  have HB0 : Hid (∀ o', Below w.heap.size w (w.alloc o')) := Lib.hid (fun o' => (Below.refl _ _).alloc (Nat.le_refl _) o')
  have HP := Lib.hid hP
  have Hok := Lib.hid hok
  clear hP hok
  by_cases xS : s = []
  case neg =>
    have HE : Hid (rightR l k = false) := Lib.hid (rightR_no hc (by unfold headR; exact decide_eq_false (by simp [xS, ht])))
    have hq := str_ne s xS
    clear hc xS
    have d1 : (t == 1) = false := by simpa using ht.1
    have e1 : (t != 1) = true := by simpa using ht.1
    have d3 : (t == 3) = false := by simpa using ht.2.1
    have e3 : (t != 3) = true := by simpa using ht.2.1
    have d5 : (t == 5) = false := by simpa using ht.2.2.1
    have e5 : (t != 5) = true := by simpa using ht.2.2.1
    have d7 : (t == 7) = false := by simpa using ht.2.2.2.1
    have e7 : (t != 7) = true := by simpa using ht.2.2.2.1
    have d8 : (t == 8) = false := by simpa using ht.2.2.2.2.1
    have e8 : (t != 8) = true := by simpa using ht.2.2.2.2.1
    have d9 : (t == 9) = false := by simpa using ht.2.2.2.2.2.1
    have e9 : (t != 9) = true := by simpa using ht.2.2.2.2.2.1
    have d10 : (t == 10) = false := by simpa using ht.2.2.2.2.2.2.1
    have e10 : (t != 10) = true := by simpa using ht.2.2.2.2.2.2.1
    have d12 : (t == 12) = false := by simpa using ht.2.2.2.2.2.2.2
    have e12 : (t != 12) = true := by simpa using ht.2.2.2.2.2.2.2
    have d0 : (t == 0) = false := by simpa using h0'
    clear ht h0'
    go_enter Tryz.func38, Tryz.ntmps38
    go_wp2
    go_ret
    exact ⟨by rw [HE.out]; rfl, HB0.out _⟩
  subst xS
  have hS0 : (strB []).toList = [] := strB_toList []
  by_cases xN : nn = 0
  case neg =>
    have HE : Hid (rightR l k = false) := Lib.hid (rightR_no hc (by unfold headR; exact decide_eq_false (by simp [xN, ht])))
    have hq : (nn == 0) = false := by simpa using xN
    have hq2 : (nn != 0) = true := by simpa using xN
    clear hc xN
    have d1 : (t == 1) = false := by simpa using ht.1
    have e1 : (t != 1) = true := by simpa using ht.1
    have d3 : (t == 3) = false := by simpa using ht.2.1
    have e3 : (t != 3) = true := by simpa using ht.2.1
    have d5 : (t == 5) = false := by simpa using ht.2.2.1
    have e5 : (t != 5) = true := by simpa using ht.2.2.1
    have d7 : (t == 7) = false := by simpa using ht.2.2.2.1
    have e7 : (t != 7) = true := by simpa using ht.2.2.2.1
    have d8 : (t == 8) = false := by simpa using ht.2.2.2.2.1
    have e8 : (t != 8) = true := by simpa using ht.2.2.2.2.1
    have d9 : (t == 9) = false := by simpa using ht.2.2.2.2.2.1
    have e9 : (t != 9) = true := by simpa using ht.2.2.2.2.2.1
    have d10 : (t == 10) = false := by simpa using ht.2.2.2.2.2.2.1
    have e10 : (t != 10) = true := by simpa using ht.2.2.2.2.2.2.1
    have d12 : (t == 12) = false := by simpa using ht.2.2.2.2.2.2.2
    have e12 : (t != 12) = true := by simpa using ht.2.2.2.2.2.2.2
    have d0 : (t == 0) = false := by simpa using h0'
    clear ht h0'
    go_enter Tryz.func38, Tryz.ntmps38
    go_wp2
    go_ret
    exact ⟨by rw [HE.out]; rfl, HB0.out _⟩
  subst xN
  by_cases xB : b' = 0
  case neg =>
    have HE : Hid (rightR l k = false) := Lib.hid (rightR_no hc (by unfold headR; exact decide_eq_false (by simp [xB, ht])))
    have hq : (b' == 0) = false := by simpa using xB
    have hq2 : (b' != 0) = true := by simpa using xB
    clear hc xB
    have d1 : (t == 1) = false := by simpa using ht.1
    have e1 : (t != 1) = true := by simpa using ht.1
    have d3 : (t == 3) = false := by simpa using ht.2.1
    have e3 : (t != 3) = true := by simpa using ht.2.1
    have d5 : (t == 5) = false := by simpa using ht.2.2.1
    have e5 : (t != 5) = true := by simpa using ht.2.2.1
    have d7 : (t == 7) = false := by simpa using ht.2.2.2.1
    have e7 : (t != 7) = true := by simpa using ht.2.2.2.1
    have d8 : (t == 8) = false := by simpa using ht.2.2.2.2.1
    have e8 : (t != 8) = true := by simpa using ht.2.2.2.2.1
    have d9 : (t == 9) = false := by simpa using ht.2.2.2.2.2.1
    have e9 : (t != 9) = true := by simpa using ht.2.2.2.2.2.1
    have d10 : (t == 10) = false := by simpa using ht.2.2.2.2.2.2.1
    have e10 : (t != 10) = true := by simpa using ht.2.2.2.2.2.2.1
    have d12 : (t == 12) = false := by simpa using ht.2.2.2.2.2.2.2
    have e12 : (t != 12) = true := by simpa using ht.2.2.2.2.2.2.2
    have d0 : (t == 0) = false := by simpa using h0'
    clear ht h0'
    go_enter Tryz.func38, Tryz.ntmps38
    go_wp2
    go_ret
    exact ⟨by rw [HE.out]; rfl, HB0.out _⟩
  subst xB
  by_cases xA : a = 0
  case neg =>
    have HE : Hid (rightR l k = false) := Lib.hid (rightR_no hc (by unfold headR; exact decide_eq_false (by simp [xA, ht])))
    have hq : (a == 0) = false := by simpa using xA
    have hq2 : (a != 0) = true := by simpa using xA
    clear hc xA
    have d1 : (t == 1) = false := by simpa using ht.1
    have e1 : (t != 1) = true := by simpa using ht.1
    have d3 : (t == 3) = false := by simpa using ht.2.1
    have e3 : (t != 3) = true := by simpa using ht.2.1
    have d5 : (t == 5) = false := by simpa using ht.2.2.1
    have e5 : (t != 5) = true := by simpa using ht.2.2.1
    have d7 : (t == 7) = false := by simpa using ht.2.2.2.1
    have e7 : (t != 7) = true := by simpa using ht.2.2.2.1
    have d8 : (t == 8) = false := by simpa using ht.2.2.2.2.1
    have e8 : (t != 8) = true := by simpa using ht.2.2.2.2.1
    have d9 : (t == 9) = false := by simpa using ht.2.2.2.2.2.1
    have e9 : (t != 9) = true := by simpa using ht.2.2.2.2.2.1
    have d10 : (t == 10) = false := by simpa using ht.2.2.2.2.2.2.1
    have e10 : (t != 10) = true := by simpa using ht.2.2.2.2.2.2.1
    have d12 : (t == 12) = false := by simpa using ht.2.2.2.2.2.2.2
    have e12 : (t != 12) = true := by simpa using ht.2.2.2.2.2.2.2
    have d0 : (t == 0) = false := by simpa using h0'
    clear ht h0'
    go_enter Tryz.func38, Tryz.ntmps38
    go_wp2
    go_ret
    exact ⟨by rw [HE.out]; rfl, HB0.out _⟩
  subst xA
  have HE0 := rightR_yes hc (by unfold headR; exact decide_eq_true (by simp [ht]))
  have HE : Hid (rightR l k = false) := Lib.hid (by rw [HE0]; unfold tailR; simp [ht, h0'])
  clear hc HE0
  have d1 : (t == 1) = false := by simpa using ht.1
  have e1 : (t != 1) = true := by simpa using ht.1
  have d3 : (t == 3) = false := by simpa using ht.2.1
  have e3 : (t != 3) = true := by simpa using ht.2.1
  have d5 : (t == 5) = false := by simpa using ht.2.2.1
  have e5 : (t != 5) = true := by simpa using ht.2.2.1
  have d7 : (t == 7) = false := by simpa using ht.2.2.2.1
  have e7 : (t != 7) = true := by simpa using ht.2.2.2.1
  have d8 : (t == 8) = false := by simpa using ht.2.2.2.2.1
  have e8 : (t != 8) = true := by simpa using ht.2.2.2.2.1
  have d9 : (t == 9) = false := by simpa using ht.2.2.2.2.2.1
  have e9 : (t != 9) = true := by simpa using ht.2.2.2.2.2.1
  have d10 : (t == 10) = false := by simpa using ht.2.2.2.2.2.2.1
  have e10 : (t != 10) = true := by simpa using ht.2.2.2.2.2.2.1
  have d12 : (t == 12) = false := by simpa using ht.2.2.2.2.2.2.2
  have e12 : (t != 12) = true := by simpa using ht.2.2.2.2.2.2.2
  have d0 : (t == 0) = false := by simpa using h0'
  clear ht h0'
  go_enter Tryz.func38, Tryz.ntmps38
  go_wp2
  go_ret
  exact ⟨by rw [HE.out]; rfl, HB0.out _⟩

end Go.Proofs.YtendpbklcgiafaaGreat

/- The document's right (layer 11), a tag at a time. -/
namespace Go.Proofs.YtendpbklcgiafaaGreat
set_option maxRecDepth 100000
open Go.RowKit

set_option maxHeartbeats 1000000 in
theorem refright_5 (n cap k : Nat) (l : List Cst) (w : World) (b o : Nat) (a b' nn : Int) (s : List UInt8) (H : PlaceC w b o n cap k l ⟨5, a, b', nn, s⟩) :
    Calls Tryz.prog 38 #[.slice (some ⟨b, o, none⟩) n cap, .int .i64 (k : Int)] w fun e w' => e = .returned (.bool (rightR l k)) ∧ Below w.heap.size w w' := by
  obtain ⟨hP, hc, hb, h0, h1, h2, h3, h4, hn, hk, hok, hcs⟩ := H
  have hcn := hok.n
  simp only at h0 h1 h2 h3 h4 hcs hcn
  have CI : Hid (∀ p t W, Below w.heap.size w W → Calls Tryz.prog 54 #[.slice (some ⟨b, o, none⟩) n cap, .int .i64 p, .int .i64 t] W fun e w' => e = .returned (.bool (isF l p t)) ∧ W = w') := Lib.hid (fun p t W h => is_any _ n cap l p t W (hP.below h) hn)
  have HB0 : Hid (∀ o', Below w.heap.size w (w.alloc o')) := Lib.hid (fun o' => (Below.refl _ _).alloc (Nat.le_refl _) o')
  have HP := Lib.hid hP
  have Hok := Lib.hid hok
  clear hP hok
  by_cases xS : s = []
  case neg =>
    have HE : Hid (rightR l k = false) := Lib.hid (rightR_no hc (by unfold headR; exact decide_eq_false (by simp [xS])))
    have hq := str_ne s xS
    clear hc xS
    go_enter Tryz.func38, Tryz.ntmps38
    go_wp2
    go_ret
    exact ⟨by rw [HE.out]; rfl, HB0.out _⟩
  subst xS
  have hS0 : (strB []).toList = [] := strB_toList []
  by_cases xB : b' = 0
  case neg =>
    have HE : Hid (rightR l k = false) := Lib.hid (rightR_no hc (by unfold headR; exact decide_eq_false (by simp [xB])))
    have hq : (b' == 0) = false := by simpa using xB
    have hq2 : (b' != 0) = true := by simpa using xB
    clear hc xB
    go_enter Tryz.func38, Tryz.ntmps38
    go_wp2
    go_ret
    exact ⟨by rw [HE.out]; rfl, HB0.out _⟩
  subst xB
  by_cases xA : a = 0
  case neg =>
    have HE : Hid (rightR l k = false) := Lib.hid (rightR_no hc (by unfold headR; exact decide_eq_false (by simp [xA])))
    have hq : (a == 0) = false := by simpa using xA
    have hq2 : (a != 0) = true := by simpa using xA
    clear hc xA
    go_enter Tryz.func38, Tryz.ntmps38
    go_wp2
    go_ret
    exact ⟨by rw [HE.out]; rfl, HB0.out _⟩
  subst xA
  have HE0 := rightR_yes hc (by unfold headR; exact decide_eq_true (by simp))
  by_cases hlt : k + 1 < n
  case pos =>
    obtain ⟨b2, o2, d, hA, hd, _, g0, -⟩ := pool_at HP.out hlt
    obtain ⟨rfl, rfl⟩ : b = b2 ∧ o = o2 := by simpa using hA
    have HE : Hid (rightR l k = (d.tag == 0)) := Lib.hid (by
      rw [HE0]
      show decide ((l[k + 1]?.map (·.tag)) = some 0) = _
      rw [hd, Bool.eq_iff_iff]
      simp)
    have hd1 : decide ((k : Int) + 1 < (n : Int)) = true := decide_eq_true (by omega)
    have htn : ((k : Int) + 1).toNat = k + 1 := by omega
    clear hc HE0 hd hA
    go_enter Tryz.func38, Tryz.ntmps38
    go_wp2
    go_ret
    exact ⟨by rw [HE.out]; rfl, HB0.out _⟩
  case neg =>
    have HE : Hid (rightR l k = false) := Lib.hid (by
      rw [HE0]
      show decide ((l[k + 1]?.map (·.tag)) = some 0) = _
      rw [List.getElem?_eq_none (by rw [HP.out.1]; omega)]
      rfl)
    have hd1 : decide ((k : Int) + 1 < (n : Int)) = false := decide_eq_false (by omega)
    clear hc HE0
    go_enter Tryz.func38, Tryz.ntmps38
    go_wp2
    go_ret
    exact ⟨by rw [HE.out]; rfl, HB0.out _⟩

end Go.Proofs.YtendpbklcgiafaaGreat

/- The walks over the document's Right and Same (layer 11). -/
namespace Go.Proofs.YtendpbklcgiafaaGreat
set_option maxRecDepth 100000
open Go.RowKit

theorem refright_any (A : Option Addr) (n cap k : Nat) (l : List Cst) (w : World) (hP : PoolSl w A n cap l) (hn : n ≤ 1000000) (hok : ∀ c ∈ l, c.ok) (hs : ∀ c ∈ l, c.s.length ≤ 100000) (hk : k < n) :
    Calls Tryz.prog 38 #[.slice A n cap, .int .i64 (k : Int)] w fun e w' => e = .returned (.bool (rightR l k)) ∧ Below w.heap.size w w' := by
  obtain ⟨b, o, c, rfl, hc, hb, h0, h1, h2, h3, h4⟩ := pool_at hP hk
  have hm := List.mem_of_getElem? hc
  have hcs := hs c hm
  have hck := hok c hm
  obtain ⟨t, a, b', nn, s⟩ := c
  rcases tag_ways t with rfl | rfl | rfl | rfl | rfl | rfl | rfl | rfl | h
  · exact refright_1 n cap k l w b o a b' nn s ⟨hP, hc, hb, h0, h1, h2, h3, h4, hn, hk, hck, hcs⟩
  · exact refright_3 n cap k l w b o a b' nn s ⟨hP, hc, hb, h0, h1, h2, h3, h4, hn, hk, hck, hcs⟩
  · exact refright_5 n cap k l w b o a b' nn s ⟨hP, hc, hb, h0, h1, h2, h3, h4, hn, hk, hck, hcs⟩
  · exact refright_7 n cap k l w b o a b' nn s ⟨hP, hc, hb, h0, h1, h2, h3, h4, hn, hk, hck, hcs⟩
  · exact refright_8 n cap k l w b o a b' nn s ⟨hP, hc, hb, h0, h1, h2, h3, h4, hn, hk, hck, hcs⟩
  · exact refright_9 n cap k l w b o a b' nn s ⟨hP, hc, hb, h0, h1, h2, h3, h4, hn, hk, hck, hcs⟩
  · exact refright_10 n cap k l w b o a b' nn s ⟨hP, hc, hb, h0, h1, h2, h3, h4, hn, hk, hck, hcs⟩
  · exact refright_12 n cap k l w b o a b' nn s ⟨hP, hc, hb, h0, h1, h2, h3, h4, hn, hk, hck, hcs⟩
  · by_cases ht : t = 0
    · subst ht
      exact refright_0 n cap k l w b o a b' nn s ⟨hP, hc, hb, h0, h1, h2, h3, h4, hn, hk, hck, hcs⟩
    · exact refright_x n cap k l w b o t a b' nn s ⟨hP, hc, hb, h0, h1, h2, h3, h4, hn, hk, hck, hcs⟩ h ht

theorem rightF_at {l : List Cst} (k : Nat) (hk : k < l.length) (h : rightR l k = false) : rightF l = false := by
  unfold rightF
  rw [Bool.and_eq_false_iff]
  right
  rw [← Bool.not_eq_true, List.all_eq_true]
  intro hA
  have := hA k (List.mem_range.mpr hk)
  rw [h] at this
  cases this

set_option maxHeartbeats 1000000 in
theorem refRight_any (A : Option Addr) (n cap : Nat) (l : List Cst) (w : World) (hP : PoolSl w A n cap l) (hn : n ≤ 1000000) (hok : ∀ c ∈ l, c.ok) (hs : ∀ c ∈ l, c.s.length ≤ 100000) :
    Calls Tryz.prog 17 #[.slice A n cap] w fun e w' => e = .returned (.bool (rightF l)) ∧ Below w.heap.size w w' := by
  have hl := hP.1
  have HP := Lib.hid hP
  have Hl := Lib.hid hl
  have CR : Hid (∀ k W, k < n → Below w.heap.size w W → Calls Tryz.prog 38 #[.slice A n cap, .int .i64 (k : Int)] W fun e w' => e = .returned (.bool (rightR l k)) ∧ Below W.heap.size W w') := Lib.hid (fun k W hk hb => refright_any A n cap k l W (hP.below hb) hn hok hs hk)
  clear hok hs
  by_cases hlen : 1 ≤ n ∧ n ≤ 1024
  · obtain ⟨b, o, c, rfl, hc, hb, h0, -⟩ := pool_at hP (show 0 < n by omega)
    rw [Nat.zero_mul, Nat.add_zero] at h0
    have hd1 : decide ((n : Int) < 1) = false := decide_eq_false (by omega)
    have hd2 : decide ((1024 : Int) < (n : Int)) = false := decide_eq_false (by omega)
    by_cases ht : c.tag = 0
    case neg =>
      have HE : Hid (rightF l = false) := Lib.hid (by
        unfold rightF
        rw [hc]
        simp [ht])
      have hq : (c.tag != 0) = true := by simpa using ht
      clear hP hl hc ht
      go_enter Tryz.func17, Tryz.ntmps17
      go_wp2
      go_ret
      exact ⟨by rw [HE.out]; rfl, Below.refl _ _⟩
    have HEall : Hid ((∀ k, k < n → rightR l k = true) → rightF l = true) := Lib.hid (fun h => by
      unfold rightF
      rw [decide_eq_true (by omega), hc, List.all_eq_true.mpr (fun k hk => h k (by rw [List.mem_range] at hk; omega))]
      simp [ht])
    have hq : (c.tag != 0) = false := by simpa using ht
    clear hP hl hc ht
    go_enter Tryz.func17, Tryz.ntmps17
    go_wp2
    go_loopw [2, 21] (fun a bb wr => ∃ k : Nat, k ≤ n ∧ a = .bool false ∧ bb = .int .i64 (k : Int) ∧ Hid (∀ j, j < k → rightR l j = true) ∧ Hid (Below w.heap.size w wr)) (fun _ bb _ => n - (intOf bb).toNat)
    case atStart => exact ⟨0, Nat.zero_le _, rfl, rfl, Lib.hid (fun j hj => by omega), Lib.hid (Below.refl _ _)⟩
    case round =>
      obtain ⟨k, hk, rfl, rfl, HA, HB⟩ := hrel
      by_cases hlt : k < n
      · have C := CR.out k wr hlt HB.out
        cases hm : rightR l k with
        | true =>
          have HA2 : Hid (∀ j, j < k + 1 → rightR l j = true) := Lib.hid (fun j hj => by
            by_cases h : j = k
            · rw [h]; exact hm
            · exact HA.out j (by omega))
          rw [hm] at C
          have C := Lib.hid C
          clear hm
          go_wp2_with fail
          refine C.out.mono ?_
          rintro e w2 ⟨rfl, hb2⟩
          have HB2 := Lib.hid (HB.out.trans (hb2.mono HB.out.size))
          clear hb2
          go_wp2
          go_roundw
          case rel => exact ⟨k + 1, by omega, rfl, by go_num, HA2, HB2⟩
          case measure => simp [intOf]; omega
        | false =>
          have HE : Hid (rightF l = false) := Lib.hid (rightF_at k (by rw [Hl.out]; exact hlt) hm)
          rw [hm] at C
          have C := Lib.hid C
          clear hm
          go_wp2_with fail
          refine C.out.mono ?_
          rintro e w2 ⟨rfl, hb2⟩
          have HB2 := Lib.hid (HB.out.trans (hb2.mono HB.out.size))
          clear hb2
          go_wp2
          go_ret
          exact ⟨by rw [HE.out]; rfl, HB2.out⟩
      · obtain rfl : k = n := by omega
        have HE : Hid (rightF l = true) := Lib.hid (HEall.out HA.out)
        go_wp2
        go_ret
        exact ⟨by rw [HE.out]; rfl, HB.out⟩
  · have HE : Hid (rightF l = false) := Lib.hid (by
      unfold rightF
      rw [decide_eq_false (by omega)]
      rfl)
    by_cases h1 : n < 1
    · have hd1 : decide ((n : Int) < 1) = true := decide_eq_true (by omega)
      clear hP hl hlen h1
      go_enter Tryz.func17, Tryz.ntmps17
      go_wp2
      go_ret
      exact ⟨by rw [HE.out]; rfl, Below.refl _ _⟩
    · have hd1 : decide ((n : Int) < 1) = false := decide_eq_false (by omega)
      have hd2 : decide ((1024 : Int) < (n : Int)) = true := decide_eq_true (by omega)
      clear hP hl hlen h1
      go_enter Tryz.func17, Tryz.ntmps17
      go_wp2
      go_ret
      exact ⟨by rw [HE.out]; rfl, Below.refl _ _⟩

/-- Same, where all is the same. -/
theorem refSame_cst (A B : Option Addr) (n c1 c2 : Nat) (l : List Cst) (w : World) (hA : PoolSl w A n c1 l) (hB : PoolSl w B n c2 l) (hn : n ≤ 1000000) :
    Calls Tryz.prog 28 #[.slice A n c1, .slice B n c2] w fun e w' => e = .returned (.bool true) ∧ ∃ q, w' = w.drewN q := by
  have HA := Lib.hid hA
  have HB := Lib.hid hB
  have hl := hA.1
  have Hl := Lib.hid hl
  clear hA hB hl
  go_enter Tryz.func28, Tryz.ntmps28
  go_wp2
  go_loopw [4, 13] (fun a bb wr => ∃ k q : Nat, k ≤ n ∧ a = .bool false ∧ bb = .int .i64 (k : Int) ∧ wr = w.drewN q) (fun _ bb _ => n - (intOf bb).toNat)
  case atStart => exact ⟨0, 0, Nat.zero_le _, rfl, rfl, rfl⟩
  case round =>
    obtain ⟨k, q, hk, rfl, rfl, rfl⟩ := hrel
    by_cases hlt : k < n
    · obtain ⟨b, o, c, rfl, hc, hb, h0, h1, h2, h3, h4⟩ := pool_at HA.out hlt
      obtain ⟨b2, o2, d, rfl, hd, hb2, g0, g1, g2, g3, g4⟩ := pool_at HB.out hlt
      obtain rfl : c = d := by rw [hc] at hd; exact Option.some.inj hd
      have HQ := neq_c c c
      rw [decide_eq_false (by simp)] at HQ
      clear hc hd
      go_wp2
      go_quiet (fail)
      go_wp2
      go_roundw
      case rel => exact ⟨k + 1, q + nq, by omega, rfl, by go_num, by simp⟩
      case measure => simp [intOf]; omega
    · obtain rfl : k = n := by omega
      go_wp2
      go_ret
      exact ⟨rfl, q, rfl⟩

end Go.Proofs.YtendpbklcgiafaaGreat

/- The walk over the document's Bytes (layer 11), of a pool that may be. -/
namespace Go.Proofs.YtendpbklcgiafaaGreat
set_option maxRecDepth 100000
open Go.RowKit

theorem slice_of_own {w : World} {base m : Nat} {v : Value} {zs : List UInt8} (h : w.ownsRow base 5 1 v m (zs.map B8)) : ∃ A c, v = .slice A m c ∧ ByteSl w Empty A m c zs ∧ (A = none → m = 0 ∧ c = 0) := by
  obtain ⟨A, c, rfl, hB, -⟩ := ByteSl.of_own (S := Empty) h (fun _ _ _ h => h)
  refine ⟨A, c, rfl, hB, fun e => ?_⟩
  subst e
  rcases h.2 with ⟨e, h0⟩ | ⟨g, c', cur, e, _⟩
  · cases e
    exact ⟨rfl, rfl⟩
  · cases e

/-- What the loop of the document's Bytes stands on: bytes of its own, the constant in a block of its own. -/
structure RB (w : World) (q : Nat) (c : Cst) (v : Value) (m : Nat) (zs : List UInt8) (W : World) : Prop where
  own : W.ownsRow w.heap.size 5 1 v m (zs.map B8)
  kc : Blk W q 43 c.cells.toArray
  below : Below w.heap.size w W
theorem RB.put {w W W' : World} {q : Nat} {c : Cst} {v v' : Value} {m m' : Nat} {zs zs' : List UInt8} (h : RB w q c v m zs W) (ho : W'.ownsRow W.heap.size 5 1 v' m' (zs'.map B8)) (hb : Below W.heap.size W W') : RB w q c v' m' zs' W' :=
  ⟨own_base ho h.below.size, h.kc.of (hb.block _ h.kc.lt), h.below.trans (hb.mono h.below.size)⟩
theorem RB.app {w W W' : World} {q : Nat} {c : Cst} {v v' : Value} {m m' : Nat} {zs zs' : List UInt8} (h : RB w q c v m zs W) (ho : W'.ownsRow w.heap.size 5 1 v' m' (zs'.map B8)) (hg : W.grownBy W' v.ownBlock) : RB w q c v' m' zs' W' := by
  have hr : ∀ k, v.ownBlock = some k → w.heap.size ≤ k ∧ k ≠ q := fun k hk => by
    rcases h.own.2 with ⟨e, _⟩ | ⟨g', c2, cur, e, hb, hB, -⟩
    · rw [e] at hk
      cases hk
    · rw [e] at hk
      cases hk
      exact ⟨hb, Blk.ne_ hB h.kc (by decide)⟩
  exact ⟨ho, (Only.of_grown (S := fun k => v.ownBlock = some k) hg (fun k e _ => e)).blk h.kc (fun e => (hr q e).2 rfl), below_grown h.below h.below.size hg (fun k hk => (hr k hk).1)⟩
theorem RB.only {w W W' : World} {q : Nat} {c : Cst} {v : Value} {m : Nat} {zs : List UInt8} (h : RB w q c v m zs W) (k : Only Empty W W') : RB w q c v m zs W' :=
  ⟨own_only h.own k (fun _ _ _ h => h), k.blk h.kc (fun h => h), h.below.trans (k.below h.below.size (fun _ _ h => h))⟩

set_option maxHeartbeats 8000000 in
theorem refBytes_any (A : Option Addr) (n cap : Nat) (l : List Cst) (w : World) (hP : PoolSl w A n cap l) (hc : checkF l = true) (hB : (poolB l).length ≤ 1000000) :
    Calls Tryz.prog 24 #[.slice A n cap] w fun e w' => (∃ A2 c2, e = .returned (.slice A2 (poolB l).length c2) ∧ ByteSl w' Empty A2 (poolB l).length c2 (poolB l)) ∧ Below w.heap.size w w' := by
  have hl := hP.1
  have hn : n ≤ 1024 ∧ 1 ≤ n := by
    unfold checkF at hc
    rw [Bool.and_assoc, Bool.and_eq_true] at hc
    have := of_decide_eq_true hc.1
    omega
  have HP := Lib.hid hP
  have HC := Lib.hid hc
  have HBl := Lib.hid hB
  have Hl := Lib.hid hl
  have hwn : IntKind.u64.wrap (n : Int) = (n : Int) := by rw [IntKind.wrap_u64]; omega
  have CP : Hid (∀ (A : Option Addr) (m cap v k : Nat) (xs : List UInt8) (W : World), ByteSl W Empty A m cap xs → (A = none → m = 0 ∧ cap = 0) → v ≤ 18446744073709551615 → 1 ≤ k → k ≤ 8 → m ≤ 1048576 → Calls Tryz.prog 23 #[.slice A m cap, .int .u64 (v : Int), .int .i64 (k : Int)] W fun e w' => (∃ u, e = .returned u ∧ w'.ownsRow W.heap.size 5 1 u (m + k) ((xs ++ putL v k).map B8)) ∧ Below W.heap.size W w') :=
    Lib.hid (fun A m cap v k xs W hB hA hv h1 h2 hm => refPut_yes A m cap xs v k W hB hA hv h1 h2 hm)
  have HU := Lib.hid u64_le
  clear hP hc hB hl
  go_enter Tryz.func24, Tryz.ntmps24
  go_wp2_with fail
  refine (CP.out none 0 0 n 2 [] w (ByteSl.nil_ _ _ _ _ (by unfold maxLen; omega)) (fun _ => ⟨rfl, rfl⟩) (by omega) (by omega) (by omega) (by omega)).mono ?_
  rintro e w1 ⟨⟨u, rfl, ho1⟩, hb1⟩
  rw [Nat.zero_add, List.nil_append] at ho1
  have HO1 := Lib.hid ho1
  have HB1 := Lib.hid hb1
  clear ho1 hb1
  go_wp2
  go_loopw [3, 12] (fun v a wr => ∃ k : Nat, k ≤ n ∧ a = .int .i64 (k : Int) ∧ Hid (wr.ownsRow w.heap.size 5 1 v (2 + ((l.take k).flatMap cB).length) ((putL n 2 ++ (l.take k).flatMap cB).map B8)) ∧ Hid (Below w.heap.size w wr)) (fun _ a _ => n - (intOf a).toNat)
  case atStart => exact ⟨0, Nat.zero_le _, rfl, Lib.hid (by simpa using HO1.out), HB1⟩
  case round =>
    obtain ⟨k, hk, rfl, HOk, HBk⟩ := hrel
    by_cases hlt : k < n
    · obtain ⟨b, o, c, rfl, hc, hb, h0, h1, h2, h3, h4⟩ := pool_at (HP.out.below HBk.out) hlt
      have htk := take_flat cB l k c hc
      have hB := HBl.out
      unfold poolB at hB
      rw [Hl.out, List.length_append, putL_len] at hB
      have hle1 := take_flat_le cB l (k + 1)
      rw [htk, List.length_append] at hle1
      obtain ⟨Av, cv, rfl, -, -⟩ := slice_of_own HOk.out
      have HR1 : Hid (RB w wr.heap.size c (.slice Av (2 + ((l.take k).flatMap cB).length) cv) (2 + ((l.take k).flatMap cB).length) (putL n 2 ++ (l.take k).flatMap cB) (wr.alloc (.cells c.cells.toArray 43))) := Lib.hid ⟨own_alloc HOk.out _, Blk.new _ _ _, HBk.out.alloc HBk.out.size _⟩
      rcases may_cases HC.out k c hc with ⟨_, hz⟩ | ⟨_, hfit⟩
      · subst hz
        have hcb : cB zeroC = [] := rfl
        have HT : Hid ((l.take (k + 1)).flatMap cB = (l.take k).flatMap cB) := Lib.hid (by rw [htk, hcb, List.append_nil])
        simp only [zeroC] at h0 h1 h2 h3 h4
        clear htk hcb hB hle1 hc
        go_wp2
        go_roundw
        case rel => exact ⟨k + 1, by omega, by go_num, by rw [HT.out]; exact Lib.hid HR1.out.own, Lib.hid HR1.out.below⟩
        case measure => simp [intOf]; omega
      · have hcb : cB c = constB c := by unfold cB; rw [if_neg hfit.tag]
        rw [hcb] at htk hle1
        have hT : (l.take (k + 1)).flatMap cB = (l.take k).flatMap cB ++ constB c := htk
        have hpt := hfit.part
        have hft := hfit.form
        have hcs := hfit.text
        have hca := hfit.a
        have hcbb := hfit.b
        obtain ⟨m, hm⟩ : ∃ m, 2 + ((l.take k).flatMap cB).length = m := ⟨_, rfl⟩
        obtain ⟨zs, hzs⟩ : ∃ zs, putL n 2 ++ (l.take k).flatMap cB = zs := ⟨_, rfl⟩
        rw [hm, hzs] at HR1
        have hm6 : m + (constB c).length ≤ 1000000 := by omega
        have HT : Hid (∀ m' (zs' : List UInt8), m' = m + (constB c).length → zs' = zs ++ constB c → 2 + ((l.take (k + 1)).flatMap cB).length = m' ∧ putL n 2 ++ (l.take (k + 1)).flatMap cB = zs') := Lib.hid (fun m' zs' e1 e2 => by
          rw [hT, e1, e2, ← hm, ← hzs, List.length_append]
          exact ⟨by omega, by rw [List.append_assoc]⟩)
        have Hm := Lib.hid hm
        rw [hm]
        clear hm hzs htk hcb hB hle1 hc hfit hT HOk
        obtain ⟨t, a, b', nn, s⟩ := c
        simp only at h0 h1 h2 h3 h4 hcs hca hcbb hft
        rcases tag_ways t with rfl | rfl | rfl | rfl | rfl | rfl | rfl | rfl | hno
        · have HE : Hid (constB ⟨1, a, b', nn, s⟩ = putL (bits64 1) 1 ++ putL s.length 2 ++ s) := Lib.hid (by unfold constB; simp [formF])
          have HLn : Hid ((constB ⟨1, a, b', nn, s⟩).length = 1 + 2 + s.length) := Lib.hid (by rw [HE.out]; simp [putL_len]; omega)
          rw [HLn.out] at hm6
          have HY : Hid (∀ W : World, ByteSl (W.alloc (.cells #[.int .u8 1] 5)) Empty (some ⟨W.heap.size, 0, none⟩) 1 1 [1]) := Lib.hid (fun W => ByteSl.lit W Empty [1] 1 rfl (fun h => h) (by unfold maxLen; omega))
          have hYs := HY.out (wr.alloc (.cells (⟨1, a, b', nn, s⟩ : Cst).cells.toArray 43))
          rw [show (wr.alloc (.cells (⟨1, a, b', nn, s⟩ : Cst).cells.toArray 43)).heap.size = wr.heap.size + 1 by simp] at hYs
          have HYs := Lib.hid hYs
          clear hYs
          have hput : putL (bits64 1) 1 = [1] := by decide
          rw [hput] at HE
          have hsz : (strB s).size = s.length := strB_size s
          have hUa := u64_wrap a
          have hUb := u64_wrap b'
          have hUn := u64_wrap nn
          have hUs : IntKind.u64.wrap (s.length : Int) = (s.length : Int) := by rw [IntKind.wrap_u64]; omega
          clear hpt hft hput
          go_wp2_with (at_builtin; refine wpList_append_bytes rfl (.tmp 19) (.tmp 23) rfl w.heap.size (.slice Av m cv) rfl m zs (HR1.out.only ((Only.refl _ _).alloc _)).own (some ⟨wr.heap.size + 1, 0, none⟩) 1 1 [1] Empty rfl (HYs.out) (fun h => by cases h) (by omega) (HR1.out.only ((Only.refl _ _).alloc _)).below.size ?_; intro v2 w2 ho2 hg2 _; obtain ⟨A2, c2, rfl, hB2, hn2⟩ := slice_of_own ho2; have HR2 := Lib.hid ((HR1.out.only ((Only.refl _ _).alloc (.cells #[.int .u8 1] 5))).app ho2 hg2); have HB2 := Lib.hid hB2; have HN2 := Lib.hid hn2; have a0 : w2.cell? ⟨wr.heap.size, 0, none⟩ = some (.int .i64 1) := HR2.out.kc.cell 0; have a1 : w2.cell? ⟨wr.heap.size, 1, none⟩ = some (.int .i64 a) := HR2.out.kc.cell 1; have a2 : w2.cell? ⟨wr.heap.size, 2, none⟩ = some (.int .i64 b') := HR2.out.kc.cell 2; have a3 : w2.cell? ⟨wr.heap.size, 3, none⟩ = some (.int .i64 nn) := HR2.out.kc.cell 3; have a4 : w2.cell? ⟨wr.heap.size, 4, none⟩ = some (.string (strB s)) := HR2.out.kc.cell 4; clear ho2 hg2 hB2 hn2)
          refine wp_region_held_drew (S := fun W => W.cell? ⟨wr.heap.size, 4, none⟩ = some (.string (strB s))) (by kernel_rfl) a4 (fun hHeld0 => ?_)
          refine take_yes 0 38 ?_ rfl rfl (by kernel_rfl) (by kernel_rfl) (by kernel_rfl) (fun _ _ _ h => h) (by kernel_rfl) ?_ (by assumption) ?_; rotate_left; (focus (intro w hSw; (try dsimp only at hSw); go_simp; all_goals first | with_reducible rfl)); simp only [Act.put, List.setIfInBounds_toArray, List.set_cons_zero, List.set_cons_succ]
          refine take_yes 1 39 ?_ rfl rfl (by kernel_rfl) (by kernel_rfl) (by kernel_rfl) (fun _ _ _ h => h) (by kernel_rfl) ?_ (by assumption) ?_; rotate_left; (focus (intro w hSw; (try dsimp only at hSw); go_simp; all_goals first | with_reducible rfl)); simp only [Act.put, List.setIfInBounds_toArray, List.set_cons_zero, List.set_cons_succ]
          refine take_yes 2 40 ?_ rfl rfl (by kernel_rfl) (by kernel_rfl) (by kernel_rfl) (fun _ _ _ h => h) (by kernel_rfl) ?_ (by assumption) ?_; rotate_left; (focus (intro w hSw; (try dsimp only at hSw); go_simp; all_goals first | with_reducible rfl)); simp only [Act.put, List.setIfInBounds_toArray, List.set_cons_zero, List.set_cons_succ]
          refine take_yes 3 41 ?_ rfl rfl (by kernel_rfl) (by kernel_rfl) (by kernel_rfl) (fun _ _ _ h => h) (by kernel_rfl) ?_ (by assumption) ?_; rotate_left; (focus (intro w hSw; (try dsimp only at hSw); go_simp; all_goals first | with_reducible rfl)); simp only [Act.put, List.setIfInBounds_toArray, List.set_cons_zero, List.set_cons_succ]
          refine take_yes 4 42 ?_ rfl rfl (by kernel_rfl) (by kernel_rfl) (by kernel_rfl) (fun _ _ _ h => h) (by kernel_rfl) ?_ (by assumption) ?_; rotate_left; (focus (intro w hSw; (try dsimp only at hSw); go_simp; all_goals first | with_reducible rfl)); simp only [Act.put, List.setIfInBounds_toArray, List.set_cons_zero, List.set_cons_succ]
          refine take_yes 6 44 ?_ rfl rfl (by kernel_rfl) (by kernel_rfl) (by kernel_rfl) (fun _ _ _ h => h) (by kernel_rfl) ?_ (by assumption) ?_; rotate_left; (focus (intro w hSw; (try dsimp only at hSw); go_simp; all_goals first | with_reducible rfl)); simp only [Act.put, List.setIfInBounds_toArray, List.set_cons_zero, List.set_cons_succ]
          refine take_yes 7 45 ?_ rfl rfl (by kernel_rfl) (by kernel_rfl) (by kernel_rfl) (fun _ _ _ h => h) (by kernel_rfl) ?_ (by assumption) ?_; rotate_left; (focus (intro w hSw; (try dsimp only at hSw); go_simp; all_goals first | with_reducible rfl)); simp only [Act.put, List.setIfInBounds_toArray, List.set_cons_zero, List.set_cons_succ]
          refine wpAnyH_ready (rs := [5]) (by kernel_rfl) (by simp) ?_
          refine AllReadyH.cons rfl (fun K hK => ?_) AllReadyH.nil
          go_simp
          go_at_call 23
          (refine (CP.out A2 (m + 1) c2 s.length 2 (zs ++ [1]) _ (HB2.out.only (Only.refl Empty _).drew (fun _ _ h => h)) HN2.out (by omega) (by omega) (by omega) (by omega)).mono ?_)
          rintro e w3 ⟨⟨v3, rfl, ho3⟩, hb3⟩
          have HR3 := Lib.hid ((HR2.out.only (Only.refl Empty _).drew).put ho3 hb3)
          have b4 : w3.cell? ⟨wr.heap.size, 4, none⟩ = some (.string (strB s)) := HR3.out.kc.cell 4
          clear ho3 hb3
          go_wp2_with fail
          refine hK.out _ _ (b4) (fun _ => ?_)
          clear hK K
          try simp only [Act.put, List.setIfInBounds_toArray, List.set_cons_zero, List.set_cons_succ]
          refine wpAnyH_ready (rs := [8]) (by kernel_rfl) (by simp) ?_
          refine AllReadyH.cons rfl (fun K hK => ?_) AllReadyH.nil
          refine step_append_str rfl (.tmp 43) (.tmp 45) rfl w.heap.size v3 rfl (m + 1 + 2) (zs ++ [1] ++ putL s.length 2) HR3.out.own (strB s) rfl (by rw [hsz]; omega) HR3.out.below.size ?_
          intro v4' w4 ho4 hg4 _
          rw [hsz] at ho4
          have hE0 : (strB s).data.toList = s := rfl
          rw [hE0] at ho4
          obtain ⟨A4, c4, rfl, -, -⟩ := slice_of_own ho4
          have HR4 := Lib.hid (HR3.out.app ho4 hg4)
          have d4 : w4.cell? ⟨wr.heap.size, 4, none⟩ = some (.string (strB s)) := HR4.out.kc.cell 4
          clear ho4 hg4
          refine hK.out _ _ (d4) (fun _ => ?_)
          clear hK K
          try simp only [Act.put, List.setIfInBounds_toArray, List.set_cons_zero, List.set_cons_succ]
          refine take_yes 9 3 ?_ rfl rfl (by kernel_rfl) (by kernel_rfl) (by kernel_rfl) (fun _ _ _ h => h) (by kernel_rfl) ?_ (by assumption) ?_; rotate_left; (focus (intro w hSw; (try dsimp only at hSw); go_simp; all_goals first | with_reducible rfl)); simp only [Act.put, List.setIfInBounds_toArray, List.set_cons_zero, List.set_cons_succ]
          refine wpAnyH_done (by kernel_rfl) ?_ _
          obtain ⟨e1, e2⟩ := HT.out (m + 1 + 2 + s.length) (zs ++ [1] ++ putL s.length 2 ++ s) (by have h := HLn.out; omega) (by rw [HE.out]; simp only [List.append_assoc])
          have HF : Hid (w4.ownsRow w.heap.size 5 1 (.slice A4 (m + 1 + 2 + s.length) c4) (2 + ((l.take (k + 1)).flatMap cB).length) ((putL n 2 ++ (l.take (k + 1)).flatMap cB).map B8)) := Lib.hid (by rw [e1, e2]; exact HR4.out.own)
          clear e1 e2
          go_wp2
          go_roundw
          case rel => exact ⟨k + 1, by omega, by go_num, HF, Lib.hid HR4.out.below⟩
          case measure => simp [intOf]; omega
        · have HE : Hid (constB ⟨3, a, b', nn, s⟩ = putL (bits64 3) 1 ++ putL (bits64 nn) 4) := Lib.hid (by unfold constB; simp [formF])
          have HLn : Hid ((constB ⟨3, a, b', nn, s⟩).length = 1 + 4) := Lib.hid (by rw [HE.out]; simp [putL_len])
          rw [HLn.out] at hm6
          have HY : Hid (∀ W : World, ByteSl (W.alloc (.cells #[.int .u8 3] 5)) Empty (some ⟨W.heap.size, 0, none⟩) 1 1 [3]) := Lib.hid (fun W => ByteSl.lit W Empty [3] 1 rfl (fun h => h) (by unfold maxLen; omega))
          have hYs := HY.out (wr.alloc (.cells (⟨3, a, b', nn, s⟩ : Cst).cells.toArray 43))
          rw [show (wr.alloc (.cells (⟨3, a, b', nn, s⟩ : Cst).cells.toArray 43)).heap.size = wr.heap.size + 1 by simp] at hYs
          have HYs := Lib.hid hYs
          clear hYs
          have hput : putL (bits64 3) 1 = [3] := by decide
          rw [hput] at HE
          have hsz : (strB s).size = s.length := strB_size s
          have hUa := u64_wrap a
          have hUb := u64_wrap b'
          have hUn := u64_wrap nn
          have hUs : IntKind.u64.wrap (s.length : Int) = (s.length : Int) := by rw [IntKind.wrap_u64]; omega
          clear hpt hft hput
          go_wp2_with (at_builtin; refine wpList_append_bytes rfl (.tmp 19) (.tmp 23) rfl w.heap.size (.slice Av m cv) rfl m zs (HR1.out.only ((Only.refl _ _).alloc _)).own (some ⟨wr.heap.size + 1, 0, none⟩) 1 1 [3] Empty rfl (HYs.out) (fun h => by cases h) (by omega) (HR1.out.only ((Only.refl _ _).alloc _)).below.size ?_; intro v2 w2 ho2 hg2 _; obtain ⟨A2, c2, rfl, hB2, hn2⟩ := slice_of_own ho2; have HR2 := Lib.hid ((HR1.out.only ((Only.refl _ _).alloc (.cells #[.int .u8 3] 5))).app ho2 hg2); have HB2 := Lib.hid hB2; have HN2 := Lib.hid hn2; have a0 : w2.cell? ⟨wr.heap.size, 0, none⟩ = some (.int .i64 3) := HR2.out.kc.cell 0; have a1 : w2.cell? ⟨wr.heap.size, 1, none⟩ = some (.int .i64 a) := HR2.out.kc.cell 1; have a2 : w2.cell? ⟨wr.heap.size, 2, none⟩ = some (.int .i64 b') := HR2.out.kc.cell 2; have a3 : w2.cell? ⟨wr.heap.size, 3, none⟩ = some (.int .i64 nn) := HR2.out.kc.cell 3; have a4 : w2.cell? ⟨wr.heap.size, 4, none⟩ = some (.string (strB s)) := HR2.out.kc.cell 4; clear ho2 hg2 hB2 hn2)
          refine (CP.out A2 (m + 1) c2 (bits64 nn) 4 (zs ++ [3]) _ HB2.out HN2.out (HU.out _) (by omega) (by omega) (by omega)).mono ?_
          rintro e w3 ⟨⟨v3, rfl, ho3⟩, hb3⟩
          obtain ⟨A3, c3, rfl, hB3, hn3⟩ := slice_of_own ho3
          have HR3 := Lib.hid (HR2.out.put ho3 hb3)
          clear ho3 hb3 hB3 hn3
          obtain ⟨e1, e2⟩ := HT.out (m + 1 + 4) (zs ++ [3] ++ putL (bits64 nn) 4) (by have h := HLn.out; omega) (by rw [HE.out]; simp only [List.append_assoc])
          have HF : Hid (w3.ownsRow w.heap.size 5 1 (.slice A3 (m + 1 + 4) c3) (2 + ((l.take (k + 1)).flatMap cB).length) ((putL n 2 ++ (l.take (k + 1)).flatMap cB).map B8)) := Lib.hid (by rw [e1, e2]; exact HR3.out.own)
          clear e1 e2
          go_wp2
          go_roundw
          case rel => exact ⟨k + 1, by omega, by go_num, HF, Lib.hid HR3.out.below⟩
          case measure => simp [intOf]; omega
        · have HE : Hid (constB ⟨5, a, b', nn, s⟩ = putL (bits64 5) 1 ++ putL (bits64 nn) 8) := Lib.hid (by unfold constB; simp [formF])
          have HLn : Hid ((constB ⟨5, a, b', nn, s⟩).length = 1 + 8) := Lib.hid (by rw [HE.out]; simp [putL_len])
          rw [HLn.out] at hm6
          have HY : Hid (∀ W : World, ByteSl (W.alloc (.cells #[.int .u8 5] 5)) Empty (some ⟨W.heap.size, 0, none⟩) 1 1 [5]) := Lib.hid (fun W => ByteSl.lit W Empty [5] 1 rfl (fun h => h) (by unfold maxLen; omega))
          have hYs := HY.out (wr.alloc (.cells (⟨5, a, b', nn, s⟩ : Cst).cells.toArray 43))
          rw [show (wr.alloc (.cells (⟨5, a, b', nn, s⟩ : Cst).cells.toArray 43)).heap.size = wr.heap.size + 1 by simp] at hYs
          have HYs := Lib.hid hYs
          clear hYs
          have hput : putL (bits64 5) 1 = [5] := by decide
          rw [hput] at HE
          have hsz : (strB s).size = s.length := strB_size s
          have hUa := u64_wrap a
          have hUb := u64_wrap b'
          have hUn := u64_wrap nn
          have hUs : IntKind.u64.wrap (s.length : Int) = (s.length : Int) := by rw [IntKind.wrap_u64]; omega
          clear hpt hft hput
          go_wp2_with (at_builtin; refine wpList_append_bytes rfl (.tmp 19) (.tmp 23) rfl w.heap.size (.slice Av m cv) rfl m zs (HR1.out.only ((Only.refl _ _).alloc _)).own (some ⟨wr.heap.size + 1, 0, none⟩) 1 1 [5] Empty rfl (HYs.out) (fun h => by cases h) (by omega) (HR1.out.only ((Only.refl _ _).alloc _)).below.size ?_; intro v2 w2 ho2 hg2 _; obtain ⟨A2, c2, rfl, hB2, hn2⟩ := slice_of_own ho2; have HR2 := Lib.hid ((HR1.out.only ((Only.refl _ _).alloc (.cells #[.int .u8 5] 5))).app ho2 hg2); have HB2 := Lib.hid hB2; have HN2 := Lib.hid hn2; have a0 : w2.cell? ⟨wr.heap.size, 0, none⟩ = some (.int .i64 5) := HR2.out.kc.cell 0; have a1 : w2.cell? ⟨wr.heap.size, 1, none⟩ = some (.int .i64 a) := HR2.out.kc.cell 1; have a2 : w2.cell? ⟨wr.heap.size, 2, none⟩ = some (.int .i64 b') := HR2.out.kc.cell 2; have a3 : w2.cell? ⟨wr.heap.size, 3, none⟩ = some (.int .i64 nn) := HR2.out.kc.cell 3; have a4 : w2.cell? ⟨wr.heap.size, 4, none⟩ = some (.string (strB s)) := HR2.out.kc.cell 4; clear ho2 hg2 hB2 hn2)
          refine (CP.out A2 (m + 1) c2 (bits64 nn) 8 (zs ++ [5]) _ HB2.out HN2.out (HU.out _) (by omega) (by omega) (by omega)).mono ?_
          rintro e w3 ⟨⟨v3, rfl, ho3⟩, hb3⟩
          obtain ⟨A3, c3, rfl, hB3, hn3⟩ := slice_of_own ho3
          have HR3 := Lib.hid (HR2.out.put ho3 hb3)
          clear ho3 hb3 hB3 hn3
          obtain ⟨e1, e2⟩ := HT.out (m + 1 + 8) (zs ++ [5] ++ putL (bits64 nn) 8) (by have h := HLn.out; omega) (by rw [HE.out]; simp only [List.append_assoc])
          have HF : Hid (w3.ownsRow w.heap.size 5 1 (.slice A3 (m + 1 + 8) c3) (2 + ((l.take (k + 1)).flatMap cB).length) ((putL n 2 ++ (l.take (k + 1)).flatMap cB).map B8)) := Lib.hid (by rw [e1, e2]; exact HR3.out.own)
          clear e1 e2
          go_wp2
          go_roundw
          case rel => exact ⟨k + 1, by omega, by go_num, HF, Lib.hid HR3.out.below⟩
          case measure => simp [intOf]; omega
        · have HE : Hid (constB ⟨7, a, b', nn, s⟩ = putL (bits64 7) 1 ++ putL (bits64 a) 2) := Lib.hid (by unfold constB; simp [formF])
          have HLn : Hid ((constB ⟨7, a, b', nn, s⟩).length = 1 + 2) := Lib.hid (by rw [HE.out]; simp [putL_len])
          rw [HLn.out] at hm6
          have HY : Hid (∀ W : World, ByteSl (W.alloc (.cells #[.int .u8 7] 5)) Empty (some ⟨W.heap.size, 0, none⟩) 1 1 [7]) := Lib.hid (fun W => ByteSl.lit W Empty [7] 1 rfl (fun h => h) (by unfold maxLen; omega))
          have hYs := HY.out (wr.alloc (.cells (⟨7, a, b', nn, s⟩ : Cst).cells.toArray 43))
          rw [show (wr.alloc (.cells (⟨7, a, b', nn, s⟩ : Cst).cells.toArray 43)).heap.size = wr.heap.size + 1 by simp] at hYs
          have HYs := Lib.hid hYs
          clear hYs
          have hput : putL (bits64 7) 1 = [7] := by decide
          rw [hput] at HE
          have hsz : (strB s).size = s.length := strB_size s
          have hUa := u64_wrap a
          have hUb := u64_wrap b'
          have hUn := u64_wrap nn
          have hUs : IntKind.u64.wrap (s.length : Int) = (s.length : Int) := by rw [IntKind.wrap_u64]; omega
          clear hpt hft hput
          go_wp2_with (at_builtin; refine wpList_append_bytes rfl (.tmp 19) (.tmp 23) rfl w.heap.size (.slice Av m cv) rfl m zs (HR1.out.only ((Only.refl _ _).alloc _)).own (some ⟨wr.heap.size + 1, 0, none⟩) 1 1 [7] Empty rfl (HYs.out) (fun h => by cases h) (by omega) (HR1.out.only ((Only.refl _ _).alloc _)).below.size ?_; intro v2 w2 ho2 hg2 _; obtain ⟨A2, c2, rfl, hB2, hn2⟩ := slice_of_own ho2; have HR2 := Lib.hid ((HR1.out.only ((Only.refl _ _).alloc (.cells #[.int .u8 7] 5))).app ho2 hg2); have HB2 := Lib.hid hB2; have HN2 := Lib.hid hn2; have a0 : w2.cell? ⟨wr.heap.size, 0, none⟩ = some (.int .i64 7) := HR2.out.kc.cell 0; have a1 : w2.cell? ⟨wr.heap.size, 1, none⟩ = some (.int .i64 a) := HR2.out.kc.cell 1; have a2 : w2.cell? ⟨wr.heap.size, 2, none⟩ = some (.int .i64 b') := HR2.out.kc.cell 2; have a3 : w2.cell? ⟨wr.heap.size, 3, none⟩ = some (.int .i64 nn) := HR2.out.kc.cell 3; have a4 : w2.cell? ⟨wr.heap.size, 4, none⟩ = some (.string (strB s)) := HR2.out.kc.cell 4; clear ho2 hg2 hB2 hn2)
          refine (CP.out A2 (m + 1) c2 (bits64 a) 2 (zs ++ [7]) _ HB2.out HN2.out (HU.out _) (by omega) (by omega) (by omega)).mono ?_
          rintro e w3 ⟨⟨v3, rfl, ho3⟩, hb3⟩
          obtain ⟨A3, c3, rfl, hB3, hn3⟩ := slice_of_own ho3
          have HR3 := Lib.hid (HR2.out.put ho3 hb3)
          clear ho3 hb3 hB3 hn3
          obtain ⟨e1, e2⟩ := HT.out (m + 1 + 2) (zs ++ [7] ++ putL (bits64 a) 2) (by have h := HLn.out; omega) (by rw [HE.out]; simp only [List.append_assoc])
          have HF : Hid (w3.ownsRow w.heap.size 5 1 (.slice A3 (m + 1 + 2) c3) (2 + ((l.take (k + 1)).flatMap cB).length) ((putL n 2 ++ (l.take (k + 1)).flatMap cB).map B8)) := Lib.hid (by rw [e1, e2]; exact HR3.out.own)
          clear e1 e2
          go_wp2
          go_roundw
          case rel => exact ⟨k + 1, by omega, by go_num, HF, Lib.hid HR3.out.below⟩
          case measure => simp [intOf]; omega
        · have HE : Hid (constB ⟨8, a, b', nn, s⟩ = putL (bits64 8) 1 ++ putL (bits64 a) 2) := Lib.hid (by unfold constB; simp [formF])
          have HLn : Hid ((constB ⟨8, a, b', nn, s⟩).length = 1 + 2) := Lib.hid (by rw [HE.out]; simp [putL_len])
          rw [HLn.out] at hm6
          have HY : Hid (∀ W : World, ByteSl (W.alloc (.cells #[.int .u8 8] 5)) Empty (some ⟨W.heap.size, 0, none⟩) 1 1 [8]) := Lib.hid (fun W => ByteSl.lit W Empty [8] 1 rfl (fun h => h) (by unfold maxLen; omega))
          have hYs := HY.out (wr.alloc (.cells (⟨8, a, b', nn, s⟩ : Cst).cells.toArray 43))
          rw [show (wr.alloc (.cells (⟨8, a, b', nn, s⟩ : Cst).cells.toArray 43)).heap.size = wr.heap.size + 1 by simp] at hYs
          have HYs := Lib.hid hYs
          clear hYs
          have hput : putL (bits64 8) 1 = [8] := by decide
          rw [hput] at HE
          have hsz : (strB s).size = s.length := strB_size s
          have hUa := u64_wrap a
          have hUb := u64_wrap b'
          have hUn := u64_wrap nn
          have hUs : IntKind.u64.wrap (s.length : Int) = (s.length : Int) := by rw [IntKind.wrap_u64]; omega
          clear hpt hft hput
          go_wp2_with (at_builtin; refine wpList_append_bytes rfl (.tmp 19) (.tmp 23) rfl w.heap.size (.slice Av m cv) rfl m zs (HR1.out.only ((Only.refl _ _).alloc _)).own (some ⟨wr.heap.size + 1, 0, none⟩) 1 1 [8] Empty rfl (HYs.out) (fun h => by cases h) (by omega) (HR1.out.only ((Only.refl _ _).alloc _)).below.size ?_; intro v2 w2 ho2 hg2 _; obtain ⟨A2, c2, rfl, hB2, hn2⟩ := slice_of_own ho2; have HR2 := Lib.hid ((HR1.out.only ((Only.refl _ _).alloc (.cells #[.int .u8 8] 5))).app ho2 hg2); have HB2 := Lib.hid hB2; have HN2 := Lib.hid hn2; have a0 : w2.cell? ⟨wr.heap.size, 0, none⟩ = some (.int .i64 8) := HR2.out.kc.cell 0; have a1 : w2.cell? ⟨wr.heap.size, 1, none⟩ = some (.int .i64 a) := HR2.out.kc.cell 1; have a2 : w2.cell? ⟨wr.heap.size, 2, none⟩ = some (.int .i64 b') := HR2.out.kc.cell 2; have a3 : w2.cell? ⟨wr.heap.size, 3, none⟩ = some (.int .i64 nn) := HR2.out.kc.cell 3; have a4 : w2.cell? ⟨wr.heap.size, 4, none⟩ = some (.string (strB s)) := HR2.out.kc.cell 4; clear ho2 hg2 hB2 hn2)
          refine (CP.out A2 (m + 1) c2 (bits64 a) 2 (zs ++ [8]) _ HB2.out HN2.out (HU.out _) (by omega) (by omega) (by omega)).mono ?_
          rintro e w3 ⟨⟨v3, rfl, ho3⟩, hb3⟩
          obtain ⟨A3, c3, rfl, hB3, hn3⟩ := slice_of_own ho3
          have HR3 := Lib.hid (HR2.out.put ho3 hb3)
          clear ho3 hb3 hB3 hn3
          obtain ⟨e1, e2⟩ := HT.out (m + 1 + 2) (zs ++ [8] ++ putL (bits64 a) 2) (by have h := HLn.out; omega) (by rw [HE.out]; simp only [List.append_assoc])
          have HF : Hid (w3.ownsRow w.heap.size 5 1 (.slice A3 (m + 1 + 2) c3) (2 + ((l.take (k + 1)).flatMap cB).length) ((putL n 2 ++ (l.take (k + 1)).flatMap cB).map B8)) := Lib.hid (by rw [e1, e2]; exact HR3.out.own)
          clear e1 e2
          go_wp2
          go_roundw
          case rel => exact ⟨k + 1, by omega, by go_num, HF, Lib.hid HR3.out.below⟩
          case measure => simp [intOf]; omega
        · have HE : Hid (constB ⟨9, a, b', nn, s⟩ = putL (bits64 9) 1 ++ putL (bits64 a) 2 ++ putL (bits64 b') 2) := Lib.hid (by unfold constB; simp [formF])
          have HLn : Hid ((constB ⟨9, a, b', nn, s⟩).length = 1 + 2 + 2) := Lib.hid (by rw [HE.out]; simp [putL_len])
          rw [HLn.out] at hm6
          have HY : Hid (∀ W : World, ByteSl (W.alloc (.cells #[.int .u8 9] 5)) Empty (some ⟨W.heap.size, 0, none⟩) 1 1 [9]) := Lib.hid (fun W => ByteSl.lit W Empty [9] 1 rfl (fun h => h) (by unfold maxLen; omega))
          have hYs := HY.out (wr.alloc (.cells (⟨9, a, b', nn, s⟩ : Cst).cells.toArray 43))
          rw [show (wr.alloc (.cells (⟨9, a, b', nn, s⟩ : Cst).cells.toArray 43)).heap.size = wr.heap.size + 1 by simp] at hYs
          have HYs := Lib.hid hYs
          clear hYs
          have hput : putL (bits64 9) 1 = [9] := by decide
          rw [hput] at HE
          have hsz : (strB s).size = s.length := strB_size s
          have hUa := u64_wrap a
          have hUb := u64_wrap b'
          have hUn := u64_wrap nn
          have hUs : IntKind.u64.wrap (s.length : Int) = (s.length : Int) := by rw [IntKind.wrap_u64]; omega
          clear hpt hft hput
          go_wp2_with (at_builtin; refine wpList_append_bytes rfl (.tmp 19) (.tmp 23) rfl w.heap.size (.slice Av m cv) rfl m zs (HR1.out.only ((Only.refl _ _).alloc _)).own (some ⟨wr.heap.size + 1, 0, none⟩) 1 1 [9] Empty rfl (HYs.out) (fun h => by cases h) (by omega) (HR1.out.only ((Only.refl _ _).alloc _)).below.size ?_; intro v2 w2 ho2 hg2 _; obtain ⟨A2, c2, rfl, hB2, hn2⟩ := slice_of_own ho2; have HR2 := Lib.hid ((HR1.out.only ((Only.refl _ _).alloc (.cells #[.int .u8 9] 5))).app ho2 hg2); have HB2 := Lib.hid hB2; have HN2 := Lib.hid hn2; have a0 : w2.cell? ⟨wr.heap.size, 0, none⟩ = some (.int .i64 9) := HR2.out.kc.cell 0; have a1 : w2.cell? ⟨wr.heap.size, 1, none⟩ = some (.int .i64 a) := HR2.out.kc.cell 1; have a2 : w2.cell? ⟨wr.heap.size, 2, none⟩ = some (.int .i64 b') := HR2.out.kc.cell 2; have a3 : w2.cell? ⟨wr.heap.size, 3, none⟩ = some (.int .i64 nn) := HR2.out.kc.cell 3; have a4 : w2.cell? ⟨wr.heap.size, 4, none⟩ = some (.string (strB s)) := HR2.out.kc.cell 4; clear ho2 hg2 hB2 hn2)
          refine wp_region_held_drew (S := fun W => W.cell? ⟨wr.heap.size, 1, none⟩ = some (.int .i64 a) ∧ W.cell? ⟨wr.heap.size, 2, none⟩ = some (.int .i64 b')) (by kernel_rfl) ⟨a1, a2⟩ (fun hHeld0 => ?_)
          refine take_yes 0 27 ?_ rfl rfl (by kernel_rfl) (by kernel_rfl) (by kernel_rfl) (fun _ _ _ h => h) (by kernel_rfl) ?_ (by assumption) ?_; rotate_left; (focus (intro w hSw; (try dsimp only at hSw); go_simp; all_goals first | with_reducible rfl)); simp only [Act.put, List.setIfInBounds_toArray, List.set_cons_zero, List.set_cons_succ]
          refine take_yes 1 28 ?_ rfl rfl (by kernel_rfl) (by kernel_rfl) (by kernel_rfl) (fun _ _ _ h => h) (by kernel_rfl) ?_ (by assumption) ?_; rotate_left; (focus (intro w hSw; (try dsimp only at hSw); go_simp; all_goals first | with_reducible rfl)); simp only [Act.put, List.setIfInBounds_toArray, List.set_cons_zero, List.set_cons_succ]
          refine take_yes 2 29 ?_ rfl rfl (by kernel_rfl) (by kernel_rfl) (by kernel_rfl) (fun _ _ _ h => h) (by kernel_rfl) ?_ (by assumption) ?_; rotate_left; (focus (intro w hSw; (try dsimp only at hSw); go_simp; all_goals first | with_reducible rfl)); simp only [Act.put, List.setIfInBounds_toArray, List.set_cons_zero, List.set_cons_succ]
          refine take_yes 3 30 ?_ rfl rfl (by kernel_rfl) (by kernel_rfl) (by kernel_rfl) (fun _ _ _ h => h) (by kernel_rfl) ?_ (by assumption) ?_; rotate_left; (focus (intro w hSw; (try dsimp only at hSw); go_simp; all_goals first | with_reducible rfl)); simp only [Act.put, List.setIfInBounds_toArray, List.set_cons_zero, List.set_cons_succ]
          refine take_yes 5 32 ?_ rfl rfl (by kernel_rfl) (by kernel_rfl) (by kernel_rfl) (fun _ _ _ h => h) (by kernel_rfl) ?_ (by assumption) ?_; rotate_left; (focus (intro w hSw; (try dsimp only at hSw); go_simp; all_goals first | with_reducible rfl)); simp only [Act.put, List.setIfInBounds_toArray, List.set_cons_zero, List.set_cons_succ]
          refine take_yes 6 33 ?_ rfl rfl (by kernel_rfl) (by kernel_rfl) (by kernel_rfl) (fun _ _ _ h => h) (by kernel_rfl) ?_ (by assumption) ?_; rotate_left; (focus (intro w hSw; (try dsimp only at hSw); go_simp; all_goals first | with_reducible rfl)); simp only [Act.put, List.setIfInBounds_toArray, List.set_cons_zero, List.set_cons_succ]
          refine take_yes 7 34 ?_ rfl rfl (by kernel_rfl) (by kernel_rfl) (by kernel_rfl) (fun _ _ _ h => h) (by kernel_rfl) ?_ (by assumption) ?_; rotate_left; (focus (intro w hSw; (try dsimp only at hSw); go_simp; all_goals first | with_reducible rfl)); simp only [Act.put, List.setIfInBounds_toArray, List.set_cons_zero, List.set_cons_succ]
          refine wpAnyH_ready (rs := [4]) (by kernel_rfl) (by simp) ?_
          refine AllReadyH.cons rfl (fun K hK => ?_) AllReadyH.nil
          go_simp
          go_at_call 23
          (refine (CP.out A2 (m + 1) c2 (bits64 a) 2 (zs ++ [9]) _ (HB2.out.only (Only.refl Empty _).drew (fun _ _ h => h)) HN2.out (HU.out _) (by omega) (by omega) (by omega)).mono ?_)
          rintro e w3 ⟨⟨v3, rfl, ho3⟩, hb3⟩
          obtain ⟨A3, c3, rfl, hB3, hn3⟩ := slice_of_own ho3
          have HR3 := Lib.hid ((HR2.out.only (Only.refl Empty _).drew).put ho3 hb3)
          have HB3 := Lib.hid hB3
          have HN3 := Lib.hid hn3
          have f1 : w3.cell? ⟨wr.heap.size, 1, none⟩ = some (.int .i64 a) := HR3.out.kc.cell 1
          have f2 : w3.cell? ⟨wr.heap.size, 2, none⟩ = some (.int .i64 b') := HR3.out.kc.cell 2
          clear ho3 hb3 hB3 hn3
          go_wp2_with fail
          refine hK.out _ _ (⟨f1, f2⟩) (fun _ => ?_)
          clear hK K
          try simp only [Act.put, List.setIfInBounds_toArray, List.set_cons_zero, List.set_cons_succ]
          refine wpAnyH_ready (rs := [8]) (by kernel_rfl) (by simp) ?_
          refine AllReadyH.cons rfl (fun K hK => ?_) AllReadyH.nil
          go_simp
          go_at_call 23
          (refine (CP.out A3 (m + 1 + 2) c3 (bits64 b') 2 (zs ++ [9] ++ putL (bits64 a) 2) _ HB3.out HN3.out (HU.out _) (by omega) (by omega) (by omega)).mono ?_)
          rintro e w4 ⟨⟨v4, rfl, ho4⟩, hb4⟩
          obtain ⟨A4, c4, rfl, hB4, hn4⟩ := slice_of_own ho4
          have HR4 := Lib.hid (HR3.out.put ho4 hb4)
          have g1 : w4.cell? ⟨wr.heap.size, 1, none⟩ = some (.int .i64 a) := HR4.out.kc.cell 1
          have g2 : w4.cell? ⟨wr.heap.size, 2, none⟩ = some (.int .i64 b') := HR4.out.kc.cell 2
          clear ho4 hb4 hB4 hn4
          go_wp2_with fail
          refine hK.out _ _ (⟨g1, g2⟩) (fun _ => ?_)
          clear hK K
          try simp only [Act.put, List.setIfInBounds_toArray, List.set_cons_zero, List.set_cons_succ]
          refine take_yes 9 3 ?_ rfl rfl (by kernel_rfl) (by kernel_rfl) (by kernel_rfl) (fun _ _ _ h => h) (by kernel_rfl) ?_ (by assumption) ?_; rotate_left; (focus (intro w hSw; (try dsimp only at hSw); go_simp; all_goals first | with_reducible rfl)); simp only [Act.put, List.setIfInBounds_toArray, List.set_cons_zero, List.set_cons_succ]
          refine wpAnyH_done (by kernel_rfl) ?_ _
          obtain ⟨e1, e2⟩ := HT.out (m + 1 + 2 + 2) (zs ++ [9] ++ putL (bits64 a) 2 ++ putL (bits64 b') 2) (by have h := HLn.out; omega) (by rw [HE.out]; simp only [List.append_assoc])
          have HF : Hid (w4.ownsRow w.heap.size 5 1 (.slice A4 (m + 1 + 2 + 2) c4) (2 + ((l.take (k + 1)).flatMap cB).length) ((putL n 2 ++ (l.take (k + 1)).flatMap cB).map B8)) := Lib.hid (by rw [e1, e2]; exact HR4.out.own)
          clear e1 e2
          go_wp2
          go_roundw
          case rel => exact ⟨k + 1, by omega, by go_num, HF, Lib.hid HR4.out.below⟩
          case measure => simp [intOf]; omega
        · have HE : Hid (constB ⟨10, a, b', nn, s⟩ = putL (bits64 10) 1 ++ putL (bits64 a) 2 ++ putL (bits64 b') 2) := Lib.hid (by unfold constB; simp [formF])
          have HLn : Hid ((constB ⟨10, a, b', nn, s⟩).length = 1 + 2 + 2) := Lib.hid (by rw [HE.out]; simp [putL_len])
          rw [HLn.out] at hm6
          have HY : Hid (∀ W : World, ByteSl (W.alloc (.cells #[.int .u8 10] 5)) Empty (some ⟨W.heap.size, 0, none⟩) 1 1 [10]) := Lib.hid (fun W => ByteSl.lit W Empty [10] 1 rfl (fun h => h) (by unfold maxLen; omega))
          have hYs := HY.out (wr.alloc (.cells (⟨10, a, b', nn, s⟩ : Cst).cells.toArray 43))
          rw [show (wr.alloc (.cells (⟨10, a, b', nn, s⟩ : Cst).cells.toArray 43)).heap.size = wr.heap.size + 1 by simp] at hYs
          have HYs := Lib.hid hYs
          clear hYs
          have hput : putL (bits64 10) 1 = [10] := by decide
          rw [hput] at HE
          have hsz : (strB s).size = s.length := strB_size s
          have hUa := u64_wrap a
          have hUb := u64_wrap b'
          have hUn := u64_wrap nn
          have hUs : IntKind.u64.wrap (s.length : Int) = (s.length : Int) := by rw [IntKind.wrap_u64]; omega
          clear hpt hft hput
          go_wp2_with (at_builtin; refine wpList_append_bytes rfl (.tmp 19) (.tmp 23) rfl w.heap.size (.slice Av m cv) rfl m zs (HR1.out.only ((Only.refl _ _).alloc _)).own (some ⟨wr.heap.size + 1, 0, none⟩) 1 1 [10] Empty rfl (HYs.out) (fun h => by cases h) (by omega) (HR1.out.only ((Only.refl _ _).alloc _)).below.size ?_; intro v2 w2 ho2 hg2 _; obtain ⟨A2, c2, rfl, hB2, hn2⟩ := slice_of_own ho2; have HR2 := Lib.hid ((HR1.out.only ((Only.refl _ _).alloc (.cells #[.int .u8 10] 5))).app ho2 hg2); have HB2 := Lib.hid hB2; have HN2 := Lib.hid hn2; have a0 : w2.cell? ⟨wr.heap.size, 0, none⟩ = some (.int .i64 10) := HR2.out.kc.cell 0; have a1 : w2.cell? ⟨wr.heap.size, 1, none⟩ = some (.int .i64 a) := HR2.out.kc.cell 1; have a2 : w2.cell? ⟨wr.heap.size, 2, none⟩ = some (.int .i64 b') := HR2.out.kc.cell 2; have a3 : w2.cell? ⟨wr.heap.size, 3, none⟩ = some (.int .i64 nn) := HR2.out.kc.cell 3; have a4 : w2.cell? ⟨wr.heap.size, 4, none⟩ = some (.string (strB s)) := HR2.out.kc.cell 4; clear ho2 hg2 hB2 hn2)
          refine wp_region_held_drew (S := fun W => W.cell? ⟨wr.heap.size, 1, none⟩ = some (.int .i64 a) ∧ W.cell? ⟨wr.heap.size, 2, none⟩ = some (.int .i64 b')) (by kernel_rfl) ⟨a1, a2⟩ (fun hHeld0 => ?_)
          refine take_yes 0 27 ?_ rfl rfl (by kernel_rfl) (by kernel_rfl) (by kernel_rfl) (fun _ _ _ h => h) (by kernel_rfl) ?_ (by assumption) ?_; rotate_left; (focus (intro w hSw; (try dsimp only at hSw); go_simp; all_goals first | with_reducible rfl)); simp only [Act.put, List.setIfInBounds_toArray, List.set_cons_zero, List.set_cons_succ]
          refine take_yes 1 28 ?_ rfl rfl (by kernel_rfl) (by kernel_rfl) (by kernel_rfl) (fun _ _ _ h => h) (by kernel_rfl) ?_ (by assumption) ?_; rotate_left; (focus (intro w hSw; (try dsimp only at hSw); go_simp; all_goals first | with_reducible rfl)); simp only [Act.put, List.setIfInBounds_toArray, List.set_cons_zero, List.set_cons_succ]
          refine take_yes 2 29 ?_ rfl rfl (by kernel_rfl) (by kernel_rfl) (by kernel_rfl) (fun _ _ _ h => h) (by kernel_rfl) ?_ (by assumption) ?_; rotate_left; (focus (intro w hSw; (try dsimp only at hSw); go_simp; all_goals first | with_reducible rfl)); simp only [Act.put, List.setIfInBounds_toArray, List.set_cons_zero, List.set_cons_succ]
          refine take_yes 3 30 ?_ rfl rfl (by kernel_rfl) (by kernel_rfl) (by kernel_rfl) (fun _ _ _ h => h) (by kernel_rfl) ?_ (by assumption) ?_; rotate_left; (focus (intro w hSw; (try dsimp only at hSw); go_simp; all_goals first | with_reducible rfl)); simp only [Act.put, List.setIfInBounds_toArray, List.set_cons_zero, List.set_cons_succ]
          refine take_yes 5 32 ?_ rfl rfl (by kernel_rfl) (by kernel_rfl) (by kernel_rfl) (fun _ _ _ h => h) (by kernel_rfl) ?_ (by assumption) ?_; rotate_left; (focus (intro w hSw; (try dsimp only at hSw); go_simp; all_goals first | with_reducible rfl)); simp only [Act.put, List.setIfInBounds_toArray, List.set_cons_zero, List.set_cons_succ]
          refine take_yes 6 33 ?_ rfl rfl (by kernel_rfl) (by kernel_rfl) (by kernel_rfl) (fun _ _ _ h => h) (by kernel_rfl) ?_ (by assumption) ?_; rotate_left; (focus (intro w hSw; (try dsimp only at hSw); go_simp; all_goals first | with_reducible rfl)); simp only [Act.put, List.setIfInBounds_toArray, List.set_cons_zero, List.set_cons_succ]
          refine take_yes 7 34 ?_ rfl rfl (by kernel_rfl) (by kernel_rfl) (by kernel_rfl) (fun _ _ _ h => h) (by kernel_rfl) ?_ (by assumption) ?_; rotate_left; (focus (intro w hSw; (try dsimp only at hSw); go_simp; all_goals first | with_reducible rfl)); simp only [Act.put, List.setIfInBounds_toArray, List.set_cons_zero, List.set_cons_succ]
          refine wpAnyH_ready (rs := [4]) (by kernel_rfl) (by simp) ?_
          refine AllReadyH.cons rfl (fun K hK => ?_) AllReadyH.nil
          go_simp
          go_at_call 23
          (refine (CP.out A2 (m + 1) c2 (bits64 a) 2 (zs ++ [10]) _ (HB2.out.only (Only.refl Empty _).drew (fun _ _ h => h)) HN2.out (HU.out _) (by omega) (by omega) (by omega)).mono ?_)
          rintro e w3 ⟨⟨v3, rfl, ho3⟩, hb3⟩
          obtain ⟨A3, c3, rfl, hB3, hn3⟩ := slice_of_own ho3
          have HR3 := Lib.hid ((HR2.out.only (Only.refl Empty _).drew).put ho3 hb3)
          have HB3 := Lib.hid hB3
          have HN3 := Lib.hid hn3
          have f1 : w3.cell? ⟨wr.heap.size, 1, none⟩ = some (.int .i64 a) := HR3.out.kc.cell 1
          have f2 : w3.cell? ⟨wr.heap.size, 2, none⟩ = some (.int .i64 b') := HR3.out.kc.cell 2
          clear ho3 hb3 hB3 hn3
          go_wp2_with fail
          refine hK.out _ _ (⟨f1, f2⟩) (fun _ => ?_)
          clear hK K
          try simp only [Act.put, List.setIfInBounds_toArray, List.set_cons_zero, List.set_cons_succ]
          refine wpAnyH_ready (rs := [8]) (by kernel_rfl) (by simp) ?_
          refine AllReadyH.cons rfl (fun K hK => ?_) AllReadyH.nil
          go_simp
          go_at_call 23
          (refine (CP.out A3 (m + 1 + 2) c3 (bits64 b') 2 (zs ++ [10] ++ putL (bits64 a) 2) _ HB3.out HN3.out (HU.out _) (by omega) (by omega) (by omega)).mono ?_)
          rintro e w4 ⟨⟨v4, rfl, ho4⟩, hb4⟩
          obtain ⟨A4, c4, rfl, hB4, hn4⟩ := slice_of_own ho4
          have HR4 := Lib.hid (HR3.out.put ho4 hb4)
          have g1 : w4.cell? ⟨wr.heap.size, 1, none⟩ = some (.int .i64 a) := HR4.out.kc.cell 1
          have g2 : w4.cell? ⟨wr.heap.size, 2, none⟩ = some (.int .i64 b') := HR4.out.kc.cell 2
          clear ho4 hb4 hB4 hn4
          go_wp2_with fail
          refine hK.out _ _ (⟨g1, g2⟩) (fun _ => ?_)
          clear hK K
          try simp only [Act.put, List.setIfInBounds_toArray, List.set_cons_zero, List.set_cons_succ]
          refine take_yes 9 3 ?_ rfl rfl (by kernel_rfl) (by kernel_rfl) (by kernel_rfl) (fun _ _ _ h => h) (by kernel_rfl) ?_ (by assumption) ?_; rotate_left; (focus (intro w hSw; (try dsimp only at hSw); go_simp; all_goals first | with_reducible rfl)); simp only [Act.put, List.setIfInBounds_toArray, List.set_cons_zero, List.set_cons_succ]
          refine wpAnyH_done (by kernel_rfl) ?_ _
          obtain ⟨e1, e2⟩ := HT.out (m + 1 + 2 + 2) (zs ++ [10] ++ putL (bits64 a) 2 ++ putL (bits64 b') 2) (by have h := HLn.out; omega) (by rw [HE.out]; simp only [List.append_assoc])
          have HF : Hid (w4.ownsRow w.heap.size 5 1 (.slice A4 (m + 1 + 2 + 2) c4) (2 + ((l.take (k + 1)).flatMap cB).length) ((putL n 2 ++ (l.take (k + 1)).flatMap cB).map B8)) := Lib.hid (by rw [e1, e2]; exact HR4.out.own)
          clear e1 e2
          go_wp2
          go_roundw
          case rel => exact ⟨k + 1, by omega, by go_num, HF, Lib.hid HR4.out.below⟩
          case measure => simp [intOf]; omega
        · have HE : Hid (constB ⟨12, a, b', nn, s⟩ = putL (bits64 12) 1 ++ putL (bits64 a) 2 ++ putL (bits64 b') 2) := Lib.hid (by unfold constB; simp [formF])
          have HLn : Hid ((constB ⟨12, a, b', nn, s⟩).length = 1 + 2 + 2) := Lib.hid (by rw [HE.out]; simp [putL_len])
          rw [HLn.out] at hm6
          have HY : Hid (∀ W : World, ByteSl (W.alloc (.cells #[.int .u8 12] 5)) Empty (some ⟨W.heap.size, 0, none⟩) 1 1 [12]) := Lib.hid (fun W => ByteSl.lit W Empty [12] 1 rfl (fun h => h) (by unfold maxLen; omega))
          have hYs := HY.out (wr.alloc (.cells (⟨12, a, b', nn, s⟩ : Cst).cells.toArray 43))
          rw [show (wr.alloc (.cells (⟨12, a, b', nn, s⟩ : Cst).cells.toArray 43)).heap.size = wr.heap.size + 1 by simp] at hYs
          have HYs := Lib.hid hYs
          clear hYs
          have hput : putL (bits64 12) 1 = [12] := by decide
          rw [hput] at HE
          have hsz : (strB s).size = s.length := strB_size s
          have hUa := u64_wrap a
          have hUb := u64_wrap b'
          have hUn := u64_wrap nn
          have hUs : IntKind.u64.wrap (s.length : Int) = (s.length : Int) := by rw [IntKind.wrap_u64]; omega
          clear hpt hft hput
          go_wp2_with (at_builtin; refine wpList_append_bytes rfl (.tmp 19) (.tmp 23) rfl w.heap.size (.slice Av m cv) rfl m zs (HR1.out.only ((Only.refl _ _).alloc _)).own (some ⟨wr.heap.size + 1, 0, none⟩) 1 1 [12] Empty rfl (HYs.out) (fun h => by cases h) (by omega) (HR1.out.only ((Only.refl _ _).alloc _)).below.size ?_; intro v2 w2 ho2 hg2 _; obtain ⟨A2, c2, rfl, hB2, hn2⟩ := slice_of_own ho2; have HR2 := Lib.hid ((HR1.out.only ((Only.refl _ _).alloc (.cells #[.int .u8 12] 5))).app ho2 hg2); have HB2 := Lib.hid hB2; have HN2 := Lib.hid hn2; have a0 : w2.cell? ⟨wr.heap.size, 0, none⟩ = some (.int .i64 12) := HR2.out.kc.cell 0; have a1 : w2.cell? ⟨wr.heap.size, 1, none⟩ = some (.int .i64 a) := HR2.out.kc.cell 1; have a2 : w2.cell? ⟨wr.heap.size, 2, none⟩ = some (.int .i64 b') := HR2.out.kc.cell 2; have a3 : w2.cell? ⟨wr.heap.size, 3, none⟩ = some (.int .i64 nn) := HR2.out.kc.cell 3; have a4 : w2.cell? ⟨wr.heap.size, 4, none⟩ = some (.string (strB s)) := HR2.out.kc.cell 4; clear ho2 hg2 hB2 hn2)
          refine wp_region_held_drew (S := fun W => W.cell? ⟨wr.heap.size, 1, none⟩ = some (.int .i64 a) ∧ W.cell? ⟨wr.heap.size, 2, none⟩ = some (.int .i64 b')) (by kernel_rfl) ⟨a1, a2⟩ (fun hHeld0 => ?_)
          refine take_yes 0 27 ?_ rfl rfl (by kernel_rfl) (by kernel_rfl) (by kernel_rfl) (fun _ _ _ h => h) (by kernel_rfl) ?_ (by assumption) ?_; rotate_left; (focus (intro w hSw; (try dsimp only at hSw); go_simp; all_goals first | with_reducible rfl)); simp only [Act.put, List.setIfInBounds_toArray, List.set_cons_zero, List.set_cons_succ]
          refine take_yes 1 28 ?_ rfl rfl (by kernel_rfl) (by kernel_rfl) (by kernel_rfl) (fun _ _ _ h => h) (by kernel_rfl) ?_ (by assumption) ?_; rotate_left; (focus (intro w hSw; (try dsimp only at hSw); go_simp; all_goals first | with_reducible rfl)); simp only [Act.put, List.setIfInBounds_toArray, List.set_cons_zero, List.set_cons_succ]
          refine take_yes 2 29 ?_ rfl rfl (by kernel_rfl) (by kernel_rfl) (by kernel_rfl) (fun _ _ _ h => h) (by kernel_rfl) ?_ (by assumption) ?_; rotate_left; (focus (intro w hSw; (try dsimp only at hSw); go_simp; all_goals first | with_reducible rfl)); simp only [Act.put, List.setIfInBounds_toArray, List.set_cons_zero, List.set_cons_succ]
          refine take_yes 3 30 ?_ rfl rfl (by kernel_rfl) (by kernel_rfl) (by kernel_rfl) (fun _ _ _ h => h) (by kernel_rfl) ?_ (by assumption) ?_; rotate_left; (focus (intro w hSw; (try dsimp only at hSw); go_simp; all_goals first | with_reducible rfl)); simp only [Act.put, List.setIfInBounds_toArray, List.set_cons_zero, List.set_cons_succ]
          refine take_yes 5 32 ?_ rfl rfl (by kernel_rfl) (by kernel_rfl) (by kernel_rfl) (fun _ _ _ h => h) (by kernel_rfl) ?_ (by assumption) ?_; rotate_left; (focus (intro w hSw; (try dsimp only at hSw); go_simp; all_goals first | with_reducible rfl)); simp only [Act.put, List.setIfInBounds_toArray, List.set_cons_zero, List.set_cons_succ]
          refine take_yes 6 33 ?_ rfl rfl (by kernel_rfl) (by kernel_rfl) (by kernel_rfl) (fun _ _ _ h => h) (by kernel_rfl) ?_ (by assumption) ?_; rotate_left; (focus (intro w hSw; (try dsimp only at hSw); go_simp; all_goals first | with_reducible rfl)); simp only [Act.put, List.setIfInBounds_toArray, List.set_cons_zero, List.set_cons_succ]
          refine take_yes 7 34 ?_ rfl rfl (by kernel_rfl) (by kernel_rfl) (by kernel_rfl) (fun _ _ _ h => h) (by kernel_rfl) ?_ (by assumption) ?_; rotate_left; (focus (intro w hSw; (try dsimp only at hSw); go_simp; all_goals first | with_reducible rfl)); simp only [Act.put, List.setIfInBounds_toArray, List.set_cons_zero, List.set_cons_succ]
          refine wpAnyH_ready (rs := [4]) (by kernel_rfl) (by simp) ?_
          refine AllReadyH.cons rfl (fun K hK => ?_) AllReadyH.nil
          go_simp
          go_at_call 23
          (refine (CP.out A2 (m + 1) c2 (bits64 a) 2 (zs ++ [12]) _ (HB2.out.only (Only.refl Empty _).drew (fun _ _ h => h)) HN2.out (HU.out _) (by omega) (by omega) (by omega)).mono ?_)
          rintro e w3 ⟨⟨v3, rfl, ho3⟩, hb3⟩
          obtain ⟨A3, c3, rfl, hB3, hn3⟩ := slice_of_own ho3
          have HR3 := Lib.hid ((HR2.out.only (Only.refl Empty _).drew).put ho3 hb3)
          have HB3 := Lib.hid hB3
          have HN3 := Lib.hid hn3
          have f1 : w3.cell? ⟨wr.heap.size, 1, none⟩ = some (.int .i64 a) := HR3.out.kc.cell 1
          have f2 : w3.cell? ⟨wr.heap.size, 2, none⟩ = some (.int .i64 b') := HR3.out.kc.cell 2
          clear ho3 hb3 hB3 hn3
          go_wp2_with fail
          refine hK.out _ _ (⟨f1, f2⟩) (fun _ => ?_)
          clear hK K
          try simp only [Act.put, List.setIfInBounds_toArray, List.set_cons_zero, List.set_cons_succ]
          refine wpAnyH_ready (rs := [8]) (by kernel_rfl) (by simp) ?_
          refine AllReadyH.cons rfl (fun K hK => ?_) AllReadyH.nil
          go_simp
          go_at_call 23
          (refine (CP.out A3 (m + 1 + 2) c3 (bits64 b') 2 (zs ++ [12] ++ putL (bits64 a) 2) _ HB3.out HN3.out (HU.out _) (by omega) (by omega) (by omega)).mono ?_)
          rintro e w4 ⟨⟨v4, rfl, ho4⟩, hb4⟩
          obtain ⟨A4, c4, rfl, hB4, hn4⟩ := slice_of_own ho4
          have HR4 := Lib.hid (HR3.out.put ho4 hb4)
          have g1 : w4.cell? ⟨wr.heap.size, 1, none⟩ = some (.int .i64 a) := HR4.out.kc.cell 1
          have g2 : w4.cell? ⟨wr.heap.size, 2, none⟩ = some (.int .i64 b') := HR4.out.kc.cell 2
          clear ho4 hb4 hB4 hn4
          go_wp2_with fail
          refine hK.out _ _ (⟨g1, g2⟩) (fun _ => ?_)
          clear hK K
          try simp only [Act.put, List.setIfInBounds_toArray, List.set_cons_zero, List.set_cons_succ]
          refine take_yes 9 3 ?_ rfl rfl (by kernel_rfl) (by kernel_rfl) (by kernel_rfl) (fun _ _ _ h => h) (by kernel_rfl) ?_ (by assumption) ?_; rotate_left; (focus (intro w hSw; (try dsimp only at hSw); go_simp; all_goals first | with_reducible rfl)); simp only [Act.put, List.setIfInBounds_toArray, List.set_cons_zero, List.set_cons_succ]
          refine wpAnyH_done (by kernel_rfl) ?_ _
          obtain ⟨e1, e2⟩ := HT.out (m + 1 + 2 + 2) (zs ++ [12] ++ putL (bits64 a) 2 ++ putL (bits64 b') 2) (by have h := HLn.out; omega) (by rw [HE.out]; simp only [List.append_assoc])
          have HF : Hid (w4.ownsRow w.heap.size 5 1 (.slice A4 (m + 1 + 2 + 2) c4) (2 + ((l.take (k + 1)).flatMap cB).length) ((putL n 2 ++ (l.take (k + 1)).flatMap cB).map B8)) := Lib.hid (by rw [e1, e2]; exact HR4.out.own)
          clear e1 e2
          go_wp2
          go_roundw
          case rel => exact ⟨k + 1, by omega, by go_num, HF, Lib.hid HR4.out.below⟩
          case measure => simp [intOf]; omega
        · exact absurd (formF_no hno) hft
    · obtain rfl : k = n := by omega
      have hpool : putL k 2 ++ (l.take k).flatMap cB = poolB l := by
        unfold poolB
        rw [← Hl.out, List.take_length]
      have hlen : 2 + ((l.take k).flatMap cB).length = (poolB l).length := by rw [← hpool, List.length_append, putL_len]
      have hO := HOk.out
      rw [hpool, hlen] at hO
      obtain ⟨A2, c2, rfl, hB2, -⟩ := slice_of_own hO
      have HB2 := Lib.hid hB2
      clear hpool hlen hO hB2
      go_wp2
      go_ret
      exact ⟨⟨A2, c2, rfl, HB2.out⟩, HBk.out⟩

end Go.Proofs.YtendpbklcgiafaaGreat

/- The walks over the document's words (layer 14): find, text, class, wide, u2, u4. -/
namespace Go.Proofs.YtendpbklcgiafaaGreat
set_option maxRecDepth 100000
open Go.RowKit

theorem r14text_any (A : Option Addr) (n cap : Nat) (C : List Cst) (x : Int) (w : World) (hP : PoolSl w A n cap C) (hn : n ≤ 1000000) :
    Calls Tryz.prog 40 #[.slice A n cap, .int .i64 x] w fun e w' => e = .returned (.bool (isTextC C x)) ∧ w = w' := by
  have CT := refText_any A n cap C x w hP hn
  unfold isTextC
  rw [textV_eq] at CT
  have CT := Lib.hid CT
  obtain ⟨B, hB⟩ : ∃ B, (textF C x).isSome = B := ⟨_, rfl⟩
  rw [hB] at CT ⊢
  obtain ⟨D, hD⟩ : ∃ D, textD (textF C x) = D := ⟨_, rfl⟩
  rw [hD] at CT
  clear hP hB hD
  go_enter Tryz.func40, Tryz.ntmps40
  go_wp2_with fail
  refine CT.out.mono ?_
  rintro e w1 ⟨rfl, rfl⟩
  go_wp2
  go_ret
  exact ⟨rfl, rfl⟩
theorem r14class_any (A : Option Addr) (n cap : Nat) (C : List Cst) (x : Int) (w : World) (hP : PoolSl w A n cap C) (hn : n ≤ 1000000) :
    Calls Tryz.prog 18 #[.slice A n cap, .int .i64 x] w fun e w' => e = .returned (.bool (isClassC C x)) ∧ w = w' := by
  have CT := refClass_any A n cap C x w hP hn
  unfold isClassC
  rw [textV_eq] at CT
  have CT := Lib.hid CT
  obtain ⟨B, hB⟩ : ∃ B, (classF C x).isSome = B := ⟨_, rfl⟩
  rw [hB] at CT ⊢
  obtain ⟨D, hD⟩ : ∃ D, textD (classF C x) = D := ⟨_, rfl⟩
  rw [hD] at CT
  clear hP hB hD
  go_enter Tryz.func18, Tryz.ntmps18
  go_wp2_with fail
  refine CT.out.mono ?_
  rintro e w1 ⟨rfl, rfl⟩
  go_wp2
  go_ret
  exact ⟨rfl, rfl⟩

theorem text_is {C : List Cst} {k : Nat} {c : Cst} {t : List UInt8} (hc : C[k]? = some c) (hz : ∀ c, C[0]? = some c → c.tag ≠ 1) : textF C (k : Int) = some t ↔ c.tag = 1 ∧ c.s = t := by
  unfold textF findF atF
  cases k with
  | zero =>
    have h1 := hz c hc
    rw [if_neg (by omega)]
    simp [h1]
  | succ k =>
    rw [if_pos (by omega), show ((k + 1 : Nat) : Int).toNat = k + 1 by omega, hc]
    by_cases h : c.tag = 1 <;> simp [h]

set_option maxHeartbeats 1000000 in
theorem r14find_any (A : Option Addr) (n cap : Nat) (C : List Cst) (t : List UInt8) (w : World) (hP : PoolSl w A n cap C) (hn : n ≤ 1000000) (hz : ∀ c, C[0]? = some c → c.tag ≠ 1) :
    Calls Tryz.prog 27 #[.slice A n cap, .string (strB t)] w fun e w' => e = .returned (.int .i64 (((firstC C t).getD 0 : Nat) : Int)) ∧ Below w.heap.size w w' := by
  have Hl := Lib.hid hP.1
  have HP := Lib.hid hP
  have HZ := Lib.hid hz
  clear hP hz
  go_enter Tryz.func27, Tryz.ntmps27
  go_wp2
  go_loopw [9] (fun i wr => ∃ k : Nat, k ≤ n ∧ i = .int .i64 k ∧ Hid (Below w.heap.size w wr) ∧ Hid (∀ j, j < k → textF C (j : Int) ≠ some t)) (fun i _ => n - (intOf i).toNat)
  case atStart => exact ⟨0, Nat.zero_le _, rfl, Lib.hid (Below.refl _ _), Lib.hid (fun j h => absurd h (by omega))⟩
  case round =>
    obtain ⟨k, hk, rfl, HB, HF⟩ := hrel
    by_cases hlt : k < n
    · obtain ⟨b, o, c, rfl, hc, hb, h0, h1, h2, h3, h4⟩ := pool_at (HP.out.below HB.out) hlt
      have HT : Hid (textF C (k : Int) = some t ↔ c.tag = 1 ∧ c.s = t) := Lib.hid (text_is hc HZ.out)
      have HA : Hid (∀ cs : Array Value, Below w.heap.size w (wr.alloc (.cells cs 43))) := Lib.hid (fun cs => HB.out.alloc HB.out.size _)
      obtain ⟨tg, a, b', nn, s⟩ := c
      simp only at h0 h1 h2 h3 h4 HT
      clear hc
      by_cases h1t : tg = 1
      · subst h1t
        by_cases hx : s = t
        · subst hx
          have HR : Hid (firstC C s = some k) := Lib.hid (firstC_some (by rw [Hl.out]; exact hlt) (HT.out.2 ⟨rfl, rfl⟩) HF.out)
          have hq : ((strB s).toList == (strB s).toList) = true := by simp
          go_wp2
          go_ret
          exact ⟨by rw [HR.out]; rfl, HA.out _⟩
        · have HF1 : Hid (∀ j, j < k + 1 → textF C (j : Int) ≠ some t) := Lib.hid (fun j hj => by
            by_cases h : j = k
            · subst h; exact fun h => hx (HT.out.1 h).2
            · exact HF.out j (by omega))
          have hq : ((strB s).toList == (strB t).toList) = false := by
            rw [strB_toList, strB_toList]
            simpa using hx
          clear hx
          go_wp2
          go_roundw
          case rel => exact ⟨k + 1, by omega, by go_num, Lib.hid (HA.out _), HF1⟩
          case measure => simp [intOf]; omega
      · have HF1 : Hid (∀ j, j < k + 1 → textF C (j : Int) ≠ some t) := Lib.hid (fun j hj => by
          by_cases h : j = k
          · subst h; exact fun h => h1t (HT.out.1 h).1
          · exact HF.out j (by omega))
        have hq1 : (tg == 1) = false := by simpa using h1t
        clear h1t
        go_wp2
        go_roundw
        case rel => exact ⟨k + 1, by omega, by go_num, Lib.hid (HA.out _), HF1⟩
        case measure => simp [intOf]; omega
    · have hkn : k = n := by omega
      subst hkn
      have HR : Hid (firstC C t = none) := Lib.hid (firstC_none (by rw [Hl.out]; exact HF.out))
      go_wp2
      go_ret
      exact ⟨by rw [HR.out]; rfl, HB.out⟩

/-- Numbers that are handed in one by one. -/
def IntsSl (w : World) (A : Option Addr) (n : Nat) (l : List Int) : Prop := l.length = n ∧ n ≤ 100 ∧ (0 < n → ∃ b, A = some ⟨b, 0, none⟩ ∧ b < w.heap.size ∧ ∀ (j : Nat) x, l[j]? = some x → w.cell? ⟨b, j, none⟩ = some (.int .i64 x))
theorem IntsSl.at_ {w : World} {A : Option Addr} {n : Nat} {l : List Int} (h : IntsSl w A n l) {k : Nat} (hk : k < n) : ∃ b x, A = some ⟨b, 0, none⟩ ∧ b < w.heap.size ∧ l[k]? = some x ∧ w.cell? ⟨b, k, none⟩ = some (.int .i64 x) := by
  obtain ⟨b, e, hb, hc⟩ := h.2.2 (by omega)
  have hl : k < l.length := by rw [h.1]; exact hk
  exact ⟨b, l[k], e, hb, List.getElem?_eq_getElem hl, hc k _ (List.getElem?_eq_getElem hl)⟩
theorem IntsSl.below {w w' : World} {A : Option Addr} {n : Nat} {l : List Int} (h : IntsSl w A n l) (hb : Below w.heap.size w w') : IntsSl w' A n l :=
  ⟨h.1, h.2.1, fun h0 => by
    obtain ⟨b, e, hlt, hc⟩ := h.2.2 h0
    exact ⟨b, e, Nat.lt_of_lt_of_le hlt hb.size, fun j x hx => (World.cell?_of_block (w := w) (hb.block b hlt)).trans (hc j x hx)⟩⟩
/-- Just such a row is built. -/
theorem IntsSl.lit (w : World) (l : List Int) (n : Nat) (hn : l.length = n) (h1 : n ≤ 100) : IntsSl (w.alloc (.cells (l.map (fun x => Value.int .i64 x)).toArray 3)) (some ⟨w.heap.size, 0, none⟩) n l :=
  ⟨hn, h1, fun _ => ⟨w.heap.size, rfl, by simp, fun j x hx => by
    have h := (Blk.new w 3 (l.map (fun x => Value.int .i64 x)).toArray).cell j
    rw [h]
    simp [hx]⟩⟩

def wideF (l : List Int) : Bool := l.all (upToC 65535)
theorem wide_no {l : List Int} {k : Nat} {x : Int} (h : l[k]? = some x) (hx : upToC 65535 x = false) : wideF l = false := by
  unfold wideF
  rw [Bool.eq_false_iff]
  intro ha
  have := (List.all_eq_true.1 ha) x (List.mem_of_getElem? h)
  rw [hx] at this
  cases this
theorem wide_yes {l : List Int} {n : Nat} (hl : l.length = n) (h : ∀ (j : Nat) x, j < n → l[j]? = some x → upToC 65535 x = true) : wideF l = true := by
  unfold wideF
  rw [List.all_eq_true]
  intro x hx
  obtain ⟨j, hj, rfl⟩ := List.mem_iff_getElem.1 hx
  exact h j _ (by omega) (List.getElem?_eq_getElem hj)
theorem r14wide_any (A : Option Addr) (n : Nat) (l : List Int) (w : World) (hI : IntsSl w A n l) :
    Calls Tryz.prog 41 #[.slice A n n] w fun e w' => e = .returned (.bool (wideF l)) ∧ w = w' := by
  have HI := Lib.hid hI
  have hn := hI.2.1
  clear hI
  go_enter Tryz.func41, Tryz.ntmps41
  go_wp2
  go_loopw [7] (fun i wr => ∃ k : Nat, k ≤ n ∧ i = .int .i64 k ∧ w = wr ∧ Hid (∀ (j : Nat) x, j < k → l[j]? = some x → upToC 65535 x = true)) (fun i _ => n - (intOf i).toNat)
  case atStart => exact ⟨0, Nat.zero_le _, rfl, rfl, Lib.hid (fun j x h => absurd h (by omega))⟩
  case round =>
    obtain ⟨k, hk, rfl, rfl, HF⟩ := hrel
    by_cases hlt : k < n
    · obtain ⟨b, x, rfl, hb, hx, hc⟩ := HI.out.at_ hlt
      have Hx := Lib.hid hx
      clear hx
      by_cases h0 : x < 0
      · have HR : Hid (wideF l = false) := Lib.hid (wide_no Hx.out (by unfold upToC; exact decide_eq_false (by omega)))
        go_wp2
        go_ret
        exact ⟨by rw [HR.out]; rfl, rfl⟩
      · by_cases h6 : 65535 < x
        · have HR : Hid (wideF l = false) := Lib.hid (wide_no Hx.out (by unfold upToC; exact decide_eq_false (by omega)))
          go_wp2
          go_ret
          exact ⟨by rw [HR.out]; rfl, rfl⟩
        · have HF1 : Hid (∀ (j : Nat) x, j < k + 1 → l[j]? = some x → upToC 65535 x = true) := Lib.hid (fun j y hj hy => by
            by_cases h : j = k
            · subst h
              rw [Hx.out] at hy
              cases hy
              unfold upToC
              exact decide_eq_true (by omega)
            · exact HF.out j y (by omega) hy)
          go_wp2
          go_roundw
          case rel => exact ⟨k + 1, by omega, by go_num, by trivial, HF1⟩
          case measure => simp [intOf]; omega
    · have hkn : k = n := by omega
      subst hkn
      have HR : Hid (wideF l = true) := Lib.hid (wide_yes HI.out.1 HF.out)
      go_wp2
      go_ret
      exact ⟨by rw [HR.out]; rfl, rfl⟩

/-- Numbers' bytes. -/
def u2B (l : List Int) : List UInt8 := l.flatMap (fun x => putL (bits64 x) 2)
theorem u2B_take (l : List Int) (k : Nat) (x : Int) (h : l[k]? = some x) : u2B (l.take (k + 1)) = u2B (l.take k) ++ putL (bits64 x) 2 := by
  unfold u2B
  rw [List.take_add_one, h, List.flatMap_append]
  simp
theorem u2B_len (l : List Int) : (u2B l).length = 2 * l.length := by
  unfold u2B
  induction l with
  | nil => rfl
  | cons x l ih => rw [List.flatMap_cons, List.length_append, ih, putL_len, List.length_cons]; omega
/-- Bytes of a call's own, or what came in. -/
structure OwnB2 (w : World) (v : Value) (m : Nat) (zs : List UInt8) (W : World) : Prop where
  own : W.ownsRow w.heap.size 5 1 v m (zs.map B8)
  below : Below w.heap.size w W
set_option maxHeartbeats 1000000 in
theorem r14u2_any (A : Option Addr) (m cap : Nat) (xs : List UInt8) (B : Option Addr) (n : Nat) (l : List Int) (w : World) (hB : ByteSl w Empty A m cap xs) (hA : A = none → m = 0 ∧ cap = 0) (hI : IntsSl w B n l) (h1 : 1 ≤ n) (hm : m ≤ 1000000) :
    Calls Tryz.prog 22 #[.slice A m cap, .slice B n n] w fun e w' => ∃ v, e = .returned v ∧ OwnB2 w v (m + 2 * n) (xs ++ u2B l) w' := by
  have HI := Lib.hid hI
  have hn := hI.2.1
  have CP : Hid (∀ (A : Option Addr) (m cap v k : Nat) (xs : List UInt8) (W : World), ByteSl W Empty A m cap xs → (A = none → m = 0 ∧ cap = 0) → v ≤ 18446744073709551615 → 1 ≤ k → k ≤ 8 → m ≤ 1048576 → Calls Tryz.prog 23 #[.slice A m cap, .int .u64 (v : Int), .int .i64 (k : Int)] W fun e w' => (∃ u, e = .returned u ∧ w'.ownsRow W.heap.size 5 1 u (m + k) ((xs ++ putL v k).map B8)) ∧ Below W.heap.size W w') :=
    Lib.hid (fun A m cap v k xs W hB hA hv h1 h2 hm => refPut_yes A m cap xs v k W hB hA hv h1 h2 hm)
  have HU := Lib.hid u64_le
  have HBy := Lib.hid hB
  have HA := Lib.hid hA
  have Hm := Lib.hid hm
  have H1 := Lib.hid h1
  clear hI hB hA hm h1
  go_enter Tryz.func22, Tryz.ntmps22
  go_wp2
  go_loopw [0, 9] (fun v i wr => ∃ (k : Nat) (Ak : Option Addr) (ck : Nat), k ≤ n ∧ i = .int .i64 k ∧ v = .slice Ak (m + 2 * k) ck ∧ Hid (ByteSl wr Empty Ak (m + 2 * k) ck (xs ++ u2B (l.take k))) ∧ Hid (Ak = none → m + 2 * k = 0 ∧ ck = 0) ∧ Hid (Below w.heap.size w wr) ∧ Hid (0 < k → wr.ownsRow w.heap.size 5 1 v (m + 2 * k) ((xs ++ u2B (l.take k)).map B8))) (fun _ i _ => n - (intOf i).toNat)
  case atStart => exact ⟨0, A, cap, Nat.zero_le _, rfl, rfl, Lib.hid (by simpa [u2B] using HBy.out), HA, Lib.hid (Below.refl _ _), Lib.hid (fun h => absurd h (by omega))⟩
  case round =>
    obtain ⟨k, Ak, ck, hk, rfl, rfl, HBk, HAk, HBl, HOk⟩ := hrel
    by_cases hlt : k < n
    · obtain ⟨b, x, rfl, hb, hx, hc⟩ := (HI.out.below HBl.out).at_ hlt
      have HT : Hid (xs ++ u2B (l.take (k + 1)) = (xs ++ u2B (l.take k)) ++ putL (bits64 x) 2) := Lib.hid (by rw [u2B_take l k x hx, List.append_assoc])
      have hU := u64_wrap x
      clear hx
      obtain ⟨mk, hmk⟩ : ∃ mk, m + 2 * k = mk := ⟨_, rfl⟩
      have Hmk : Hid (mk ≤ 1048576 ∧ m + 2 * (k + 1) = mk + 2) := Lib.hid ⟨by have := Hm.out; omega, by omega⟩
      rw [hmk] at HBk HAk HOk ⊢
      clear hmk
      go_wp2_with fail
      refine (CP.out Ak mk ck (bits64 x) 2 _ _ HBk.out HAk.out (HU.out x) (by omega) (by omega) Hmk.out.1).mono ?_
      rintro e w1 ⟨⟨u, rfl, ho1⟩, hb1⟩
      rw [← HT.out, ← Hmk.out.2] at ho1
      obtain ⟨A1, c1, rfl, hB1, hn1⟩ := slice_of_own ho1
      have HO1 := Lib.hid (own_base ho1 HBl.out.size)
      have HB1 := Lib.hid hB1
      have HN1 := Lib.hid hn1
      have HBl1 := Lib.hid (HBl.out.trans (hb1.mono HBl.out.size))
      clear ho1 hB1 hn1 hb1
      go_wp2
      go_roundw
      case rel => exact ⟨k + 1, A1, c1, by omega, by go_num, rfl, HB1, HN1, HBl1, Lib.hid (fun _ => HO1.out)⟩
      case measure => simp [intOf]; omega
    · have hkn : k = n := by omega
      subst hkn
      have HR : Hid (wr.ownsRow w.heap.size 5 1 (.slice Ak (m + 2 * k) ck) (m + 2 * k) ((xs ++ u2B l).map B8)) := Lib.hid (by
        have h := HOk.out H1.out
        rwa [List.take_of_length_le (Nat.le_of_eq HI.out.1)] at h)
      go_wp2
      go_ret
      exact ⟨_, rfl, HR.out, HBl.out⟩
theorem r14u4_any (A : Option Addr) (m cap : Nat) (xs : List UInt8) (x : Int) (w : World) (hB : ByteSl w Empty A m cap xs) (hA : A = none → m = 0 ∧ cap = 0) (hm : m ≤ 1000000) :
    Calls Tryz.prog 26 #[.slice A m cap, .int .i64 x] w fun e w' => ∃ v, e = .returned v ∧ OwnB2 w v (m + 4) (xs ++ putL (bits64 x) 4) w' := by
  have CP := Lib.hid (refPut_yes A m cap xs (bits64 x) 4 w hB hA (u64_le x) (by omega) (by omega) (by omega))
  have hU := u64_wrap x
  clear hB hA hm
  go_enter Tryz.func26, Tryz.ntmps26
  go_wp2_with fail
  refine CP.out.mono ?_
  rintro e w1 ⟨⟨u, rfl, ho1⟩, hb1⟩
  have HO := Lib.hid (show OwnB2 w u (m + 4) (xs ++ putL (bits64 x) 4) w1 from ⟨ho1, hb1⟩)
  clear ho1 hb1 CP
  go_wp2
  go_ret
  exact ⟨_, rfl, HO.out⟩

end Go.Proofs.YtendpbklcgiafaaGreat
