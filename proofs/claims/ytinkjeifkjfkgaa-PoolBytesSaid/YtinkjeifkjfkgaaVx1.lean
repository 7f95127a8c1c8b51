/- The document's right (layer 11), a tag at a time. -/
import Derived.Test.YtinkjeifkjfkgaaVx
namespace Go.Proofs.Ytinkjeifkjfkgaa
set_option maxRecDepth 100000
open Go.RowKit

set_option maxHeartbeats 1000000 in
theorem refright_1 (n cap k : Nat) (l : List Cst) (w : World) (b o : Nat) (a b' nn : Int) (s : List UInt8) (H : PlaceC w b o n cap k l ⟨1, a, b', nn, s⟩) :
    Calls Try.prog 22 #[.slice (some ⟨b, o, none⟩) n cap, .int .i64 (k : Int)] w fun e w' => e = .returned (.bool (rightR l k)) ∧ Below w.heap.size w w' := by
  obtain ⟨hP, hc, hb, h0, h1, h2, h3, h4, hn, hk, hok, hcs⟩ := H
  have hcn := hok.n
  simp only at h0 h1 h2 h3 h4 hcs hcn
  have CI : Hid (∀ p t W, Below w.heap.size w W → Calls Try.prog 28 #[.slice (some ⟨b, o, none⟩) n cap, .int .i64 p, .int .i64 t] W fun e w' => e = .returned (.bool (isF l p t)) ∧ W = w') := Lib.hid (fun p t W h => is_any _ n cap l p t W (hP.below h) hn)
  have HB0 : Hid (∀ o', Below w.heap.size w (w.alloc o')) := Lib.hid (fun o' => (Below.refl _ _).alloc (Nat.le_refl _) o')
  have HP := Lib.hid hP
  have Hok := Lib.hid hok
  clear hP hok
  by_cases xN : nn = 0
  case neg =>
    have HE : Hid (rightR l k = false) := Lib.hid (rightR_no hc (by unfold headR; exact decide_eq_false (by simp [xN])))
    have hq : (nn == 0) = false := by simpa using xN
    have hq2 : (nn != 0) = true := by simpa using xN
    clear hc xN
    go_enter Try.func22, Try.ntmps22
    go_wp2
    go_ret
    exact ⟨by rw [HE.out]; rfl, HB0.out _⟩
  subst xN
  by_cases xB : b' = 0
  case neg =>
    have HE : Hid (rightR l k = false) := Lib.hid (rightR_no hc (by unfold headR; exact decide_eq_false (by simp [xB])))
    have hq : (b' == 0) = false := by simpa using xB
    have hq2 : (b' != 0) = true := by simpa using xB
    clear hc xB
    go_enter Try.func22, Try.ntmps22
    go_wp2
    go_ret
    exact ⟨by rw [HE.out]; rfl, HB0.out _⟩
  subst xB
  by_cases xA : a = 0
  case neg =>
    have HE : Hid (rightR l k = false) := Lib.hid (rightR_no hc (by unfold headR; exact decide_eq_false (by simp [xA])))
    have hq : (a == 0) = false := by simpa using xA
    have hq2 : (a != 0) = true := by simpa using xA
    clear hc xA
    go_enter Try.func22, Try.ntmps22
    go_wp2
    go_ret
    exact ⟨by rw [HE.out]; rfl, HB0.out _⟩
  subst xA
  have HE0 := rightR_yes hc (by unfold headR; exact decide_eq_true (by simp))
  have HE : Hid (rightR l k = (decide (s.length ≤ 65535) && (decF s).isSome)) := Lib.hid HE0
  have hsz : (strB s).size = s.length := strB_size s
  have HB0' : Hid (∀ o' W, Below (w.alloc o').heap.size (w.alloc o') W → Below w.heap.size w W) := Lib.hid (fun o' W h => (HB0.out o').trans (h.mono (HB0.out o').size))
  obtain ⟨m, hm⟩ : ∃ m, s.length = m := ⟨_, rfl⟩
  have CV := Lib.hid (fun W => conv_str s m hm (by omega) W)
  have CD : Hid (∀ A cap W, ByteSl W Empty A m cap s → Calls Try.prog 32 #[.slice A m cap] W fun e w' => ∃ u, e = .returned (.tuple #[u, .int .i64 (if (decF s).isSome = true then 0 else 8)]) ∧ Below W.heap.size W w') := Lib.hid (fun A cap W hB => by
    have := decode_c s (by omega) A cap W (by rw [hm]; exact hB)
    rwa [hm] at this)
  rw [hm] at hsz HE
  obtain ⟨cp, w1, hcv, hb1, hB1⟩ := CV.out (w.alloc (.cells #[.int .i64 1, .int .i64 0, .int .i64 0, .int .i64 0, .string (strB s)] 41))
  have hh : (w.alloc (.cells #[.int .i64 1, .int .i64 0, .int .i64 0, .int .i64 0, .string (strB s)] 41)).heap.size = w.heap.size + 1 := by simp
  have hk1 : w1.cell? ⟨w.heap.size, 4, none⟩ = some (.string (strB s)) := (((Blk.new w 41 #[.int .i64 1, .int .i64 0, .int .i64 0, .int .i64 0, .string (strB s)]).of (hb1.block _ (by simp))).cell 4)
  have HK1 : Hid (Blk w1 w.heap.size 41 #[.int .i64 1, .int .i64 0, .int .i64 0, .int .i64 0, .string (strB s)]) := Lib.hid ((Blk.new w 41 #[.int .i64 1, .int .i64 0, .int .i64 0, .int .i64 0, .string (strB s)]).of (hb1.block _ (by simp)))
  have HB1 := Lib.hid (HB0'.out _ _ hb1)
  have CD1 := Lib.hid (CD.out _ _ _ hB1)
  rw [hh] at hcv CD1
  clear hc hm hb1 hB1 hh HE0 hcs
  go_enter Try.func22, Try.ntmps22
  go_wp2_with fail
  refine CD1.out.mono ?_
  rintro e w2 ⟨u, rfl, hb2⟩
  have HB2 := Lib.hid (HB1.out.trans (hb2.mono HB1.out.size))
  have hk2 : w2.cell? ⟨w.heap.size, 4, none⟩ = some (.string (strB s)) := (HK1.out.of (hb2.block _ (HK1.out.lt))).cell 4
  clear hb2 hk1
  cases hD : (decF s).isSome with
  | true =>
    rw [hD, Bool.and_true] at HE
    simp only [if_true]
    by_cases hle : m ≤ 65535
    · have hd : decide ((m : Int) ≤ 65535) = true := decide_eq_true (by omega)
      have HF : Hid (rightR l k = true) := Lib.hid (by rw [HE.out, decide_eq_true hle])
      clear hle
      go_wp2
      go_ret
      exact ⟨by rw [HF.out]; rfl, HB2.out⟩
    · have hd : decide ((m : Int) ≤ 65535) = false := decide_eq_false (by omega)
      have HF : Hid (rightR l k = false) := Lib.hid (by rw [HE.out, decide_eq_false hle])
      clear hle
      go_wp2
      go_ret
      exact ⟨by rw [HF.out]; rfl, HB2.out⟩
  | false =>
    rw [hD, Bool.and_false] at HE
    simp only [Bool.false_eq_true, if_false]
    go_wp2
    go_ret
    exact ⟨by rw [HE.out]; rfl, HB2.out⟩

set_option maxHeartbeats 1000000 in
theorem refright_3 (n cap k : Nat) (l : List Cst) (w : World) (b o : Nat) (a b' nn : Int) (s : List UInt8) (H : PlaceC w b o n cap k l ⟨3, a, b', nn, s⟩) :
    Calls Try.prog 22 #[.slice (some ⟨b, o, none⟩) n cap, .int .i64 (k : Int)] w fun e w' => e = .returned (.bool (rightR l k)) ∧ Below w.heap.size w w' := by
  obtain ⟨hP, hc, hb, h0, h1, h2, h3, h4, hn, hk, hok, hcs⟩ := H
  have hcn := hok.n
  simp only at h0 h1 h2 h3 h4 hcs hcn
  have CI : Hid (∀ p t W, Below w.heap.size w W → Calls Try.prog 28 #[.slice (some ⟨b, o, none⟩) n cap, .int .i64 p, .int .i64 t] W fun e w' => e = .returned (.bool (isF l p t)) ∧ W = w') := Lib.hid (fun p t W h => is_any _ n cap l p t W (hP.below h) hn)
  have HB0 : Hid (∀ o', Below w.heap.size w (w.alloc o')) := Lib.hid (fun o' => (Below.refl _ _).alloc (Nat.le_refl _) o')
  have HP := Lib.hid hP
  have Hok := Lib.hid hok
  clear hP hok
  by_cases xS : s = []
  case neg =>
    have HE : Hid (rightR l k = false) := Lib.hid (rightR_no hc (by unfold headR; exact decide_eq_false (by simp [xS])))
    have hq := str_ne s xS
    clear hc xS
    go_enter Try.func22, Try.ntmps22
    go_wp2
    go_ret
    exact ⟨by rw [HE.out]; rfl, HB0.out _⟩
  subst xS
  have hS0 : (strB []).toList = [] := strB_toList []
  by_cases xB : b' = 0
  case neg =>
    have HE : Hid (rightR l k = false) := Lib.hid (rightR_no hc (by unfold headR; exact decide_eq_false (by simp [xB])))
    have hq : (b' == 0) = false := by simpa using xB
    have hq2 : (b' != 0) = true := by simpa using xB
    clear hc xB
    go_enter Try.func22, Try.ntmps22
    go_wp2
    go_ret
    exact ⟨by rw [HE.out]; rfl, HB0.out _⟩
  subst xB
  by_cases xA : a = 0
  case neg =>
    have HE : Hid (rightR l k = false) := Lib.hid (rightR_no hc (by unfold headR; exact decide_eq_false (by simp [xA])))
    have hq : (a == 0) = false := by simpa using xA
    have hq2 : (a != 0) = true := by simpa using xA
    clear hc xA
    go_enter Try.func22, Try.ntmps22
    go_wp2
    go_ret
    exact ⟨by rw [HE.out]; rfl, HB0.out _⟩
  subst xA
  have HE0 := rightR_yes hc (by unfold headR; exact decide_eq_true (by simp))
  have HE : Hid (rightR l k = (nn == wrap64 (wrap32 nn))) := Lib.hid (by
    rw [HE0, show wrap64 (wrap32 nn) = wrap32 nn by unfold wrap64 wrap32; omega]
    rfl)
  clear hc HE0
  go_enter Try.func22, Try.ntmps22
  go_wp2
  go_ret
  exact ⟨by rw [HE.out]; rfl, HB0.out _⟩

end Go.Proofs.Ytinkjeifkjfkgaa
