/- The walks over the document's Right and Same (layer 11). -/
import Derived.Test.YtinkjeifkjfkgaaVx1
import Derived.Test.YtinkjeifkjfkgaaVx2
import Derived.Test.YtinkjeifkjfkgaaVx3
import Derived.Test.YtinkjeifkjfkgaaVx4
import Derived.Test.YtinkjeifkjfkgaaVx5
namespace Go.Proofs.Ytinkjeifkjfkgaa
set_option maxRecDepth 100000
open Go.RowKit

theorem refright_any (A : Option Addr) (n cap k : Nat) (l : List Cst) (w : World) (hP : PoolSl w A n cap l) (hn : n ≤ 1000000) (hok : ∀ c ∈ l, c.ok) (hs : ∀ c ∈ l, c.s.length ≤ 100000) (hk : k < n) :
    Calls Try.prog 22 #[.slice A n cap, .int .i64 (k : Int)] w fun e w' => e = .returned (.bool (rightR l k)) ∧ Below w.heap.size w w' := by
  obtain ⟨b, o, c, rfl, hc, hb, h0, h1, h2, h3, h4⟩ := pool_at hP hk
  have hm := List.mem_of_getElem? hc
  have hcs := hs c hm
  have hck := hok c hm
  obtain ⟨t, a, b', nn, s⟩ := c
  rcases tag_ways t with rfl | rfl | rfl | rfl | rfl | rfl | rfl | rfl | h
  · exact refright_1 n cap k l w b o a b' nn s ⟨hP, hc, hb, h0, h1, h2, h3, h4, hn, hk, hck, hcs⟩
  · exact refright_3 n cap k l w b o a b' nn s ⟨hP, hc, hb, h0, h1, h2, h3, h4, hn, hk, hck, hcs⟩
  · exact refright_5 n cap k l w b o a b' nn s ⟨hP, hc, hb, h0, h1, h2, h3, h4, hn, hk, hck, hcs⟩
  · exact refright_7 n cap k l w b o a b' nn s ⟨hP, hc, hb, h0, h1, h2, h3, h4, hn, hk, hck, hcs⟩
  · exact refright_8 n cap k l w b o a b' nn s ⟨hP, hc, hb, h0, h1, h2, h3, h4, hn, hk, hck, hcs⟩
  · exact refright_9 n cap k l w b o a b' nn s ⟨hP, hc, hb, h0, h1, h2, h3, h4, hn, hk, hck, hcs⟩
  · exact refright_10 n cap k l w b o a b' nn s ⟨hP, hc, hb, h0, h1, h2, h3, h4, hn, hk, hck, hcs⟩
  · exact refright_12 n cap k l w b o a b' nn s ⟨hP, hc, hb, h0, h1, h2, h3, h4, hn, hk, hck, hcs⟩
  · by_cases ht : t = 0
    · subst ht
      exact refright_0 n cap k l w b o a b' nn s ⟨hP, hc, hb, h0, h1, h2, h3, h4, hn, hk, hck, hcs⟩
    · exact refright_x n cap k l w b o t a b' nn s ⟨hP, hc, hb, h0, h1, h2, h3, h4, hn, hk, hck, hcs⟩ h ht

theorem rightF_at {l : List Cst} (k : Nat) (hk : k < l.length) (h : rightR l k = false) : rightF l = false := by
  unfold rightF
  rw [Bool.and_eq_false_iff]
  right
  rw [← Bool.not_eq_true, List.all_eq_true]
  intro hA
  have := hA k (List.mem_range.mpr hk)
  rw [h] at this
  cases this

set_option maxHeartbeats 1000000 in
theorem refRight_any (A : Option Addr) (n cap : Nat) (l : List Cst) (w : World) (hP : PoolSl w A n cap l) (hn : n ≤ 1000000) (hok : ∀ c ∈ l, c.ok) (hs : ∀ c ∈ l, c.s.length ≤ 100000) :
    Calls Try.prog 9 #[.slice A n cap] w fun e w' => e = .returned (.bool (rightF l)) ∧ Below w.heap.size w w' := by
  have hl := hP.1
  have HP := Lib.hid hP
  have Hl := Lib.hid hl
  have CR : Hid (∀ k W, k < n → Below w.heap.size w W → Calls Try.prog 22 #[.slice A n cap, .int .i64 (k : Int)] W fun e w' => e = .returned (.bool (rightR l k)) ∧ Below W.heap.size W w') := Lib.hid (fun k W hk hb => refright_any A n cap k l W (hP.below hb) hn hok hs hk)
  clear hok hs
  by_cases hlen : 1 ≤ n ∧ n ≤ 1024
  · obtain ⟨b, o, c, rfl, hc, hb, h0, -⟩ := pool_at hP (show 0 < n by omega)
    rw [Nat.zero_mul, Nat.add_zero] at h0
    have hd1 : decide ((n : Int) < 1) = false := decide_eq_false (by omega)
    have hd2 : decide ((1024 : Int) < (n : Int)) = false := decide_eq_false (by omega)
    by_cases ht : c.tag = 0
    case neg =>
      have HE : Hid (rightF l = false) := Lib.hid (by
        unfold rightF
        rw [hc]
        simp [ht])
      have hq : (c.tag != 0) = true := by simpa using ht
      clear hP hl hc ht
      go_enter Try.func9, Try.ntmps9
      go_wp2
      go_ret
      exact ⟨by rw [HE.out]; rfl, Below.refl _ _⟩
    have HEall : Hid ((∀ k, k < n → rightR l k = true) → rightF l = true) := Lib.hid (fun h => by
      unfold rightF
      rw [decide_eq_true (by omega), hc, List.all_eq_true.mpr (fun k hk => h k (by rw [List.mem_range] at hk; omega))]
      simp [ht])
    have hq : (c.tag != 0) = false := by simpa using ht
    clear hP hl hc ht
    go_enter Try.func9, Try.ntmps9
    go_wp2
    go_loopw [2, 21] (fun a bb wr => ∃ k : Nat, k ≤ n ∧ a = .bool false ∧ bb = .int .i64 (k : Int) ∧ Hid (∀ j, j < k → rightR l j = true) ∧ Hid (Below w.heap.size w wr)) (fun _ bb _ => n - (intOf bb).toNat)
    case atStart => exact ⟨0, Nat.zero_le _, rfl, rfl, Lib.hid (fun j hj => by omega), Lib.hid (Below.refl _ _)⟩
    case round =>
      obtain ⟨k, hk, rfl, rfl, HA, HB⟩ := hrel
      by_cases hlt : k < n
      · have C := CR.out k wr hlt HB.out
        cases hm : rightR l k with
        | true =>
          have HA2 : Hid (∀ j, j < k + 1 → rightR l j = true) := Lib.hid (fun j hj => by
            by_cases h : j = k
            · rw [h]; exact hm
            · exact HA.out j (by omega))
          rw [hm] at C
          have C := Lib.hid C
          clear hm
          go_wp2_with fail
          refine C.out.mono ?_
          rintro e w2 ⟨rfl, hb2⟩
          have HB2 := Lib.hid (HB.out.trans (hb2.mono HB.out.size))
          clear hb2
          go_wp2
          go_roundw
          case rel => exact ⟨k + 1, by omega, rfl, by go_num, HA2, HB2⟩
          case measure => simp [intOf]; omega
        | false =>
          have HE : Hid (rightF l = false) := Lib.hid (rightF_at k (by rw [Hl.out]; exact hlt) hm)
          rw [hm] at C
          have C := Lib.hid C
          clear hm
          go_wp2_with fail
          refine C.out.mono ?_
          rintro e w2 ⟨rfl, hb2⟩
          have HB2 := Lib.hid (HB.out.trans (hb2.mono HB.out.size))
          clear hb2
          go_wp2
          go_ret
          exact ⟨by rw [HE.out]; rfl, HB2.out⟩
      · obtain rfl : k = n := by omega
        have HE : Hid (rightF l = true) := Lib.hid (HEall.out HA.out)
        go_wp2
        go_ret
        exact ⟨by rw [HE.out]; rfl, HB.out⟩
  · have HE : Hid (rightF l = false) := Lib.hid (by
      unfold rightF
      rw [decide_eq_false (by omega)]
      rfl)
    by_cases h1 : n < 1
    · have hd1 : decide ((n : Int) < 1) = true := decide_eq_true (by omega)
      clear hP hl hlen h1
      go_enter Try.func9, Try.ntmps9
      go_wp2
      go_ret
      exact ⟨by rw [HE.out]; rfl, Below.refl _ _⟩
    · have hd1 : decide ((n : Int) < 1) = false := decide_eq_false (by omega)
      have hd2 : decide ((1024 : Int) < (n : Int)) = true := decide_eq_true (by omega)
      clear hP hl hlen h1
      go_enter Try.func9, Try.ntmps9
      go_wp2
      go_ret
      exact ⟨by rw [HE.out]; rfl, Below.refl _ _⟩

/-- Same, where all is the same. -/
theorem refSame_cst (A B : Option Addr) (n c1 c2 : Nat) (l : List Cst) (w : World) (hA : PoolSl w A n c1 l) (hB : PoolSl w B n c2 l) (hn : n ≤ 1000000) :
    Calls Try.prog 13 #[.slice A n c1, .slice B n c2] w fun e w' => e = .returned (.bool true) ∧ ∃ q, w' = w.drewN q := by
  have HA := Lib.hid hA
  have HB := Lib.hid hB
  have hl := hA.1
  have Hl := Lib.hid hl
  clear hA hB hl
  go_enter Try.func13, Try.ntmps13
  go_wp2
  go_loopw [4, 13] (fun a bb wr => ∃ k q : Nat, k ≤ n ∧ a = .bool false ∧ bb = .int .i64 (k : Int) ∧ wr = w.drewN q) (fun _ bb _ => n - (intOf bb).toNat)
  case atStart => exact ⟨0, 0, Nat.zero_le _, rfl, rfl, rfl⟩
  case round =>
    obtain ⟨k, q, hk, rfl, rfl, rfl⟩ := hrel
    by_cases hlt : k < n
    · obtain ⟨b, o, c, rfl, hc, hb, h0, h1, h2, h3, h4⟩ := pool_at HA.out hlt
      obtain ⟨b2, o2, d, rfl, hd, hb2, g0, g1, g2, g3, g4⟩ := pool_at HB.out hlt
      obtain rfl : c = d := by rw [hc] at hd; exact Option.some.inj hd
      have HQ := neq_c c c
      rw [decide_eq_false (by simp)] at HQ
      clear hc hd
      go_wp2
      go_quiet (fail)
      go_wp2
      go_roundw
      case rel => exact ⟨k + 1, q + nq, by omega, rfl, by go_num, by simp⟩
      case measure => simp [intOf]; omega
    · obtain rfl : k = n := by omega
      go_wp2
      go_ret
      exact ⟨rfl, q, rfl⟩

end Go.Proofs.Ytinkjeifkjfkgaa
