/- The walk over utf.unit: what any bytes begin with. -/
import Derived.Test.YtendpbklcgiafaaZai
import Derived.Test.YtendpbklcgiafaaZab
import Derived.Outline
namespace Go.Proofs.Ytendpbklcgiafaa
set_option maxRecDepth 100000
open Go.RowKit

/-- Two numbers, as unit answers them. -/
def pairV (p : Nat × Nat) : Value := .tuple #[.int .u16 (p.1 : Int), .int .i64 (p.2 : Int)]

theorem firstF_le (x : Nat) : (firstF x).1 ≤ 3 := by
  unfold firstF
  split
  · show 1 ≤ 3
    omega
  · split
    · show 2 ≤ 3
      omega
    · split
      · show 3 ≤ 3
        omega
      · show 0 ≤ 3
        omega

theorem unit_none (ad : Addr) (n cap : Nat) (x : Nat) (w : World) (hx : x < 256) (hn : 0 < n) (hnc : n ≤ cap) (hcm : cap ≤ maxLen) (h0 : w.cell? ad = some (.int .u8 (x : Int)))
    (h : (firstF x).1 = 0 ∨ n < (firstF x).1) : Calls Try.prog 98 #[.slice (some ad) n cap] w fun e w' => e = .returned (pairV (0, 0)) ∧ ∃ q, w' = w.drewN q := by
  have hcm2 : cap ≤ 9223372036854775807 := by unfold maxLen at hcm; exact hcm
  clear hcm
  obtain ⟨f1, f2, hf⟩ : ∃ f1 f2, firstF x = (f1, f2) := ⟨_, _, rfl⟩
  have hb : f1 ≤ 3 := by
    have h3 := firstF_le x
    rw [hf] at h3
    exact h3
  have c := first_any x w hx
  rw [hf] at c h
  have h : f1 = 0 ∨ n < f1 := h
  have C := Lib.hid c
  clear c hf
  have had : ad.add 0 = ad := by rcases ad with ⟨b, o, sp⟩; cases sp <;> simp [Addr.add]
  by_cases hz : f1 = 0
  · have hq : ((f1 : Int) == 0) = true := by simp; omega
    clear h
    go_enter Try.func98, Try.ntmps98
    go_wp2_with fail
    refine C.out.mono ?_
    rintro e1 w1 ⟨rfl, q, rfl⟩
    go_wp2
    go_ret2
    exact ⟨rfl, _, rfl⟩
  · have hq : ((f1 : Int) == 0) = false := by simp; omega
    have hlt : n < f1 := by omega
    have hq2 : decide (n < f1) = true := by simp; omega
    clear h
    go_enter Try.func98, Try.ntmps98
    go_wp2_with fail
    refine C.out.mono ?_
    rintro e1 w1 ⟨rfl, q, rfl⟩
    go_wp2
    go_ret2
    exact ⟨rfl, _, rfl⟩

theorem or6_eq (v y : Nat) (h : v * 64 + 63 < 65536) : bits .or .u16 ((v : Int) * 64) ((y : Int) % 64) = ((v * 64 + y % 64 : Nat) : Int) := by
  have e1 : (v : Int) * 64 = ((v * 64 : Nat) : Int) := by simp
  have e2 : (y : Int) % 64 = ((y % 64 : Nat) : Int) := by simp
  rw [e1, e2, u16_or_nat _ _ (by omega) (by omega), Nat.mul_comm, ← Nat.two_pow_add_eq_or_of_lt (i := 6) (by omega)]

/-- Where there are bytes enough: the loop over those that go on. -/
theorem unit_go (ad : Addr) (n cap x f m : Nat) (ys val : Nat → Nat) (R : Nat × Nat) (w : World) (hx : x < 256) (hf1 : 1 ≤ m) (hfm : m = f - 1) (hm : f ≤ n) (hnc : n ≤ cap) (hcm : cap ≤ maxLen) (h0 : w.cell? ad = some (.int .u8 (x : Int)))
    (hf : firstF x = (f, val 0)) (hy : ∀ j, j < m → ys j < 256 ∧ w.cell? ⟨ad.block, ad.off + 1 + j, none⟩ = some (.int .u8 (ys j : Int)))
    (hv : ∀ k, k ≤ m → val k < 65536) (hv1 : ∀ k, k < m → val k * 64 + 63 < 65536 ∧ val (k + 1) = val k * 64 + ys k % 64)
    (hbad : ∀ j, j < m → markB (ys j) 128 6 = false → R = (0, 0))
    (hno : (∀ j, j < m → markB (ys j) 128 6 = true) → sizeU (val m) ≠ f → R = (0, 0))
    (hyes : (∀ j, j < m → markB (ys j) 128 6 = true) → sizeU (val m) = f → R = (val m, f)) :
    Calls Try.prog 98 #[.slice (some ad) n cap] w fun e w' => e = .returned (pairV R) ∧ ∃ q, w' = w.drewN q := by
  have hcm2 : cap ≤ 9223372036854775807 := by unfold maxLen at hcm; exact hcm
  clear hcm
  have hm3 : f ≤ 3 := by
    have h3 := firstF_le x
    rw [hf] at h3
    exact h3
  have c := first_any x w hx
  rw [hf] at c
  have C := Lib.hid c
  have HB := Lib.hid hbad
  have HN := Lib.hid hno
  have HY := Lib.hid hyes
  have HV := Lib.hid hv
  have HV1 := Lib.hid hv1
  have HYS := Lib.hid hy
  have hv0 := hv 0 (by omega)
  clear c hf hbad hno hyes hv hv1 hy
  have had : ad.add 0 = ad := by rcases ad with ⟨b, o, sp⟩; cases sp <;> simp [Addr.add]
  have hq : ((f : Int) == 0) = false := by simp; omega
  have hq2 : decide (n < f) = false := by simp; omega
  have hc1 : ¬ cap = 1 := by omega
  obtain ⟨v0, hv0e⟩ : ∃ v, v = val 0 := ⟨_, rfl⟩
  rw [← hv0e] at C hv0
  have HV0 := Lib.hid hv0e
  have Hfm := Lib.hid hfm
  have hf2 : 2 ≤ f := by omega
  clear hv0e hfm
  go_enter Try.func98, Try.ntmps98
  go_wp2_with fail
  refine C.out.mono ?_
  rintro e1 w1 ⟨rfl, q, rfl⟩
  go_wp2
  rw [← Hfm.out]
  go_loopw [5, 7, 27] (fun u _ i wr => ∃ k q : Nat, k ≤ m ∧ i = .int .i64 (k : Int) ∧ u = .int .u16 (val k : Int) ∧ wr = w.drewN q ∧ Hid (∀ j, j < k → markB (ys j) 128 6 = true)) (fun _ _ i _ => m - (intOf i).toNat)
  case atStart => exact ⟨0, _, Nat.zero_le _, rfl, by rw [HV0.out], rfl, Lib.hid (fun j h => absurd h (by omega))⟩
  case round =>
    obtain ⟨k, q1, hk, rfl, rfl, rfl, HM⟩ := hrel
    have hvk := HV.out k hk
    obtain ⟨v, hve⟩ : ∃ v, v = val k := ⟨_, rfl⟩
    rw [← hve] at hvk ⊢
    have Hve := Lib.hid hve
    clear hve
    by_cases hlt : k < m
    · obtain ⟨hy1, hy2⟩ := HYS.out k hlt
      obtain ⟨hv1, hv2⟩ := HV1.out k hlt
      rw [← Hve.out] at hv1 hv2
      have Hv2 := Lib.hid hv2
      obtain ⟨y, hye⟩ : ∃ y, y = ys k := ⟨_, rfl⟩
      rw [← hye] at hy1 hy2 Hv2
      have Hye := Lib.hid hye
      clear hye hv2
      by_cases hmk : markB y 128 6 = true
      · go_wp2_with fail
        refine (marked_any y 128 6 _ hy1 (by omega) (by omega)).mono ?_
        rintro e1 w1 ⟨rfl, q2, rfl⟩
        go_wp2_with fail
        refine (low_any y 6 _ hy1 (by omega)).mono ?_
        rintro e1 w1 ⟨rfl, rfl⟩
        have hor := or6_eq v y hv1
        have hmm : m ≤ 2 := by have := Hfm.out; omega
        have Hv3 : Hid ((v : Int) * 64 + (y : Int) % 64 = (val (k + 1) : Int)) := Lib.hid (by rw [Hv2.out]; simp)
        go_wp2
        rw [Hv3.out]
        go_roundw
        case rel =>
          refine ⟨k + 1, _, by omega, by go_num, rfl, rfl, Lib.hid (fun j hj => ?_)⟩
          by_cases e : j < k
          · exact HM.out j e
          · obtain rfl : j = k := by omega
            rw [← Hye.out]
            exact hmk
        case measure => simp [intOf]; omega
      · have hmk2 : markB y 128 6 = false := by rw [Bool.eq_false_iff]; exact hmk
        clear hmk
        go_wp2_with fail
        refine (marked_any y 128 6 _ hy1 (by omega) (by omega)).mono ?_
        rintro e1 w1 ⟨rfl, q2, rfl⟩
        go_wp2
        go_ret2
        have hR := HB.out k hlt (by rw [← Hye.out]; exact hmk2)
        exact ⟨by rw [hR]; rfl, _, rfl⟩
    · obtain rfl : k = m := by omega
      go_wp2_with fail
      refine (size_any v _ hvk).mono ?_
      rintro e1 w1 ⟨rfl, rfl⟩
      by_cases hs : sizeU v = f
      · have hs2 : ((sizeU v : Int) != (f : Int)) = false := by simp; omega
        have hR := HY.out HM.out (by rw [← Hve.out]; exact hs)
        rw [← Hve.out] at hR
        have HR := Lib.hid hR
        clear hs hR
        go_wp2
        go_ret2
        exact ⟨by rw [HR.out]; rfl, _, rfl⟩
      · have hs2 : ((sizeU v : Int) != (f : Int)) = true := by simp; omega
        have hR := HN.out HM.out (by rw [← Hve.out]; exact hs)
        have HR := Lib.hid hR
        clear hs hR
        go_wp2
        go_ret2
        exact ⟨by rw [HR.out]; rfl, _, rfl⟩

set_option maxHeartbeats 1000000 in
theorem unit_one (ad : Addr) (n cap x : Nat) (w : World) (hx : x ≤ 127) (hn : 1 ≤ n) (hnc : n ≤ cap) (hcm : cap ≤ maxLen) (h0 : w.cell? ad = some (.int .u8 (x : Int))) :
    Calls Try.prog 98 #[.slice (some ad) n cap] w fun e w' => e = .returned (pairV (if x = 0 then (0, 0) else (x, 1))) ∧ ∃ q, w' = w.drewN q := by
  have hcm2 : cap ≤ 9223372036854775807 := by unfold maxLen at hcm; exact hcm
  clear hcm
  have c := first_any x w (by omega)
  have hf : firstF x = (1, x) := by unfold firstF; rw [if_pos hx]
  rw [hf] at c
  have C := Lib.hid c
  have had : ad.add 0 = ad := by rcases ad with ⟨b, o, sp⟩; cases sp <;> simp [Addr.add]
  have hq2 : decide (n < 1) = false := by simp; omega
  have hs : (sizeU x : Int) = 1 ∨ (sizeU x : Int) = 2 := by
    unfold sizeU
    split
    · exact .inl rfl
    · rw [if_pos (by omega)]
      exact .inr rfl
  have hz : x = 0 ↔ (sizeU x : Int) = 2 := by
    unfold sizeU
    by_cases h : 1 ≤ x ∧ x ≤ 127
    · rw [if_pos h]
      exact ⟨fun e => by omega, fun e => by cases e⟩
    · rw [if_neg h, if_pos (by omega)]
      exact ⟨fun _ => rfl, fun _ => by omega⟩
  clear c hf
  have Hz := Lib.hid hz
  clear hz
  by_cases hx0 : x = 0
  · have h2 := Hz.out.1 hx0
    rw [if_pos hx0]
    have hq : ((sizeU x : Int) != 1) = true := by rw [h2]; rfl
    clear hs h2 hx0
    by_cases hc : cap = 1
    all_goals
      go_enter Try.func98, Try.ntmps98
      go_wp2_with fail
      refine C.out.mono ?_
      rintro e1 w1 ⟨rfl, q, rfl⟩
      go_wp2
      go_loopw [5, 27] (fun u i wr => u = .int .u16 (x : Int) ∧ i = .int .i64 0 ∧ wr = w.drewN q) (fun _ _ _ => 0)
      case atStart => exact ⟨rfl, rfl, rfl⟩
      case round =>
        obtain ⟨rfl, rfl, rfl⟩ := hrel
        go_wp2_with fail
        refine (size_any x _ (by omega)).mono ?_
        rintro e1 w1 ⟨rfl, rfl⟩
        go_wp2
        go_ret2
        exact ⟨rfl, _, rfl⟩
  · have h2 : (sizeU x : Int) = 1 := by
      rcases hs with h | h
      · exact h
      · exact absurd (Hz.out.2 h) hx0
    rw [if_neg hx0]
    have hq : ((sizeU x : Int) != 1) = false := by rw [h2]; rfl
    clear hs h2 hx0
    by_cases hc : cap = 1
    all_goals
      go_enter Try.func98, Try.ntmps98
      go_wp2_with fail
      refine C.out.mono ?_
      rintro e1 w1 ⟨rfl, q, rfl⟩
      go_wp2
      go_loopw [5, 27] (fun u i wr => u = .int .u16 (x : Int) ∧ i = .int .i64 0 ∧ wr = w.drewN q) (fun _ _ _ => 0)
      case atStart => exact ⟨rfl, rfl, rfl⟩
      case round =>
        obtain ⟨rfl, rfl, rfl⟩ := hrel
        go_wp2_with fail
        refine (size_any x _ (by omega)).mono ?_
        rintro e1 w1 ⟨rfl, rfl⟩
        go_wp2
        go_ret2
        exact ⟨rfl, _, rfl⟩

theorem ByteSl.cells_ {w : World} {S : Nat → Prop} {ad : Addr} {n cap : Nat} {xs : List UInt8} (h : ByteSl w S (some ad) n cap xs) (hn : 0 < n) {j : Nat} {x : UInt8} (hj : xs[j]? = some x) : w.cell? (ad.add j) = some (B8 x) := by
  obtain ⟨a, e, _, _, hc⟩ := h.2.2.2 hn
  cases e
  exact hc j x hj

/-- What any bytes, one at least, begin with. -/
theorem unit_any (ad : Addr) (n cap : Nat) (xs : List UInt8) (w : World) (hB : ByteSl w Empty (some ad) n cap xs) (hn : 0 < n) :
    Calls Try.prog 98 #[.slice (some ad) n cap] w fun e w' => e = .returned (pairV (unitF xs)) ∧ ∃ q, w' = w.drewN q := by
  have had : ad.add 0 = ad := by rcases ad with ⟨b, o, sp⟩; cases sp <;> simp [Addr.add]
  have hl := hB.1
  have hnc := hB.2.1
  have hcm := hB.2.2.1
  rcases xs with _ | ⟨x, t⟩
  · simp at hl; omega
  ·
    have hx := x.toNat_lt
    have h0 : w.cell? ad = some (.int .u8 ((x.toNat : Nat) : Int)) := by
      have h := hB.cells_ hn (j := 0) (x := x) rfl
      rw [had] at h
      exact h
    have hcell : ∀ j y, t[j]? = some y → w.cell? ⟨ad.block, ad.off + 1 + j, none⟩ = some (.int .u8 ((y.toNat : Nat) : Int)) := by
      intro j y hj
      have h := hB.cells_ hn (j := j + 1) (x := y) (by simpa using hj)
      have e : ad.add (j + 1) = ⟨ad.block, ad.off + 1 + j, none⟩ := by
        unfold Addr.add
        rw [if_neg (by omega)]
        congr 1
        omega
      rw [e] at h
      exact h
    by_cases h1 : x.toNat ≤ 127
    · have e : unitF (x :: t) = if x.toNat = 0 then (0, 0) else (x.toNat, 1) := by
        unfold unitF
        simp only
        rw [if_pos h1]
      rw [e]
      exact unit_one ad n cap x.toNat w h1 hn hnc hcm h0
    · by_cases h2 : 192 ≤ x.toNat ∧ x.toNat < 224
      · have hf : firstF x.toNat = (2, x.toNat - 192) := by unfold firstF; rw [if_neg h1, if_pos h2]
        rcases t with _ | ⟨y, t⟩
        ·
          have e : unitF [x] = (0, 0) := by
            unfold unitF
            simp only
            rw [if_neg h1, if_pos h2]
          rw [e]
          simp at hl
          exact unit_none ad n cap x.toNat w hx hn hnc hcm h0 (.inr (by rw [hf]; show n < 2; omega))
        ·
          have hy := y.toNat_lt
          have e : unitF (x :: y :: t) = if 128 ≤ y.toNat ∧ y.toNat < 192 ∧ sizeU ((x.toNat - 192) * 64 + (y.toNat - 128)) = 2 then ((x.toNat - 192) * 64 + (y.toNat - 128), 2) else (0, 0) := by
            unfold unitF
            simp only
            rw [if_neg h1, if_pos h2]
          simp at hl
          refine unit_go ad n cap x.toNat 2 1 (fun _ => y.toNat) (fun k => if k = 0 then x.toNat - 192 else (x.toNat - 192) * 64 + y.toNat % 64) _ w hx (by omega) (by omega) (by omega) hnc hcm h0 (by rw [hf]; rfl) ?_ ?_ ?_ ?_ ?_ ?_
          · intro j hj
            obtain rfl : j = 0 := by omega
            exact ⟨hy, hcell 0 y rfl⟩
          · intro k hk
            show (if k = 0 then _ else _) < _
            split <;> omega
          · intro k hk
            obtain rfl : k = 0 := by omega
            exact ⟨by show (x.toNat - 192) * 64 + 63 < 65536; omega, rfl⟩
          · intro j hj hm
            rw [e, if_neg]
            rintro ⟨ha, hb, _⟩
            rw [(mark_more y.toNat).2 ⟨ha, hb⟩] at hm
            cases hm
          · intro hm hs
            have hq := (mark_more y.toNat).1 (hm 0 (by omega))
            rw [e, if_neg]
            rintro ⟨_, _, hs2⟩
            apply hs
            show sizeU ((x.toNat - 192) * 64 + y.toNat % 64) = 2
            rw [show y.toNat % 64 = y.toNat - 128 by omega]
            exact hs2
          · intro hm hs
            have hq := (mark_more y.toNat).1 (hm 0 (by omega))
            have hs : sizeU ((x.toNat - 192) * 64 + y.toNat % 64) = 2 := hs
            have eq : y.toNat % 64 = y.toNat - 128 := by omega
            rw [eq] at hs
            rw [e, if_pos ⟨hq.1, hq.2, hs⟩]
            show _ = ((x.toNat - 192) * 64 + y.toNat % 64, 2)
            rw [eq]
      · by_cases h3 : 224 ≤ x.toNat ∧ x.toNat < 240
        · have hf : firstF x.toNat = (3, x.toNat - 224) := by unfold firstF; rw [if_neg h1, if_neg h2, if_pos h3]
          rcases t with _ | ⟨y, _ | ⟨z, t⟩⟩
          ·
            have e : unitF [x] = (0, 0) := by
              unfold unitF
              simp only
              rw [if_neg h1, if_neg h2, if_pos h3]
            rw [e]
            simp at hl
            exact unit_none ad n cap x.toNat w hx hn hnc hcm h0 (.inr (by rw [hf]; show n < 3; omega))
          ·
            have e : unitF [x, y] = (0, 0) := by
              unfold unitF
              simp only
              rw [if_neg h1, if_neg h2, if_pos h3]
            rw [e]
            simp at hl
            exact unit_none ad n cap x.toNat w hx hn hnc hcm h0 (.inr (by rw [hf]; show n < 3; omega))
          ·
            have hy := y.toNat_lt
            have hz := z.toNat_lt
            have e : unitF (x :: y :: z :: t) = if 128 ≤ y.toNat ∧ y.toNat < 192 ∧ 128 ≤ z.toNat ∧ z.toNat < 192 ∧ sizeU ((x.toNat - 224) * 4096 + (y.toNat - 128) * 64 + (z.toNat - 128)) = 3 then ((x.toNat - 224) * 4096 + (y.toNat - 128) * 64 + (z.toNat - 128), 3) else (0, 0) := by
              unfold unitF
              simp only
              rw [if_neg h1, if_neg h2, if_pos h3]
            simp at hl
            refine unit_go ad n cap x.toNat 3 2 (fun j => if j = 0 then y.toNat else z.toNat) (fun k => if k = 0 then x.toNat - 224 else if k = 1 then (x.toNat - 224) * 64 + y.toNat % 64 else ((x.toNat - 224) * 64 + y.toNat % 64) * 64 + z.toNat % 64) _ w hx (by omega) (by omega) (by omega) hnc hcm h0 (by rw [hf]; rfl) ?_ ?_ ?_ ?_ ?_ ?_
            · intro j hj
              rcases (by omega : j = 0 ∨ j = 1) with rfl | rfl
              · exact ⟨hy, hcell 0 y rfl⟩
              · exact ⟨hz, hcell 1 z rfl⟩
            · intro k hk
              show (if k = 0 then _ else if k = 1 then _ else _) < _
              split
              · omega
              · split <;> omega
            · intro k hk
              rcases (by omega : k = 0 ∨ k = 1) with rfl | rfl
              · exact ⟨by show (x.toNat - 224) * 64 + 63 < 65536; omega, rfl⟩
              · exact ⟨by show ((x.toNat - 224) * 64 + y.toNat % 64) * 64 + 63 < 65536; omega, rfl⟩
            · intro j hj hm
              rw [e, if_neg]
              rintro ⟨ha, hb, hc, hd, _⟩
              rcases (by omega : j = 0 ∨ j = 1) with rfl | rfl
              · have hm : markB y.toNat 128 6 = false := hm
                rw [(mark_more y.toNat).2 ⟨ha, hb⟩] at hm
                cases hm
              · have hm : markB z.toNat 128 6 = false := hm
                rw [(mark_more z.toNat).2 ⟨hc, hd⟩] at hm
                cases hm
            · intro hm hs
              have hq := (mark_more y.toNat).1 (hm 0 (by omega))
              have hr := (mark_more z.toNat).1 (hm 1 (by omega))
              rw [e, if_neg]
              rintro ⟨_, _, _, _, hs2⟩
              apply hs
              show sizeU (((x.toNat - 224) * 64 + y.toNat % 64) * 64 + z.toNat % 64) = 3
              rw [show ((x.toNat - 224) * 64 + y.toNat % 64) * 64 + z.toNat % 64 = (x.toNat - 224) * 4096 + (y.toNat - 128) * 64 + (z.toNat - 128) by omega]
              exact hs2
            · intro hm hs
              have hq := (mark_more y.toNat).1 (hm 0 (by omega))
              have hr := (mark_more z.toNat).1 (hm 1 (by omega))
              have hs : sizeU (((x.toNat - 224) * 64 + y.toNat % 64) * 64 + z.toNat % 64) = 3 := hs
              have eq : ((x.toNat - 224) * 64 + y.toNat % 64) * 64 + z.toNat % 64 = (x.toNat - 224) * 4096 + (y.toNat - 128) * 64 + (z.toNat - 128) := by omega
              rw [eq] at hs
              rw [e, if_pos ⟨hq.1, hq.2, hr.1, hr.2, hs⟩]
              show _ = (((x.toNat - 224) * 64 + y.toNat % 64) * 64 + z.toNat % 64, 3)
              rw [eq]
        · have e : unitF (x :: t) = (0, 0) := by
            unfold unitF
            simp only
            rw [if_neg h1, if_neg h2, if_neg h3]
          rw [e]
          exact unit_none ad n cap x.toNat w hx hn hnc hcm h0 (.inl (by unfold firstF; rw [if_neg h1, if_neg h2, if_neg h3]))

end Go.Proofs.Ytendpbklcgiafaa
