/- The walks over num.Get and the document's Get. -/
import Derived.Test.YtcpcjcbeeeoabaaDoorNg
import Derived.Test.YtcpcjcbeeeoabaaDoorBy
namespace Go.Proofs.YtcpcjcbeeeoabaaDoor
set_option maxRecDepth 100000
open Go.RowKit

/-- Which number bytes are. -/
def getV (xs : List UInt8) : Nat := xs.foldl (fun v x => v * 256 + x.toNat) 0
theorem getV_snoc (xs : List UInt8) (x : UInt8) : getV (xs ++ [x]) = getV xs * 256 + x.toNat := by simp [getV]
theorem getV_fold (xs : List UInt8) (v k : Nat) (h : v < 256 ^ k) : xs.foldl (fun v x => v * 256 + x.toNat) v < 256 ^ (k + xs.length) := by
  induction xs generalizing v k with
  | nil => simpa using h
  | cons x xs ih =>
    have hx := x.toNat_lt
    have h2 := ih (v * 256 + x.toNat) (k + 1) (by rw [Nat.pow_succ]; omega)
    rw [List.foldl_cons, List.length_cons, show k + (xs.length + 1) = k + 1 + xs.length by omega]
    exact h2
theorem getV_lt (xs : List UInt8) : getV xs < 256 ^ xs.length := by
  have h := getV_fold xs 0 0 (by decide)
  rw [Nat.zero_add] at h
  exact h

theorem get_arg (A : Option Addr) (m cap : Nat) (a n : Int) (w : World) (h : n < 1 ∨ 8 < n) :
    Calls Tryd.prog 40 #[.slice A m cap, .int .i64 a, .int .i64 n] w fun e w' => e = .returned (.tuple #[.int .u64 0, .int .i64 1]) ∧ w = w' := by
  go_enter Tryd.func40, Tryd.ntmps40
  go_wp2_with fail
  refine (isSize_no n _ h).mono ?_
  rintro e1 w1 ⟨rfl, rfl⟩
  go_wp2
  go_ret2
  exact ⟨rfl, rfl⟩
theorem refGet_arg (A : Option Addr) (m cap : Nat) (a n : Int) (w : World) (h : n < 1 ∨ 8 < n) :
    Calls Tryd.prog 21 #[.slice A m cap, .int .i64 a, .int .i64 n] w fun e w' => e = .returned (.tuple #[.int .u64 0, .int .i64 1]) ∧ w = w' := by
  by_cases h1 : n < 1
  · clear h
    go_enter Tryd.func21, Tryd.ntmps21
    go_wp2
    go_ret2
    exact ⟨rfl, rfl⟩
  · have h2 : 8 < n := by omega
    clear h
    go_enter Tryd.func21, Tryd.ntmps21
    go_wp2
    go_ret2
    exact ⟨rfl, rfl⟩
theorem get_short (A : Option Addr) (m cap : Nat) (a n : Int) (w : World) (h1 : 1 ≤ n) (h2 : n ≤ 8) (hm : m ≤ 9223372036854775807) (h : a < 0 ∨ (m : Int) - n < a) :
    Calls Tryd.prog 40 #[.slice A m cap, .int .i64 a, .int .i64 n] w fun e w' => e = .returned (.tuple #[.int .u64 0, .int .i64 6]) ∧ w = w' := by
  have Hs := Lib.hid (isSize_yes n w h1 h2)
  by_cases h0 : a < 0
  · clear h
    go_enter Tryd.func40, Tryd.ntmps40
    go_wp2_with fail
    refine Hs.out.mono ?_
    rintro e1 w1 ⟨rfl, rfl⟩
    go_wp2
    go_ret2
    exact ⟨rfl, rfl⟩
  · have h3 : (m : Int) - n < a := by omega
    clear h
    go_enter Tryd.func40, Tryd.ntmps40
    go_wp2_with fail
    refine Hs.out.mono ?_
    rintro e1 w1 ⟨rfl, rfl⟩
    go_wp2
    go_ret2
    exact ⟨rfl, rfl⟩
theorem refGet_short (A : Option Addr) (m cap : Nat) (a n : Int) (w : World) (h1 : 1 ≤ n) (h2 : n ≤ 8) (hm : m ≤ 9223372036854775807) (h : a < 0 ∨ (m : Int) - n < a) :
    Calls Tryd.prog 21 #[.slice A m cap, .int .i64 a, .int .i64 n] w fun e w' => e = .returned (.tuple #[.int .u64 0, .int .i64 6]) ∧ w = w' := by
  by_cases h0 : a < 0
  · clear h
    go_enter Tryd.func21, Tryd.ntmps21
    go_wp2
    go_ret2
    exact ⟨rfl, rfl⟩
  · by_cases h4 : (m : Int) < a
    · clear h
      go_enter Tryd.func21, Tryd.ntmps21
      go_wp2
      go_ret2
      exact ⟨rfl, rfl⟩
    · have h3 : (m : Int) - a < n := by omega
      clear h
      go_enter Tryd.func21, Tryd.ntmps21
      go_wp2
      go_ret2
      exact ⟨rfl, rfl⟩

theorem add_add (ad : Addr) (i j : Nat) : (ad.add i).add j = ad.add (i + j) := by
  unfold Addr.add
  by_cases hi : i = 0
  · subst hi; simp
  · by_cases hj : j = 0
    · subst hj; simp
    · rw [if_neg hj, if_neg hi, if_neg (by omega)]
      simp only [Nat.add_assoc]

theorem or256 (y x : Nat) (hy : y < 72057594037927936) (hx : x < 256) : bits .or .u64 (IntKind.u64.wrap ((y : Int) * 256)) (x : Int) = ((y * 256 + x : Nat) : Int) := by
  rw [show IntKind.u64.wrap ((y : Int) * 256) = ((y * 256 : Nat) : Int) by rw [IntKind.wrap_u64]; omega, u64_or_nat _ _ (by omega) (by omega), nat_join 8 _ _ (by omega) (by omega)]
theorem pow256 (k : Nat) (h : k ≤ 7) : 256 ^ k ≤ 72057594037927936 := Nat.pow_le_pow_right (n := 256) (by decide) h

set_option maxHeartbeats 1000000 in
theorem get_yes (A : Option Addr) (m cap a n : Nat) (xs : List UInt8) (w : World) (hB : ByteSl w Empty A m cap xs) (h1 : 1 ≤ n) (h2 : n ≤ 8) (hm : m ≤ 1048576) (ha : a + n ≤ m) :
    Calls Tryd.prog 40 #[.slice A m cap, .int .i64 (a : Int), .int .i64 (n : Int)] w fun e w' => e = .returned (.tuple #[.int .u64 (getV ((xs.drop a).take n) : Int), .int .i64 0]) ∧ w = w' := by
  have hc := hB.2.1
  have hc2 := hB.2.2.1
  unfold maxLen at hc2
  obtain ⟨ad, rfl, hbl, -, hcell⟩ := hB.2.2.2 (by omega)
  have Hcell := Lib.hid hcell
  have Hl := Lib.hid hB.1
  have Hs := Lib.hid (isSize_yes n w (by omega) (by omega))
  have h3 : (a : Int) ≤ (m : Int) - (n : Int) := by omega
  clear hcell hB
  go_enter Tryd.func40, Tryd.ntmps40
  go_wp2_with fail
  refine Hs.out.mono ?_
  rintro e1 w1 ⟨rfl, rfl⟩
  go_wp2
  go_loop [8, 31] (fun v i => ∃ k : Nat, k ≤ n ∧ i = .int .i64 (k : Int) ∧ v = .int .u64 (getV (((xs.drop a).take n).take k) : Int)) (fun _ i => n - (intOf i).toNat)
  case atStart => exact ⟨0, Nat.zero_le _, rfl, rfl⟩
  case round =>
    obtain ⟨k, hk, rfl, rfl⟩ := hrel
    by_cases hlt : k < n
    · have hlen := Hl.out
      have hk1 : a + k < xs.length := by omega
      obtain ⟨x, hx⟩ : ∃ x, xs[a + k]? = some x := ⟨_, List.getElem?_eq_getElem hk1⟩
      have hx2 : ((xs.drop a).take n)[k]? = some x := by rw [List.getElem?_take, if_pos hlt, List.getElem?_drop]; exact hx
      have hcl := Hcell.out (a + k) x hx
      rw [← add_add] at hcl
      have hsn := take_one _ k x hx2
      have hb1 := getV_lt (((xs.drop a).take n).take k)
      have hb2 := pow256 k (by omega)
      have hb3 : (((xs.drop a).take n).take k).length = k := by simp; omega
      rw [hb3] at hb1
      have hv : getV (((xs.drop a).take n).take (k + 1)) = getV (((xs.drop a).take n).take k) * 256 + x.toNat := by rw [hsn, getV_snoc]
      unfold B8 at hcl
      have Hv := Lib.hid hv
      have hy : getV (((xs.drop a).take n).take k) < 72057594037927936 := by omega
      clear hsn hb1 hb2 hb3 hv hx hx2 hk1 hlen
      generalize getV (((xs.drop a).take n).take k) = y at Hv hy ⊢
      have hm2 : x.toNat < 256 := x.toNat_lt
      generalize x.toNat = z at hcl Hv hm2
      have hor := or256 y z hy hm2
      clear hy
      go_wp2
      go_round
      case rel => exact ⟨k + 1, by omega, by go_num, by rw [Hv.out]; simp⟩
      case measure => simp [intOf]; omega
    · obtain rfl : k = n := by omega
      go_wp2
      go_ret2
      exact ⟨by rw [List.take_of_length_le (by simp; omega)]; rfl, rfl⟩

set_option maxHeartbeats 1000000 in
theorem refGet_yes (A : Option Addr) (m cap a n : Nat) (xs : List UInt8) (w : World) (hB : ByteSl w Empty A m cap xs) (h1 : 1 ≤ n) (h2 : n ≤ 8) (hm : m ≤ 1048576) (ha : a + n ≤ m) :
    Calls Tryd.prog 21 #[.slice A m cap, .int .i64 (a : Int), .int .i64 (n : Int)] w fun e w' => e = .returned (.tuple #[.int .u64 (getV ((xs.drop a).take n) : Int), .int .i64 0]) ∧ w = w' := by
  have hc := hB.2.1
  have hc2 := hB.2.2.1
  unfold maxLen at hc2
  obtain ⟨ad, rfl, hbl, -, hcell⟩ := hB.2.2.2 (by omega)
  have Hcell := Lib.hid hcell
  have Hl := Lib.hid hB.1
  have h3 : ¬ (m : Int) < (a : Int) := by omega
  have h4 : ¬ (m : Int) - (a : Int) < (n : Int) := by omega
  clear hcell hB
  go_enter Tryd.func21, Tryd.ntmps21
  go_wp2
  go_loop [8, 40] (fun v i => ∃ k : Nat, k ≤ n ∧ i = .int .i64 (k : Int) ∧ v = .int .u64 (getV (((xs.drop a).take n).take k) : Int)) (fun _ i => n - (intOf i).toNat)
  case atStart => exact ⟨0, Nat.zero_le _, rfl, rfl⟩
  case round =>
    obtain ⟨k, hk, rfl, rfl⟩ := hrel
    by_cases hlt : k < n
    · have hlen := Hl.out
      have hk1 : a + k < xs.length := by omega
      obtain ⟨x, hx⟩ : ∃ x, xs[a + k]? = some x := ⟨_, List.getElem?_eq_getElem hk1⟩
      have hx2 : ((xs.drop a).take n)[k]? = some x := by rw [List.getElem?_take, if_pos hlt, List.getElem?_drop]; exact hx
      have hcl := Hcell.out (a + k) x hx
      rw [← add_add] at hcl
      have hsn := take_one _ k x hx2
      have hb1 := getV_lt (((xs.drop a).take n).take k)
      have hb2 := pow256 k (by omega)
      have hb3 : (((xs.drop a).take n).take k).length = k := by simp; omega
      rw [hb3] at hb1
      have hv : getV (((xs.drop a).take n).take (k + 1)) = getV (((xs.drop a).take n).take k) * 256 + x.toNat := by rw [hsn, getV_snoc]
      unfold B8 at hcl
      have Hv := Lib.hid hv
      have hy : getV (((xs.drop a).take n).take k) ≤ 72057594037927935 := by omega
      clear hsn hb1 hb2 hb3 hv hx hx2 hk1 hlen
      generalize getV (((xs.drop a).take n).take k) = y at Hv hy ⊢
      have hm2 : x.toNat ≤ 255 := by have := x.toNat_lt; omega
      generalize x.toNat = z at hcl Hv hm2
      go_wp2
      go_round
      case rel => exact ⟨k + 1, by omega, by go_num, by rw [Hv.out]; simp⟩
      case measure => simp [intOf]; omega
    · obtain rfl : k = n := by omega
      go_wp2
      go_ret2
      exact ⟨by rw [List.take_of_length_le (by simp; omega)]; rfl, rfl⟩

theorem getV_put (v n c : Nat) (hc : c ≤ n) : getV ((putL v n).take c) = v / 2 ^ (8 * (n - c)) % 2 ^ (8 * c) := by
  induction c with
  | zero => simp [getV, Nat.mod_one]
  | succ c ih =>
    rw [putL_next v n c (by omega), getV_snoc, ih (by omega)]
    have e1 : 2 ^ (8 * (n - c)) = 2 ^ (8 * (n - (c + 1))) * 256 := by
      rw [show 8 * (n - c) = 8 * (n - (c + 1)) + 8 by omega, Nat.pow_add]
    have e2 : 2 ^ (8 * (c + 1)) = 256 * 2 ^ (8 * c) := by
      rw [show 8 * (c + 1) = 8 + 8 * c by omega, Nat.pow_add]
    have e3 : (byteOf v (n - 1 - c)).toNat = v / 2 ^ (8 * (n - (c + 1))) % 256 := by
      unfold byteOf
      rw [UInt8.toNat_ofNat', show n - 1 - c = n - (c + 1) by omega]
    rw [e1, e2, e3, ← Nat.div_div_eq_div_mul, Nat.mod_mul]
    omega
theorem getV_putL (v n : Nat) : getV (putL v n) = v % 2 ^ (8 * n) := by
  have h := getV_put v n n (Nat.le_refl _)
  rw [List.take_of_length_le (by rw [putL_len]; omega)] at h
  simpa using h

end Go.Proofs.YtcpcjcbeeeoabaaDoor
