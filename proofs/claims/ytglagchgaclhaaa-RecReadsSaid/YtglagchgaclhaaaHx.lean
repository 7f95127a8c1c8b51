/- That the document's way to tell whether a record has its sum is the program's, as plain lists. -/
import Derived.Test.YtglagchgaclhaaaHl
namespace Go.Proofs.Ytglagchgaclhaaa
open Go.RowKit

theorem putL_next_byte (v n : Nat) (x : UInt8) : putL (v * 256 + x.toNat) (n + 1) = putL v n ++ [x] := by
  have hx := x.toNat_lt
  unfold putL
  rw [List.range_succ, List.map_append]
  congr 1
  · apply List.map_congr_left
    intro j hj
    have hj := List.mem_range.1 hj
    unfold byteOf
    have e : 8 * (n + 1 - 1 - j) = 8 + 8 * (n - 1 - j) := by omega
    rw [e, Nat.pow_add, ← Nat.div_div_eq_div_mul]
    congr 2
    omega
  · simp only [List.map_cons, List.map_nil, byteOf]
    congr 1
    apply UInt8.toNat_inj.1
    rw [UInt8.toNat_ofNat']
    simp
theorem putL_of_getV : ∀ (n : Nat) (xs : List UInt8), xs.length = n → putL (getV xs) n = xs
  | 0, xs, h => by rw [List.eq_nil_of_length_eq_zero h]; rfl
  | n + 1, xs, h => by
    rcases List.eq_nil_or_concat xs with rfl | ⟨ys, y, rfl⟩
    · simp at h
    · rw [List.concat_eq_append] at h ⊢
      rw [getV_snoc, putL_next_byte, putL_of_getV n ys (by simpa using h)]
theorem putL_part (xs : List UInt8) (a k : Nat) (h : a + k ≤ xs.length) : putL (getV ((xs.drop a).take k)) k = (xs.drop a).take k := putL_of_getV k _ (by rw [List.length_take, List.length_drop]; omega)

/-- The nine bytes that tell a header are the header's. -/
theorem nine_back (xs : List UInt8) (h : 9 ≤ xs.length) : nineB (nK xs) (nT xs) (nA xs) (nB xs) (nC xs) = xs.take 9 := by
  unfold nineB nK nT nA nB nC
  rw [putL_part xs 0 1 (by omega), putL_part xs 1 4 (by omega), putL_part xs 5 1 (by omega), putL_part xs 6 2 (by omega), putL_part xs 8 1 (by omega), List.drop_zero,
    show (9 : Nat) = 1 + 4 + 1 + 2 + 1 by rfl, List.take_add, List.take_add, List.take_add, List.take_add]
theorem head_back (xs : List UInt8) (h : 11 ≤ xs.length) (hs : nS xs = (crc16 (xs.take 9)).toNat) : headR (nK xs) (nT xs) (nA xs) (nB xs) (nC xs) = xs.take 11 := by
  unfold headR
  rw [nine_back xs (by omega), ← hs, nS, putL_part xs 9 2 (by omega), show (11 : Nat) = 9 + 2 by rfl, List.take_add]
theorem body_back (xs : List UInt8) (h : nA xs + nB xs + 11 ≤ xs.length) (hs : nS xs = (crc16 (xs.take 9)).toNat) :
    bodyR (nK xs) (nT xs) (nC xs) ((xs.drop 11).take (nA xs)) ((xs.drop (11 + nA xs)).take (nB xs)) = xs.take (nA xs + nB xs + 11) := by
  unfold bodyR
  rw [show ((xs.drop 11).take (nA xs)).length = nA xs by rw [List.length_take, List.length_drop]; omega, show ((xs.drop (11 + nA xs)).take (nB xs)).length = nB xs by rw [List.length_take, List.length_drop]; omega,
    head_back xs (by omega) hs, show nA xs + nB xs + 11 = 11 + nA xs + nB xs by omega, List.take_add, List.take_add]
theorem rec_iff (xs : List UInt8) (h : nA xs + nB xs + 15 ≤ xs.length) (hs : nS xs = (crc16 (xs.take 9)).toNat) :
    recB (nK xs) (nT xs) (nC xs) ((xs.drop 11).take (nA xs)) ((xs.drop (11 + nA xs)).take (nB xs)) = xs.take (nA xs + nB xs + 15) ↔ sumOk xs = true := by
  unfold recB sumOk
  rw [body_back xs (by omega) hs]
  obtain ⟨q, hq⟩ : ∃ q, q = nA xs + nB xs + 11 := ⟨_, rfl⟩
  have h15 : xs.take (nA xs + nB xs + 15) = xs.take q ++ (xs.drop q).take 4 := by rw [show nA xs + nB xs + 15 = q + 4 by omega, List.take_add]
  rw [h15, ← hq, List.append_cancel_left_eq]
  have hc := (crc32 (xs.take q)).isLt
  rw [decide_eq_true_iff]
  constructor
  · intro h
    rw [← h]
    exact getV_byte _ 4 4294967295 (by omega) rfl
  · intro e
    rw [← e]
    exact putL_part xs _ 4 (by omega)

end Go.Proofs.Ytglagchgaclhaaa
