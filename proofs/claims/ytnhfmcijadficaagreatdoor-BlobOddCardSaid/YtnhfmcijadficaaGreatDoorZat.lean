/- What Parse answers of bytes that were made, as plain lists: as they were made; with a header, or a body, of which bits are turned. -/
import Derived.Test.YtnhfmcijadficaaGreatDoorZas
namespace Go.Proofs.YtnhfmcijadficaaGreatDoor
set_option maxRecDepth 100000
open Go.RowKit

/-- A part in the midst of a row. -/
theorem mid_part (ys p m s : List UInt8) (a k : Nat) (h : ys = p ++ m ++ s) (hp : p.length = a) (hm : m.length = k) : (ys.drop a).take k = m := by
  subst h hp hm
  rw [List.append_assoc, List.drop_left, List.take_left]
theorem first_part (ys p s : List UInt8) (a : Nat) (h : ys = p ++ s) (hp : p.length = a) : ys.take a = p := by
  subst h hp
  rw [List.take_left]
theorem at_part (ys p s : List UInt8) (x : UInt8) (a : Nat) (h : ys = p ++ x :: s) (hp : p.length = a) : ys[a]? = some x := by
  subst h hp
  rw [List.getElem?_append_right (Nat.le_refl _)]
  simp

theorem getV_byte (v n m : Nat) (h : v ≤ m) (hm : 2 ^ (8 * n) = m + 1) : getV (putL v n) = v := by
  rw [getV_putL, hm]
  exact Nat.mod_eq_of_lt (by omega)

/-- What a header that was made tells. -/
theorem head_made (k t a b c : Nat) (rest : List UInt8) (hmay : mayB (k : Int) (t : Int) (a : Int) (b : Int) (c : Int) = true) (ht : t ≤ 4294967295) :
    nK (headR k t a b c ++ rest) = k ∧ nT (headR k t a b c ++ rest) = t ∧ nA (headR k t a b c ++ rest) = a ∧ nB (headR k t a b c ++ rest) = b ∧ nC (headR k t a b c ++ rest) = c ∧ hdE (headR k t a b c ++ rest) = 0 := by
  have hf := mayB_iff.1 hmay
  have hk : k ≤ 255 := by omega
  have ha : a ≤ 255 := by omega
  have hb : b ≤ 65535 := by omega
  have hc : c ≤ 255 := by omega
  obtain ⟨S, hS⟩ : ∃ S, S = putL (crc16 (nineB k t a b c)).toNat 2 ++ rest := ⟨_, rfl⟩
  have hy : headR k t a b c ++ rest = nineB k t a b c ++ S := by rw [hS, headR, List.append_assoc]
  have e1 : nK (headR k t a b c ++ rest) = k := by
    unfold nK
    rw [mid_part _ [] (putL k 1) (putL t 4 ++ putL a 1 ++ putL b 2 ++ putL c 1 ++ S) 0 1 (by rw [hy, nineB]; simp [List.append_assoc]) rfl (putL_len _ _)]
    exact getV_byte k 1 255 hk rfl
  have e2 : nT (headR k t a b c ++ rest) = t := by
    unfold nT
    rw [mid_part _ (putL k 1) (putL t 4) (putL a 1 ++ putL b 2 ++ putL c 1 ++ S) 1 4 (by rw [hy, nineB]; simp [List.append_assoc]) (putL_len _ _) (putL_len _ _)]
    exact getV_byte t 4 4294967295 ht rfl
  have e3 : nA (headR k t a b c ++ rest) = a := by
    unfold nA
    rw [mid_part _ (putL k 1 ++ putL t 4) (putL a 1) (putL b 2 ++ putL c 1 ++ S) 5 1 (by rw [hy, nineB]; simp [List.append_assoc]) (by simp [putL_len]) (putL_len _ _)]
    exact getV_byte a 1 255 ha rfl
  have e4 : nB (headR k t a b c ++ rest) = b := by
    unfold nB
    rw [mid_part _ (putL k 1 ++ putL t 4 ++ putL a 1) (putL b 2) (putL c 1 ++ S) 6 2 (by rw [hy, nineB]; simp [List.append_assoc]) (by simp [putL_len]) (putL_len _ _)]
    exact getV_byte b 2 65535 hb rfl
  have e5 : nC (headR k t a b c ++ rest) = c := by
    unfold nC
    rw [mid_part _ (putL k 1 ++ putL t 4 ++ putL a 1 ++ putL b 2) (putL c 1) S 8 1 (by rw [hy, nineB]) (by simp [putL_len]) (putL_len _ _)]
    exact getV_byte c 1 255 hc rfl
  have e6 : nS (headR k t a b c ++ rest) = (crc16 (nineB k t a b c)).toNat := by
    unfold nS
    rw [mid_part _ (nineB k t a b c) (putL (crc16 (nineB k t a b c)).toNat 2) rest 9 2 (by rw [headR]) (nineB_len _ _ _ _ _) (putL_len _ _)]
    exact getV_byte _ 2 65535 (by have := (crc16 (nineB k t a b c)).isLt; omega) rfl
  have e7 : (headR k t a b c ++ rest).take 9 = nineB k t a b c := first_part _ _ S 9 hy (nineB_len _ _ _ _ _)
  have e8 : (headR k t a b c ++ rest)[0]?.getD 255 ≠ 255 := by
    have h0 : (headR k t a b c ++ rest)[0]? = some (byteOf k 0) := by
      rw [hy, nineB]
      simp [putL]
    rw [h0]
    have hb0 : byteOf k 0 = UInt8.ofNat k := by simp [byteOf]
    rw [Option.getD_some, hb0]
    intro e
    have e9 := congrArg UInt8.toNat e
    rw [UInt8.toNat_ofNat'] at e9
    have : (255 : UInt8).toNat = 255 := rfl
    omega
  have e9 : ¬ (headR k t a b c ++ rest).length < 11 := by rw [List.length_append, headR_len]; omega
  refine ⟨e1, e2, e3, e4, e5, ?_⟩
  unfold hdE
  rw [if_neg e8, if_neg e9, e6, e7, if_neg (by simp), e1, e2, e3, e4, e5, if_pos hmay]

/-- What was made is told, whole just if the byte behind it is 0. -/
theorem out_made (k t c : Nat) (key blob : List UInt8) (last : UInt8) (more : List UInt8) (hmay : mayB (k : Int) (t : Int) (key.length : Int) (blob.length : Int) (c : Int) = true) (ht : t ≤ 4294967295) :
    out (recB k t c key blob ++ last :: more) = ⟨k, t, key, blob, c, key.length + blob.length + 16, decide (last = 0), 0⟩ := by
  obtain ⟨R, hR⟩ : ∃ R, R = key ++ blob ++ putL (crc32 (bodyR k t c key blob)).toNat 4 ++ last :: more := ⟨_, rfl⟩
  have hy : recB k t c key blob ++ last :: more = headR k t key.length blob.length c ++ R := by rw [hR, recB, bodyR]; simp only [List.append_assoc]
  obtain ⟨e1, e2, e3, e4, e5, e6⟩ := head_made k t key.length blob.length c R hmay ht
  rw [hy]
  have hlen : ¬ (headR k t key.length blob.length c ++ R).length < szOf (headR k t key.length blob.length c ++ R) := by
    unfold szOf
    rw [e3, e4, ← hy, List.length_append, recB_len, List.length_cons]
    omega
  have hp : pE (headR k t key.length blob.length c ++ R) = 0 := by unfold pE; rw [if_pos e6, if_neg hlen]
  have hbody : (headR k t key.length blob.length c ++ R).take (key.length + blob.length + 11) = bodyR k t c key blob :=
    first_part _ _ (putL (crc32 (bodyR k t c key blob)).toNat 4 ++ last :: more) _ (by rw [← hy, recB, List.append_assoc]) (by rw [bodyR_len]; omega)
  have hsum : sumOk (headR k t key.length blob.length c ++ R) = true := by
    unfold sumOk
    rw [e3, e4, hbody, mid_part _ (bodyR k t c key blob) (putL (crc32 (bodyR k t c key blob)).toNat 4) (last :: more) _ 4 (by rw [← hy, recB]) (by rw [bodyR_len]; omega) (putL_len _ _),
      getV_byte _ 4 4294967295 (by have := (crc32 (bodyR k t c key blob)).isLt; omega) rfl]
    simp
  have hkey : ((headR k t key.length blob.length c ++ R).drop 11).take key.length = key := mid_part _ (headR k t key.length blob.length c) key (blob ++ putL (crc32 (bodyR k t c key blob)).toNat 4 ++ last :: more) 11 _ (by rw [hR]; simp only [List.append_assoc]) (headR_len _ _ _ _ _) rfl
  have hblob : ((headR k t key.length blob.length c ++ R).drop (11 + key.length)).take blob.length = blob := mid_part _ (headR k t key.length blob.length c ++ key) blob (putL (crc32 (bodyR k t c key blob)).toNat 4 ++ last :: more) _ _ (by rw [hR]; simp only [List.append_assoc]) (by rw [List.length_append, headR_len]) rfl
  have hlast : (headR k t key.length blob.length c ++ R)[key.length + blob.length + 15]? = some last := at_part _ (recB k t c key blob) more last _ (by rw [← hy]) (by rw [recB_len]; omega)
  unfold out
  rw [if_pos hp, if_pos hsum, e1, e2, e3, e4, e5, hkey, hblob, hlast]
  unfold szOf
  rw [e3, e4]
  rfl

/-- A header of which bits are turned, so that its sum is another one. -/
theorem out_head_turned (h9 : List UInt8) (v : Nat) (rest : List UInt8) (hl : h9.length = 9) (hv : v ≤ 65535) (hne : (crc16 h9).toNat ≠ v) : (out (h9 ++ (putL v 2 ++ rest))).whole = false ∧ (out (h9 ++ (putL v 2 ++ rest))).e ≠ 0 := by
  have e6 : nS (h9 ++ (putL v 2 ++ rest)) = v := by
    unfold nS
    rw [mid_part _ h9 (putL v 2) rest 9 2 (by rw [List.append_assoc]) hl (putL_len _ _)]
    exact getV_byte _ 2 65535 hv rfl
  have e7 : (h9 ++ (putL v 2 ++ rest)).take 9 = h9 := first_part _ _ _ 9 rfl hl
  have h0 : hdE (h9 ++ (putL v 2 ++ rest)) ≠ 0 := by
    unfold hdE
    by_cases c1 : (h9 ++ (putL v 2 ++ rest))[0]?.getD 255 = 255
    · rw [if_pos c1]; decide
    · rw [if_neg c1]
      by_cases c2 : (h9 ++ (putL v 2 ++ rest)).length < 11
      · rw [if_pos c2]; decide
      · rw [if_neg c2, e6, e7, if_pos (fun e => hne e.symm)]; decide
  have hp : pE (h9 ++ (putL v 2 ++ rest)) = hdE (h9 ++ (putL v 2 ++ rest)) := by unfold pE; rw [if_neg h0]
  unfold out
  rw [hp, if_neg h0]
  exact ⟨rfl, h0⟩

/-- A body of which bits are turned, so that the record's sum is another one. -/
theorem out_body_turned (k t a b c v : Nat) (mid : List UInt8) (hmay : mayB (k : Int) (t : Int) (a : Int) (b : Int) (c : Int) = true) (ht : t ≤ 4294967295) (hl : mid.length = a + b) (hv : v ≤ 4294967295) (hne : (crc32 (headR k t a b c ++ mid)).toNat ≠ v) :
    (out (headR k t a b c ++ (mid ++ (putL v 4 ++ [0])))).whole = false := by
  obtain ⟨e1, e2, e3, e4, e5, e6⟩ := head_made k t a b c (mid ++ (putL v 4 ++ [0])) hmay ht
  have hsum : sumOk (headR k t a b c ++ (mid ++ (putL v 4 ++ [0]))) = false := by
    unfold sumOk
    have h1 : (headR k t a b c ++ (mid ++ (putL v 4 ++ [0]))).take (a + b + 11) = headR k t a b c ++ mid := first_part _ _ (putL v 4 ++ [0]) _ (by simp only [List.append_assoc]) (by rw [List.length_append, headR_len]; omega)
    have h2 : ((headR k t a b c ++ (mid ++ (putL v 4 ++ [0]))).drop (a + b + 11)).take 4 = putL v 4 := mid_part _ (headR k t a b c ++ mid) (putL v 4) [0] _ 4 (by simp only [List.append_assoc]) (by rw [List.length_append, headR_len]; omega) (putL_len _ _)
    rw [e3, e4, h1, h2, getV_byte _ 4 4294967295 hv rfl]
    simp only [decide_eq_false_iff_not]
    exact fun e => hne e.symm
  unfold out
  rw [hsum]
  split <;> rfl

end Go.Proofs.YtnhfmcijadficaaGreatDoor

/- What is found of records that were laid one behind the other, as plain data. -/
namespace Go.Proofs.YtnhfmcijadficaaGreatDoor
set_option maxRecDepth 100000
open Go.RowKit

/-- A record that may be laid, as plain data. -/
structure RN where
  k : Nat
  t : Nat
  c : Nat
  key : List UInt8
  blob : List UInt8
def RN.may (r : RN) : Prop := mayB (r.k : Int) (r.t : Int) (r.key.length : Int) (r.blob.length : Int) (r.c : Int) = true ∧ r.t ≤ 4294967295
/-- Its bytes, whole. -/
def RN.bytes (r : RN) : List UInt8 := recB r.k r.t r.c r.key r.blob ++ [0]
def RN.fd (r : RN) (pl : Nat) : FD := ⟨pl, r.k, r.t, r.key, r.blob, r.c⟩
theorem RN.len (r : RN) : r.bytes.length = 16 + r.key.length + r.blob.length := by
  simp only [RN.bytes, List.length_append, recB_len, List.length_cons, List.length_nil]
  omega
def laid (rs : List RN) : List UInt8 := rs.flatMap RN.bytes
def fds : Nat → List RN → List FD
  | _, [] => []
  | pl, r :: rs => r.fd pl :: fds (pl + r.bytes.length) rs

theorem laid_cons (r : RN) (rs : List RN) : laid (r :: rs) = r.bytes ++ laid rs := by simp [laid]
theorem laid_append (rs qs : List RN) : laid (rs ++ qs) = laid rs ++ laid qs := by simp [laid]
theorem fds_append : ∀ (rs qs : List RN) (pl : Nat), fds pl (rs ++ qs) = fds pl rs ++ fds (pl + (laid rs).length) qs
  | [], qs, pl => rfl
  | r :: rs, qs, pl => by
    rw [List.cons_append, fds, fds, fds_append rs qs, laid_cons, List.length_append, List.cons_append, Nat.add_assoc]

theorem runs_recs {xs : List UInt8} {en : Nat} (hE : IsEnd xs en) : ∀ (rs : List RN) (pl : Nat) (cl : Bool) (tail : List UInt8) (l : List FD) (to : Nat) (c : Bool), (∀ r ∈ rs, r.may) → xs.drop pl = laid rs ++ tail →
    Runs xs en (pl + (laid rs).length) cl l to c → Runs xs en pl cl (fds pl rs ++ l) to c
  | [], pl, cl, tail, l, to, c, _, _, h => h
  | r :: rs, pl, cl, tail, l, to, c, hmay, hx, h => by
    have hr := hmay r (by simp)
    have hx2 : xs.drop pl = recB r.k r.t r.c r.key r.blob ++ 0 :: (laid rs ++ tail) := by
      rw [hx, laid_cons, RN.bytes]
      simp only [List.append_assoc, List.cons_append, List.nil_append]
    have ho := out_made r.k r.t r.c r.key r.blob 0 (laid rs ++ tail) hr.1 hr.2
    rw [← hx2] at ho
    have hlen := congrArg List.length hx2
    rw [List.length_drop, List.length_append, recB_len, List.length_cons] at hlen
    have h0 : xs[pl + (15 + r.key.length + r.blob.length)]? = some 0 := by
      rw [← List.getElem?_drop, hx2, List.getElem?_append_right (by rw [recB_len]; omega), recB_len]
      simp
    have hlt : pl + (15 + r.key.length + r.blob.length) < en := by
      rcases Nat.lt_or_ge (pl + (15 + r.key.length + r.blob.length)) en with h1 | h1
      · exact h1
      · have h2 := hE.blank _ h1 (by omega)
        rw [h0] at h2
        cases h2
    have hsz : pl + (out (xs.drop pl)).size = pl + r.bytes.length := by rw [ho, RN.len]; simp only; omega
    have hrest : xs.drop (pl + r.bytes.length) = laid rs ++ tail := by
      rw [← List.drop_drop, hx, laid_cons, List.append_assoc, List.drop_left]
    have hgo := runs_recs hE rs (pl + r.bytes.length) cl tail l to c (fun q hq => hmay q (by simp [hq])) hrest (by
      rw [laid_cons, List.length_append, ← Nat.add_assoc] at h
      exact h)
    have hw : (out (xs.drop pl)).whole = true := by rw [ho]; rfl
    have he : (out (xs.drop pl)).e = 0 := by rw [ho]
    have hfd : fdOf pl (out (xs.drop pl)) = r.fd pl := by rw [ho]; rfl
    have := Runs.go (xs := xs) (en := en) pl cl (fds (pl + r.bytes.length) rs ++ l) to c (by omega) he (by rw [hsz, hw]; simpa using hgo)
    rw [hw, if_pos rfl, hfd] at this
    exact this

theorem end_le {xs : List UInt8} {en Q : Nat} (hE : IsEnd xs en) (h : ∀ j, Q ≤ j → j < xs.length → xs[j]? = some 255) : en ≤ Q := by
  rcases Nat.lt_or_ge Q en with h1 | h1
  · have hl := hE.le
    exact absurd rfl (hE.last (by omega) 255 (h (en - 1) (by omega) (by omega)))
  · exact h1

/-- Of records that were laid one behind the other, with nothing but 255 behind them. -/
theorem runs_whole (h12 : List UInt8) (rs : List RN) (m en : Nat) (hl : h12.length = 12) (hmay : ∀ r ∈ rs, r.may) (hE : IsEnd (h12 ++ (laid rs ++ List.replicate m 255)) en) :
    Runs (h12 ++ (laid rs ++ List.replicate m 255)) en 12 false (fds 12 rs) (12 + (laid rs).length) false := by
  have hd : (h12 ++ (laid rs ++ List.replicate m 255)).drop 12 = laid rs ++ List.replicate m 255 := by rw [← hl, List.drop_left]
  have h := runs_recs hE rs 12 false (List.replicate m 255) [] (12 + (laid rs).length) false hmay hd (.stop _ _ (end_le hE (fun j h1 h2 => by
    rw [List.length_append, List.length_append, List.length_replicate, hl] at h2
    rw [List.getElem?_append_right (by omega), List.getElem?_append_right (by omega), hl, List.getElem?_replicate, if_pos (by omega)])))
  rw [List.append_nil] at h
  exact h

end Go.Proofs.YtnhfmcijadficaaGreatDoor
