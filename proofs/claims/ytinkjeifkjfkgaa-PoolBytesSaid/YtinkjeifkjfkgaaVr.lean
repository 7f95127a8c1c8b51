/- A pool's bytes read, as plain functions of the bytes: number, text, constant, places. Nothing of the program. -/
import Derived.Test.YtinkjeifkjfkgaaVl
import Derived.Test.YtinkjeifkjfkgaaNh
namespace Go.Proofs.Ytinkjeifkjfkgaa
set_option maxRecDepth 100000
open Go.RowKit

/-- Where a reader stands, and its fault. -/
structure RS where
  at_ : Nat
  fault : Int
def RS.refuse (s : RS) (e : Int) : RS := if s.fault = 0 then ⟨s.at_, e⟩ else s
def numR (bs : List UInt8) (s : RS) (k : Nat) : Nat × RS :=
  if s.fault ≠ 0 then (0, s) else if s.at_ + k ≤ bs.length then (getV ((bs.drop s.at_).take k), ⟨s.at_ + k, 0⟩) else (0, ⟨s.at_, 6⟩)
def textR (bs : List UInt8) (s : RS) : List UInt8 × RS :=
  let r := numR bs s 2
  let s2 := if (bs.length : Int) - r.2.at_ < r.1 then r.2.refuse 6 else r.2
  if s2.fault ≠ 0 then ([], s2) else ((bs.drop s2.at_).take r.1, ⟨s2.at_ + r.1, 0⟩)
def optR (bs : List UInt8) (s : RS) (on : Bool) (k : Nat) : Nat × RS := if on = true then numR bs s k else (0, s)
def constR (bs : List UInt8) (s : RS) : Cst × RS :=
  let r0 := numR bs s 1
  let f := formF (r0.1 : Int)
  let s1 := if f = noFrm then r0.2.refuse 8 else r0.2
  let r1 := if f.text = true then textR bs s1 else ([], s1)
  let r2 := optR bs r1.2 (f.num != 0) f.num.toNat
  let r3 := optR bs r2.2 (f.a != 0) 2
  let r4 := optR bs r3.2 (f.b != 0) 2
  (⟨(r0.1 : Int), (r3.1 : Int), (r4.1 : Int), if f.num = 0 then 0 else sgn r2.1 f.num.toNat, r1.1⟩, r4.2)
/-- A constant's places. -/
def withSecond (c : Cst) : List Cst := if c.tag = 5 then [c, zeroC] else [c]
/-- The loop over a pool's places: from so many on, at most k rounds. -/
def placesR (bs : List UInt8) (n : Nat) : Nat → RS → List Cst → List Cst × RS
  | 0, s, l => (l, s)
  | k + 1, s, l => if s.fault = 0 ∧ l.length < n then placesR bs n k (constR bs s).2 (l ++ withSecond (constR bs s).1) else (l, s)
def countR (bs : List UInt8) : Nat × RS :=
  let r := numR bs ⟨0, 0⟩ 2
  (r.1, if 1 ≤ r.1 ∧ r.1 ≤ 1024 then r.2 else r.2.refuse 8)
noncomputable def parseR (bs : List UInt8) : List Cst × RS :=
  let c := countR bs
  let p := placesR bs c.1 c.1 c.2 [zeroC]
  let s := if c.1 < p.1.length then p.2.refuse 8 else p.2
  (p.1, if s.fault = 0 then ⟨s.at_, checkC p.1⟩ else s)

theorem withSecond_len (c : Cst) : 1 ≤ (withSecond c).length ∧ (withSecond c).length ≤ 2 := by
  unfold withSecond
  split <;> simp

theorem numR_ok (bs : List UInt8) (s : RS) (k : Nat) (h : s.at_ ≤ bs.length) : (numR bs s k).2.at_ ≤ bs.length := by
  unfold numR
  by_cases h0 : s.fault ≠ 0
  · rw [if_pos h0]; exact h
  · rw [if_neg h0]
    by_cases h1 : s.at_ + k ≤ bs.length
    · rw [if_pos h1]; exact h1
    · rw [if_neg h1]; exact h
theorem refuse_at (s : RS) (e : Int) : (s.refuse e).at_ = s.at_ := by unfold RS.refuse; split <;> rfl
theorem textR_ok (bs : List UInt8) (s : RS) (h : s.at_ ≤ bs.length) : (textR bs s).2.at_ ≤ bs.length := by
  have h1 := numR_ok bs s 2 h
  unfold textR
  simp only
  generalize numR bs s 2 = r at h1
  by_cases hlt : (bs.length : Int) - r.2.at_ < r.1
  · rw [if_pos hlt]
    by_cases hf : (r.2.refuse 6).fault ≠ 0
    · rw [if_pos hf, refuse_at]; exact h1
    · rw [if_neg hf]
      exfalso
      apply hf
      unfold RS.refuse
      by_cases h0 : r.2.fault = 0
      · rw [if_pos h0]; exact (by decide : (6 : Int) ≠ 0)
      · rw [if_neg h0]; exact h0
  · rw [if_neg hlt]
    by_cases hf : r.2.fault ≠ 0
    · rw [if_pos hf]; exact h1
    · rw [if_neg hf]
      show r.2.at_ + r.1 ≤ bs.length
      omega
theorem optR_ok (bs : List UInt8) (s : RS) (on : Bool) (k : Nat) (h : s.at_ ≤ bs.length) : (optR bs s on k).2.at_ ≤ bs.length := by
  unfold optR
  split
  · exact numR_ok bs s k h
  · exact h
theorem constR_ok (bs : List UInt8) (s : RS) (h : s.at_ ≤ bs.length) : (constR bs s).2.at_ ≤ bs.length := by
  unfold constR
  simp only
  apply optR_ok
  apply optR_ok
  apply optR_ok
  have h1 := numR_ok bs s 1 h
  generalize numR bs s 1 = r at h1
  have h2 : (if formF (r.1 : Int) = noFrm then r.2.refuse 8 else r.2).at_ ≤ bs.length := by
    split
    · rw [refuse_at]; exact h1
    · exact h1
  split
  · exact textR_ok bs _ h2
  · exact h2
theorem numR_lt (bs : List UInt8) (s : RS) (k : Nat) : (numR bs s k).1 < 256 ^ k := by
  unfold numR
  by_cases h0 : s.fault ≠ 0
  · rw [if_pos h0]; exact Nat.pow_pos (by decide)
  · rw [if_neg h0]
    by_cases h1 : s.at_ + k ≤ bs.length
    · rw [if_pos h1]
      have := getV_lt ((bs.drop s.at_).take k)
      rw [List.length_take, List.length_drop, Nat.min_eq_left (by omega)] at this
      exact this
    · rw [if_neg h1]; exact Nat.pow_pos (by decide)

/-! ### What was written is read -/
theorem numR_put' (bs : List UInt8) (a v k : Nat) (r : List UInt8) (hd : bs.drop a = putL v k ++ r) (hk : 1 ≤ k) : numR bs ⟨a, 0⟩ k = (v % 2 ^ (8 * k), ⟨a + k, 0⟩) := by
  have hlen : a + k ≤ bs.length := by
    have := congrArg List.length hd
    rw [List.length_drop, List.length_append, putL_len] at this
    omega
  unfold numR
  rw [if_neg (by simp), if_pos hlen]
  simp only
  rw [hd, List.take_append_of_le_length (by rw [putL_len]; exact Nat.le_refl _), List.take_of_length_le (by rw [putL_len]; exact Nat.le_refl _), getV_putL]
theorem sgn_mod (v n : Nat) : sgn (v % 2 ^ (8 * n)) n = sgn v n := by
  unfold sgn
  rw [Nat.mod_mod]
theorem numR_put (bs : List UInt8) (a v k : Nat) (r : List UInt8) (hd : bs.drop a = putL v k ++ r) (hk : 1 ≤ k) (hv : v < 2 ^ (8 * k)) : numR bs ⟨a, 0⟩ k = (v, ⟨a + k, 0⟩) := by
  have h := numR_put' bs a v k r hd hk
  rwa [Nat.mod_eq_of_lt hv] at h
theorem drop_next (bs : List UInt8) (a : Nat) (x r : List UInt8) (n : Nat) (hn : x.length = n) (hd : bs.drop a = x ++ r) : bs.drop (a + n) = r := by
  rw [← List.drop_drop, hd, List.drop_append_of_le_length (by omega), List.drop_of_length_le (by omega), List.nil_append]
theorem textR_put (bs : List UInt8) (a : Nat) (t r : List UInt8) (hd : bs.drop a = putL t.length 2 ++ (t ++ r)) (ht : t.length ≤ 65535) : textR bs ⟨a, 0⟩ = (t, ⟨a + 2 + t.length, 0⟩) := by
  have h1 := numR_put bs a t.length 2 _ hd (by omega) (by omega)
  have h2 := drop_next bs a _ _ 2 (putL_len _ _) hd
  have hlen : a + 2 + t.length ≤ bs.length := by
    have := congrArg List.length h2
    rw [List.length_drop, List.length_append] at this
    by_cases h0 : t.length = 0
    · have := congrArg List.length hd
      rw [List.length_drop, List.length_append, putL_len] at this
      omega
    · omega
  unfold textR
  rw [h1]
  simp only
  rw [if_neg (show ¬ (bs.length : Int) - ((a + 2 : Nat) : Int) < (t.length : Int) by omega), if_neg (by simp)]
  simp only
  rw [h2, List.take_append_of_le_length (Nat.le_refl _), List.take_length]

/-- May a constant with a tag be, so that it is read as it was written? -/
structure Fit (c : Cst) : Prop where
  form : formF c.tag ≠ noFrm
  part : c = partF (formF c.tag) c
  text : c.s.length ≤ 65535
  a : 0 ≤ c.a ∧ c.a ≤ 65535
  b : 0 ≤ c.b ∧ c.b ≤ 65535
theorem u64_small (x : Int) (h : 0 ≤ x ∧ x ≤ 65535) : ((bits64 x : Nat) : Int) = x ∧ bits64 x < 65536 := by unfold bits64; omega
theorem constR_put (bs : List UInt8) (a : Nat) (c : Cst) (r : List UInt8) (hc : Fit c) (hd : bs.drop a = constB c ++ r) : constR bs ⟨a, 0⟩ = (c, ⟨a + (constB c).length, 0⟩) := by
  have hp := hc.part
  have hf := hc.form
  have hA := u64_small c.a hc.a
  have hB := u64_small c.b hc.b
  have hT := hc.text
  obtain ⟨t, ca, cb, cn, cs⟩ := c
  unfold constB at hd ⊢
  simp only at hd hp hf hA hB hT ⊢
  have ht : t = 1 ∨ t = 3 ∨ t = 5 ∨ t = 7 ∨ t = 8 ∨ t = 9 ∨ t = 10 ∨ t = 12 := by
    rcases tag_ways t with h | h | h | h | h | h | h | h | h
    iterate 8 simp [h]
    exact absurd (formF_no h) hf
  have htag : bits64 t < 2 ^ (8 * 1) ∧ ((bits64 t : Nat) : Int) = t := by
    rcases ht with rfl | rfl | rfl | rfl | rfl | rfl | rfl | rfl <;> exact ⟨by decide, rfl⟩
  simp only [List.append_assoc] at hd
  have h1 := numR_put bs a (bits64 t) 1 _ hd (by omega) htag.1
  have d1 := drop_next bs a _ _ 1 (putL_len _ _) hd
  unfold constR
  rw [h1]
  simp only [htag.2]
  rw [if_neg hf]
  rcases ht with rfl | rfl | rfl | rfl | rfl | rfl | rfl | rfl
  · simp [formF] at d1
    have h2 := textR_put bs (a + 1) cs r d1 hT
    simp [formF, optR, h2, putL_len]
    simp [formF, partF] at hp
    exact ⟨⟨hp.1.symm, hp.2.1.symm, hp.2.2.symm⟩, by omega⟩
  · simp [formF] at d1
    have h2 := numR_put' bs (a + 1) (bits64 cn) 4 r d1 (by omega)
    simp only [formF, optR]
    simp [h2, putL_len]
    simp [formF, partF] at hp
    have h3 := sgn_mod (bits64 cn) 4
    simp at h3
    exact ⟨hp.1.symm, hp.2.1.symm, by rw [h3]; exact hp.2.2.1.symm, hp.2.2.2⟩
  · simp [formF] at d1
    have h2 := numR_put' bs (a + 1) (bits64 cn) 8 r d1 (by omega)
    simp only [formF, optR]
    simp [h2, putL_len]
    simp [formF, partF] at hp
    have h3 := sgn_mod (bits64 cn) 8
    simp at h3
    exact ⟨hp.1.symm, hp.2.1.symm, by rw [h3]; exact hp.2.2.1.symm, hp.2.2.2⟩
  · simp [formF] at d1
    have h2 := numR_put bs (a + 1) (bits64 ca) 2 r d1 (by omega) (by have := hA.2; omega)
    simp [formF, optR, h2, putL_len, hA.1]
    simp [formF, partF] at hp
    exact ⟨hp.1.symm, hp.2.1.symm, hp.2.2⟩
  · simp [formF] at d1
    have h2 := numR_put bs (a + 1) (bits64 ca) 2 r d1 (by omega) (by have := hA.2; omega)
    simp [formF, optR, h2, putL_len, hA.1]
    simp [formF, partF] at hp
    exact ⟨hp.1.symm, hp.2.1.symm, hp.2.2⟩
  · simp [formF] at d1
    have h2 := numR_put bs (a + 1) (bits64 ca) 2 _ d1 (by omega) (by have := hA.2; omega)
    have d2 := drop_next bs (a + 1) _ _ 2 (putL_len _ _) d1
    have h3 := numR_put bs (a + 1 + 2) (bits64 cb) 2 r d2 (by omega) (by have := hB.2; omega)
    simp [formF, optR, h2, h3, putL_len, hA.1, hB.1]
    simp [formF, partF] at hp
    exact ⟨hp.1.symm, hp.2⟩
  · simp [formF] at d1
    have h2 := numR_put bs (a + 1) (bits64 ca) 2 _ d1 (by omega) (by have := hA.2; omega)
    have d2 := drop_next bs (a + 1) _ _ 2 (putL_len _ _) d1
    have h3 := numR_put bs (a + 1 + 2) (bits64 cb) 2 r d2 (by omega) (by have := hB.2; omega)
    simp [formF, optR, h2, h3, putL_len, hA.1, hB.1]
    simp [formF, partF] at hp
    exact ⟨hp.1.symm, hp.2⟩
  · simp [formF] at d1
    have h2 := numR_put bs (a + 1) (bits64 ca) 2 _ d1 (by omega) (by have := hA.2; omega)
    have d2 := drop_next bs (a + 1) _ _ 2 (putL_len _ _) d1
    have h3 := numR_put bs (a + 1 + 2) (bits64 cb) 2 r d2 (by omega) (by have := hB.2; omega)
    simp [formF, optR, h2, h3, putL_len, hA.1, hB.1]
    simp [formF, partF] at hp
    exact ⟨hp.1.symm, hp.2⟩

end Go.Proofs.Ytinkjeifkjfkgaa
