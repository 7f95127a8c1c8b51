/- The sums as plain mathematics: what one bit does to a sum, that it is linear and one to one, what a turned bit does to the sum of bytes. Nothing of the program. -/
namespace Go.Proofs.YtidbipbangifbaaGreatDoor
set_option maxRecDepth 100000

/-- Doubled; combined where a bit falls out. -/
def d16 (s : BitVec 16) : BitVec 16 := (s <<< 1) ^^^ (if s.msb then 0x1021#16 else 0#16)
/-- Halved; combined where a bit falls out. -/
def d32 (s : BitVec 32) : BitVec 32 := (s >>> 1) ^^^ (if s.getLsbD 0 then 0x82f63b78#32 else 0#32)

/-- f done n times. -/
def reps {n : Nat} (f : BitVec n → BitVec n) : Nat → BitVec n → BitVec n
  | 0, s => s
  | k + 1, s => reps f k (f s)

section
variable {n : Nat} (f : BitVec n → BitVec n)
theorem reps_add (a b : Nat) (s : BitVec n) : reps f (a + b) s = reps f b (reps f a s) := by
  induction a generalizing s with
  | zero => simp [reps]
  | succ a ih => rw [show a + 1 + b = (a + b) + 1 by omega]; exact ih (f s)
theorem reps_succ (a : Nat) (s : BitVec n) : reps f (a + 1) s = f (reps f a s) := by rw [reps_add]; rfl
theorem reps_lin (hf : ∀ a b, f (a ^^^ b) = f a ^^^ f b) (k : Nat) (a b : BitVec n) : reps f k (a ^^^ b) = reps f k a ^^^ reps f k b := by
  induction k generalizing a b with
  | zero => rfl
  | succ k ih => show reps f k (f (a ^^^ b)) = _; rw [hf, ih]; rfl
theorem reps_zero (h0 : ∀ a, f a = 0#n ↔ a = 0#n) (k : Nat) (a : BitVec n) : reps f k a = 0#n ↔ a = 0#n := by
  induction k generalizing a with
  | zero => exact Iff.rfl
  | succ k ih => show reps f k (f a) = 0#n ↔ _; rw [ih, h0]
end

theorem xor_back {n : Nat} (p x : BitVec n) : p ^^^ (p ^^^ x) = x := by rw [← BitVec.xor_assoc, BitVec.xor_self, BitVec.zero_xor]

theorem d16_lin (a b : BitVec 16) : d16 (a ^^^ b) = d16 a ^^^ d16 b := by
  unfold d16
  rw [BitVec.shiftLeft_xor_distrib, BitVec.msb_xor]
  cases a.msb <;> cases b.msb <;> simp <;> first | ac_rfl | (rw [show a <<< 1 ^^^ 4129#16 ^^^ (b <<< 1 ^^^ 4129#16) = 4129#16 ^^^ (4129#16 ^^^ (a <<< 1 ^^^ b <<< 1)) by ac_rfl, xor_back])
theorem d32_lin (a b : BitVec 32) : d32 (a ^^^ b) = d32 a ^^^ d32 b := by
  unfold d32
  rw [BitVec.ushiftRight_xor_distrib, BitVec.getLsbD_xor]
  cases a.getLsbD 0 <;> cases b.getLsbD 0 <;> simp <;> first | ac_rfl | (rw [show a >>> 1 ^^^ 2197175160#32 ^^^ (b >>> 1 ^^^ 2197175160#32) = 2197175160#32 ^^^ (2197175160#32 ^^^ (a >>> 1 ^^^ b >>> 1)) by ac_rfl, xor_back])

theorem xor_eq_zero {n : Nat} (a b : BitVec n) : a ^^^ b = 0#n ↔ a = b := by
  constructor
  · intro h
    have e : (a ^^^ b) ^^^ b = 0#n ^^^ b := by rw [h]
    rwa [BitVec.xor_assoc, BitVec.xor_self, BitVec.xor_zero, BitVec.zero_xor] at e
  · rintro rfl; exact BitVec.xor_self

theorem d16_zero (a : BitVec 16) : d16 a = 0#16 ↔ a = 0#16 := by
  constructor
  · intro h
    unfold d16 at h
    cases hm : a.msb with
    | true =>
      rw [hm, if_pos rfl] at h
      have h0 := congrArg (fun v => v.getLsbD 0) h
      simp at h0
    | false =>
      rw [hm] at h
      simp at h
      apply BitVec.eq_of_getLsbD_eq
      intro i hi
      by_cases h15 : i = 15
      · subst h15
        rw [BitVec.msb_eq_getLsbD_last] at hm
        simpa using hm
      · have h1 := congrArg (fun v => v.getLsbD (i + 1)) h
        simp at h1
        simpa using h1 (by omega)
  · rintro rfl; decide
theorem d32_zero (a : BitVec 32) : d32 a = 0#32 ↔ a = 0#32 := by
  constructor
  · intro h
    unfold d32 at h
    cases hm : a.getLsbD 0 with
    | true =>
      rw [hm, if_pos rfl] at h
      have h0 := congrArg (fun v => v.getLsbD 31) h
      simp at h0
    | false =>
      rw [hm] at h
      simp at h
      apply BitVec.eq_of_getLsbD_eq
      intro i hi
      cases i with
      | zero => simpa using hm
      | succ j =>
        have h1 := congrArg (fun v => v.getLsbD j) h
        simp at h1
        rw [Nat.add_comm] at h1
        simpa using h1
  · rintro rfl; decide

/-- The bits in the order in which they come. -/
def u16 (j : Nat) : BitVec 16 := 0x8000#16 >>> j
def u32 (j : Nat) : BitVec 32 := 1#32 <<< j

theorem d16_u : ∀ j, j < 15 → d16 (u16 (j + 1)) = u16 j := by decide
theorem d32_u : ∀ j, j < 31 → d32 (u32 (j + 1)) = u32 j := by decide

/-- A sum's ways: what one bit does (f), where a byte's bits come in (emb), the bits in their order (u), and a byte with but one bit (bit). -/
structure Way (n : Nat) where
  f : BitVec n → BitVec n
  emb : UInt8 → BitVec n
  u : Nat → BitVec n
  lane : Nat → Nat
  bit : Nat → UInt8
  lin : ∀ a b, f (a ^^^ b) = f a ^^^ f b
  zero : ∀ a, f a = 0#n ↔ a = 0#n
  elin : ∀ a b, emb (a ^^^ b) = emb a ^^^ emb b
  hu : ∀ j, j + 1 < n → f (u (j + 1)) = u j
  hl : ∀ j, j < n → ∀ k, k < n → (u j).getLsbD (lane k) = decide (j = k)
  hb : ∀ j, j < 8 → emb (bit j) = u j
  hn : 8 ≤ n

namespace Way
variable {n : Nat} (c : Way n)
/-- What one byte does. -/
def byte (s : BitVec n) (x : UInt8) : BitVec n := reps c.f 8 (s ^^^ c.emb x)
/-- What bytes do. -/
def sum (s : BitVec n) (xs : List UInt8) : BitVec n := xs.foldl c.byte s
theorem sum_nil (s : BitVec n) : c.sum s [] = s := rfl
theorem sum_cons (s : BitVec n) (x : UInt8) (xs : List UInt8) : c.sum s (x :: xs) = c.sum (c.byte s x) xs := rfl
theorem sum_append (s : BitVec n) (xs ys : List UInt8) : c.sum s (xs ++ ys) = c.sum (c.sum s xs) ys := by simp [sum, List.foldl_append]
theorem sum_snoc (s : BitVec n) (xs : List UInt8) (y : UInt8) : c.sum s (xs ++ [y]) = c.byte (c.sum s xs) y := by rw [sum_append]; rfl
theorem byte_xor (s t : BitVec n) (x : UInt8) : c.byte (s ^^^ t) x = c.byte s x ^^^ reps c.f 8 t := by
  unfold byte
  rw [show s ^^^ t ^^^ c.emb x = (s ^^^ c.emb x) ^^^ t by ac_rfl, reps_lin c.f c.lin]
theorem sum_xor (xs : List UInt8) (s t : BitVec n) : c.sum (s ^^^ t) xs = c.sum s xs ^^^ reps c.f (8 * xs.length) t := by
  induction xs generalizing s t with
  | nil => rfl
  | cons x xs ih => rw [sum_cons, sum_cons, byte_xor, ih, List.length_cons, show 8 * (xs.length + 1) = 8 + 8 * xs.length by omega, reps_add]
/-- One byte combined with another one. -/
theorem sum_set (xs : List UInt8) (s : BitVec n) (p : Nat) (y z : UInt8) (h : xs[p]? = some y) :
    c.sum s (xs.set p (y ^^^ z)) = c.sum s xs ^^^ reps c.f (8 * (xs.length - p)) (c.emb z) := by
  induction xs generalizing s p with
  | nil => simp at h
  | cons x xs ih =>
    cases p with
    | zero =>
      obtain rfl : x = y := by simpa using h
      rw [List.set_cons_zero, sum_cons, sum_cons]
      have e : c.byte s (x ^^^ z) = c.byte s x ^^^ reps c.f 8 (c.emb z) := by
        unfold byte
        rw [c.elin, ← BitVec.xor_assoc, reps_lin c.f c.lin]
      rw [e, sum_xor, ← reps_add, List.length_cons, show 8 * (xs.length + 1 - 0) = 8 + 8 * xs.length by omega]
    | succ p =>
      rw [List.set_cons_succ, sum_cons, sum_cons, ih (c.byte s x) p (by simpa using h), List.length_cons, Nat.succ_sub_succ]
theorem reps_u (j a : Nat) (h : j < n) : reps c.f (j + a) (c.u j) = reps c.f a (c.u 0) := by
  induction j with
  | zero => simp
  | succ j ih => rw [show j + 1 + a = (j + a) + 1 by omega]; show reps c.f (j + a) (c.f (c.u (j + 1))) = _; rw [c.hu j h, ih (by omega)]

/-- Behind i of the places: c' are the bytes with some bits turned, t tells whether any was. -/
def Turned (xs ys : List UInt8) (start i : Nat) (t : Bool) : Prop :=
  ys.length = xs.length ∧ ∃ W : BitVec n, (∀ j, i ≤ j → j < n → W.getLsbD (c.lane j) = false) ∧ (t = true ↔ W ≠ 0#n) ∧ ∀ s, c.sum s ys = c.sum s xs ^^^ reps c.f (8 * xs.length - start) W
variable {c} {xs ys : List UInt8} {start i : Nat} {t : Bool}
theorem Turned.at_zero (xs : List UInt8) (start : Nat) : c.Turned xs xs start 0 false :=
  ⟨rfl, 0#n, fun _ _ _ => by simp, by simp, fun s => by rw [(reps_zero c.f c.zero _ _).2 rfl]; simp⟩
theorem Turned.skip (h : c.Turned xs ys start i t) : c.Turned xs ys start (i + 1) t := by
  obtain ⟨hl, W, h1, h2, h3⟩ := h
  exact ⟨hl, W, fun j hj => h1 j (by omega), h2, h3⟩
theorem Turned.flip (h : c.Turned xs ys start i t) (hi : i < n) (hk : start + i < 8 * xs.length) (y : UInt8) (hy : ys[(start + i) / 8]? = some y) :
    c.Turned xs (ys.set ((start + i) / 8) (y ^^^ c.bit ((start + i) % 8))) start (i + 1) true := by
  obtain ⟨hl, W, h1, h2, h3⟩ := h
  refine ⟨by simpa using hl, W ^^^ c.u i, fun j hj hjn => ?_, ?_, fun s => ?_⟩
  · rw [BitVec.getLsbD_xor, h1 j (by omega) hjn, c.hl i hi j hjn]
    simp
    omega
  · simp only [true_iff]
    intro h0
    have e := congrArg (fun v => v.getLsbD (c.lane i)) h0
    simp only [BitVec.getLsbD_xor, h1 i (Nat.le_refl _) hi, c.hl i hi i hi] at e
    simp at e
  · have hj : (start + i) % 8 < 8 := Nat.mod_lt _ (by omega)
    rw [c.sum_set ys s _ y _ hy, c.hb _ hj, h3, BitVec.xor_assoc, reps_lin c.f c.lin, hl]
    have hn := c.hn
    have ha : (start + i) % 8 + (8 * xs.length - (start + i)) = 8 * (xs.length - (start + i) / 8) := by omega
    have hb : i + (8 * xs.length - (start + i)) = 8 * xs.length - start := by omega
    rw [← ha, ← hb, c.reps_u _ _ (by omega), c.reps_u _ _ hi]
theorem Turned.done (h : c.Turned xs ys start n t) (s : BitVec n) : (c.sum s ys ≠ c.sum s xs) ↔ t = true := by
  obtain ⟨hl, W, h1, h2, h3⟩ := h
  rw [h2, h3]
  have hz := reps_zero c.f c.zero (8 * xs.length - start) W
  have e : c.sum s xs ^^^ reps c.f (8 * xs.length - start) W = c.sum s xs ↔ reps c.f (8 * xs.length - start) W = 0#n := by
    constructor
    · intro h
      have := congrArg (fun v => c.sum s xs ^^^ v) h
      simpa [xor_back] using this
    · intro h; rw [h]; simp
  rw [Ne, e, hz]
end Way

def emb16 (x : UInt8) : BitVec 16 := x.toBitVec.zeroExtend 16 <<< 8
def emb32 (x : UInt8) : BitVec 32 := x.toBitVec.zeroExtend 32
theorem emb16_lin (a b : UInt8) : emb16 (a ^^^ b) = emb16 a ^^^ emb16 b := by
  unfold emb16
  rw [UInt8.toBitVec_xor, ← BitVec.shiftLeft_xor_distrib]
  apply BitVec.eq_of_getLsbD_eq
  intro i hi
  simp only [BitVec.getLsbD_shiftLeft, BitVec.getLsbD_xor, BitVec.truncate_eq_setWidth, BitVec.getLsbD_setWidth]
  by_cases h : i < 8
  · simp [h]
  · simp [h, hi, show i - 8 < 16 by omega]
theorem emb32_lin (a b : UInt8) : emb32 (a ^^^ b) = emb32 a ^^^ emb32 b := by
  unfold emb32
  rw [UInt8.toBitVec_xor]
  apply BitVec.eq_of_getLsbD_eq
  intro i hi
  simp

def way16 : Way 16 where
  f := d16
  emb := emb16
  u := u16
  lane := fun j => 15 - j
  bit := fun j => 128 >>> UInt8.ofNat j
  lin := d16_lin
  zero := d16_zero
  elin := emb16_lin
  hu := fun j h => d16_u j (by omega)
  hl := by decide
  hb := by decide
  hn := by decide
def way32 : Way 32 where
  f := d32
  emb := emb32
  u := u32
  lane := fun j => j
  bit := fun j => 1 <<< UInt8.ofNat j
  lin := d32_lin
  zero := d32_zero
  elin := emb32_lin
  hu := fun j h => d32_u j (by omega)
  hl := by decide
  hb := by decide
  hn := by decide

/-! ### Four bits at once -/
theorem d16_low (a : BitVec 16) (h : a.getLsbD 15 = false) : d16 a = a <<< 1 := by
  unfold d16
  rw [BitVec.msb_eq_getLsbD_last, h]
  simp
theorem d32_high (a : BitVec 32) (h : a.getLsbD 0 = false) : d32 a = a >>> 1 := by
  unfold d32
  rw [h]
  simp

theorem nib16 (s : BitVec 16) : reps d16 4 s = (s <<< 4) ^^^ reps d16 4 ((s >>> 12) <<< 12) := by
  have e : s = (s &&& 0xfff#16) ^^^ ((s >>> 12) <<< 12) := by
    apply BitVec.eq_of_getLsbD_eq
    intro i hi
    have hm : (0xfff#16).getLsbD i = decide (i < 12) := by
      revert i; decide
    simp only [BitVec.getLsbD_xor, BitVec.getLsbD_and, hm, BitVec.getLsbD_shiftLeft, BitVec.getLsbD_ushiftRight]
    by_cases h : i < 12
    · simp [h]
    · simp [h, hi, show 12 + (i - 12) = i by omega]
  have hm : ∀ i, i < 16 → (0xfff#16).getLsbD i = decide (i < 12) := by decide
  have e2 : reps d16 4 (s &&& 0xfff#16) = s <<< 4 := by
    have hb : ∀ i, 12 ≤ i → i < 16 → (s &&& 0xfff#16).getLsbD i = false := by
      intro i hi h16
      simp [BitVec.getLsbD_and, hm i h16, show ¬ i < 12 by omega]
    have e3 : s <<< 4 = (s &&& 0xfff#16) <<< 4 := by
      apply BitVec.eq_of_getLsbD_eq
      intro i hi
      simp only [BitVec.getLsbD_shiftLeft, BitVec.getLsbD_and]
      by_cases h : i < 4
      · simp [h]
      · rw [hm (i - 4) (by omega)]
        simp [show i - 4 < 12 by omega]
    rw [e3]
    generalize hx : s &&& 0xfff#16 = x at hb
    show d16 (d16 (d16 (d16 x))) = _
    rw [d16_low x (hb 15 (by omega) (by omega)), d16_low (x <<< 1) (by simpa using hb 14 (by omega) (by omega)), d16_low (x <<< 1 <<< 1) (by simpa using hb 13 (by omega) (by omega)), d16_low (x <<< 1 <<< 1 <<< 1) (by simpa using hb 12 (by omega) (by omega)),
      ← BitVec.shiftLeft_add, ← BitVec.shiftLeft_add, ← BitVec.shiftLeft_add]
  conv => lhs; rw [e]
  rw [reps_lin d16 d16_lin, e2]

theorem nib32 (s : BitVec 32) : reps d32 4 s = (s >>> 4) ^^^ reps d32 4 (s &&& 15#32) := by
  have hm : ∀ i, i < 32 → (15#32).getLsbD i = decide (i < 4) := by decide
  have hm2 : ∀ i, i < 32 → (0xfffffff0#32).getLsbD i = !decide (i < 4) := by decide
  have e : s = (s &&& 0xfffffff0#32) ^^^ (s &&& 15#32) := by
    apply BitVec.eq_of_getLsbD_eq
    intro i hi
    simp only [BitVec.getLsbD_xor, BitVec.getLsbD_and, hm i hi, hm2 i hi]
    by_cases h : i < 4 <;> simp [h]
  have e2 : reps d32 4 (s &&& 0xfffffff0#32) = s >>> 4 := by
    have hb : ∀ i, i < 4 → (s &&& 0xfffffff0#32).getLsbD i = false := by
      intro i hi
      simp [BitVec.getLsbD_and, hm2 i (by omega), hi]
    have e3 : s >>> 4 = (s &&& 0xfffffff0#32) >>> 4 := by
      apply BitVec.eq_of_getLsbD_eq
      intro i hi
      simp only [BitVec.getLsbD_ushiftRight, BitVec.getLsbD_and]
      by_cases h : 4 + i < 32
      · rw [hm2 (4 + i) h]
        simp
      · rw [BitVec.getLsbD_of_ge s (4 + i) (by omega)]
        simp
    rw [e3]
    generalize hx : s &&& 0xfffffff0#32 = x at hb
    show d32 (d32 (d32 (d32 x))) = _
    rw [d32_high x (hb 0 (by omega)), d32_high (x >>> 1) (by simpa using hb 1 (by omega)), d32_high (x >>> 1 >>> 1) (by simpa using hb 2 (by omega)), d32_high (x >>> 1 >>> 1 >>> 1) (by simpa using hb 3 (by omega)),
      ← BitVec.shiftRight_add, ← BitVec.shiftRight_add, ← BitVec.shiftRight_add]
  conv => lhs; rw [e]
  rw [reps_lin d32 d32_lin, e2]

end Go.Proofs.YtidbipbangifbaaGreatDoor
