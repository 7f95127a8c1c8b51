/- Modified UTF-8 as plain lists: a unit's bytes, what any bytes begin with, what any bytes tell. Nothing of the program. -/
namespace Go.Proofs.Ytendpbklcgiafaa
set_option maxRecDepth 100000

/-- How many bytes a unit has. -/
def sizeU (u : Nat) : Nat := if 1 ≤ u ∧ u ≤ 127 then 1 else if u ≤ 2047 then 2 else 3
/-- A unit's bytes. -/
def encU (u : Nat) : List UInt8 :=
  if 1 ≤ u ∧ u ≤ 127 then [UInt8.ofNat u]
  else if u ≤ 2047 then [UInt8.ofNat (192 + u / 64), UInt8.ofNat (128 + u % 64)]
  else [UInt8.ofNat (224 + u / 4096), UInt8.ofNat (128 + u / 64 % 64), UInt8.ofNat (128 + u % 64)]
/-- A text's bytes. -/
def encT (l : List Nat) : List UInt8 := l.flatMap encU

theorem encU_len (u : Nat) : (encU u).length = sizeU u := by
  unfold encU sizeU
  split
  · rfl
  · split <;> rfl
theorem sizeU_pos (u : Nat) : 1 ≤ sizeU u ∧ sizeU u ≤ 3 := by
  unfold sizeU
  split
  · omega
  · split <;> omega
theorem encT_nil : encT [] = [] := rfl
theorem encT_snoc (l : List Nat) (u : Nat) : encT (l ++ [u]) = encT l ++ encU u := by simp [encT]
theorem encT_cons (u : Nat) (l : List Nat) : encT (u :: l) = encU u ++ encT l := by simp [encT]

/-- What bytes begin with: a unit and how many bytes are its own; none: (0, 0). -/
def unitF : List UInt8 → Nat × Nat
  | [] => (0, 0)
  | x :: t =>
    if x.toNat ≤ 127 then (if x.toNat = 0 then (0, 0) else (x.toNat, 1))
    else if 192 ≤ x.toNat ∧ x.toNat < 224 then
      match t with
      | [] => (0, 0)
      | y :: _ => if 128 ≤ y.toNat ∧ y.toNat < 192 ∧ sizeU ((x.toNat - 192) * 64 + (y.toNat - 128)) = 2 then ((x.toNat - 192) * 64 + (y.toNat - 128), 2) else (0, 0)
    else if 224 ≤ x.toNat ∧ x.toNat < 240 then
      match t with
      | y :: z :: _ => if 128 ≤ y.toNat ∧ y.toNat < 192 ∧ 128 ≤ z.toNat ∧ z.toNat < 192 ∧ sizeU ((x.toNat - 224) * 4096 + (y.toNat - 128) * 64 + (z.toNat - 128)) = 3 then ((x.toNat - 224) * 4096 + (y.toNat - 128) * 64 + (z.toNat - 128), 3) else (0, 0)
      | _ => (0, 0)
    else (0, 0)

theorem u8n (n : Nat) (h : n < 256) : (UInt8.ofNat n).toNat = n := by rw [UInt8.toNat_ofNat']; omega

theorem unitF_enc (u : Nat) (h : u < 65536) (r : List UInt8) : unitF (encU u ++ r) = (u, sizeU u) := by
  unfold encU sizeU
  by_cases h1 : 1 ≤ u ∧ u ≤ 127
  · rw [if_pos h1, if_pos h1]
    show unitF (_ :: r) = _
    unfold unitF
    simp only [u8n u (by omega)]
    rw [if_pos h1.2, if_neg (by omega)]
  · rw [if_neg h1, if_neg h1]
    by_cases h2 : u ≤ 2047
    · rw [if_pos h2, if_pos h2]
      show unitF (_ :: _ :: r) = _
      unfold unitF
      simp only [u8n (192 + u / 64) (by omega), u8n (128 + u % 64) (by omega)]
      have e : (192 + u / 64 - 192) * 64 + (128 + u % 64 - 128) = u := by omega
      rw [e]
      have es : sizeU u = 2 := by unfold sizeU; rw [if_neg h1, if_pos h2]
      rw [if_neg (by omega), if_pos (by omega), if_pos ⟨by omega, by omega, es⟩]
    · rw [if_neg h2, if_neg h2]
      show unitF (_ :: _ :: _ :: r) = _
      unfold unitF
      simp only [u8n (224 + u / 4096) (by omega), u8n (128 + u / 64 % 64) (by omega), u8n (128 + u % 64) (by omega)]
      have e : (224 + u / 4096 - 224) * 4096 + (128 + u / 64 % 64 - 128) * 64 + (128 + u % 64 - 128) = u := by omega
      rw [e]
      have es : sizeU u = 3 := by unfold sizeU; rw [if_neg h1, if_neg h2]
      rw [if_neg (by omega), if_neg (by omega), if_pos (by omega), if_pos ⟨by omega, by omega, by omega, by omega, es⟩]

theorem u8b (x : UInt8) (n : Nat) (h : n = x.toNat) : UInt8.ofNat n = x := by subst h; exact UInt8.ofNat_toNat

theorem unitF_some (b : List UInt8) (h : (unitF b).2 ≠ 0) : (unitF b).1 < 65536 ∧ (unitF b).2 = sizeU (unitF b).1 ∧ b = encU (unitF b).1 ++ b.drop (unitF b).2 := by
  match b with
  | [] => exact absurd rfl h
  | x :: t =>
    have hx := x.toNat_lt
    unfold unitF at h ⊢
    simp only at h ⊢
    by_cases h1 : x.toNat ≤ 127
    · rw [if_pos h1] at h ⊢
      by_cases h0 : x.toNat = 0
      · rw [if_pos h0] at h
        exact absurd rfl h
      · rw [if_neg h0]
        refine ⟨by show x.toNat < 65536; omega, ?_, ?_⟩
        · show 1 = sizeU x.toNat
          unfold sizeU
          rw [if_pos (by omega)]
        · show x :: t = encU x.toNat ++ t
          unfold encU
          rw [if_pos (by omega), u8b x _ rfl]
          rfl
    · rw [if_neg h1] at h ⊢
      by_cases h2 : 192 ≤ x.toNat ∧ x.toNat < 224
      · rw [if_pos h2] at h ⊢
        match t with
        | [] => exact absurd rfl h
        | y :: t =>
          simp only at h ⊢
          have hy := y.toNat_lt
          by_cases h3 : 128 ≤ y.toNat ∧ y.toNat < 192 ∧ sizeU ((x.toNat - 192) * 64 + (y.toNat - 128)) = 2
          · rw [if_pos h3]
            obtain ⟨ha, hb, hs⟩ := h3
            refine ⟨by show _ < 65536; omega, hs.symm, ?_⟩
            show x :: y :: t = encU ((x.toNat - 192) * 64 + (y.toNat - 128)) ++ t
            unfold sizeU at hs
            unfold encU
            by_cases hc : 1 ≤ (x.toNat - 192) * 64 + (y.toNat - 128) ∧ (x.toNat - 192) * 64 + (y.toNat - 128) ≤ 127
            · rw [if_pos hc] at hs
              omega
            · rw [if_neg hc] at hs ⊢
              rw [if_pos (by omega), u8b x _ (by omega), u8b y _ (by omega)]
              rfl
          · rw [if_neg h3] at h
            exact absurd rfl h
      · rw [if_neg h2] at h ⊢
        by_cases h4 : 224 ≤ x.toNat ∧ x.toNat < 240
        · rw [if_pos h4] at h ⊢
          match t with
          | [] => exact absurd rfl h
          | [_] => exact absurd rfl h
          | y :: z :: t =>
            simp only at h ⊢
            have hy := y.toNat_lt
            have hz := z.toNat_lt
            by_cases h3 : 128 ≤ y.toNat ∧ y.toNat < 192 ∧ 128 ≤ z.toNat ∧ z.toNat < 192 ∧ sizeU ((x.toNat - 224) * 4096 + (y.toNat - 128) * 64 + (z.toNat - 128)) = 3
            · rw [if_pos h3]
              obtain ⟨ha, hb, ha2, hb2, hs⟩ := h3
              refine ⟨by show _ < 65536; omega, hs.symm, ?_⟩
              show x :: y :: z :: t = encU ((x.toNat - 224) * 4096 + (y.toNat - 128) * 64 + (z.toNat - 128)) ++ t
              unfold sizeU at hs
              unfold encU
              by_cases hc : 1 ≤ (x.toNat - 224) * 4096 + (y.toNat - 128) * 64 + (z.toNat - 128) ∧ (x.toNat - 224) * 4096 + (y.toNat - 128) * 64 + (z.toNat - 128) ≤ 127
              · rw [if_pos hc] at hs
                omega
              · rw [if_neg hc] at hs ⊢
                by_cases hd : (x.toNat - 224) * 4096 + (y.toNat - 128) * 64 + (z.toNat - 128) ≤ 2047
                · rw [if_pos hd] at hs
                  omega
                · rw [if_neg hd, u8b x _ (by omega), u8b y _ (by omega), u8b z _ (by omega)]
                  rfl
            · rw [if_neg h3] at h
              exact absurd rfl h
        · rw [if_neg h4] at h
          exact absurd rfl h

theorem unitF_le (b : List UInt8) : (unitF b).2 ≤ b.length := by
  by_cases h : (unitF b).2 = 0
  · omega
  · have h1 := (unitF_some b h).2
    have h2 := congrArg List.length h1.2
    rw [List.length_append, encU_len, List.length_drop] at h2
    omega
theorem unitF_lt (b : List UInt8) : (unitF b).1 < 65536 := by
  by_cases h : (unitF b).2 = 0
  · match b with
    | [] => exact (by decide : (0:Nat) < 65536)
    | x :: t =>
      have hx := x.toNat_lt
      unfold unitF
      simp only
      split
      · split
        · exact (by decide : (0:Nat) < 65536)
        · show x.toNat < 65536
          omega
      · split
        · split
          · exact (by decide : (0:Nat) < 65536)
          · rename_i y _
            have hy := y.toNat_lt
            split
            · show _ < 65536
              omega
            · exact (by decide : (0:Nat) < 65536)
        · split
          · split
            · rename_i y z _
              have hy := y.toNat_lt
              have hz := z.toNat_lt
              split
              · show _ < 65536
                omega
              · exact (by decide : (0:Nat) < 65536)
            · exact (by decide : (0:Nat) < 65536)
          · exact (by decide : (0:Nat) < 65536)
  · exact (unitF_some b h).1

/-- What any bytes tell: a text, or none. -/
inductive DecR : List UInt8 → Option (List Nat) → Prop
  | nil : DecR [] (some [])
  | bad {b : List UInt8} (hb : b ≠ []) (h : (unitF b).2 = 0) : DecR b none
  | go {b : List UInt8} {r : Option (List Nat)} (h : (unitF b).2 ≠ 0) (t : DecR (b.drop (unitF b).2) r) : DecR b (r.map ((unitF b).1 :: ·))

theorem decR_ex : ∀ (n : Nat) (b : List UInt8), b.length ≤ n → ∃ r, DecR b r
  | 0, b, h => by
    have e : b = [] := List.eq_nil_of_length_eq_zero (by omega)
    subst e
    exact ⟨_, .nil⟩
  | n + 1, b, h => by
    by_cases h0 : b = []
    · subst h0
      exact ⟨_, .nil⟩
    · by_cases h1 : (unitF b).2 = 0
      · exact ⟨_, .bad h0 h1⟩
      · have hl : 0 < b.length := List.length_pos_iff.2 h0
        obtain ⟨r, hr⟩ := decR_ex n (b.drop (unitF b).2) (by rw [List.length_drop]; omega)
        exact ⟨_, .go h1 hr⟩

theorem decR_enc : ∀ (l : List Nat), (∀ u ∈ l, u < 65536) → DecR (encT l) (some l)
  | [], _ => .nil
  | u :: l, h => by
    have hu := h u (by simp)
    have e := unitF_enc u hu (encT l)
    rw [encT_cons]
    have hp := sizeU_pos u
    have g := DecR.go (b := encU u ++ encT l) (r := some l) (by rw [e]; show sizeU u ≠ 0; omega) (by
      rw [e]
      show DecR ((encU u ++ encT l).drop (sizeU u)) _
      rw [← encU_len, List.drop_left]
      exact decR_enc l (fun v hv => h v (by simp [hv])))
    rw [e] at g
    exact g

theorem decR_some {b : List UInt8} {r : Option (List Nat)} (h : DecR b r) : ∀ l, r = some l → b = encT l ∧ (∀ u ∈ l, u < 65536) ∧ l.length ≤ b.length := by
  induction h with
  | nil => rintro l ⟨⟩; exact ⟨rfl, fun _ h => (List.not_mem_nil h).elim, Nat.le_refl _⟩
  | bad hb h => rintro l ⟨⟩
  | @go b r h t ih =>
    intro l e
    cases r with
    | none => cases e
    | some l0 =>
      obtain rfl : l = (unitF b).1 :: l0 := by simpa using e.symm
      obtain ⟨e0, h0, hl⟩ := ih l0 rfl
      obtain ⟨h1, h2, h3⟩ := unitF_some b h
      refine ⟨?_, ?_, ?_⟩
      · rw [encT_cons, ← e0]
        exact h3
      · intro u hu
        rcases List.mem_cons.1 hu with rfl | hu
        · exact h1
        · exact h0 u hu
      · rw [List.length_drop] at hl
        have h5 := unitF_le b
        have h6 := sizeU_pos (unitF b).1
        simp only [List.length_cons]
        omega

/-- What the bytes tell is one thing. -/
theorem decR_fun {b : List UInt8} {r : Option (List Nat)} (h : DecR b r) : ∀ r', DecR b r' → r' = r := by
  induction h with
  | nil =>
    intro r' h'
    cases h' with
    | nil => rfl
    | bad hb h => exact absurd rfl hb
    | go h t => exact absurd rfl h
  | bad hb h =>
    intro r' h'
    cases h' with
    | nil => exact absurd rfl hb
    | bad hb h => rfl
    | go h2 t => exact absurd h h2
  | go h t ih =>
    intro r' h'
    cases h' with
    | nil => exact absurd rfl h
    | bad hb h2 => exact absurd h2 h
    | go h2 t2 => rw [ih _ t2]

/-- Each byte from 1 to 127. -/
def plainB (x : UInt8) : Bool := decide (1 ≤ x.toNat ∧ x.toNat ≤ 127)

end Go.Proofs.Ytendpbklcgiafaa
