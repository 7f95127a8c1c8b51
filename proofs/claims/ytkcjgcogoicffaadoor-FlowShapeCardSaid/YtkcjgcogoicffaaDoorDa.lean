/- Names of classes, types, methods' descriptions as plain lists of bytes. Nothing of the program. -/
namespace Go.Proofs.YtkcjgcogoicffaaDoor
set_option maxRecDepth 100000

/-- May a byte stand in a part of a class's name? -/
def signB (x : UInt8) : Bool := decide ((97 ≤ x.toNat ∧ x.toNat ≤ 122) ∨ (65 ≤ x.toNat ∧ x.toNat ≤ 90) ∨ (48 ≤ x.toNat ∧ x.toNat ≤ 57) ∨ x.toNat = 95 ∨ x.toNat = 36)
def partB (l : List UInt8) : Bool := !l.isEmpty && l.all signB
/-- What stands between the slashes. -/
def splitS : List UInt8 → List (List UInt8)
  | [] => [[]]
  | x :: t => if x = 47 then [] :: splitS t else match splitS t with
    | [] => [ [x]]
    | p :: ps => (x :: p) :: ps
/-- Read from the left: was the last one a slash (or none)? -/
def classGo : Bool → List UInt8 → Bool
  | s, [] => !s
  | s, x :: t => if signB x then classGo false t else if x = 47 then (if s then false else classGo true t) else false
def classB (l : List UInt8) : Bool := decide (l.length ≤ 64) && classGo true l

theorem sign_slash : signB 47 = false := by decide
theorem sign_semi : signB 59 = false := by decide
theorem splitS_ne (l : List UInt8) : splitS l ≠ [] := by
  induction l with
  | nil => simp [splitS]
  | cons x t ih =>
    unfold splitS
    by_cases hx : x = 47
    · rw [if_pos hx]; simp
    · rw [if_neg hx]; split <;> simp

theorem classGo_split (l : List UInt8) : (classGo true l = (splitS l).all partB) ∧ (∀ p ps, splitS l = p :: ps → classGo false l = (p.all signB && ps.all partB)) := by
  induction l with
  | nil => exact ⟨by decide, fun p ps h => by simp [splitS] at h; obtain ⟨rfl, rfl⟩ := h; rfl⟩
  | cons x t ih =>
    obtain ⟨ih1, ih2⟩ := ih
    by_cases hx : x = 47
    · subst hx
      have e : splitS (47 :: t) = [] :: splitS t := by rw [splitS, if_pos rfl]
      rw [e]
      refine ⟨?_, fun p ps h => ?_⟩
      · simp only [classGo, sign_slash, List.all_cons, partB, List.isEmpty_nil]
        simp
      · obtain ⟨rfl, rfl⟩ : ([] : List UInt8) = p ∧ splitS t = ps := by simpa using h
        simp only [classGo, sign_slash]
        simp [ih1]
    · obtain ⟨p, ps, hs⟩ : ∃ p ps, splitS t = p :: ps := by
        match h : splitS t with
        | [] => exact absurd h (splitS_ne t)
        | p :: ps => exact ⟨p, ps, rfl⟩
      have e : splitS (x :: t) = (x :: p) :: ps := by rw [splitS, if_neg hx, hs]
      rw [e]
      have h2 := ih2 p ps hs
      cases hb : signB x with
      | true =>
        refine ⟨?_, fun p' ps' h => ?_⟩
        · simp only [classGo, hb, if_true, h2, List.all_cons, partB]
          simp
        · obtain ⟨rfl, rfl⟩ : x :: p = p' ∧ ps = ps' := by simpa using h
          simp only [classGo, hb, if_true, h2, List.all_cons]
          simp
      | false =>
        refine ⟨?_, fun p' ps' h => ?_⟩
        · simp [classGo, hb, hx, partB]
        · obtain ⟨rfl, rfl⟩ : x :: p = p' ∧ ps = ps' := by simpa using h
          simp [classGo, hb, hx]

theorem classB_split (l : List UInt8) (h : l.length ≤ 64) : classB l = (splitS l).all partB := by
  unfold classB
  rw [(classGo_split l).1]
  simp [h]
theorem classGo_mem : ∀ (l : List UInt8) (s : Bool), classGo s l = true → ∀ x ∈ l, signB x = true ∨ x = 47
  | [], _, _, x, hx => by cases hx
  | y :: t, s, h, x, hx => by
    rw [classGo] at h
    cases hy : signB y with
    | true =>
      rw [hy, if_pos rfl] at h
      rcases List.mem_cons.1 hx with rfl | hx
      · exact .inl hy
      · exact classGo_mem t _ h x hx
    | false =>
      rw [hy, if_neg Bool.false_ne_true] at h
      by_cases h47 : y = 47
      · rw [if_pos h47] at h
        cases s with
        | true => simp at h
        | false =>
          rcases List.mem_cons.1 hx with rfl | hx
          · exact .inr h47
          · exact classGo_mem t _ (by simpa using h) x hx
      · rw [if_neg h47] at h
        exact absurd h (by decide)
theorem class_no_semi (l : List UInt8) (h : classB l = true) : (59 : UInt8) ∉ l := by
  intro hm
  unfold classB at h
  rw [Bool.and_eq_true] at h
  rcases classGo_mem l true h.2 59 hm with h | h
  · rw [sign_semi] at h; cases h
  · exact absurd h (by decide)
theorem class_ne (l : List UInt8) (h : classB l = true) : l ≠ [] := by
  rintro rfl
  exact absurd h (by decide)
theorem class_len (l : List UInt8) (h : classB l = true) : l.length ≤ 64 := by
  unfold classB at h
  rw [Bool.and_eq_true] at h
  exact of_decide_eq_true h.1

/-- Behind an L: a class's name and a semicolon? -/
def objB (u : List UInt8) : Bool := (u.getLast? == some 59) && classB u.dropLast
/-- A type behind d brackets. -/
def typeD (d : Nat) : List UInt8 → Bool
  | [] => false
  | x :: t => if x = 91 then typeD (d + 1) t else
    decide (d ≤ 8) && ((x == 73 && t.isEmpty) || (decide (d = 0) && x == 74 && t.isEmpty) || (decide (0 < d) && x == 66 && t.isEmpty) || (x == 76 && objB t))
/-- How many bytes the class's type has that begins with an L and t. -/
def objN (t : List UInt8) : Nat := match t.idxOf? 59 with
  | none => 0
  | some i => if classB (t.take i) then i + 2 else 0
def itemN (arr : Bool) : List UInt8 → Nat
  | [] => 0
  | x :: t => if x = 73 then 1 else if x = 74 ∧ arr = false then 1 else if x = 66 ∧ arr = true then 1 else if x = 76 then objN t else 0
/-- How many bytes the type has with which a text begins, behind d brackets; 0: it begins with none. -/
def cutD (d : Nat) : List UInt8 → Nat
  | [] => 0
  | x :: t => if x = 91 then (if cutD (d + 1) t = 0 then 0 else cutD (d + 1) t + 1) else if d ≤ 8 then itemN (decide (0 < d)) (x :: t) else 0

theorem idxOf_split : ∀ (t : List UInt8) (i : Nat), t.idxOf? 59 = some i → i < t.length ∧ t = t.take i ++ 59 :: t.drop (i + 1) ∧ (59 : UInt8) ∉ t.take i
  | [], i, h => by rw [List.idxOf?_nil] at h; cases h
  | x :: t, i, h => by
    rw [List.idxOf?_cons] at h
    by_cases hx : x = 59
    · subst hx
      simp at h
      subst h
      simp
    · rw [if_neg (by simpa using hx)] at h
      cases hr : t.idxOf? 59 with
      | none => rw [hr] at h; cases h
      | some j =>
        rw [hr] at h
        obtain rfl : j + 1 = i := by simpa using h
        obtain ⟨h1, h2, h3⟩ := idxOf_split t j hr
        refine ⟨by simp; omega, ?_, ?_⟩
        · show x :: t = x :: (t.take j ++ 59 :: t.drop (j + 1))
          rw [← h2]
        · show (59 : UInt8) ∉ x :: t.take j
          intro hm
          rcases List.mem_cons.1 hm with h | h
          · exact hx h.symm
          · exact h3 h
theorem idxOf_at : ∀ (c r : List UInt8), (59 : UInt8) ∉ c → (c ++ 59 :: r).idxOf? 59 = some c.length
  | [], r, _ => by rw [List.nil_append, List.idxOf?_cons]; simp
  | x :: c, r, h => by
    have hx : x ≠ 59 := fun e => h (by simp [e])
    rw [List.cons_append, List.idxOf?_cons, if_neg (by simpa using hx), idxOf_at c r (fun hm => h (List.mem_cons_of_mem _ hm))]
    rfl
theorem objB_make (c : List UInt8) (h : classB c = true) : objB (c ++ [59]) = true := by
  unfold objB
  simp [h]
theorem objB_open (u : List UInt8) (h : objB u = true) : ∃ c, u = c ++ [59] ∧ classB c = true := by
  unfold objB at h
  rw [Bool.and_eq_true] at h
  obtain ⟨h1, h2⟩ := h
  have h1 : u.getLast? = some 59 := by simpa using h1
  refine ⟨u.dropLast, ?_, h2⟩
  have hu : u ≠ [] := by rintro rfl; cases h1
  have hg : u.getLast hu = 59 := by rw [List.getLast?_eq_some_getLast hu] at h1; simpa using h1
  have := List.dropLast_concat_getLast hu
  rw [hg] at this
  exact this.symm
theorem obj_cut (t : List UInt8) (k : Nat) (hk : k ≤ t.length) : objB (t.take k) = true ↔ objN t = k + 1 := by
  constructor
  · intro h
    obtain ⟨c, hc, hb⟩ := objB_open _ h
    have hl : c.length + 1 = k := by
      have := congrArg List.length hc
      rw [List.length_take, List.length_append] at this
      simp at this
      omega
    have ht : t = c ++ 59 :: t.drop k := by
      have := List.take_append_drop k t
      rw [hc] at this
      simpa using this.symm
    unfold objN
    rw [ht, idxOf_at c _ (class_no_semi c hb)]
    simp only [List.take_left, hb, if_true]
    omega
  · intro h
    unfold objN at h
    cases hi : t.idxOf? 59 with
    | none => rw [hi] at h; cases h
    | some i =>
      rw [hi] at h
      simp only at h
      by_cases hb : classB (t.take i) = true
      · rw [if_pos hb] at h
        obtain ⟨h1, h2, h3⟩ := idxOf_split t i hi
        obtain rfl : k = i + 1 := by omega
        have e : t.take (i + 1) = t.take i ++ [59] := by
          rw [List.take_succ_eq_append_getElem h1]
          congr 1
          have : t[i]? = some 59 := by rw [h2, List.getElem?_append_right (by simp; omega)]; simp [Nat.min_eq_left (Nat.le_of_lt h1)]
          rw [List.getElem?_eq_getElem h1] at this
          simpa using this
        rw [e]
        exact objB_make _ hb
      · rw [if_neg hb] at h
        cases h
theorem take_empty {t : List UInt8} {k : Nat} (hk : k ≤ t.length) : (t.take k).isEmpty = decide (k = 0) := by
  cases k with
  | zero => simp
  | succ k =>
    cases t with
    | nil => simp at hk
    | cons x t => simp
/-- No type is a beginning of another one. -/
theorem type_cut : ∀ (l : List UInt8) (d k : Nat), 0 < k → k ≤ l.length → (typeD d (l.take k) = true ↔ cutD d l = k)
  | [], d, k, h0, hk => by simp at hk; omega
  | x :: t, d, k + 1, h0, hk => by
    have hk' : k ≤ t.length := by simpa using hk
    rw [List.take_succ_cons]
    unfold typeD cutD
    by_cases h91 : x = 91
    · rw [if_pos h91, if_pos h91]
      by_cases hk0 : k = 0
      · subst hk0
        have : typeD (d + 1) (t.take 0) = false := by simp [typeD]
        rw [this]
        constructor
        · intro h; cases h
        · intro h
          by_cases hc : cutD (d + 1) t = 0
          · rw [if_pos hc] at h; cases h
          · rw [if_neg hc] at h; omega
      · rw [type_cut t (d + 1) k (by omega) hk']
        constructor
        · intro h; rw [if_neg (by omega), h]
        · intro h
          by_cases hc : cutD (d + 1) t = 0
          · rw [if_pos hc] at h; cases h
          · rw [if_neg hc] at h; omega
    · rw [if_neg h91, if_neg h91, take_empty hk']
      by_cases hd : d ≤ 8
      · rw [if_pos hd]
        unfold itemN
        by_cases h73 : x = 73
        · subst h73
          simp [hd]
        · simp only [if_neg h73]
          by_cases h74 : x = 74
          · subst h74
            by_cases h0d : d = 0
            · subst h0d
              simp
            · have : decide (0 < d) = true := by simpa using (by omega : 0 < d)
              simp [hd, h0d, this]
          · rw [if_neg (by rintro ⟨h, -⟩; exact h74 h)]
            by_cases h66 : x = 66
            · subst h66
              by_cases h0d : 0 < d
              · simp [hd, h0d]
              · simp [hd, h0d]
            · rw [if_neg (by rintro ⟨h, -⟩; exact h66 h)]
              by_cases h76 : x = 76
              · subst h76
                simp [hd, obj_cut t k hk']
              · simp [hd, h73, h74, h66, h76]
      · rw [if_neg hd]
        simp [hd]
theorem objN_le (t : List UInt8) : objN t ≤ t.length + 1 := by
  unfold objN
  cases hi : t.idxOf? 59 with
  | none => simp
  | some i =>
    simp only
    have := (idxOf_split t i hi).1
    split <;> omega
theorem cut_le : ∀ (l : List UInt8) (d : Nat), cutD d l ≤ l.length
  | [], d => by simp [cutD]
  | x :: t, d => by
    have h1 := cut_le t (d + 1)
    have h2 := objN_le t
    unfold cutD itemN
    simp only [List.length_cons]
    repeat' split
    all_goals omega
theorem cut_type (l : List UInt8) (d : Nat) (h : cutD d l ≠ 0) : typeD d (l.take (cutD d l)) = true := (type_cut l d _ (by omega) (cut_le l d)).2 rfl
theorem type_ne (l : List UInt8) (d : Nat) (h : typeD d l = true) : l ≠ [] := by rintro rfl; cases h
theorem type_cut_whole (l r : List UInt8) (d : Nat) (h : typeD d l = true) : cutD d (l ++ r) = l.length := by
  have hl := type_ne l d h
  have hp : 0 < l.length := by cases l with | nil => exact absurd rfl hl | cons => simp
  refine (type_cut (l ++ r) d l.length hp (by simp)).1 ?_
  rw [List.take_left]
  exact h
theorem type_iff (l : List UInt8) (d : Nat) : typeD d l = decide (cutD d l ≠ 0 ∧ cutD d l = l.length) := by
  cases l with
  | nil => rfl
  | cons x t =>
    have h := type_cut (x :: t) d (x :: t).length (by simp) (Nat.le_refl _)
    rw [List.take_length] at h
    rw [Bool.eq_iff_iff, h]
    simp
    intro h; omega

/-- The types with which a text begins, so many at most; and what stands behind them. -/
def argsF : Nat → List UInt8 → List (List UInt8) × List UInt8
  | 0, s => ([], s)
  | k + 1, s => if cutD 0 s = 0 then ([], s) else (s.take (cutD 0 s) :: (argsF k (s.drop (cutD 0 s))).1, (argsF k (s.drop (cutD 0 s))).2)
def retOk (r : List UInt8) : Bool := (r == [86]) || typeD 0 r
/-- What a method's description tells. -/
def methodF (l : List UInt8) : Option (List (List UInt8) × List UInt8) :=
  match l with
  | [] => none
  | x :: s => if x = 40 then match (argsF 16 s).2 with
    | [] => none
    | y :: ret => if y = 41 ∧ retOk ret = true then some ((argsF 16 s).1, ret) else none
    else none

theorem argsF_none (k : Nat) (s : List UInt8) (h : cutD 0 s = 0) : argsF k s = ([], s) := by
  cases k with
  | zero => rfl
  | succ k => rw [argsF, if_pos h]
theorem argsF_len : ∀ (k : Nat) (s : List UInt8), (argsF k s).1.length ≤ k
  | 0, s => by simp [argsF]
  | k + 1, s => by
    unfold argsF
    have := argsF_len k (s.drop (cutD 0 s))
    split
    · simp
    · simp; omega
theorem cut_close (r : List UInt8) : cutD 0 (41 :: r) = 0 := by
  simp [cutD, itemN]
theorem argsF_flat : ∀ (k : Nat) (as : List (List UInt8)) (r : List UInt8), as.length ≤ k → (∀ a ∈ as, typeD 0 a = true) → cutD 0 r = 0 → argsF k (as.flatten ++ r) = (as, r)
  | k, [], r, _, _, hr => by simpa using argsF_none k r hr
  | 0, a :: as, r, hl, _, _ => by simp at hl
  | k + 1, a :: as, r, hl, ha, hr => by
    have h1 : typeD 0 a = true := ha a (by simp)
    have hn := type_ne a 0 h1
    have hc : cutD 0 (a ++ (as.flatten ++ r)) = a.length := type_cut_whole a _ 0 h1
    have h0 : a.length ≠ 0 := by cases a with | nil => exact absurd rfl hn | cons => simp
    rw [List.flatten_cons, List.append_assoc, argsF, hc, if_neg h0, List.take_left, List.drop_left, argsF_flat k as r (by simpa using hl) (fun x hx => ha x (List.mem_cons_of_mem _ hx)) hr]
theorem method_print (as : List (List UInt8)) (r : List UInt8) (hl : as.length ≤ 16) (ha : ∀ a ∈ as, typeD 0 a = true) (hr : retOk r = true) : methodF (40 :: (as.flatten ++ 41 :: r)) = some (as, r) := by
  unfold methodF
  simp only [if_true, argsF_flat 16 as (41 :: r) hl ha (cut_close r)]
  simp [hr]

/-- The class of a type. -/
def classOfF : List UInt8 → Option (List UInt8)
  | [] => none
  | x :: t => if x = 76 ∧ t.getLast? = some 59 then some t.dropLast else none

end Go.Proofs.YtkcjgcogoicffaaDoor
