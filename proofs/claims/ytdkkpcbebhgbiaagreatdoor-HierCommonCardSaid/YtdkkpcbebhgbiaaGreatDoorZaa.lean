/- Names of classes, types, methods' descriptions as plain lists of bytes. Nothing of the program. -/
namespace Go.Proofs.YtdkkpcbebhgbiaaGreatDoor
set_option maxRecDepth 100000

/-- May a byte stand in a part of a class's name? -/
def signB (x : UInt8) : Bool := decide ((97 ≤ x.toNat ∧ x.toNat ≤ 122) ∨ (65 ≤ x.toNat ∧ x.toNat ≤ 90) ∨ (48 ≤ x.toNat ∧ x.toNat ≤ 57) ∨ x.toNat = 95 ∨ x.toNat = 36)
def partB (l : List UInt8) : Bool := !l.isEmpty && l.all signB
/-- What stands between the slashes. -/
def splitS : List UInt8 → List (List UInt8)
  | [] => [[]]
  | x :: t => if x = 47 then [] :: splitS t else match splitS t with
    | [] => [ [x]]
    | p :: ps => (x :: p) :: ps
/-- Read from the left: was the last one a slash (or none)? -/
def classGo : Bool → List UInt8 → Bool
  | s, [] => !s
  | s, x :: t => if signB x then classGo false t else if x = 47 then (if s then false else classGo true t) else false
def classB (l : List UInt8) : Bool := decide (l.length ≤ 64) && classGo true l

theorem sign_slash : signB 47 = false := by decide
theorem sign_semi : signB 59 = false := by decide
theorem splitS_ne (l : List UInt8) : splitS l ≠ [] := by
  induction l with
  | nil => simp [splitS]
  | cons x t ih =>
    unfold splitS
    by_cases hx : x = 47
    · rw [if_pos hx]; simp
    · rw [if_neg hx]; split <;> simp

theorem classGo_split (l : List UInt8) : (classGo true l = (splitS l).all partB) ∧ (∀ p ps, splitS l = p :: ps → classGo false l = (p.all signB && ps.all partB)) := by
  induction l with
  | nil => exact ⟨by decide, fun p ps h => by simp [splitS] at h; obtain ⟨rfl, rfl⟩ := h; rfl⟩
  | cons x t ih =>
    obtain ⟨ih1, ih2⟩ := ih
    by_cases hx : x = 47
    · subst hx
      have e : splitS (47 :: t) = [] :: splitS t := by rw [splitS, if_pos rfl]
      rw [e]
      refine ⟨?_, fun p ps h => ?_⟩
      · simp only [classGo, sign_slash, List.all_cons, partB, List.isEmpty_nil]
        simp
      · obtain ⟨rfl, rfl⟩ : ([] : List UInt8) = p ∧ splitS t = ps := by simpa using h
        simp only [classGo, sign_slash]
        simp [ih1]
    · obtain ⟨p, ps, hs⟩ : ∃ p ps, splitS t = p :: ps := by
        match h : splitS t with
        | [] => exact absurd h (splitS_ne t)
        | p :: ps => exact ⟨p, ps, rfl⟩
      have e : splitS (x :: t) = (x :: p) :: ps := by rw [splitS, if_neg hx, hs]
      rw [e]
      have h2 := ih2 p ps hs
      cases hb : signB x with
      | true =>
        refine ⟨?_, fun p' ps' h => ?_⟩
        · simp only [classGo, hb, if_true, h2, List.all_cons, partB]
          simp
        · obtain ⟨rfl, rfl⟩ : x :: p = p' ∧ ps = ps' := by simpa using h
          simp only [classGo, hb, if_true, h2, List.all_cons]
          simp
      | false =>
        refine ⟨?_, fun p' ps' h => ?_⟩
        · simp [classGo, hb, hx, partB]
        · obtain ⟨rfl, rfl⟩ : x :: p = p' ∧ ps = ps' := by simpa using h
          simp [classGo, hb, hx]

theorem classB_split (l : List UInt8) (h : l.length ≤ 64) : classB l = (splitS l).all partB := by
  unfold classB
  rw [(classGo_split l).1]
  simp [h]
theorem classGo_mem : ∀ (l : List UInt8) (s : Bool), classGo s l = true → ∀ x ∈ l, signB x = true ∨ x = 47
  | [], _, _, x, hx => by cases hx
  | y :: t, s, h, x, hx => by
    rw [classGo] at h
    cases hy : signB y with
    | true =>
      rw [hy, if_pos rfl] at h
      rcases List.mem_cons.1 hx with rfl | hx
      · exact .inl hy
      · exact classGo_mem t _ h x hx
    | false =>
      rw [hy, if_neg Bool.false_ne_true] at h
      by_cases h47 : y = 47
      · rw [if_pos h47] at h
        cases s with
        | true => simp at h
        | false =>
          rcases List.mem_cons.1 hx with rfl | hx
          · exact .inr h47
          · exact classGo_mem t _ (by simpa using h) x hx
      · rw [if_neg h47] at h
        exact absurd h (by decide)
theorem class_no_semi (l : List UInt8) (h : classB l = true) : (59 : UInt8) ∉ l := by
  intro hm
  unfold classB at h
  rw [Bool.and_eq_true] at h
  rcases classGo_mem l true h.2 59 hm with h | h
  · rw [sign_semi] at h; cases h
  · exact absurd h (by decide)
theorem class_ne (l : List UInt8) (h : classB l = true) : l ≠ [] := by
  rintro rfl
  exact absurd h (by decide)
theorem class_len (l : List UInt8) (h : classB l = true) : l.length ≤ 64 := by
  unfold classB at h
  rw [Bool.and_eq_true] at h
  exact of_decide_eq_true h.1

/-- Behind an L: a class's name and a semicolon? -/
def objB (u : List UInt8) : Bool := (u.getLast? == some 59) && classB u.dropLast
/-- A type behind d brackets. -/
def typeD (d : Nat) : List UInt8 → Bool
  | [] => false
  | x :: t => if x = 91 then typeD (d + 1) t else
    decide (d ≤ 8) && ((x == 73 && t.isEmpty) || (decide (d = 0) && x == 74 && t.isEmpty) || (decide (0 < d) && x == 66 && t.isEmpty) || (x == 76 && objB t))
/-- How many bytes the class's type has that begins with an L and t. -/
def objN (t : List UInt8) : Nat := match t.idxOf? 59 with
  | none => 0
  | some i => if classB (t.take i) then i + 2 else 0
def itemN (arr : Bool) : List UInt8 → Nat
  | [] => 0
  | x :: t => if x = 73 then 1 else if x = 74 ∧ arr = false then 1 else if x = 66 ∧ arr = true then 1 else if x = 76 then objN t else 0
/-- How many bytes the type has with which a text begins, behind d brackets; 0: it begins with none. -/
def cutD (d : Nat) : List UInt8 → Nat
  | [] => 0
  | x :: t => if x = 91 then (if cutD (d + 1) t = 0 then 0 else cutD (d + 1) t + 1) else if d ≤ 8 then itemN (decide (0 < d)) (x :: t) else 0

theorem idxOf_split : ∀ (t : List UInt8) (i : Nat), t.idxOf? 59 = some i → i < t.length ∧ t = t.take i ++ 59 :: t.drop (i + 1) ∧ (59 : UInt8) ∉ t.take i
  | [], i, h => by rw [List.idxOf?_nil] at h; cases h
  | x :: t, i, h => by
    rw [List.idxOf?_cons] at h
    by_cases hx : x = 59
    · subst hx
      simp at h
      subst h
      simp
    · rw [if_neg (by simpa using hx)] at h
      cases hr : t.idxOf? 59 with
      | none => rw [hr] at h; cases h
      | some j =>
        rw [hr] at h
        obtain rfl : j + 1 = i := by simpa using h
        obtain ⟨h1, h2, h3⟩ := idxOf_split t j hr
        refine ⟨by simp; omega, ?_, ?_⟩
        · show x :: t = x :: (t.take j ++ 59 :: t.drop (j + 1))
          rw [← h2]
        · show (59 : UInt8) ∉ x :: t.take j
          intro hm
          rcases List.mem_cons.1 hm with h | h
          · exact hx h.symm
          · exact h3 h
theorem idxOf_at : ∀ (c r : List UInt8), (59 : UInt8) ∉ c → (c ++ 59 :: r).idxOf? 59 = some c.length
  | [], r, _ => by rw [List.nil_append, List.idxOf?_cons]; simp
  | x :: c, r, h => by
    have hx : x ≠ 59 := fun e => h (by simp [e])
    rw [List.cons_append, List.idxOf?_cons, if_neg (by simpa using hx), idxOf_at c r (fun hm => h (List.mem_cons_of_mem _ hm))]
    rfl
theorem objB_make (c : List UInt8) (h : classB c = true) : objB (c ++ [59]) = true := by
  unfold objB
  simp [h]
theorem objB_open (u : List UInt8) (h : objB u = true) : ∃ c, u = c ++ [59] ∧ classB c = true := by
  unfold objB at h
  rw [Bool.and_eq_true] at h
  obtain ⟨h1, h2⟩ := h
  have h1 : u.getLast? = some 59 := by simpa using h1
  refine ⟨u.dropLast, ?_, h2⟩
  have hu : u ≠ [] := by rintro rfl; cases h1
  have hg : u.getLast hu = 59 := by rw [List.getLast?_eq_some_getLast hu] at h1; simpa using h1
  have := List.dropLast_concat_getLast hu
  rw [hg] at this
  exact this.symm
theorem obj_cut (t : List UInt8) (k : Nat) (hk : k ≤ t.length) : objB (t.take k) = true ↔ objN t = k + 1 := by
  constructor
  · intro h
    obtain ⟨c, hc, hb⟩ := objB_open _ h
    have hl : c.length + 1 = k := by
      have := congrArg List.length hc
      rw [List.length_take, List.length_append] at this
      simp at this
      omega
    have ht : t = c ++ 59 :: t.drop k := by
      have := List.take_append_drop k t
      rw [hc] at this
      simpa using this.symm
    unfold objN
    rw [ht, idxOf_at c _ (class_no_semi c hb)]
    simp only [List.take_left, hb, if_true]
    omega
  · intro h
    unfold objN at h
    cases hi : t.idxOf? 59 with
    | none => rw [hi] at h; cases h
    | some i =>
      rw [hi] at h
      simp only at h
      by_cases hb : classB (t.take i) = true
      · rw [if_pos hb] at h
        obtain ⟨h1, h2, h3⟩ := idxOf_split t i hi
        obtain rfl : k = i + 1 := by omega
        have e : t.take (i + 1) = t.take i ++ [59] := by
          rw [List.take_succ_eq_append_getElem h1]
          congr 1
          have : t[i]? = some 59 := by rw [h2, List.getElem?_append_right (by simp; omega)]; simp [Nat.min_eq_left (Nat.le_of_lt h1)]
          rw [List.getElem?_eq_getElem h1] at this
          simpa using this
        rw [e]
        exact objB_make _ hb
      · rw [if_neg hb] at h
        cases h
theorem take_empty {t : List UInt8} {k : Nat} (hk : k ≤ t.length) : (t.take k).isEmpty = decide (k = 0) := by
  cases k with
  | zero => simp
  | succ k =>
    cases t with
    | nil => simp at hk
    | cons x t => simp
/-- No type is a beginning of another one. -/
theorem type_cut : ∀ (l : List UInt8) (d k : Nat), 0 < k → k ≤ l.length → (typeD d (l.take k) = true ↔ cutD d l = k)
  | [], d, k, h0, hk => by simp at hk; omega
  | x :: t, d, k + 1, h0, hk => by
    have hk' : k ≤ t.length := by simpa using hk
    rw [List.take_succ_cons]
    unfold typeD cutD
    by_cases h91 : x = 91
    · rw [if_pos h91, if_pos h91]
      by_cases hk0 : k = 0
      · subst hk0
        have : typeD (d + 1) (t.take 0) = false := by simp [typeD]
        rw [this]
        constructor
        · intro h; cases h
        · intro h
          by_cases hc : cutD (d + 1) t = 0
          · rw [if_pos hc] at h; cases h
          · rw [if_neg hc] at h; omega
      · rw [type_cut t (d + 1) k (by omega) hk']
        constructor
        · intro h; rw [if_neg (by omega), h]
        · intro h
          by_cases hc : cutD (d + 1) t = 0
          · rw [if_pos hc] at h; cases h
          · rw [if_neg hc] at h; omega
    · rw [if_neg h91, if_neg h91, take_empty hk']
      by_cases hd : d ≤ 8
      · rw [if_pos hd]
        unfold itemN
        by_cases h73 : x = 73
        · subst h73
          simp [hd]
        · simp only [if_neg h73]
          by_cases h74 : x = 74
          · subst h74
            by_cases h0d : d = 0
            · subst h0d
              simp
            · have : decide (0 < d) = true := by simpa using (by omega : 0 < d)
              simp [hd, h0d, this]
          · rw [if_neg (by rintro ⟨h, -⟩; exact h74 h)]
            by_cases h66 : x = 66
            · subst h66
              by_cases h0d : 0 < d
              · simp [hd, h0d]
              · simp [hd, h0d]
            · rw [if_neg (by rintro ⟨h, -⟩; exact h66 h)]
              by_cases h76 : x = 76
              · subst h76
                simp [hd, obj_cut t k hk']
              · simp [hd, h73, h74, h66, h76]
      · rw [if_neg hd]
        simp [hd]
theorem objN_le (t : List UInt8) : objN t ≤ t.length + 1 := by
  unfold objN
  cases hi : t.idxOf? 59 with
  | none => simp
  | some i =>
    simp only
    have := (idxOf_split t i hi).1
    split <;> omega
theorem cut_le : ∀ (l : List UInt8) (d : Nat), cutD d l ≤ l.length
  | [], d => by simp [cutD]
  | x :: t, d => by
    have h1 := cut_le t (d + 1)
    have h2 := objN_le t
    unfold cutD itemN
    simp only [List.length_cons]
    repeat' split
    all_goals omega
theorem cut_type (l : List UInt8) (d : Nat) (h : cutD d l ≠ 0) : typeD d (l.take (cutD d l)) = true := (type_cut l d _ (by omega) (cut_le l d)).2 rfl
theorem type_ne (l : List UInt8) (d : Nat) (h : typeD d l = true) : l ≠ [] := by rintro rfl; cases h
theorem type_cut_whole (l r : List UInt8) (d : Nat) (h : typeD d l = true) : cutD d (l ++ r) = l.length := by
  have hl := type_ne l d h
  have hp : 0 < l.length := by cases l with | nil => exact absurd rfl hl | cons => simp
  refine (type_cut (l ++ r) d l.length hp (by simp)).1 ?_
  rw [List.take_left]
  exact h
theorem type_iff (l : List UInt8) (d : Nat) : typeD d l = decide (cutD d l ≠ 0 ∧ cutD d l = l.length) := by
  cases l with
  | nil => rfl
  | cons x t =>
    have h := type_cut (x :: t) d (x :: t).length (by simp) (Nat.le_refl _)
    rw [List.take_length] at h
    rw [Bool.eq_iff_iff, h]
    simp
    intro h; omega

/-- The types with which a text begins, so many at most; and what stands behind them. -/
def argsF : Nat → List UInt8 → List (List UInt8) × List UInt8
  | 0, s => ([], s)
  | k + 1, s => if cutD 0 s = 0 then ([], s) else (s.take (cutD 0 s) :: (argsF k (s.drop (cutD 0 s))).1, (argsF k (s.drop (cutD 0 s))).2)
def retOk (r : List UInt8) : Bool := (r == [86]) || typeD 0 r
/-- What a method's description tells. -/
def methodF (l : List UInt8) : Option (List (List UInt8) × List UInt8) :=
  match l with
  | [] => none
  | x :: s => if x = 40 then match (argsF 16 s).2 with
    | [] => none
    | y :: ret => if y = 41 ∧ retOk ret = true then some ((argsF 16 s).1, ret) else none
    else none

theorem argsF_none (k : Nat) (s : List UInt8) (h : cutD 0 s = 0) : argsF k s = ([], s) := by
  cases k with
  | zero => rfl
  | succ k => rw [argsF, if_pos h]
theorem argsF_len : ∀ (k : Nat) (s : List UInt8), (argsF k s).1.length ≤ k
  | 0, s => by simp [argsF]
  | k + 1, s => by
    unfold argsF
    have := argsF_len k (s.drop (cutD 0 s))
    split
    · simp
    · simp; omega
theorem cut_close (r : List UInt8) : cutD 0 (41 :: r) = 0 := by
  simp [cutD, itemN]
theorem argsF_flat : ∀ (k : Nat) (as : List (List UInt8)) (r : List UInt8), as.length ≤ k → (∀ a ∈ as, typeD 0 a = true) → cutD 0 r = 0 → argsF k (as.flatten ++ r) = (as, r)
  | k, [], r, _, _, hr => by simpa using argsF_none k r hr
  | 0, a :: as, r, hl, _, _ => by simp at hl
  | k + 1, a :: as, r, hl, ha, hr => by
    have h1 : typeD 0 a = true := ha a (by simp)
    have hn := type_ne a 0 h1
    have hc : cutD 0 (a ++ (as.flatten ++ r)) = a.length := type_cut_whole a _ 0 h1
    have h0 : a.length ≠ 0 := by cases a with | nil => exact absurd rfl hn | cons => simp
    rw [List.flatten_cons, List.append_assoc, argsF, hc, if_neg h0, List.take_left, List.drop_left, argsF_flat k as r (by simpa using hl) (fun x hx => ha x (List.mem_cons_of_mem _ hx)) hr]
theorem method_print (as : List (List UInt8)) (r : List UInt8) (hl : as.length ≤ 16) (ha : ∀ a ∈ as, typeD 0 a = true) (hr : retOk r = true) : methodF (40 :: (as.flatten ++ 41 :: r)) = some (as, r) := by
  unfold methodF
  simp only [if_true, argsF_flat 16 as (41 :: r) hl ha (cut_close r)]
  simp [hr]

/-- The class of a type. -/
def classOfF : List UInt8 → Option (List UInt8)
  | [] => none
  | x :: t => if x = 76 ∧ t.getLast? = some 59 then some t.dropLast else none

end Go.Proofs.YtdkkpcbebhgbiaaGreatDoor

/- Classes that go together, as plain data (layer 16): a world's lines, what the program asks of units and what the document asks: one and the same. Nothing of the program. -/
namespace Go.Proofs.YtdkkpcbebhgbiaaGreatDoor
set_option maxRecDepth 100000

abbrev Bs := List UInt8
/-- A field, a trap, an instruction, a map, a method, a class, with names. -/
structure FdD where
  static : Bool
  name : Bs
  desc : Bs
structure TrD where
  a : Int
  b : Int
  c : Int
  cls : Bs
structure InD where
  op : UInt8
  n : Int
  m : Int
  cls : Bs
  name : Bs
  desc : Bs
  text : Bs
structure MpD where
  at_ : Int
  locals : List Bs
  stack : List Bs
structure MeD where
  static : Bool
  name : Bs
  desc : Bs
  stack : Int
  locals : Int
  code : List InD
  traps : List TrD
  maps : List MpD
structure UnD where
  name : Bs
  super : Bs
  fields : List FdD
  meths : List MeD

def findU (w : List UnD) (c : Bs) : Option UnD := w.find? (fun u => u.name == c)
/-- A class, its superclass, and so on: so many at most. -/
def lineU (w : List UnD) : Nat → Bs → List UnD
  | 0, _ => []
  | k + 1, c => match findU w c with
    | none => []
    | some u => u :: lineU w k u.super
/-- Just k classes stand in a class's line. -/
def endsIn (w : List UnD) : Nat → Bs → Prop
  | 0, c => findU w c = none
  | k + 1, c => ∃ u, findU w c = some u ∧ endsIn w k u.super

section
variable {w : List UnD}
theorem findU_name {c : Bs} {u : UnD} (h : findU w c = some u) : u.name = c ∧ u ∈ w := by
  unfold findU at h
  exact ⟨by simpa using List.find?_some h, List.mem_of_find?_eq_some h⟩
theorem findU_mem (hn : (w.map (·.name)).Nodup) {u : UnD} (hu : u ∈ w) : findU w u.name = some u := by
  unfold findU
  induction w with
  | nil => cases hu
  | cons v r ih =>
    rw [List.map_cons, List.nodup_cons] at hn
    rw [List.find?_cons]
    rcases List.mem_cons.1 hu with rfl | hr
    · simp
    · have hne : v.name ≠ u.name := fun e => hn.1 (e ▸ List.mem_map_of_mem hr)
      rw [show (v.name == u.name) = false by simpa using hne]
      exact ih hn.2 hr
theorem findU_some {c : Bs} (h : c ∈ w.map (·.name)) : ∃ u, findU w c = some u := by
  obtain ⟨u, hu, e⟩ := List.mem_map.1 h
  cases hf : findU w c with
  | some v => exact ⟨v, rfl⟩
  | none =>
    unfold findU at hf
    have := List.find?_eq_none.1 hf u hu
    simp [e] at this
theorem findU_none {c : Bs} (h : findU w c = none) : c ∉ w.map (·.name) := fun h1 => by
  obtain ⟨u, hu⟩ := findU_some h1
  rw [h] at hu
  cases hu

theorem line_succ (k : Nat) (c : Bs) : lineU w (k + 1) c = match findU w c with | none => [] | some u => u :: lineU w k u.super := rfl
theorem line_none {c : Bs} (h : findU w c = none) : ∀ k, lineU w k c = []
  | 0 => rfl
  | k + 1 => by rw [line_succ, h]
theorem line_some {c : Bs} {u : UnD} (h : findU w c = some u) (k : Nat) : lineU w (k + 1) c = u :: lineU w k u.super := by rw [line_succ, h]
theorem line_ends : ∀ {k : Nat} {c : Bs}, endsIn w k c → ∀ n, k ≤ n → lineU w n c = lineU w k c ∧ (lineU w n c).length = k
  | 0, c, h, n, _ => by rw [line_none h, line_none h]; exact ⟨rfl, rfl⟩
  | k + 1, c, ⟨u, hu, he⟩, n, hn => by
    cases n with
    | zero => omega
    | succ n =>
      obtain ⟨h1, h2⟩ := line_ends he n (by omega)
      rw [line_some hu, line_some hu, h1]
      rw [h1] at h2
      exact ⟨rfl, by simp [h2]⟩
theorem ends_uniq : ∀ {k j : Nat} {c : Bs}, endsIn w k c → endsIn w j c → k = j
  | 0, 0, _, _, _ => rfl
  | 0, j + 1, c, h, ⟨u, hu, _⟩ => by rw [show findU w c = none from h] at hu; cases hu
  | k + 1, 0, c, ⟨u, hu, _⟩, h => by rw [show findU w c = none from h] at hu; cases hu
  | k + 1, j + 1, c, ⟨u, hu, h⟩, ⟨v, hv, h'⟩ => by
    rw [hu] at hv
    cases hv
    rw [ends_uniq h h']
/-- A line that isn't cut off ends. -/
theorem ends_of_short : ∀ {n : Nat} {c : Bs}, (lineU w (n + 1) c).length ≤ n → ∃ k, k ≤ n ∧ endsIn w k c
  | n, c, h => by
    cases hf : findU w c with
    | none => exact ⟨0, Nat.zero_le _, hf⟩
    | some u =>
      rw [line_some hf, List.length_cons] at h
      cases n with
      | zero => omega
      | succ n =>
        obtain ⟨k, hk, he⟩ := ends_of_short (n := n) (c := u.super) (by omega)
        exact ⟨k + 1, by omega, u, hf, he⟩
theorem line_le : ∀ (n : Nat) (c : Bs), (lineU w n c).length ≤ n
  | 0, _ => by simp [lineU]
  | n + 1, c => by
    cases hf : findU w c with
    | none => rw [line_none hf]; simp
    | some u => rw [line_some hf, List.length_cons]; have := line_le n u.super; omega
theorem line_mem : ∀ {n : Nat} {c : Bs} {v : UnD}, v ∈ lineU w n c → v ∈ w ∧ findU w v.name = some v
  | 0, _, _, h => by cases h
  | n + 1, c, v, h => by
    cases hf : findU w c with
    | none => rw [line_none hf] at h; cases h
    | some u =>
      rw [line_some hf] at h
      rcases List.mem_cons.1 h with rfl | h
      · have := findU_name hf
        exact ⟨this.2, by rw [this.1]; exact hf⟩
      · exact line_mem h
theorem line_mono : ∀ {n m : Nat} {c : Bs} {v : UnD}, n ≤ m → v ∈ lineU w n c → v ∈ lineU w m c
  | 0, _, _, _, _, h => by cases h
  | n + 1, m, c, v, hm, h => by
    cases m with
    | zero => omega
    | succ m =>
      cases hf : findU w c with
      | none => rw [line_none hf] at h; cases h
      | some u =>
        rw [line_some hf] at h ⊢
        rcases List.mem_cons.1 h with rfl | h
        · exact List.mem_cons_self
        · exact List.mem_cons_of_mem _ (line_mono (by omega) h)
/-- What stands in a line has its own line there. -/
theorem line_at : ∀ {k : Nat} {c : Bs} {v : UnD}, endsIn w k c → v ∈ lineU w k c → ∃ pre j, j ≤ k ∧ endsIn w j v.name ∧ lineU w k c = pre ++ lineU w j v.name ∧ (pre ≠ [] → v.name ≠ c)
  | 0, c, v, _, h => by cases h
  | k + 1, c, v, he, h => by
    obtain ⟨u, hu, he'⟩ := he
    have hun := findU_name hu
    rw [line_some hu] at h
    by_cases hv : v.name = c
    · refine ⟨[], k + 1, Nat.le_refl _, ?_, ?_, fun h => absurd rfl h⟩
      · rw [hv]; exact ⟨u, hu, he'⟩
      · rw [hv]; rfl
    · rcases List.mem_cons.1 h with rfl | h
      · exact absurd hun.1 hv
      · obtain ⟨pre, j, hj, h1, h2, _⟩ := line_at he' h
        exact ⟨u :: pre, j, by omega, h1, by rw [line_some hu, h2]; rfl, fun _ => hv⟩
/-- No class stands twice in a line that ends. -/
theorem line_nodup : ∀ {k : Nat} {c : Bs}, endsIn w k c → ((lineU w k c).map (·.name)).Nodup
  | 0, _, _ => by simp [lineU]
  | k + 1, c, he => by
    have he0 := he
    obtain ⟨u, hu, he'⟩ := he
    rw [line_some hu, List.map_cons, List.nodup_cons]
    refine ⟨fun h => ?_, line_nodup he'⟩
    obtain ⟨v, hv, e⟩ := List.mem_map.1 h
    obtain ⟨pre, j, hj, h1, _⟩ := line_at he' hv
    rw [e, (findU_name hu).1] at h1
    have := ends_uniq he0 h1
    omega
end

/-- More places than there are names: one stands twice. -/
theorem nodup_le : ∀ {l m : List Bs}, l.Nodup → (∀ x ∈ l, x ∈ m) → l.length ≤ m.length
  | [], _, _, _ => Nat.zero_le _
  | x :: l, m, hn, h => by
    rw [List.nodup_cons] at hn
    have hx := h x List.mem_cons_self
    have := nodup_le (l := l) (m := m.erase x) hn.2 (fun y hy => (List.mem_erase_of_ne (by rintro rfl; exact hn.1 hy)).2 (h y (List.mem_cons_of_mem _ hy)))
    rw [List.length_erase_of_mem hx] at this
    have := List.length_pos_of_mem hx
    simp
    omega

end Go.Proofs.YtdkkpcbebhgbiaaGreatDoor

/- What the program asks of units, and what the document asks: one and the same; what is told of classes that go together. Nothing of the program. -/
namespace Go.Proofs.YtdkkpcbebhgbiaaGreatDoor
set_option maxRecDepth 100000

def cObject : Bs := [79, 98, 106, 101, 99, 116]
def cThrowable : Bs := [84, 104, 114, 111, 119, 97, 98, 108, 101]
def cSys : Bs := [115, 121, 115]
def natM (n d : Bs) : MeD := ⟨true, n, d, 0, 0, [], [], []⟩
def natL : List MeD := [natM [112, 114, 105, 110, 116] [40, 73, 41, 86], natM [112, 114, 105, 110, 116, 76, 111, 110, 103] [40, 74, 41, 86], natM [112, 114, 105, 110, 116, 84, 101, 120, 116] [40, 91, 66, 41, 86], natM [97, 100, 100] [40, 91, 66, 41, 73], natM [103, 101, 116] [40, 73, 41, 91, 66], natM [115, 101, 116] [40, 73, 91, 66, 41, 86], natM [100, 101, 108] [40, 73, 41, 86], natM [99, 111, 117, 110, 116] [40, 41, 73]]
def faultU (n : Bs) : UnD := ⟨n, cThrowable, [], []⟩
def builtL : List UnD := [⟨cObject, [], [], []⟩, ⟨cThrowable, cObject, [], []⟩, ⟨cSys, cObject, [], natL⟩, faultU [78, 117, 108, 108, 70, 97, 117, 108, 116], faultU [66, 111, 117, 110, 100, 115, 70, 97, 117, 108, 116], faultU [77, 97, 116, 104, 70, 97, 117, 108, 116], faultU [67, 97, 115, 116, 70, 97, 117, 108, 116], faultU [83, 105, 122, 101, 70, 97, 117, 108, 116], faultU [83, 116, 111, 114, 101, 70, 97, 117, 108, 116]]

/-- Is the class there that a type names? -/
def thereU (w : List UnD) (t : Bs) : Bool := match classOfF (t.dropWhile (· == 91)) with
  | none => true
  | some c => (findU w c).isSome
def isNameB (s : Bs) : Bool := classB s && !(s.contains 47)
def lastM (u : UnD) (n d : Bs) : Option Bool := (u.meths.reverse.find? (fun m => m.name == n && m.desc == d)).map (·.static)
def lastF (u : UnD) (n d : Bs) : Option Bool := (u.fields.reverse.find? (fun m => m.name == n && m.desc == d)).map (·.static)
def firstG (g : UnD → Option Bool) : List UnD → Option (Bs × Bool)
  | [] => none
  | v :: r => match g v with
    | some st => some (v.name, st)
    | none => firstG g r
def isLaidP (w : List UnD) (u : UnD) : Bool := (findU w u.super).isSome && u.super != cSys && !((lineU w w.length u.super).any (·.name == u.name))
def followsP (w : List UnD) (super : Bs) (m : MeD) : Bool := match firstG (fun v => lastM v m.name m.desc) (lineU w w.length super) with
  | none => true
  | some q => q.2 == m.static
def typesP (w : List UnD) (d : Bs) : Bool := match methodF d with
  | none => false
  | some q => q.1.all (thereU w) && thereU w q.2
def trapsP (w : List UnD) (m : MeD) : Bool := m.traps.all (fun t => t.cls.isEmpty || (findU w t.cls).isSome)
def methP (w : List UnD) (m : MeD) : Bool := isNameB m.name && typesP w m.desc && trapsP w m
def fieldP (w : List UnD) (f : FdD) : Bool := isNameB f.name && typeD 0 f.desc && thereU w f.desc
def mayBeP (w : List UnD) (u : UnD) : Bool :=
  classB u.name && isLaidP w u && decide ((u.fields.map (·.name)).Nodup) && decide ((u.meths.map fun m => (m.name, m.desc)).Nodup) && u.fields.all (fieldP w) && u.meths.all (fun m => methP w m && followsP w u.super m)
def okP (l : List UnD) : Bool := decide (l.length ≤ 32) && (decide (((builtL ++ l).map (·.name)).Nodup) && l.all (mayBeP (builtL ++ l)))

def lineR (w : List UnD) (c : Bs) : List UnD := lineU w (w.length + 1) c
def agreeR (w : List UnD) (u : UnD) (m : MeD) : Bool := (lineR w u.name).all fun v => v.meths.all fun x => !(x.name == m.name && x.desc == m.desc && x.static != m.static)
def methR (w : List UnD) (u : UnD) (m : MeD) : Bool := methP w m && agreeR w u m
def laidR (w : List UnD) (u : UnD) : Bool := u.super != cSys && decide (2 ≤ (lineR w u.name).length) && decide ((lineR w u.name).length ≤ w.length) && ((lineR w u.name).getLast?.map (·.name) == some cObject)
def unitR (w : List UnD) (u : UnD) : Bool :=
  classB u.name && laidR w u && (u.fields.all (fieldP w) && decide ((u.fields.map (·.name)).Nodup)) && (u.meths.all (methR w u) && decide ((u.meths.map fun m => (m.name, m.desc)).Nodup))
def okR (l : List UnD) : Bool := decide (l.length ≤ 32) && (decide (((builtL ++ l).map (·.name)).Nodup) && l.all (unitR (builtL ++ l)))

/-- A world whose classes go together. -/
structure Good (w : List UnD) : Prop where
  nodup : (w.map (·.name)).Nodup
  ends : ∀ u ∈ w, ∃ k, k ≤ w.length ∧ endsIn w k u.name
  last : ∀ u ∈ w, findU w u.super = none → u.name = cObject
  same : ∀ u ∈ w, ∀ m ∈ u.meths, ∀ v ∈ lineU w w.length u.name, ∀ x ∈ v.meths, x.name = m.name → x.desc = m.desc → x.static = m.static
  meth1 : ∀ u ∈ w, (u.meths.map fun m => (m.name, m.desc)).Nodup
  field1 : ∀ u ∈ w, (u.fields.map (·.name)).Nodup
  sys : ∀ u ∈ w, u.super ≠ cSys
  sysU : findU w cSys = some ⟨cSys, cObject, [], natL⟩
  blank : findU w [] = none

section
variable {w : List UnD}
theorem line_rep : ∀ {n : Nat} {c : Bs}, ¬ ((lineU w n c).map (·.name)).Nodup → ∃ v, v ∈ lineU w n c ∧ v.name ∈ (lineU w (n - 1) v.super).map (·.name)
  | 0, _, h => absurd (by simp [lineU]) h
  | n + 1, c, h => by
    cases hf : findU w c with
    | none => rw [line_none hf] at h; exact absurd (by simp) h
    | some u =>
      rw [line_some hf] at h ⊢
      rw [List.map_cons, List.nodup_cons] at h
      by_cases hu : u.name ∈ (lineU w n u.super).map (·.name)
      · exact ⟨u, List.mem_cons_self, by simpa using hu⟩
      · have h2 : ¬ ((lineU w n u.super).map (·.name)).Nodup := fun h2 => h ⟨hu, h2⟩
        obtain ⟨v, hv, h3⟩ := line_rep h2
        obtain ⟨x, hx, e⟩ := List.mem_map.1 h3
        refine ⟨v, List.mem_cons_of_mem _ hv, ?_⟩
        rw [← e]
        exact List.mem_map_of_mem (line_mono (by omega) hx)

theorem ends_of_laid (hlaid : ∀ u ∈ w, (∃ k, endsIn w k u.name) ∨ (lineU w w.length u.super).any (·.name == u.name) = false) : ∀ u ∈ w, ∃ k, k ≤ w.length ∧ endsIn w k u.name := by
  intro u hu
  by_cases hs : (lineU w (w.length + 1) u.name).length ≤ w.length
  · exact ends_of_short hs
  · exfalso
    have hle := line_le (w := w) (w.length + 1) u.name
    have hrep : ¬ ((lineU w (w.length + 1) u.name).map (·.name)).Nodup := fun hn => by
      have := nodup_le hn (m := w.map (·.name)) (fun x hx => by
        obtain ⟨v, hv, e⟩ := List.mem_map.1 hx
        exact e ▸ List.mem_map_of_mem (line_mem hv).1)
      simp at this
      omega
    obtain ⟨v, hv, h⟩ := line_rep hrep
    rw [Nat.add_sub_cancel] at h
    obtain ⟨hvw, hvf⟩ := line_mem hv
    rcases hlaid v hvw with ⟨k, hk⟩ | hno
    · have h1 : ((lineU w (w.length + k + 1) v.name).map (·.name)).Nodup := by
        rw [(line_ends hk (w.length + k + 1) (by omega)).1]
        exact line_nodup hk
      rw [line_some hvf, List.map_cons, List.nodup_cons] at h1
      obtain ⟨x, hx, e⟩ := List.mem_map.1 h
      exact h1.1 (e ▸ List.mem_map_of_mem (line_mono (by omega) hx))
    · obtain ⟨x, hx, e⟩ := List.mem_map.1 h
      have := List.any_eq_false.1 hno x hx
      simp [e] at this
end

end Go.Proofs.YtdkkpcbebhgbiaaGreatDoor

/- What the program asks of units is what the document asks. Nothing of the program. -/
namespace Go.Proofs.YtdkkpcbebhgbiaaGreatDoor
set_option maxRecDepth 100000

theorem inj_of_nodup {α β : Type} {f : α → β} : ∀ {l : List α}, (l.map f).Nodup → ∀ {x y : α}, x ∈ l → y ∈ l → f x = f y → x = y
  | [], _, _, _, h, _, _ => by cases h
  | a :: l, hn, x, y, hx, hy, e => by
    rw [List.map_cons, List.nodup_cons] at hn
    rcases List.mem_cons.1 hx with hxa | hx2
    · rcases List.mem_cons.1 hy with hya | hy2
      · rw [hxa, hya]
      · exact absurd (List.mem_map.2 ⟨y, hy2, by rw [← e, hxa]⟩) hn.1
    · rcases List.mem_cons.1 hy with hya | hy2
      · exact absurd (List.mem_map.2 ⟨x, hx2, by rw [e, hya]⟩) hn.1
      · exact inj_of_nodup hn.2 hx2 hy2 e

section
variable {w : List UnD}
theorem lastM_mem {u : UnD} {n d : Bs} {st : Bool} (h : lastM u n d = some st) : ∃ x, x ∈ u.meths ∧ x.name = n ∧ x.desc = d ∧ x.static = st := by
  unfold lastM at h
  cases hf : u.meths.reverse.find? (fun m => m.name == n && m.desc == d) with
  | none => rw [hf] at h; cases h
  | some x =>
    rw [hf] at h
    have h1 := List.find?_some hf
    have h2 := List.mem_of_find?_eq_some hf
    simp at h1 h2 h
    exact ⟨x, h2, h1.1, h1.2, h⟩
theorem lastM_some {u : UnD} {x : MeD} (h : x ∈ u.meths) : ∃ st, lastM u x.name x.desc = some st := by
  unfold lastM
  cases hf : u.meths.reverse.find? (fun m => m.name == x.name && m.desc == x.desc) with
  | none =>
    have := List.find?_eq_none.1 hf x (by simpa using h)
    simp at this
  | some y => exact ⟨_, rfl⟩
theorem lastM_eq {u : UnD} {x : MeD} (hn : (u.meths.map fun m => (m.name, m.desc)).Nodup) (h : x ∈ u.meths) : lastM u x.name x.desc = some x.static := by
  obtain ⟨st, hs⟩ := lastM_some h
  obtain ⟨y, hy, h1, h2, h3⟩ := lastM_mem hs
  obtain rfl := inj_of_nodup hn hy h (by simp [h1, h2])
  rw [hs, h3]
theorem firstG_mem {g : UnD → Option Bool} : ∀ {l : List UnD} {q : Bs × Bool}, firstG g l = some q → ∃ v, v ∈ l ∧ g v = some q.2 ∧ q.1 = v.name
  | [], _, h => by cases h
  | v :: l, q, h => by
    unfold firstG at h
    cases hg : g v with
    | some st =>
      rw [hg] at h
      simp at h
      subst h
      exact ⟨v, List.mem_cons_self, hg, rfl⟩
    | none =>
      rw [hg] at h
      obtain ⟨x, hx, h1⟩ := firstG_mem h
      exact ⟨x, List.mem_cons_of_mem _ hx, h1⟩
theorem firstG_none {g : UnD → Option Bool} : ∀ {l : List UnD}, firstG g l = none → ∀ v ∈ l, g v = none
  | [], _, _, h => by cases h
  | v :: l, h, x, hx => by
    unfold firstG at h
    cases hg : g v with
    | some st => rw [hg] at h; cases h
    | none =>
      rw [hg] at h
      rcases List.mem_cons.1 hx with rfl | hx
      · exact hg
      · exact firstG_none h x hx
/-- The first one in a line that has it: whatever else has it stands in its line. -/
theorem firstG_at {g : UnD → Option Bool} : ∀ {k : Nat} {c : Bs} {v : UnD}, endsIn w k c → v ∈ lineU w k c → (g v).isSome → ∃ v0 st j, j ≤ k ∧ v0 ∈ w ∧ firstG g (lineU w k c) = some (v0.name, st) ∧ g v0 = some st ∧ endsIn w j v0.name ∧ v ∈ lineU w j v0.name
  | 0, _, _, _, h, _ => by cases h
  | k + 1, c, v, he, h, hg => by
    have he0 := he
    obtain ⟨u, hu, he'⟩ := he
    have hun := findU_name hu
    rw [line_some hu] at h ⊢
    unfold firstG
    cases hgu : g u with
    | some st => exact ⟨u, st, k + 1, Nat.le_refl _, hun.2, rfl, hgu, by rw [hun.1]; exact he0, by rw [hun.1, line_some hu]; exact h⟩
    | none =>
      rcases List.mem_cons.1 h with rfl | h
      · rw [hgu] at hg; cases hg
      · obtain ⟨v0, st, j, hj, h1⟩ := firstG_at he' h hg
        exact ⟨v0, st, j, by omega, h1⟩
theorem ends_last : ∀ {k : Nat} {c : Bs}, endsIn w (k + 1) c → ∃ v, (lineU w (k + 1) c).getLast? = some v ∧ v ∈ w ∧ findU w v.super = none
  | 0, c, ⟨u, hu, he⟩ => ⟨u, by rw [line_some hu]; rfl, (findU_name hu).2, he⟩
  | k + 1, c, ⟨u, hu, he⟩ => by
    obtain ⟨v, h1, h2⟩ := ends_last he
    refine ⟨v, ?_, h2⟩
    rw [line_some hu, List.getLast?_cons, h1]
    rfl
end

theorem built_names : ∀ b ∈ builtL, b.name ≠ [] := by decide
theorem built_len : builtL.length = 9 := rfl

/-- The units' own conditions, beside those on all of them. -/
structure GoodU (w : List UnD) (u : UnD) : Prop where
  cls : classB u.name = true
  sys : u.super ≠ cSys
  there : ∃ s, findU w u.super = some s
  fields : u.fields.all (fieldP w) = true
  meths : u.meths.all (methP w) = true

section
variable {l : List UnD}
theorem findU_built (hn : ((builtL ++ l).map (·.name)).Nodup) {b : UnD} (hb : b ∈ builtL) : findU (builtL ++ l) b.name = some b := findU_mem hn (List.mem_append_left _ hb)
theorem blank_of (hc : ∀ u ∈ l, classB u.name = true) : findU (builtL ++ l) [] = none := by
  unfold findU
  refine List.find?_eq_none.2 (fun u hu => ?_)
  rcases List.mem_append.1 hu with h | h
  · simpa using built_names u h
  · simpa using class_ne _ (hc u h)
theorem object_ends (hn : ((builtL ++ l).map (·.name)).Nodup) (hb : findU (builtL ++ l) [] = none) : endsIn (builtL ++ l) 1 cObject :=
  ⟨⟨cObject, [], [], []⟩, findU_built hn (b := ⟨cObject, [], [], []⟩) (by simp [builtL]), hb⟩
theorem throwable_ends (hn : ((builtL ++ l).map (·.name)).Nodup) (hb : findU (builtL ++ l) [] = none) : endsIn (builtL ++ l) 2 cThrowable :=
  ⟨⟨cThrowable, cObject, [], []⟩, findU_built hn (b := ⟨cThrowable, cObject, [], []⟩) (by simp [builtL]), object_ends hn hb⟩
/-- A built-in class's superclass: none, Object or Throwable. -/
theorem built_super : ∀ b ∈ builtL, (b.super = [] ∧ b.name = cObject) ∨ b.super = cObject ∨ b.super = cThrowable := by
  intro b hb
  simp [builtL, faultU] at hb
  rcases hb with rfl | rfl | rfl | rfl | rfl | rfl | rfl | rfl | rfl <;> simp
theorem built_ends (hn : ((builtL ++ l).map (·.name)).Nodup) (hb : findU (builtL ++ l) [] = none) : ∀ b ∈ builtL, ∃ k, k ≤ 3 ∧ endsIn (builtL ++ l) k b.name := by
  intro b h
  have hf := findU_built hn h
  rcases built_super b h with ⟨h1, _⟩ | h1 | h1
  · exact ⟨1, by omega, b, hf, by rw [h1]; exact hb⟩
  · exact ⟨2, by omega, b, hf, by rw [h1]; exact object_ends hn hb⟩
  · exact ⟨3, by omega, b, hf, by rw [h1]; exact throwable_ends hn hb⟩
theorem built_meths : ∀ b ∈ builtL, b.meths = [] ∨ b = ⟨cSys, cObject, [], natL⟩ := by
  intro b hb
  simp [builtL, faultU] at hb
  rcases hb with rfl | rfl | rfl | rfl | rfl | rfl | rfl | rfl | rfl <;> simp
theorem built_fields : ∀ b ∈ builtL, b.fields = [] := by
  intro b hb
  simp [builtL, faultU] at hb
  rcases hb with rfl | rfl | rfl | rfl | rfl | rfl | rfl | rfl | rfl <;> simp
theorem built_no_sys : ∀ b ∈ builtL, b.super ≠ cSys := by decide
theorem nat_nodup : (natL.map fun m => (m.name, m.desc)).Nodup := by decide
theorem nat_static : ∀ m ∈ natL, m.static = true := by decide

/-- All but that methods agree. -/
theorem good_mk (hn : ((builtL ++ l).map (·.name)).Nodup) (hu : ∀ u ∈ l, GoodU (builtL ++ l) u) (hf : ∀ u ∈ l, (u.fields.map (·.name)).Nodup) (hm : ∀ u ∈ l, (u.meths.map fun m => (m.name, m.desc)).Nodup)
    (he : ∀ u ∈ l, ∃ k, k ≤ (builtL ++ l).length ∧ endsIn (builtL ++ l) k u.name)
    (hs : ∀ u ∈ l, ∀ m ∈ u.meths, ∀ v ∈ lineU (builtL ++ l) (builtL ++ l).length u.name, ∀ x ∈ v.meths, x.name = m.name → x.desc = m.desc → x.static = m.static) : Good (builtL ++ l) := by
  have hb := blank_of (fun u h => (hu u h).cls)
  have ho := findU_built hn (b := ⟨cObject, [], [], []⟩) (by simp [builtL])
  have hsy := findU_built hn (b := ⟨cSys, cObject, [], natL⟩) (by simp [builtL])
  have hlen : 9 ≤ (builtL ++ l).length := by simp [built_len]
  refine ⟨hn, fun u h => ?_, fun u h h0 => ?_, fun u h m h1 v h2 x h3 e1 e2 => ?_, fun u h => ?_, fun u h => ?_, fun u h => ?_, hsy, hb⟩
  · rcases List.mem_append.1 h with h | h
    · obtain ⟨k, hk, h1⟩ := built_ends hn hb u h
      exact ⟨k, by omega, h1⟩
    · exact he u h
  · rcases List.mem_append.1 h with h | h
    · rcases built_super u h with ⟨_, h1⟩ | h1 | h1
      · exact h1
      · rw [h1] at h0
        obtain ⟨s, h2, _⟩ := object_ends hn hb
        rw [h0] at h2; cases h2
      · rw [h1] at h0
        obtain ⟨s, h2, _⟩ := throwable_ends hn hb
        rw [h0] at h2; cases h2
    · obtain ⟨s, h2⟩ := (hu u h).there
      rw [h0] at h2; cases h2
  · rcases List.mem_append.1 h with h | h
    · rcases built_meths u h with h4 | rfl
      · rw [h4] at h1; cases h1
      · have he2 : endsIn (builtL ++ l) 2 cSys := ⟨_, hsy, object_ends hn hb⟩
        rw [(line_ends he2 _ (by omega)).1, show lineU (builtL ++ l) 2 cSys = _ from line_some hsy 1, line_some ho, line_none hb] at h2
        simp at h2
        rcases h2 with rfl | rfl
        · rw [nat_static x h3, nat_static m h1]
        · cases h3
    · exact hs u h m h1 v h2 x h3 e1 e2
  · rcases List.mem_append.1 h with h | h
    · rcases built_meths u h with h4 | rfl
      · rw [h4]; exact List.nodup_nil
      · exact nat_nodup
    · exact hm u h
  · rcases List.mem_append.1 h with h | h
    · rw [built_fields u h]; exact List.nodup_nil
    · exact hf u h
  · rcases List.mem_append.1 h with h | h
    · exact built_no_sys u h
    · exact (hu u h).sys

/-- What both ask. -/
def Both (l : List UnD) : Prop := l.length ≤ 32 ∧ Good (builtL ++ l) ∧ ∀ u ∈ l, GoodU (builtL ++ l) u

theorem both_of_P (h : okP l = true) : Both l := by
  simp only [okP, Bool.and_eq_true, decide_eq_true_eq, List.all_eq_true] at h
  obtain ⟨hlen, hn, hu⟩ := h
  have hU : ∀ u ∈ l, GoodU (builtL ++ l) u ∧ (lineU (builtL ++ l) (builtL ++ l).length u.super).any (·.name == u.name) = false ∧ (u.fields.map (·.name)).Nodup ∧ (u.meths.map fun m => (m.name, m.desc)).Nodup ∧ ∀ m ∈ u.meths, followsP (builtL ++ l) u.super m = true := by
    intro u h
    have := hu u h
    simp only [mayBeP, isLaidP, Bool.and_eq_true, decide_eq_true_eq, bne_iff_ne, Bool.not_eq_true', Option.isSome_iff_exists] at this
    obtain ⟨⟨⟨⟨⟨h1, ⟨h2, h3⟩, h4⟩, h5⟩, h6⟩, h7⟩, h8⟩ := this
    rw [List.all_eq_true] at h8
    exact ⟨⟨h1, h3, h2, h7, List.all_eq_true.2 fun m hm => by have := h8 m hm; rw [Bool.and_eq_true] at this; exact this.1⟩, h4, h5, h6, fun m hm => by have := h8 m hm; rw [Bool.and_eq_true] at this; exact this.2⟩
  have hb := blank_of (fun u h => (hU u h).1.cls)
  have hends := ends_of_laid (w := builtL ++ l) (fun u h => by
    rcases List.mem_append.1 h with h | h
    · obtain ⟨k, _, h1⟩ := built_ends hn hb u h
      exact Or.inl ⟨k, h1⟩
    · exact Or.inr (hU u h).2.1)
  have hm1 : ∀ u ∈ builtL ++ l, (u.meths.map fun m => (m.name, m.desc)).Nodup := by
    intro u h
    rcases List.mem_append.1 h with h | h
    · rcases built_meths u h with h4 | rfl
      · rw [h4]; exact List.nodup_nil
      · exact nat_nodup
    · exact (hU u h).2.2.2.1
  have ho := findU_built hn (b := ⟨cObject, [], [], []⟩) (by simp [builtL])
  have hsame : ∀ k, ∀ j, j ≤ k → ∀ u ∈ builtL ++ l, endsIn (builtL ++ l) j u.name → ∀ m ∈ u.meths, ∀ v ∈ lineU (builtL ++ l) j u.name, ∀ x ∈ v.meths, x.name = m.name → x.desc = m.desc → x.static = m.static := by
    intro k
    induction k with
    | zero =>
      intro j hj u hu' he
      obtain rfl : j = 0 := by omega
      have := findU_mem hn hu'
      rw [show findU (builtL ++ l) u.name = none from he] at this
      cases this
    | succ k ih =>
      intro j hj u hu' he m hm v hv x hx e1 e2
      cases j with
      | zero => cases hv
      | succ j =>
        obtain ⟨u', hu1, he'⟩ := he
        rw [findU_mem hn hu'] at hu1
        cases hu1
        rw [line_some (findU_mem hn hu')] at hv
        rcases List.mem_cons.1 hv with rfl | hv
        · rw [inj_of_nodup (hm1 v hu') hx hm (by simp [e1, e2])]
        · rcases List.mem_append.1 hu' with h | h
          · rcases built_meths u h with h4 | rfl
            · rw [h4] at hm; cases hm
            · cases j with
              | zero => cases hv
              | succ j =>
                rw [line_some ho, line_none hb] at hv
                simp at hv
                subst hv
                cases hx
          · have hf := (hU u h).2.2.2.2 m hm
            obtain ⟨s, hs⟩ := (hU u h).1.there
            have hsn := findU_name hs
            obtain ⟨j', hj', hej⟩ := hends s hsn.2
            rw [hsn.1] at hej
            obtain rfl := ends_uniq hej he'
            unfold followsP at hf
            rw [(line_ends he' _ hj').1] at hf
            obtain ⟨st, hst⟩ := lastM_some hx
            rw [e1, e2] at hst
            obtain ⟨v0, st0, i, hi, hv0, hfg, hg0, he0, hvi⟩ := firstG_at (g := fun v => lastM v m.name m.desc) he' hv (by simp [hst])
            rw [hfg] at hf
            obtain ⟨x0, hx0, h1, h2, h3⟩ := lastM_mem hg0
            have := ih i (by omega) v0 hv0 he0 x0 hx0 v hvi x hx (by rw [h1, e1]) (by rw [h2, e2])
            rw [this, h3]
            simpa using hf
  refine ⟨hlen, good_mk hn (fun u h => (hU u h).1) (fun u h => (hU u h).2.2.1) (fun u h => (hU u h).2.2.2.1) (fun u h => hends u (List.mem_append_right _ h)) (fun u h m hm v hv x hx e1 e2 => ?_), fun u h => (hU u h).1⟩
  obtain ⟨k, hk, he⟩ := hends u (List.mem_append_right _ h)
  rw [(line_ends he _ hk).1] at hv
  exact hsame k k (Nat.le_refl _) u (List.mem_append_right _ h) he m hm v hv x hx e1 e2

theorem both_of_R (h : okR l = true) : Both l := by
  simp only [okR, Bool.and_eq_true, decide_eq_true_eq, List.all_eq_true] at h
  obtain ⟨hlen, hn, hu⟩ := h
  have hU : ∀ u ∈ l, GoodU (builtL ++ l) u ∧ (∃ k, k ≤ (builtL ++ l).length ∧ endsIn (builtL ++ l) k u.name) ∧ (u.fields.map (·.name)).Nodup ∧ (u.meths.map fun m => (m.name, m.desc)).Nodup ∧ ∀ m ∈ u.meths, agreeR (builtL ++ l) u m = true := by
    intro u h
    have := hu u h
    simp only [unitR, laidR, Bool.and_eq_true, decide_eq_true_eq, bne_iff_ne] at this
    obtain ⟨⟨⟨h1, ⟨⟨h2, h3⟩, h4⟩, h5⟩, h6, h7⟩, h8, h9⟩ := this
    rw [List.all_eq_true] at h8
    refine ⟨⟨h1, h2, ?_, h6, List.all_eq_true.2 fun m hm => by have := h8 m hm; unfold methR at this; rw [Bool.and_eq_true] at this; exact this.1⟩, ends_of_short h4, h7, h9, fun m hm => by have := h8 m hm; unfold methR at this; rw [Bool.and_eq_true] at this; exact this.2⟩
    have hf := findU_mem hn (List.mem_append_right builtL h)
    unfold lineR at h3
    rw [line_some hf] at h3
    cases hs : findU (builtL ++ l) u.super with
    | some s => exact ⟨s, rfl⟩
    | none => rw [line_none hs] at h3; simp at h3
  refine ⟨hlen, good_mk hn (fun u h => (hU u h).1) (fun u h => (hU u h).2.2.1) (fun u h => (hU u h).2.2.2.1) (fun u h => (hU u h).2.1) (fun u h m hm v hv x hx e1 e2 => ?_), fun u h => (hU u h).1⟩
  have ha := (hU u h).2.2.2.2 m hm
  unfold agreeR lineR at ha
  have := List.all_eq_true.1 (List.all_eq_true.1 ha v (line_mono (by omega) hv)) x hx
  simp [e1, e2] at this
  exact this

theorem P_of_both (h : Both l) : okP l = true := by
  obtain ⟨hlen, G, hU⟩ := h
  simp only [okP, Bool.and_eq_true, decide_eq_true_eq, List.all_eq_true]
  refine ⟨hlen, G.nodup, fun u h => ?_⟩
  have hu := hU u h
  have hw := List.mem_append_right builtL h
  obtain ⟨k, hk, he⟩ := G.ends u hw
  have hf := findU_mem G.nodup hw
  cases k with
  | zero => rw [show findU (builtL ++ l) u.name = none from he] at hf; cases hf
  | succ k =>
    have hnd := line_nodup he
    obtain ⟨u', h1, he'⟩ := he
    rw [hf] at h1
    cases h1
    rw [line_some hf, List.map_cons, List.nodup_cons] at hnd
    have hl := (line_ends he' (builtL ++ l).length (by omega)).1
    simp only [mayBeP, isLaidP, Bool.and_eq_true, decide_eq_true_eq, bne_iff_ne, Bool.not_eq_true', Option.isSome_iff_exists, List.all_eq_true]
    refine ⟨⟨⟨⟨⟨hu.cls, ⟨hu.there, hu.sys⟩, ?_⟩, G.field1 u hw⟩, G.meth1 u hw⟩, fun f hf => List.all_eq_true.1 hu.fields f hf⟩, fun m hm => ⟨List.all_eq_true.1 hu.meths m hm, ?_⟩⟩
    · rw [hl]
      refine List.any_eq_false.2 (fun x hx e => hnd.1 ?_)
      simp at e
      exact e ▸ List.mem_map_of_mem hx
    · unfold followsP
      rw [hl]
      cases hg : firstG (fun v => lastM v m.name m.desc) (lineU (builtL ++ l) k u.super) with
      | none => rfl
      | some q =>
        obtain ⟨v, hv, h1, _⟩ := firstG_mem hg
        obtain ⟨x, hx, e1, e2, e3⟩ := lastM_mem h1
        have := G.same u hw m hm v (line_mono hk (by rw [line_some hf]; exact List.mem_cons_of_mem _ hv)) x hx e1 e2
        simp [← e3, this]

theorem R_of_both (h : Both l) : okR l = true := by
  obtain ⟨hlen, G, hU⟩ := h
  simp only [okR, Bool.and_eq_true, decide_eq_true_eq, List.all_eq_true]
  refine ⟨hlen, G.nodup, fun u h => ?_⟩
  have hu := hU u h
  have hw := List.mem_append_right builtL h
  obtain ⟨k, hk, he⟩ := G.ends u hw
  have hf := findU_mem G.nodup hw
  have hl := line_ends he ((builtL ++ l).length + 1) (by omega)
  obtain ⟨s, hs⟩ := hu.there
  simp only [unitR, laidR, Bool.and_eq_true, decide_eq_true_eq, bne_iff_ne, beq_iff_eq, List.all_eq_true]
  refine ⟨⟨⟨hu.cls, ⟨⟨hu.sys, ?_⟩, ?_⟩, ?_⟩, fun f hf => List.all_eq_true.1 hu.fields f hf, G.field1 u hw⟩, fun m hm => ?_, G.meth1 u hw⟩
  · unfold lineR
    have : ∃ n, (builtL ++ l).length = n + 1 := ⟨(builtL ++ l).length - 1, by have : 0 < (builtL ++ l).length := List.length_pos_of_mem hw; omega⟩
    obtain ⟨n, hn⟩ := this
    rw [line_some hf, hn, line_some hs]
    simp
  · unfold lineR
    rw [hl.2]
    exact hk
  · unfold lineR
    rw [hl.1]
    cases k with
    | zero => rw [show findU (builtL ++ l) u.name = none from he] at hf; cases hf
    | succ k =>
      obtain ⟨v, h1, h2, h3⟩ := ends_last he
      rw [h1, Option.map_some, G.last v h2 h3]
  · unfold methR
    rw [Bool.and_eq_true]
    refine ⟨List.all_eq_true.1 hu.meths m hm, ?_⟩
    unfold agreeR lineR
    refine List.all_eq_true.2 (fun v hv => List.all_eq_true.2 fun x hx => ?_)
    rw [hl.1, ← (line_ends he _ hk).1] at hv
    have := G.same u hw m hm v hv x hx
    by_cases e1 : x.name = m.name
    · by_cases e2 : x.desc = m.desc
      · simp [e1, e2, this e1 e2]
      · simp [e2]
    · simp [e1]

theorem ok_eq (l : List UnD) : okP l = okR l := by
  rw [Bool.eq_iff_iff]
  exact ⟨fun h => R_of_both (both_of_P h), fun h => P_of_both (both_of_R h)⟩
end

end Go.Proofs.YtdkkpcbebhgbiaaGreatDoor
