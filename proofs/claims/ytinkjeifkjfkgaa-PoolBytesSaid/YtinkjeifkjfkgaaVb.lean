/- The walks over pool.isCount, isPlace, tagAt, find, Text, Class, names, Member and the document's is, Text, Class, Member. -/
import Derived.Test.YtinkjeifkjfkgaaVa
import Derived.Test.YtinkjeifkjfkgaaLw
import Derived.Outline
import Derived.Deep.QuietTactic
import Derived.BigQuiet
namespace Go.Proofs.Ytinkjeifkjfkgaa
set_option maxRecDepth 100000
open Go.RowKit

theorem isCount_any (n : Int) (w : World) : Calls Try.prog 23 #[.int .i64 n] w fun e w' => e = .returned (.bool (decide (1 ≤ n ∧ n ≤ 1024))) ∧ w = w' := by
  by_cases h : 1 ≤ n ∧ n ≤ 1024
  · have HE : Hid (decide (1 ≤ n ∧ n ≤ 1024) = true) := Lib.hid (decide_eq_true h)
    obtain ⟨h1, h2⟩ := h
    go_enter Try.func23, Try.ntmps23
    go_wp2
    go_ret
    exact ⟨by first | (rw [HE.out]; rfl) | rfl, rfl⟩
  · have HE : Hid (decide (1 ≤ n ∧ n ≤ 1024) = false) := Lib.hid (decide_eq_false h)
    by_cases h1 : 1 ≤ n
    · have h2 : decide (n ≤ 1024) = false := decide_eq_false (by omega)
      go_enter Try.func23, Try.ntmps23
      go_wp2
      go_ret
      exact ⟨by first | (rw [HE.out]; rfl) | rfl, rfl⟩
    · have h2 : decide (1 ≤ n) = false := decide_eq_false h1
      go_enter Try.func23, Try.ntmps23
      go_wp2
      go_ret
      exact ⟨by first | (rw [HE.out]; rfl) | rfl, rfl⟩

theorem isPlace_any (A : Option Addr) (n cap : Nat) (p : Int) (w : World) : Calls Try.prog 39 #[.slice A n cap, .int .i64 p] w fun e w' => e = .returned (.bool (decide (1 ≤ p ∧ p < n))) ∧ w = w' := by
  by_cases h : 1 ≤ p ∧ p < n
  · have HE : Hid (decide (1 ≤ p ∧ p < n) = true) := Lib.hid (decide_eq_true h)
    obtain ⟨h1, h2⟩ := h
    go_enter Try.func39, Try.ntmps39
    go_wp2
    go_ret
    exact ⟨by first | (rw [HE.out]; rfl) | rfl, rfl⟩
  · have HE : Hid (decide (1 ≤ p ∧ p < n) = false) := Lib.hid (decide_eq_false h)
    by_cases h1 : 1 ≤ p
    · have h2 : decide (p < n) = false := decide_eq_false (by omega)
      go_enter Try.func39, Try.ntmps39
      go_wp2
      go_ret
      exact ⟨by first | (rw [HE.out]; rfl) | rfl, rfl⟩
    · have h2 : decide (1 ≤ p) = false := decide_eq_false h1
      go_enter Try.func39, Try.ntmps39
      go_wp2
      go_ret
      exact ⟨by first | (rw [HE.out]; rfl) | rfl, rfl⟩

theorem place_yes (A : Option Addr) (n cap : Nat) (p : Nat) (w : World) (h1 : 1 ≤ p) (h2 : p < n) : Calls Try.prog 39 #[.slice A n cap, .int .i64 (p : Int)] w fun e w' => e = .returned (.bool true) ∧ w = w' := by
  have := isPlace_any A n cap (p : Int) w
  rwa [decide_eq_true (by omega)] at this
theorem place_no (A : Option Addr) (n cap : Nat) (p : Int) (w : World) (h : ¬ 1 ≤ p ∨ (n : Int) ≤ p) : Calls Try.prog 39 #[.slice A n cap, .int .i64 p] w fun e w' => e = .returned (.bool false) ∧ w = w' := by
  have := isPlace_any A n cap p w
  rwa [decide_eq_false (by omega)] at this
theorem place_ways (n : Nat) (p : Int) : (∃ k : Nat, p = (k : Int) ∧ 1 ≤ k ∧ k < n) ∨ (¬ 1 ≤ p ∨ (n : Int) ≤ p) := by
  by_cases h : 1 ≤ p ∧ p < n
  · exact .inl ⟨p.toNat, by omega, by omega, by omega⟩
  · exact .inr (by omega)

theorem tagAt_any (A : Option Addr) (n cap : Nat) (l : List Cst) (p : Int) (w : World) (hP : PoolSl w A n cap l) (hn : n ≤ 1000000) :
    Calls Try.prog 35 #[.slice A n cap, .int .i64 p] w fun e w' => e = .returned (.int .i64 (tagAtF l p)) ∧ w = w' := by
  rcases place_ways n p with ⟨k, rfl, h1, h2⟩ | h
  · obtain ⟨b, o, c, rfl, hc, _, h0, -⟩ := pool_at hP h2
    have C := Lib.hid (place_yes (some ⟨b, o, none⟩) n cap k w h1 h2)
    have HE : Hid (tagAtF l (k : Int) = c.tag) := Lib.hid (by unfold tagAtF; rw [atF_yes l k h1, hc])
    clear hP hc
    go_enter Try.func35, Try.ntmps35
    go_wp2_with fail
    refine C.out.mono ?_
    rintro e w' ⟨rfl, rfl⟩
    go_wp2
    go_ret
    exact ⟨by first | (rw [HE.out]; rfl) | rfl, rfl⟩
  · have C := Lib.hid (place_no A n cap p w h)
    have HE : Hid (tagAtF l p = 0) := Lib.hid (by unfold tagAtF; rw [atF_no l p (by rw [hP.1]; exact h)])
    clear hP h
    go_enter Try.func35, Try.ntmps35
    go_wp2_with fail
    refine C.out.mono ?_
    rintro e w' ⟨rfl, rfl⟩
    go_wp2
    go_ret
    exact ⟨by first | (rw [HE.out]; rfl) | rfl, rfl⟩

def foundV (r : Option Cst) : Value := match r with
  | some c => .tuple #[c.v, .bool true]
  | none => .tuple #[zeroC.v, .bool false]

theorem pool_ways {w : World} {A : Option Addr} {n cap : Nat} {l : List Cst} (h : PoolSl w A n cap l) (p : Int) :
    (∃ (k b o : Nat) (c : Cst), p = (k : Int) ∧ 1 ≤ k ∧ k < n ∧ A = some ⟨b, o, none⟩ ∧ atF l (k : Int) = some c ∧ b < w.heap.size ∧ w.cell? ⟨b, o + k * 5, none⟩ = some (.int .i64 c.tag) ∧ w.cell? ⟨b, o + k * 5 + 1, none⟩ = some (.int .i64 c.a) ∧ w.cell? ⟨b, o + k * 5 + 2, none⟩ = some (.int .i64 c.b) ∧ w.cell? ⟨b, o + k * 5 + 3, none⟩ = some (.int .i64 c.n) ∧ w.cell? ⟨b, o + k * 5 + 4, none⟩ = some (.string (strB c.s))) ∨ ((¬ 1 ≤ p ∨ (n : Int) ≤ p) ∧ atF l p = none) := by
  rcases place_ways n p with ⟨k, rfl, h1, h2⟩ | hn
  · obtain ⟨b, o, c, rfl, hc, r⟩ := pool_at h h2
    exact .inl ⟨k, b, o, c, rfl, h1, h2, rfl, by rw [atF_yes l k h1, hc], r⟩
  · exact .inr ⟨hn, atF_no l p (by rw [h.1]; exact hn)⟩

theorem find_any (A : Option Addr) (n cap : Nat) (l : List Cst) (p t : Int) (w : World) (hP : PoolSl w A n cap l) (hn : n ≤ 1000000) :
    Calls Try.prog 27 #[.slice A n cap, .int .i64 p, .int .i64 t] w fun e w' => e = .returned (foundV (findF l p t)) ∧ Below w.heap.size w w' := by
  rcases pool_ways hP p with ⟨k, b, o, c, rfl, h1, h2, rfl, hc, hb, h0, h1', h2', h3', h4'⟩ | ⟨h, hc⟩
  · have C := Lib.hid (fun W => place_yes (some ⟨b, o, none⟩) n cap k W h1 h2)
    by_cases ht : c.tag = t
    · have HE : Hid (findF l (k : Int) t = some c) := Lib.hid (by unfold findF; rw [hc]; exact if_pos ht)
      have hq : (c.tag == t) = true := by simpa using ht
      have hq2 : (c.tag != t) = false := by rw [bne, hq]; rfl
      clear hP hc
      have Ht := Lib.hid ht
      clear ht
      go_enter Try.func27, Try.ntmps27
      go_wp2_with fail
      refine (C.out _).mono ?_
      rintro e w' ⟨rfl, rfl⟩
      go_wp2
      refine bodyPost_ret (v := foundV (some c)) (by simp [results, Try.results27, go_sem, foundV, Cst.v]) rfl ⟨by rw [HE.out], (Below.refl _ _).alloc (Nat.le_refl _) _⟩
    · have HE : Hid (findF l (k : Int) t = none) := Lib.hid (by unfold findF; rw [hc]; exact if_neg ht)
      have hq : (c.tag == t) = false := by simpa using ht
      have hq2 : (c.tag != t) = true := by rw [bne, hq]; rfl
      clear hP hc
      have Ht := Lib.hid ht
      clear ht
      go_enter Try.func27, Try.ntmps27
      go_wp2_with fail
      refine (C.out _).mono ?_
      rintro e w' ⟨rfl, rfl⟩
      go_wp2
      refine bodyPost_ret (v := foundV none) (by simp [results, Try.results27, go_sem, foundV, Cst.v, zeroC, strB]) rfl ⟨by rw [HE.out], (Below.refl _ _).alloc (Nat.le_refl _) _⟩
  · have C := Lib.hid (fun W => place_no A n cap p W h)
    have HE : Hid (findF l p t = none) := Lib.hid (by unfold findF; rw [hc])
    clear hP h hc
    go_enter Try.func27, Try.ntmps27
    go_wp2_with fail
    refine (C.out _).mono ?_
    rintro e w' ⟨rfl, rfl⟩
    go_wp2
    refine bodyPost_ret (v := foundV none) (by simp [results, Try.results27, go_sem, foundV, Cst.v, zeroC, strB]) rfl ⟨by rw [HE.out], (Below.refl _ _).alloc (Nat.le_refl _) _⟩

/-- What Text and Class answer. -/
def textV (r : Option (List UInt8)) : Value := match r with
  | some s => .tuple #[.string (strB s), .bool true]
  | none => .tuple #[.string (strB []), .bool false]

theorem text_any (A : Option Addr) (n cap : Nat) (l : List Cst) (p : Int) (w : World) (hP : PoolSl w A n cap l) (hn : n ≤ 1000000) :
    Calls Try.prog 14 #[.slice A n cap, .int .i64 p] w fun e w' => e = .returned (textV (textF l p)) ∧ Below w.heap.size w w' := by
  have C := Lib.hid (find_any A n cap l p 1 w hP hn)
  clear hP
  cases hf : findF l p 1 with
  | none =>
    have HE : Hid (textF l p = none) := Lib.hid (by unfold textF; rw [hf]; rfl)
    rw [hf] at C
    clear hf
    go_enter Try.func14, Try.ntmps14
    go_wp2_with fail
    refine C.out.mono ?_
    rintro e w1 ⟨rfl, hb⟩
    have Hb := Lib.hid hb
    clear hb
    simp only [foundV, zeroC, Cst.v]
    go_wp2
    go_ret2
    exact ⟨by rw [HE.out]; rfl, Hb.out.alloc Hb.out.size _⟩
  | some c =>
    have HE : Hid (textF l p = some c.s) := Lib.hid (by unfold textF; rw [hf]; rfl)
    rw [hf] at C
    clear hf
    go_enter Try.func14, Try.ntmps14
    go_wp2_with fail
    refine C.out.mono ?_
    rintro e w1 ⟨rfl, hb⟩
    have Hb := Lib.hid hb
    clear hb
    simp only [foundV, Cst.v]
    go_wp2
    go_ret2
    exact ⟨by rw [HE.out]; rfl, Hb.out.alloc Hb.out.size _⟩

theorem class_any (A : Option Addr) (n cap : Nat) (l : List Cst) (p : Int) (w : World) (hP : PoolSl w A n cap l) (hn : n ≤ 1000000) :
    Calls Try.prog 16 #[.slice A n cap, .int .i64 p] w fun e w' => e = .returned (textV (classF l p)) ∧ Below w.heap.size w w' := by
  have C := Lib.hid (find_any A n cap l p 7 w hP hn)
  cases hf : findF l p 7 with
  | none =>
    have HE : Hid (classF l p = none) := Lib.hid (by unfold classF; rw [hf])
    rw [hf] at C
    clear hf hP
    go_enter Try.func16, Try.ntmps16
    go_wp2_with fail
    refine C.out.mono ?_
    rintro e w1 ⟨rfl, hb⟩
    have Hb := Lib.hid hb
    clear hb
    simp only [foundV, zeroC, Cst.v]
    go_wp2
    go_ret2
    exact ⟨by rw [HE.out]; rfl, Hb.out.alloc Hb.out.size _⟩
  | some c =>
    have HE : Hid (classF l p = textF l c.a) := Lib.hid (by unfold classF; rw [hf])
    have CT : Hid (∀ W, Below w.heap.size w W → Calls Try.prog 14 #[.slice A n cap, .int .i64 c.a] W fun e w' => e = .returned (textV (textF l c.a)) ∧ Below W.heap.size W w') :=
      Lib.hid (fun W hb => text_any A n cap l c.a W (hP.below hb) hn)
    rw [hf] at C
    clear hf hP
    go_enter Try.func16, Try.ntmps16
    go_wp2_with fail
    refine C.out.mono ?_
    rintro e w1 ⟨rfl, hb⟩
    have Hb := Lib.hid (hb.alloc hb.size (.cells c.cells.toArray 41))
    clear hb
    simp only [foundV, Cst.v]
    go_wp2_with fail
    refine (CT.out _ Hb.out).mono ?_
    rintro e w2 ⟨rfl, hb2⟩
    have Hb2 := Lib.hid (Hb.out.trans (hb2.mono Hb.out.size))
    clear hb2
    rw [← HE.out]
    cases hr : classF l p with
    | none =>
      simp only [textV]
      go_wp2
      go_ret2
      exact ⟨by rw [hr]; rfl, Hb2.out⟩
    | some s =>
      simp only [textV]
      go_wp2
      go_ret2
      exact ⟨by rw [hr]; rfl, Hb2.out⟩

/-- What names answers. -/
def namesV (r : List UInt8 × List UInt8 × Bool) : Value := .tuple #[.string (strB r.1), .string (strB r.2.1), .bool r.2.2]
def textD (r : Option (List UInt8)) : List UInt8 := r.getD []
theorem textV_eq (r : Option (List UInt8)) : textV r = .tuple #[.string (strB (textD r)), .bool r.isSome] := by cases r <;> rfl
/-- The walk's own answer: the texts come even where the place is none. -/
def namesW (l : List Cst) (p : Int) : List UInt8 × List UInt8 × Bool :=
  let c := (findF l p 12).getD zeroC
  (textD (textF l c.a), textD (textF l c.b), (findF l p 12).isSome && (textF l c.a).isSome && (textF l c.b).isSome)

theorem foundV_eq (r : Option Cst) : foundV r = .tuple #[(r.getD zeroC).v, .bool r.isSome] := by cases r <;> rfl

theorem names_any (A : Option Addr) (n cap : Nat) (l : List Cst) (p : Int) (w : World) (hP : PoolSl w A n cap l) (hn : n ≤ 1000000) :
    Calls Try.prog 29 #[.slice A n cap, .int .i64 p] w fun e w' => e = .returned (namesV (namesW l p)) ∧ Below w.heap.size w w' := by
  have C := find_any A n cap l p 12 w hP hn
  rw [foundV_eq] at C
  obtain ⟨c, hc⟩ : ∃ c, (findF l p 12).getD zeroC = c := ⟨_, rfl⟩
  obtain ⟨B, hB⟩ : ∃ B, (findF l p 12).isSome = B := ⟨_, rfl⟩
  have HE : Hid (namesW l p = (textD (textF l c.a), textD (textF l c.b), B && (textF l c.a).isSome && (textF l c.b).isSome)) := Lib.hid (by unfold namesW; rw [hc, hB])
  rw [hc, hB] at C
  have CT : Hid (∀ q W, Below w.heap.size w W → Calls Try.prog 14 #[.slice A n cap, .int .i64 q] W fun e w' => e = .returned (textV (textF l q)) ∧ Below W.heap.size W w') :=
    Lib.hid (fun q W hb => text_any A n cap l q W (hP.below hb) hn)
  have C := Lib.hid C
  clear hc hB hP
  go_enter Try.func29, Try.ntmps29
  go_wp2_with fail
  refine C.out.mono ?_
  rintro e w1 ⟨rfl, hb⟩
  have HK : Hid (Blk (w1.alloc (.cells c.cells.toArray 41)) w1.heap.size 41 c.cells.toArray) := Lib.hid (Blk.new _ _ _)
  have Hb := Lib.hid (hb.alloc hb.size (.cells c.cells.toArray 41))
  clear hb
  simp only [Cst.v]
  go_wp2_with fail
  refine (CT.out _ _ Hb.out).mono ?_
  rintro e w2 ⟨rfl, hb2⟩
  have HK2 := Lib.hid (HK.out.of (hb2.block _ (by simp)))
  have hk2 : w2.cell? ⟨w1.heap.size, 2, none⟩ = some (.int .i64 c.b) := HK2.out.cell 2
  have Hb2 := Lib.hid (Hb.out.trans (hb2.mono Hb.out.size))
  clear hb2
  rw [textV_eq]
  go_wp2_with fail
  refine (CT.out _ _ Hb2.out).mono ?_
  rintro e w3 ⟨rfl, hb3⟩
  have Hb3 := Lib.hid (Hb2.out.trans (hb3.mono Hb2.out.size))
  clear hb3
  rw [textV_eq]
  obtain ⟨X, hX⟩ : ∃ X, (textF l c.a).isSome = X := ⟨_, rfl⟩
  obtain ⟨Y, hY⟩ : ∃ Y, (textF l c.b).isSome = Y := ⟨_, rfl⟩
  rw [hX, hY] at HE
  rw [hX, hY]
  clear hX hY
  cases B <;> cases X <;> cases Y
  all_goals
    go_wp2
    refine bodyPost_ret (v := namesV (namesW l p)) (by rw [HE.out]; simp [results, Try.results29, go_sem, namesV]) rfl ⟨rfl, Hb3.out⟩

end Go.Proofs.Ytinkjeifkjfkgaa
