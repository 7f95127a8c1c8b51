/- The walks over pool.isCount, isPlace, tagAt, find, Text, Class, names, Member and the document's is, Text, Class, Member. -/
import Derived.Test.YtendpbklcgiafaaZaf
import Derived.Test.YtendpbklcgiafaaZad
import Derived.Outline
import Derived.Deep.QuietTactic
import Derived.BigQuiet
import Derived.Test.YtendpbklcgiafaaZab
namespace Go.Proofs.Ytendpbklcgiafaa
set_option maxRecDepth 100000
open Go.RowKit

theorem isCount_any (n : Int) (w : World) : Calls Try.prog 90 #[.int .i64 n] w fun e w' => e = .returned (.bool (decide (1 ≤ n ∧ n ≤ 1024))) ∧ w = w' := by
  by_cases h : 1 ≤ n ∧ n ≤ 1024
  · have HE : Hid (decide (1 ≤ n ∧ n ≤ 1024) = true) := Lib.hid (decide_eq_true h)
    obtain ⟨h1, h2⟩ := h
    go_enter Try.func90, Try.ntmps90
    go_wp2
    go_ret
    exact ⟨by first | (rw [HE.out]; rfl) | rfl, rfl⟩
  · have HE : Hid (decide (1 ≤ n ∧ n ≤ 1024) = false) := Lib.hid (decide_eq_false h)
    by_cases h1 : 1 ≤ n
    · have h2 : decide (n ≤ 1024) = false := decide_eq_false (by omega)
      go_enter Try.func90, Try.ntmps90
      go_wp2
      go_ret
      exact ⟨by first | (rw [HE.out]; rfl) | rfl, rfl⟩
    · have h2 : decide (1 ≤ n) = false := decide_eq_false h1
      go_enter Try.func90, Try.ntmps90
      go_wp2
      go_ret
      exact ⟨by first | (rw [HE.out]; rfl) | rfl, rfl⟩

theorem isPlace_any (A : Option Addr) (n cap : Nat) (p : Int) (w : World) : Calls Try.prog 58 #[.slice A n cap, .int .i64 p] w fun e w' => e = .returned (.bool (decide (1 ≤ p ∧ p < n))) ∧ w = w' := by
  by_cases h : 1 ≤ p ∧ p < n
  · have HE : Hid (decide (1 ≤ p ∧ p < n) = true) := Lib.hid (decide_eq_true h)
    obtain ⟨h1, h2⟩ := h
    go_enter Try.func58, Try.ntmps58
    go_wp2
    go_ret
    exact ⟨by first | (rw [HE.out]; rfl) | rfl, rfl⟩
  · have HE : Hid (decide (1 ≤ p ∧ p < n) = false) := Lib.hid (decide_eq_false h)
    by_cases h1 : 1 ≤ p
    · have h2 : decide (p < n) = false := decide_eq_false (by omega)
      go_enter Try.func58, Try.ntmps58
      go_wp2
      go_ret
      exact ⟨by first | (rw [HE.out]; rfl) | rfl, rfl⟩
    · have h2 : decide (1 ≤ p) = false := decide_eq_false h1
      go_enter Try.func58, Try.ntmps58
      go_wp2
      go_ret
      exact ⟨by first | (rw [HE.out]; rfl) | rfl, rfl⟩

theorem place_yes (A : Option Addr) (n cap : Nat) (p : Nat) (w : World) (h1 : 1 ≤ p) (h2 : p < n) : Calls Try.prog 58 #[.slice A n cap, .int .i64 (p : Int)] w fun e w' => e = .returned (.bool true) ∧ w = w' := by
  have := isPlace_any A n cap (p : Int) w
  rwa [decide_eq_true (by omega)] at this
theorem place_no (A : Option Addr) (n cap : Nat) (p : Int) (w : World) (h : ¬ 1 ≤ p ∨ (n : Int) ≤ p) : Calls Try.prog 58 #[.slice A n cap, .int .i64 p] w fun e w' => e = .returned (.bool false) ∧ w = w' := by
  have := isPlace_any A n cap p w
  rwa [decide_eq_false (by omega)] at this
theorem place_ways (n : Nat) (p : Int) : (∃ k : Nat, p = (k : Int) ∧ 1 ≤ k ∧ k < n) ∨ (¬ 1 ≤ p ∨ (n : Int) ≤ p) := by
  by_cases h : 1 ≤ p ∧ p < n
  · exact .inl ⟨p.toNat, by omega, by omega, by omega⟩
  · exact .inr (by omega)

theorem tagAt_any (A : Option Addr) (n cap : Nat) (l : List Cst) (p : Int) (w : World) (hP : PoolSl w A n cap l) (hn : n ≤ 1000000) :
    Calls Try.prog 95 #[.slice A n cap, .int .i64 p] w fun e w' => e = .returned (.int .i64 (tagAtF l p)) ∧ w = w' := by
  rcases place_ways n p with ⟨k, rfl, h1, h2⟩ | h
  · obtain ⟨b, o, c, rfl, hc, _, h0, -⟩ := pool_at hP h2
    have C := Lib.hid (place_yes (some ⟨b, o, none⟩) n cap k w h1 h2)
    have HE : Hid (tagAtF l (k : Int) = c.tag) := Lib.hid (by unfold tagAtF; rw [atF_yes l k h1, hc])
    clear hP hc
    go_enter Try.func95, Try.ntmps95
    go_wp2_with fail
    refine C.out.mono ?_
    rintro e w' ⟨rfl, rfl⟩
    go_wp2
    go_ret
    exact ⟨by first | (rw [HE.out]; rfl) | rfl, rfl⟩
  · have C := Lib.hid (place_no A n cap p w h)
    have HE : Hid (tagAtF l p = 0) := Lib.hid (by unfold tagAtF; rw [atF_no l p (by rw [hP.1]; exact h)])
    clear hP h
    go_enter Try.func95, Try.ntmps95
    go_wp2_with fail
    refine C.out.mono ?_
    rintro e w' ⟨rfl, rfl⟩
    go_wp2
    go_ret
    exact ⟨by first | (rw [HE.out]; rfl) | rfl, rfl⟩

def foundV (r : Option Cst) : Value := match r with
  | some c => .tuple #[c.v, .bool true]
  | none => .tuple #[zeroC.v, .bool false]

theorem pool_ways {w : World} {A : Option Addr} {n cap : Nat} {l : List Cst} (h : PoolSl w A n cap l) (p : Int) :
    (∃ (k b o : Nat) (c : Cst), p = (k : Int) ∧ 1 ≤ k ∧ k < n ∧ A = some ⟨b, o, none⟩ ∧ atF l (k : Int) = some c ∧ b < w.heap.size ∧ w.cell? ⟨b, o + k * 5, none⟩ = some (.int .i64 c.tag) ∧ w.cell? ⟨b, o + k * 5 + 1, none⟩ = some (.int .i64 c.a) ∧ w.cell? ⟨b, o + k * 5 + 2, none⟩ = some (.int .i64 c.b) ∧ w.cell? ⟨b, o + k * 5 + 3, none⟩ = some (.int .i64 c.n) ∧ w.cell? ⟨b, o + k * 5 + 4, none⟩ = some (.string (strB c.s))) ∨ ((¬ 1 ≤ p ∨ (n : Int) ≤ p) ∧ atF l p = none) := by
  rcases place_ways n p with ⟨k, rfl, h1, h2⟩ | hn
  · obtain ⟨b, o, c, rfl, hc, r⟩ := pool_at h h2
    exact .inl ⟨k, b, o, c, rfl, h1, h2, rfl, by rw [atF_yes l k h1, hc], r⟩
  · exact .inr ⟨hn, atF_no l p (by rw [h.1]; exact hn)⟩

theorem find_any (A : Option Addr) (n cap : Nat) (l : List Cst) (p t : Int) (w : World) (hP : PoolSl w A n cap l) (hn : n ≤ 1000000) :
    Calls Try.prog 48 #[.slice A n cap, .int .i64 p, .int .i64 t] w fun e w' => e = .returned (foundV (findF l p t)) ∧ Below w.heap.size w w' := by
  rcases pool_ways hP p with ⟨k, b, o, c, rfl, h1, h2, rfl, hc, hb, h0, h1', h2', h3', h4'⟩ | ⟨h, hc⟩
  · have C := Lib.hid (fun W => place_yes (some ⟨b, o, none⟩) n cap k W h1 h2)
    by_cases ht : c.tag = t
    · have HE : Hid (findF l (k : Int) t = some c) := Lib.hid (by unfold findF; rw [hc]; exact if_pos ht)
      have hq : (c.tag == t) = true := by simpa using ht
      have hq2 : (c.tag != t) = false := by rw [bne, hq]; rfl
      clear hP hc
      have Ht := Lib.hid ht
      clear ht
      go_enter Try.func48, Try.ntmps48
      go_wp2_with fail
      refine (C.out _).mono ?_
      rintro e w' ⟨rfl, rfl⟩
      go_wp2
      refine bodyPost_ret (v := foundV (some c)) (by simp [results, Try.results48, go_sem, foundV, Cst.v]) rfl ⟨by rw [HE.out], (Below.refl _ _).alloc (Nat.le_refl _) _⟩
    · have HE : Hid (findF l (k : Int) t = none) := Lib.hid (by unfold findF; rw [hc]; exact if_neg ht)
      have hq : (c.tag == t) = false := by simpa using ht
      have hq2 : (c.tag != t) = true := by rw [bne, hq]; rfl
      clear hP hc
      have Ht := Lib.hid ht
      clear ht
      go_enter Try.func48, Try.ntmps48
      go_wp2_with fail
      refine (C.out _).mono ?_
      rintro e w' ⟨rfl, rfl⟩
      go_wp2
      refine bodyPost_ret (v := foundV none) (by simp [results, Try.results48, go_sem, foundV, Cst.v, zeroC, strB]) rfl ⟨by rw [HE.out], (Below.refl _ _).alloc (Nat.le_refl _) _⟩
  · have C := Lib.hid (fun W => place_no A n cap p W h)
    have HE : Hid (findF l p t = none) := Lib.hid (by unfold findF; rw [hc])
    clear hP h hc
    go_enter Try.func48, Try.ntmps48
    go_wp2_with fail
    refine (C.out _).mono ?_
    rintro e w' ⟨rfl, rfl⟩
    go_wp2
    refine bodyPost_ret (v := foundV none) (by simp [results, Try.results48, go_sem, foundV, Cst.v, zeroC, strB]) rfl ⟨by rw [HE.out], (Below.refl _ _).alloc (Nat.le_refl _) _⟩

/-- What Text and Class answer. -/
def textV (r : Option (List UInt8)) : Value := match r with
  | some s => .tuple #[.string (strB s), .bool true]
  | none => .tuple #[.string (strB []), .bool false]

theorem text_any (A : Option Addr) (n cap : Nat) (l : List Cst) (p : Int) (w : World) (hP : PoolSl w A n cap l) (hn : n ≤ 1000000) :
    Calls Try.prog 49 #[.slice A n cap, .int .i64 p] w fun e w' => e = .returned (textV (textF l p)) ∧ Below w.heap.size w w' := by
  have C := Lib.hid (find_any A n cap l p 1 w hP hn)
  clear hP
  cases hf : findF l p 1 with
  | none =>
    have HE : Hid (textF l p = none) := Lib.hid (by unfold textF; rw [hf]; rfl)
    rw [hf] at C
    clear hf
    go_enter Try.func49, Try.ntmps49
    go_wp2_with fail
    refine C.out.mono ?_
    rintro e w1 ⟨rfl, hb⟩
    have Hb := Lib.hid hb
    clear hb
    simp only [foundV, zeroC, Cst.v]
    go_wp2
    go_ret2
    exact ⟨by rw [HE.out]; rfl, Hb.out.alloc Hb.out.size _⟩
  | some c =>
    have HE : Hid (textF l p = some c.s) := Lib.hid (by unfold textF; rw [hf]; rfl)
    rw [hf] at C
    clear hf
    go_enter Try.func49, Try.ntmps49
    go_wp2_with fail
    refine C.out.mono ?_
    rintro e w1 ⟨rfl, hb⟩
    have Hb := Lib.hid hb
    clear hb
    simp only [foundV, Cst.v]
    go_wp2
    go_ret2
    exact ⟨by rw [HE.out]; rfl, Hb.out.alloc Hb.out.size _⟩

theorem class_any (A : Option Addr) (n cap : Nat) (l : List Cst) (p : Int) (w : World) (hP : PoolSl w A n cap l) (hn : n ≤ 1000000) :
    Calls Try.prog 41 #[.slice A n cap, .int .i64 p] w fun e w' => e = .returned (textV (classF l p)) ∧ Below w.heap.size w w' := by
  have C := Lib.hid (find_any A n cap l p 7 w hP hn)
  cases hf : findF l p 7 with
  | none =>
    have HE : Hid (classF l p = none) := Lib.hid (by unfold classF; rw [hf])
    rw [hf] at C
    clear hf hP
    go_enter Try.func41, Try.ntmps41
    go_wp2_with fail
    refine C.out.mono ?_
    rintro e w1 ⟨rfl, hb⟩
    have Hb := Lib.hid hb
    clear hb
    simp only [foundV, zeroC, Cst.v]
    go_wp2
    go_ret2
    exact ⟨by rw [HE.out]; rfl, Hb.out.alloc Hb.out.size _⟩
  | some c =>
    have HE : Hid (classF l p = textF l c.a) := Lib.hid (by unfold classF; rw [hf])
    have CT : Hid (∀ W, Below w.heap.size w W → Calls Try.prog 49 #[.slice A n cap, .int .i64 c.a] W fun e w' => e = .returned (textV (textF l c.a)) ∧ Below W.heap.size W w') :=
      Lib.hid (fun W hb => text_any A n cap l c.a W (hP.below hb) hn)
    rw [hf] at C
    clear hf hP
    go_enter Try.func41, Try.ntmps41
    go_wp2_with fail
    refine C.out.mono ?_
    rintro e w1 ⟨rfl, hb⟩
    have Hb := Lib.hid (hb.alloc hb.size (.cells c.cells.toArray 30))
    clear hb
    simp only [foundV, Cst.v]
    go_wp2_with fail
    refine (CT.out _ Hb.out).mono ?_
    rintro e w2 ⟨rfl, hb2⟩
    have Hb2 := Lib.hid (Hb.out.trans (hb2.mono Hb.out.size))
    clear hb2
    rw [← HE.out]
    cases hr : classF l p with
    | none =>
      simp only [textV]
      go_wp2
      go_ret2
      exact ⟨by rw [hr]; rfl, Hb2.out⟩
    | some s =>
      simp only [textV]
      go_wp2
      go_ret2
      exact ⟨by rw [hr]; rfl, Hb2.out⟩

/-- What names answers. -/
def namesV (r : List UInt8 × List UInt8 × Bool) : Value := .tuple #[.string (strB r.1), .string (strB r.2.1), .bool r.2.2]
def textD (r : Option (List UInt8)) : List UInt8 := r.getD []
theorem textV_eq (r : Option (List UInt8)) : textV r = .tuple #[.string (strB (textD r)), .bool r.isSome] := by cases r <;> rfl
/-- The walk's own answer: the texts come even where the place is none. -/
def namesW (l : List Cst) (p : Int) : List UInt8 × List UInt8 × Bool :=
  let c := (findF l p 12).getD zeroC
  (textD (textF l c.a), textD (textF l c.b), (findF l p 12).isSome && (textF l c.a).isSome && (textF l c.b).isSome)

theorem foundV_eq (r : Option Cst) : foundV r = .tuple #[(r.getD zeroC).v, .bool r.isSome] := by cases r <;> rfl


end Go.Proofs.Ytendpbklcgiafaa

/- What klass's walks stand on: the two passes, where they stand in memory, what they go over. -/
namespace Go.Proofs.Ytendpbklcgiafaa
set_option maxRecDepth 100000
open Go.RowKit

/-- The two passes: a writer, or a reader of some bytes. -/
inductive Md where
  | wr
  | rd (A : Option Addr) (n cap : Nat) (b : List UInt8)
def Md.isRd : Md → Bool
  | .wr => false
  | .rd .. => true
def Md.T : Md → TypeId
  | .wr => 59
  | .rd .. => 63
def Md.v (m : Md) (g : Nat) : Value := .iface m.T (.pointer (some ⟨g, 0, none⟩))
def Md.fN : Md → Nat
  | .wr => 82
  | .rd .. => 105
def Md.fB : Md → Nat
  | .wr => 81
  | .rd .. => 104
def Md.fP : Md → Nat
  | .wr => 83
  | .rd .. => 106
def Md.fK : Md → Nat
  | .wr => 80
  | .rd .. => 103

/-- What all of a pass's steps share: the pool, and the blocks that may turn. -/
structure Cx where
  m : Md
  X : Nat → Prop
  A : Option Addr
  n : Nat
  cap : Nat
  C : List Cst
def Cx.cv (c : Cx) : Value := .slice c.A c.n c.cap

/-- A writer: what it has written, if nothing was wrong. -/
def WrAt (w : World) (g : Nat) (S : Nat → Prop) (N : Nat) (s : Option (List UInt8)) : Prop :=
  ∃ (e : Int) (B : Option Addr) (k c : Nat) (zs : List UInt8), Blk w g 57 #[.int .i64 e, .slice B k c] ∧ w.ownsRow 0 5 1 (.slice B k c) k (zs.map B8) ∧ k ≤ N ∧ (e = 0 ∨ e = 8) ∧ s = (if e = 0 then some zs else none) ∧
    (∀ q, S q ↔ q = g ∨ (Value.slice B k c).ownBlock = some q)
/-- A reader: what is left, if nothing was wrong. -/
def RdAt (X : Nat → Prop) (w : World) (g : Nat) (S : Nat → Prop) (s : Option (List UInt8)) (A : Option Addr) (n cap : Nat) (b : List UInt8) : Prop :=
  ∃ (e : Int) (i : Nat), Blk w g 62 #[.int .i64 e, .slice A n cap, .int .i64 (i : Int)] ∧ ByteSl w X A n cap b ∧ n ≤ 1048576 ∧ i ≤ n ∧ ((e = 0 ∨ e = 6 ∨ e = 8) ∧ (n = 0 → e ≠ 8)) ∧ s = (if e = 0 then some (b.drop i) else none) ∧ (∀ q, S q ↔ q = g)
def Stands (c : Cx) (w : World) (g : Nat) (S : Nat → Prop) (N : Nat) (s : Option (List UInt8)) : Prop :=
  match c.m with
  | .wr => WrAt w g S N s
  | .rd A n cap b => RdAt c.X w g S s A n cap b
/-- A reader of no bytes. -/
def Cx.dry (c : Cx) : Prop := ∃ A cap b, c.m = .rd A 0 cap b
structure PassAt (c : Cx) (w : World) (g : Nat) (S : Nat → Prop) (N : Nat) (s : Option (List UInt8)) : Prop where
  lt : ∀ q, S q → q < w.heap.size
  inX : ∀ q, S q → c.X q
  new : ∀ q, w.heap.size ≤ q → c.X q
  pool : RowSl Cst.cells 5 w c.X c.A c.n c.cap c.C
  small : c.n ≤ 1024
  here : S g
  at_ : Stands c w g S N s

/-- What may turn while a target in block b is gone over. -/
def Zs (c : Cx) (S : Nat → Prop) (b : Nat) : Nat → Prop := fun q => S q ∨ (c.m.isRd = true ∧ q = b)
/-- Cells that are gone over; a reader may write them. -/
structure Tgt (c : Cx) (w : World) (b off : Nat) (cs : List Value) : Prop where
  lt : b < w.heap.size
  cell : ∀ i v, cs[i]? = some v → w.cell? ⟨b, off + i, none⟩ = some v
  rd : c.m.isRd = true → c.X b ∧ ∃ t all, Blk w b t all
structure Done (c : Cx) (w : World) (g : Nat) (S : Nat → Prop) (b off k : Nat) (w' : World) (S' : Nat → Prop) (N' : Nat) (s' : Option (List UInt8)) : Prop where
  pass : PassAt c w' g S' N' s'
  sub : ∀ q, S' q → S q ∨ w.heap.size ≤ q
  only : Only (Zs c S b) w w'
  rest : ∀ o, o < off ∨ off + k ≤ o → w'.cell? ⟨b, o, none⟩ = w.cell? ⟨b, o, none⟩

/-- How data lies in cells, and in blocks that aren't in Z. -/
structure RepT (α : Type) where
  k : Nat
  rep : World → (Nat → Prop) → List Value → α → Prop
  len : ∀ {w Z cs v}, rep w Z cs v → cs.length = k
  next : ∀ {w w' Z Z' cs v}, rep w Z cs v → Only Z w w' → (∀ q, q < w.heap.size → Z' q → Z q) → rep w' Z' cs v

def intT : RepT Int where
  k := 1
  rep _ _ cs v := cs = [.int .i64 v]
  len h := by rw [h]; rfl
  next h _ _ := h
def bytesT : RepT (List UInt8) where
  k := 1
  rep w Z cs v := ∃ A n cap, cs = [.slice A n cap] ∧ ByteSl w Z A n cap v ∧ (A = none → n = 0 ∧ cap = 0)
  len h := by obtain ⟨_, _, _, rfl, _⟩ := h; rfl
  next h k hZ := by
    obtain ⟨A, n, cap, rfl, hB, hn⟩ := h
    have hB' := hB.mono hZ
    obtain ⟨h1, h2, h3, h4⟩ := hB
    refine ⟨A, n, cap, rfl, ⟨h1, h2, h3, fun h0 => ?_⟩, hn⟩
    obtain ⟨ad, e, hb, hs, hc⟩ := h4 h0
    exact ⟨ad, e, Nat.lt_of_lt_of_le hb k.size, fun ht => hs (hZ _ hb ht), fun j x hx => (k.cell (p := ad.add j) (by rw [addr_add_block]; exact hb) (by rw [addr_add_block]; exact hs)).trans (hc j x hx)⟩
def prodT {α β : Type} (R : RepT α) (T : RepT β) : RepT (α × β) where
  k := R.k + T.k
  rep w Z cs v := ∃ c1 c2, cs = c1 ++ c2 ∧ R.rep w Z c1 v.1 ∧ T.rep w Z c2 v.2
  len h := by
    obtain ⟨c1, c2, rfl, h1, h2⟩ := h
    rw [List.length_append, R.len h1, T.len h2]
  next h k hZ := by
    obtain ⟨c1, c2, rfl, h1, h2⟩ := h
    exact ⟨c1, c2, rfl, R.next h1 k hZ, T.next h2 k hZ⟩
def mapT {α β : Type} (g : β → α) (R : RepT α) : RepT β where
  k := R.k
  rep w Z cs v := R.rep w Z cs (g v)
  len h := R.len h
  next h k hZ := R.next h k hZ
/-- A slice that reads as a list of what lies so. -/
def RowS {α : Type} (R : RepT α) (w : World) (Z : Nat → Prop) (A : Option Addr) (n cap : Nat) (l : List α) : Prop :=
  l.length = n ∧ n ≤ cap ∧ cap ≤ maxLen ∧ (A = none → n = 0 ∧ cap = 0) ∧ (0 < n → ∃ b o, A = some ⟨b, o, none⟩ ∧ b < w.heap.size ∧ ¬ Z b ∧ ∀ i x, l[i]? = some x → ∃ cs, (∀ j v, cs[j]? = some v → w.cell? ⟨b, o + i * R.k + j, none⟩ = some v) ∧ R.rep w Z cs x)
theorem RowS.next {α : Type} {R : RepT α} {w w' : World} {Z Z' : Nat → Prop} {A : Option Addr} {n cap : Nat} {l : List α} (h : RowS R w Z A n cap l) (k : Only Z w w') (hZ : ∀ q, q < w.heap.size → Z' q → Z q) : RowS R w' Z' A n cap l := by
  obtain ⟨h1, h2, h3, h4, h5⟩ := h
  refine ⟨h1, h2, h3, h4, fun h0 => ?_⟩
  obtain ⟨b, o, e, hb, hs, hc⟩ := h5 h0
  refine ⟨b, o, e, Nat.lt_of_lt_of_le hb k.size, fun ht => hs (hZ _ hb ht), fun i x hx => ?_⟩
  obtain ⟨cs, hcs, hr⟩ := hc i x hx
  exact ⟨cs, fun j v hv => (k.cell (p := ⟨b, o + i * R.k + j, none⟩) hb hs).trans (hcs j v hv), R.next hr k hZ⟩
def rowT {α : Type} (R : RepT α) : RepT (List α) where
  k := 1
  rep w Z cs l := ∃ A n cap, cs = [.slice A n cap] ∧ RowS R w Z A n cap l
  len h := by obtain ⟨_, _, _, rfl, _⟩ := h; rfl
  next h k hZ := by
    obtain ⟨A, n, cap, rfl, h⟩ := h
    exact ⟨A, n, cap, rfl, h.next k hZ⟩
def poolT : RepT (List Cst) where
  k := 1
  rep w Z cs l := ∃ A n cap, cs = [.slice A n cap] ∧ RowSl Cst.cells 5 w Z A n cap l ∧ ∀ c ∈ l, c.ok
  len h := by obtain ⟨_, _, _, rfl, _⟩ := h; rfl
  next h k hZ := by
    obtain ⟨A, n, cap, rfl, h, hok⟩ := h
    obtain ⟨h1, h2, h3, h5⟩ := h
    refine ⟨A, n, cap, rfl, ⟨h1, h2, h3, fun h0 => ?_⟩, hok⟩
    obtain ⟨b, o, e, hb, hs, hc⟩ := h5 h0
    exact ⟨b, o, e, Nat.lt_of_lt_of_le hb k.size, fun ht => hs (hZ _ hb ht), fun i x hx j hj => (k.cell (p := ⟨b, o + i * 5 + j, none⟩) hb hs).trans (hc i x hx j hj)⟩

section
variable {c : Cx} {w w' : World} {g b off k : Nat} {S S' : Nat → Prop} {N N' : Nat} {s s' : Option (List UInt8)}

theorem Zs.mono (h : ∀ q, S' q → S q ∨ w.heap.size ≤ q) : ∀ q, q < w.heap.size → Zs c S' b q → Zs c S b q := by
  intro q hq hz
  rcases hz with hz | hz
  · rcases h q hz with hz | hz
    · exact .inl hz
    · omega
  · exact .inr hz
theorem Zs.inX (h : PassAt c w g S N s) (ht : c.m.isRd = true → c.X b) : ∀ q, Zs c S b q → c.X q := by
  rintro q (hq | ⟨h1, rfl⟩)
  · exact h.inX q hq
  · exact ht h1
theorem Zs.wr (h : c.m.isRd = false) : ∀ q, Zs c S b q → S q := by
  rintro q (hq | ⟨h1, rfl⟩)
  · exact hq
  · rw [h] at h1; cases h1

/-- Blocks that aren't a pass's own turned: the pass stands as it stood. -/
theorem PassAt.only {T : Nat → Prop} (h : PassAt c w g S N s) (q : Only T w w') (hT : ∀ i, i < w.heap.size → T i → ¬ S i) (hX : ∀ i, i < w.heap.size → T i → c.X i) : PassAt c w' g S N s := by
  refine ⟨fun i hi => Nat.lt_of_lt_of_le (h.lt i hi) q.size, h.inX, fun i hi => h.new i (Nat.le_trans q.size hi), h.pool.only q hX, h.small, h.here, ?_⟩
  have ha := h.at_
  have hg := h.here
  unfold Stands at *
  split at ha
  · obtain ⟨e, B, k, c1, zs, h1, h2, h3, h4, h5, h6⟩ := ha
    refine ⟨e, B, k, c1, zs, q.blk h1 (fun ht => hT _ h1.lt ht hg), ?_, h3, h4, h5, h6⟩
    refine ⟨h2.1, ?_⟩
    rcases h2.2 with h0 | ⟨g', c2, cur, e, hb, hB, r⟩
    · exact Or.inl h0
    · refine Or.inr ⟨g', c2, cur, e, hb, ?_, r⟩
      have hB' : Blk w g' 5 cur := hB
      exact q.blk hB' (fun ht => hT _ hB'.lt ht ((h6 _).2 (.inr (by rw [e]; rfl))))
  · obtain ⟨e, i, h1, h2, h3, h4, h5, h6, h7⟩ := ha
    exact ⟨e, i, q.blk h1 (fun ht => hT _ h1.lt ht hg), h2.only q hX, h3, h4, h5, h6, h7⟩
theorem PassAt.below (h : PassAt c w g S N s) (q : Below w.heap.size w w') : PassAt c w' g S N s := h.only (Only.of_below (S := Empty) q) (fun _ _ h => h.elim) (fun _ _ h => h.elim)
theorem PassAt.more (h : PassAt c w g S N s) (hN : N ≤ N') : PassAt c w g S N' s := by
  refine ⟨h.lt, h.inX, h.new, h.pool, h.small, h.here, ?_⟩
  have ha := h.at_
  unfold Stands at *
  split at ha
  · obtain ⟨e, B, k, c1, zs, h1, h2, h3, h4, h5, h6⟩ := ha
    exact ⟨e, B, k, c1, zs, h1, h2, by omega, h4, h5, h6⟩
  · exact ha

theorem Tgt.only {T : Nat → Prop} {cs : List Value} (h : Tgt c w b off cs) (q : Only T w w') (hT : ¬ T b) : Tgt c w' b off cs :=
  ⟨Nat.lt_of_lt_of_le h.lt q.size, fun i v hv => (q.cell (p := ⟨b, off + i, none⟩) h.lt hT).trans (h.cell i v hv), fun hr => by
    obtain ⟨h1, t, all, h2⟩ := h.rd hr
    exact ⟨h1, t, all, q.blk h2 hT⟩⟩
theorem Tgt.sub {cs p q1 r : List Value} (h : Tgt c w b off cs) (e : cs = p ++ q1 ++ r) : Tgt c w b (off + p.length) q1 := by
  subst e
  refine ⟨h.lt, fun i v hv => ?_, h.rd⟩
  rw [Nat.add_assoc]
  refine h.cell _ v ?_
  rw [List.append_assoc, List.getElem?_append_right (by omega)]
  rw [show p.length + i - p.length = i by omega, List.getElem?_append_left (List.getElem?_eq_some_iff.1 hv).1]
  exact hv
theorem Tgt.back {cs p q1 q2 r : List Value} (h : Tgt c w b off cs) (e : cs = p ++ q1 ++ r) (hd : ∀ o, o < off + p.length ∨ off + p.length + q1.length ≤ o → w'.cell? ⟨b, o, none⟩ = w.cell? ⟨b, o, none⟩) (hl : q2.length = q1.length) (k : Tgt c w' b (off + p.length) q2) : Tgt c w' b off (p ++ q2 ++ r) := by
  subst e
  refine ⟨k.lt, fun i v hv => ?_, k.rd⟩
  by_cases h1 : i < p.length
  · rw [List.append_assoc, List.getElem?_append_left h1] at hv
    rw [hd _ (.inl (by omega))]
    exact h.cell i v (by rw [List.append_assoc, List.getElem?_append_left h1]; exact hv)
  · by_cases h2 : i < p.length + q2.length
    · rw [List.append_assoc, List.getElem?_append_right (by omega), List.getElem?_append_left (by omega)] at hv
      have := k.cell _ v hv
      rw [show off + p.length + (i - p.length) = off + i by omega] at this
      exact this
    · rw [List.getElem?_append_right (by rw [List.length_append]; omega), List.length_append] at hv
      rw [hd _ (.inr (by omega))]
      refine h.cell i v ?_
      rw [List.getElem?_append_right (by rw [List.length_append]; omega), List.length_append, ← hl]
      exact hv
theorem Done.trans {w1 w2 : World} {S1 S2 : Nat → Prop} {N1 N2 : Nat} {s1 s2 : Option (List UInt8)} {off1 k1 off2 k2 : Nat} (h : Done c w g S b off1 k1 w1 S1 N1 s1) (q : Done c w1 g S1 b off2 k2 w2 S2 N2 s2)
    (h1 : off ≤ off1 ∧ off1 + k1 ≤ off + k) (h2 : off ≤ off2 ∧ off2 + k2 ≤ off + k) : Done c w g S b off k w2 S2 N2 s2 := by
  refine ⟨q.pass, fun i hi => ?_, h.only.trans' q.only (Zs.mono h.sub), fun o ho => (q.rest o (by omega)).trans (h.rest o (by omega))⟩
  rcases q.sub i hi with hi | hi
  · exact h.sub i hi
  · exact .inr (Nat.le_trans h.only.size hi)
theorem Done.wide (h : Done c w g S b off k w' S' N' s') {off2 k2 : Nat} (h1 : off2 ≤ off ∧ off + k ≤ off2 + k2) : Done c w g S b off2 k2 w' S' N' s' :=
  ⟨h.pass, h.sub, h.only, fun o ho => h.rest o (by omega)⟩
theorem Done.refl (h : PassAt c w g S N s) (b off k : Nat) : Done c w g S b off k w S N s := ⟨h, fun _ h => .inl h, Only.refl _ _, fun _ _ => rfl⟩
/-- Nothing but a pass's own blocks turned. -/
theorem Done.own (hp : PassAt c w' g S' N' s') (hs : ∀ q, S' q → S q ∨ w.heap.size ≤ q) (ho : Only S w w') (b off k : Nat) (hb : ¬ S b) (hlt : b < w.heap.size) : Done c w g S b off k w' S' N' s' :=
  ⟨hp, hs, ho.mono (fun _ _ h => .inl h), fun o _ => ho.cell (p := ⟨b, o, none⟩) hlt hb⟩
end

/-- Where what was read does not lie: it is all new. -/
def Zn (c : Cx) (S : Nat → Prop) (H : Nat) : Nat → Prop := fun q => S q ∨ (c.m.isRd = true ∧ q < H)
theorem rep_on {α : Type} {R : RepT α} {c : Cx} {w w' : World} {S S' : Nat → Prop} {b H H' : Nat} {cs : List Value} {v : α} (h : R.rep w (Zn c S H) cs v) (hO : Only (Zs c S b) w w') (hb : c.m.isRd = true → b < H) (hs : ∀ q, S' q → S q ∨ w.heap.size ≤ q) (hH : H' ≤ H) : R.rep w' (Zn c S' H') cs v := by
  refine R.next h (hO.mono (fun q _ hz => ?_)) (fun q hq hz => ?_)
  · rcases hz with hz | ⟨h1, rfl⟩
    · exact .inl hz
    · exact .inr ⟨h1, hb h1⟩
  · rcases hz with hz | ⟨h1, h2⟩
    · rcases hs q hz with hz | hz
      · exact .inl hz
      · omega
    · exact .inr ⟨h1, Nat.lt_of_lt_of_le h2 hH⟩
/-- What a step over a target leaves. -/
def After {α : Type} (c : Cx) (w : World) (g : Nat) (S : Nat → Prop) (N' : Nat) (s : Option (List UInt8)) (b off : Nat) (R : RepT α) (e : Enc α) (v : α) (e1 : Ending) (w' : World) : Prop :=
  e1 = .returned (.tuple #[]) ∧ ∃ S' s' cs' v', Done c w g S b off R.k w' S' N' s' ∧ Tgt c w' b off cs' ∧ R.rep w' (Zn c S' w.heap.size) cs' v' ∧ Stp c.m.isRd e s v s' v'
/-- A method of the constants that goes over an item. -/
def Item {α : Type} (c : Cx) (K : Nat) (R : RepT α) (e : Enc α) (cost : Nat) (blank : List Value → α → Prop) : Prop :=
  ∀ (w : World) (g : Nat) (S : Nat → Prop) (N : Nat) (s : Option (List UInt8)) (b off : Nat) (cs : List Value) (v : α), PassAt c w g S N s → N + cost ≤ 16000000 → ¬ S b → Tgt c w b off cs → R.rep w (Zs c S b) cs v → (c.m.isRd = true → blank cs v) →
    Calls Try.prog K #[c.cv, c.m.v g, .pointer (some ⟨b, off, none⟩)] w (After c w g S (N + cost) s b off R e v)

end Go.Proofs.Ytendpbklcgiafaa

/- The walks over klass's faults (refuse, ask, goesOn), of both passes; how a pass's methods are reached. -/
namespace Go.Proofs.Ytendpbklcgiafaa
set_option maxRecDepth 100000
open Go.RowKit

theorem kRefuse_yes (g : Nat) (e1 : Int) (w : World) (h0 : w.cell? ⟨g, 0, none⟩ = some (.int .i64 0)) (hf : w.frozen? ⟨g, 0, none⟩ = false) (hl : g < w.heap.size) :
    Calls Try.prog 35 #[.pointer (some ⟨g, 0, none⟩), .int .i64 e1] w fun x w' => x = .returned (.tuple #[]) ∧ w' = w.setCell ⟨g, 0, none⟩ (.int .i64 e1) := by
  go_enter Try.func35, Try.ntmps35
  go_wp2
  go_end0
  exact ⟨rfl, rfl⟩
theorem kRefuse_no (g : Nat) (e e1 : Int) (w : World) (h0 : w.cell? ⟨g, 0, none⟩ = some (.int .i64 e)) (he : e ≠ 0) :
    Calls Try.prog 35 #[.pointer (some ⟨g, 0, none⟩), .int .i64 e1] w fun x w' => x = .returned (.tuple #[]) ∧ w = w' := by
  have hq : (e == 0) = false := by simpa using he
  clear he
  go_enter Try.func35, Try.ntmps35
  go_wp2
  go_end0
  exact ⟨rfl, rfl⟩
theorem kAsk_true (g : Nat) (w : World) :
    Calls Try.prog 18 #[.pointer (some ⟨g, 0, none⟩), .bool true] w fun x w' => x = .returned (.tuple #[]) ∧ w = w' := by
  go_enter Try.func18, Try.ntmps18
  go_wp2
  go_end0
  exact ⟨rfl, rfl⟩
theorem kAsk_yes (g : Nat) (w : World) (h0 : w.cell? ⟨g, 0, none⟩ = some (.int .i64 0)) (hf : w.frozen? ⟨g, 0, none⟩ = false) (hl : g < w.heap.size) :
    Calls Try.prog 18 #[.pointer (some ⟨g, 0, none⟩), .bool false] w fun x w' => x = .returned (.tuple #[]) ∧ w' = w.setCell ⟨g, 0, none⟩ (.int .i64 8) := by
  have CR := Lib.hid (kRefuse_yes g 8 w h0 hf hl)
  clear h0 hf hl
  go_enter Try.func18, Try.ntmps18
  go_wp2_with fail
  refine CR.out.mono ?_
  rintro x w1 ⟨rfl, rfl⟩
  go_wp2
  go_end0
  exact ⟨rfl, rfl⟩
theorem kAsk_no (g : Nat) (e : Int) (w : World) (h0 : w.cell? ⟨g, 0, none⟩ = some (.int .i64 e)) (he : e ≠ 0) :
    Calls Try.prog 18 #[.pointer (some ⟨g, 0, none⟩), .bool false] w fun x w' => x = .returned (.tuple #[]) ∧ w = w' := by
  have CR := Lib.hid (kRefuse_no g e 8 w h0 he)
  clear h0 he
  go_enter Try.func18, Try.ntmps18
  go_wp2_with fail
  refine CR.out.mono ?_
  rintro x w1 ⟨rfl, rfl⟩
  go_wp2
  go_end0
  exact ⟨rfl, rfl⟩
theorem kGoesOn_any (g : Nat) (e : Int) (w : World) (h0 : w.cell? ⟨g, 0, none⟩ = some (.int .i64 e)) :
    Calls Try.prog 17 #[.pointer (some ⟨g, 0, none⟩)] w fun x w' => x = .returned (.bool (decide (e = 0))) ∧ w = w' := by
  by_cases he : e = 0
  · subst he
    go_enter Try.func17, Try.ntmps17
    go_wp2
    go_ret
    exact ⟨rfl, rfl⟩
  · have hq : (e == 0) = false := by simpa using he
    rw [decide_eq_false he]
    clear he
    go_enter Try.func17, Try.ntmps17
    go_wp2
    go_ret
    exact ⟨rfl, rfl⟩

section
variable {c : Cx} {w w' : World} {g : Nat} {S : Nat → Prop} {N : Nat} {s : Option (List UInt8)}
theorem PassAt.fault (h : PassAt c w g S N s) : ∃ e, w.cell? ⟨g, 0, none⟩ = some (.int .i64 e) ∧ w.frozen? ⟨g, 0, none⟩ = false ∧ g < w.heap.size ∧ (e = 0 ↔ s.isSome = true) ∧ (s = none → (e = 6 ∨ e = 8) ∧ (c.dry → e = 6)) := by
  have ha := h.at_
  unfold Stands at ha
  split at ha
  · rename_i hm
    obtain ⟨e, B, k, c1, zs, h1, h2, h3, h4, h5, h6⟩ := ha
    refine ⟨e, h1.cell 0, h1.frozen 0, h1.lt, ?_, ?_⟩
    · subst h5
      by_cases he : e = 0 <;> simp [he]
    · intro hs
      subst h5
      by_cases he : e = 0
      · rw [if_pos he] at hs; cases hs
      · exact ⟨.inr (h4.resolve_left he), fun ⟨_, _, _, h9⟩ => by rw [hm] at h9; cases h9⟩
  · rename_i A n cap b hm
    obtain ⟨e, i, h1, h2, h3, h4, h5, h6, h7⟩ := ha
    refine ⟨e, h1.cell 0, h1.frozen 0, h1.lt, ?_, ?_⟩
    · subst h6
      by_cases he : e = 0 <;> simp [he]
    · intro hs
      subst h6
      by_cases he : e = 0
      · rw [if_pos he] at hs; cases hs
      · refine ⟨h5.1.resolve_left he, fun ⟨_, _, _, h9⟩ => ?_⟩
        rw [hm] at h9
        cases h9
        exact (h5.1.resolve_left he).resolve_right (h5.2 rfl)
/-- What is wrong is kept. -/
theorem PassAt.setE (h : PassAt c w g S N s) (hs : s.isSome = true) (x : Int) (hx : x = 0 ∨ x = 8 ∨ c.m.isRd = true ∧ x = 6) (hd : c.dry → x ≠ 8) : PassAt c (w.setCell ⟨g, 0, none⟩ (.int .i64 x)) g S N (if x = 0 then s else none) ∧ Only S w (w.setCell ⟨g, 0, none⟩ (.int .i64 x)) := by
  have hO : Only (· = g) w (w.setCell ⟨g, 0, none⟩ (.int .i64 x)) := (Only.refl (· = g) w).setCell (p := ⟨g, 0, none⟩) (Or.inl rfl) _
  have hgX := h.inX g h.here
  refine ⟨⟨fun i hi => Nat.lt_of_lt_of_le (h.lt i hi) hO.size, h.inX, fun i hi => h.new i (Nat.le_trans hO.size hi), h.pool.only hO (fun i _ e => e ▸ hgX), h.small, h.here, ?_⟩, hO.mono (fun q _ e => e ▸ h.here)⟩
  have ha := h.at_
  unfold Stands at *
  split at ha
  · rename_i hm
    obtain ⟨e', B, k, c1, zs, h1, h2, h3, h4, h5, h6⟩ := ha
    have hx8 : x = 0 ∨ x = 8 := by
      rcases hx with hx | hx | ⟨hx, _⟩
      · exact .inl hx
      · exact .inr hx
      · rw [hm] at hx; cases hx
    have hs5 : s = some zs := by
      by_cases he : e' = 0
      · rw [h5, if_pos he]
      · rw [h5, if_neg he] at hs; cases hs
    refine ⟨x, B, k, c1, zs, h1.set_ 0 _, ⟨h2.1, ?_⟩, h3, hx8, by rw [hs5], h6⟩
    rcases h2.2 with h0 | ⟨g', c2, cur, e, hb, hB, r⟩
    · exact Or.inl h0
    · have hB' : Blk w g' 5 cur := hB
      exact Or.inr ⟨g', c2, cur, e, hb, hO.blk hB' (Blk.ne_ hB' h1 (by decide)), r⟩
  · rename_i A n cap b hm
    obtain ⟨e', i, h1, h2, h3, h4, h5, h6, h7⟩ := ha
    have he0 : e' = 0 := Decidable.byContradiction fun he => by rw [h6, if_neg he] at hs; cases hs
    refine ⟨x, i, h1.set_ 0 _, h2.only hO (fun j _ e => e ▸ hgX), h3, h4, ⟨?_, fun h0 => hd ⟨A, cap, b, by rw [hm, h0]⟩⟩, by rw [h6, if_pos he0], h7⟩
    rcases hx with rfl | rfl | ⟨_, rfl⟩
    · exact .inl rfl
    · exact .inr (.inr rfl)
    · exact .inr (.inl rfl)

/-- A reader of no bytes has none left. -/
theorem PassAt.dry_s (h : PassAt c w g S N s) (hd : c.dry) : s = none ∨ s = some [] := by
  obtain ⟨A, cap, b, hm⟩ := hd
  have ha := h.at_
  unfold Stands at ha
  rw [hm] at ha
  obtain ⟨e, i, h1, h2, h3, h4, h5, h6, h7⟩ := ha
  have hb : b = [] := List.length_eq_zero_iff.1 h2.1
  rw [h6]
  split
  · exact .inr (by rw [hb, List.drop_nil])
  · exact .inl rfl
theorem Cx.dry.rd (hd : c.dry) : c.m.isRd = true := by
  obtain ⟨A, cap, b, hm⟩ := hd
  rw [hm]
  rfl
theorem PassAt.dry_num (h : PassAt c w g S N s) {k : Nat} {v v' : Int} {s' : Option (List UInt8)} (hk : 1 ≤ k) (hn : NumS c.m.isRd k s v s' v') (hd : c.dry) : s' = none := by
  rw [hd.rd] at hn
  rcases h.dry_s hd with e | e
  · subst e
    exact hn.1
  · subst e
    rcases hn with ⟨h1, _⟩ | ⟨_, h1, _⟩
    · have h1 : k ≤ 0 := h1
      omega
    · exact h1
/-- What always has bytes isn't read of none. -/
theorem PassAt.dry_stp {α : Type} (h : PassAt c w g S N s) {e : Enc α} {v v' : α} {s' : Option (List UInt8)} (hl : ∀ v x, e v = some x → x ≠ []) (hn : Stp c.m.isRd e s v s' v') (hd : c.dry) : s' = none := by
  rw [hd.rd] at hn
  rcases h.dry_s hd with k | k
  · subst k
    exact hn
  · subst k
    rcases hn with ⟨r, _, x, hx, hb⟩ | ⟨h1, _⟩
    · exact absurd (List.append_eq_nil_iff.1 hb.symm).1 (hl _ _ hx)
    · exact h1
/-- ask, of whichever pass. -/
theorem ask_any (h : PassAt c w g S N s) (ok : Bool) (hd : c.dry → ok = true ∨ s = none) :
    Calls Try.prog 18 #[.pointer (some ⟨g, 0, none⟩), .bool ok] w fun x w' => x = .returned (.tuple #[]) ∧ PassAt c w' g S N (if ok = true then s else none) ∧ Only S w w' := by
  obtain ⟨e, h0, hf, hl, he, _⟩ := h.fault
  cases ok with
  | true =>
    refine (kAsk_true g w).mono ?_
    rintro x w' ⟨rfl, rfl⟩
    exact ⟨rfl, h, Only.refl S w⟩
  | false =>
    by_cases hz : e = 0
    · subst hz
      refine (kAsk_yes g w h0 hf hl).mono ?_
      rintro x w' ⟨rfl, rfl⟩
      exact ⟨rfl, h.setE (he.1 rfl) 8 (.inr (.inl rfl)) (fun k => by
        rcases hd k with k | k
        · cases k
        · have := he.1 rfl
          rw [k] at this
          cases this)⟩
    · refine (kAsk_no g e w h0 hz).mono ?_
      rintro x w' ⟨rfl, rfl⟩
      have hn : s = none := by
        cases s with
        | none => rfl
        | some b => exact absurd (he.2 rfl) hz
      subst hn
      exact ⟨rfl, h, Only.refl _ _⟩
theorem goesOn_any (h : PassAt c w g S N s) :
    Calls Try.prog 17 #[.pointer (some ⟨g, 0, none⟩)] w fun x w' => x = .returned (.bool s.isSome) ∧ w = w' := by
  obtain ⟨e, h0, hf, hl, he, _⟩ := h.fault
  refine (kGoesOn_any g e w h0).mono ?_
  rintro x w' ⟨rfl, rfl⟩
  refine ⟨?_, rfl⟩
  congr 2
  rw [Bool.eq_iff_iff, decide_eq_true_eq]
  exact he
/-- refuse, of whichever pass. -/
theorem refuse_k (h : PassAt c w g S N s) (x : Int) (hx : x = 0 ∨ x = 8 ∨ c.m.isRd = true ∧ x = 6) (hd : c.dry → x ≠ 8) :
    Calls Try.prog 35 #[.pointer (some ⟨g, 0, none⟩), .int .i64 x] w fun e1 w' => e1 = .returned (.tuple #[]) ∧ PassAt c w' g S N (if x = 0 then s else none) ∧ Only S w w' := by
  obtain ⟨e, h0, hf, hl, he, _⟩ := h.fault
  by_cases hz : e = 0
  · subst hz
    refine (kRefuse_yes g x w h0 hf hl).mono ?_
    rintro e1 w' ⟨rfl, rfl⟩
    exact ⟨rfl, h.setE (he.1 rfl) x hx hd⟩
  · refine (kRefuse_no g e x w h0 hz).mono ?_
    rintro e1 w' ⟨rfl, rfl⟩
    have hn : s = none := by
      cases s with
      | none => rfl
      | some b => exact absurd (he.2 rfl) hz
    subst hn
    exact ⟨rfl, by split <;> exact h, Only.refl _ _⟩
end

/-! ### How a method is reached -/
section
variable (m : Md) (g : Nat) (w : World)
theorem reach_ask : (method 282 m.T (.pointer (some ⟨g, 0, none⟩)) "carpetbag/klass.ask").run Try.prog w = .ok (18, .pointer (some ⟨g, 0, none⟩)) w := by
  cases m
  · kernel_rfl
  · kernel_rfl
theorem reach_goesOn : (method 282 m.T (.pointer (some ⟨g, 0, none⟩)) "carpetbag/klass.goesOn").run Try.prog w = .ok (17, .pointer (some ⟨g, 0, none⟩)) w := by
  cases m
  · kernel_rfl
  · kernel_rfl
theorem reach_number : (method 282 m.T (.pointer (some ⟨g, 0, none⟩)) "carpetbag/klass.number").run Try.prog w = .ok (m.fN, .pointer (some ⟨g, 0, none⟩)) w := by
  cases m
  · kernel_rfl
  · kernel_rfl
theorem reach_bytes : (method 282 m.T (.pointer (some ⟨g, 0, none⟩)) "carpetbag/klass.bytes").run Try.prog w = .ok (m.fB, .pointer (some ⟨g, 0, none⟩)) w := by
  cases m
  · kernel_rfl
  · kernel_rfl
theorem reach_pool : (method 282 m.T (.pointer (some ⟨g, 0, none⟩)) "carpetbag/klass.pool").run Try.prog w = .ok (m.fP, .pointer (some ⟨g, 0, none⟩)) w := by
  cases m
  · kernel_rfl
  · kernel_rfl
theorem reach_block : (method 282 m.T (.pointer (some ⟨g, 0, none⟩)) "carpetbag/klass.block").run Try.prog w = .ok (m.fK, .pointer (some ⟨g, 0, none⟩)) w := by
  cases m
  · kernel_rfl
  · kernel_rfl
theorem enter_number (args : Array Value) : (callFunc m.fN args).run Try.prog w = .ok (.enter m.fN args) w := by
  cases m
  · kernel_rfl
  · kernel_rfl
theorem enter_bytes (args : Array Value) : (callFunc m.fB args).run Try.prog w = .ok (.enter m.fB args) w := by
  cases m
  · kernel_rfl
  · kernel_rfl
theorem enter_pool (args : Array Value) : (callFunc m.fP args).run Try.prog w = .ok (.enter m.fP args) w := by
  cases m
  · kernel_rfl
  · kernel_rfl
theorem enter_block (args : Array Value) : (callFunc m.fK args).run Try.prog w = .ok (.enter m.fK args) w := by
  cases m
  · kernel_rfl
  · kernel_rfl
theorem nil_ask : (nilAhead 282 m.T (.pointer (some ⟨g, 0, none⟩)) "carpetbag/klass.ask").run Try.prog w = .ok (some false) w := by
  cases m
  · kernel_rfl
  · kernel_rfl
theorem nil_number : (nilAhead 282 m.T (.pointer (some ⟨g, 0, none⟩)) "carpetbag/klass.number").run Try.prog w = .ok (some false) w := by
  cases m
  · kernel_rfl
  · kernel_rfl
theorem nil_pool : (nilAhead 282 m.T (.pointer (some ⟨g, 0, none⟩)) "carpetbag/klass.pool").run Try.prog w = .ok (some false) w := by
  cases m
  · kernel_rfl
  · kernel_rfl
end

end Go.Proofs.Ytendpbklcgiafaa

/- The walks over pool.Member and the document's is, Text, Class, Member. -/
namespace Go.Proofs.Ytendpbklcgiafaa
set_option maxRecDepth 100000
open Go.RowKit

/-- What Member answers. -/
def memberV (r : Option (List UInt8 × List UInt8 × List UInt8)) : Value := match r with
  | some x => .tuple #[.string (strB x.1), .string (strB x.2.1), .string (strB x.2.2), .bool true]
  | none => .tuple #[.string (strB []), .string (strB []), .string (strB []), .bool false]
theorem namesW_eq (l : List Cst) (p : Int) : namesF l p = if (namesW l p).2.2 = true then some ((namesW l p).1, (namesW l p).2.1) else none := by
  unfold namesF namesW
  cases h : findF l p 12 with
  | none => simp
  | some c =>
    cases h1 : textF l c.a <;> cases h2 : textF l c.b <;> simp [h1, h2, textD]
theorem memberF_eq (l : List Cst) (p t : Int) (ht : t = 9 ∨ t = 10) : memberF l p t =
    if ((findF l p t).isSome && (classF l ((findF l p t).getD zeroC).a).isSome && (namesW l ((findF l p t).getD zeroC).b).2.2) = true then
      some (textD (classF l ((findF l p t).getD zeroC).a), (namesW l ((findF l p t).getD zeroC).b).1, (namesW l ((findF l p t).getD zeroC).b).2.1) else none := by
  unfold memberF
  rw [if_neg (by omega)]
  cases h : findF l p t with
  | none => simp
  | some c =>
    cases h1 : classF l c.a with
    | none => simp [h1]
    | some k =>
      cases h2 : (namesW l c.b).2.2 <;> simp [h1, h2, namesW_eq, textD]




/-! ### The document's -/
theorem is_any (A : Option Addr) (n cap : Nat) (l : List Cst) (p t : Int) (w : World) (hP : PoolSl w A n cap l) (hn : n ≤ 1000000) :
    Calls Try.prog 38 #[.slice A n cap, .int .i64 p, .int .i64 t] w fun e w' => e = .returned (.bool (isF l p t)) ∧ w = w' := by
  rcases pool_ways hP p with ⟨k, b, o, c, rfl, h1, h2, rfl, hc, hb, h0, -⟩ | ⟨h, hc⟩
  · have HE : Hid (isF l (k : Int) t = (c.tag == t)) := Lib.hid (by unfold isF; rw [hc])
    clear hP hc
    go_enter Try.func38, Try.ntmps38
    go_wp2
    go_ret
    exact ⟨by rw [HE.out]; rfl, rfl⟩
  · have HE : Hid (isF l p t = false) := Lib.hid (by unfold isF; rw [hc])
    clear hP hc
    by_cases h1 : 1 ≤ p
    · have h2 : decide (p < (n : Int)) = false := decide_eq_false (by omega)
      clear h
      go_enter Try.func38, Try.ntmps38
      go_wp2
      go_ret
      exact ⟨by rw [HE.out]; rfl, rfl⟩
    · have h2 : decide (1 ≤ p) = false := decide_eq_false h1
      clear h
      go_enter Try.func38, Try.ntmps38
      go_wp2
      go_ret
      exact ⟨by rw [HE.out]; rfl, rfl⟩

theorem isF_yes {l : List Cst} {p t : Int} (h : isF l p t = true) : ∃ c, atF l p = some c ∧ c.tag = t ∧ findF l p t = some c := by
  unfold isF at h
  cases hc : atF l p with
  | none => rw [hc] at h; simp at h
  | some c =>
    rw [hc] at h
    have ht : c.tag = t := by simpa using h
    exact ⟨c, rfl, ht, by unfold findF; rw [hc]; exact if_pos ht⟩
theorem isF_no {l : List Cst} {p t : Int} (h : isF l p t = false) : findF l p t = none := by
  have := isF_find l p t
  rw [h] at this
  cases hf : findF l p t with
  | none => rfl
  | some c => rw [hf] at this; simp at this

theorem refText_any (A : Option Addr) (n cap : Nat) (l : List Cst) (p : Int) (w : World) (hP : PoolSl w A n cap l) (hn : n ≤ 1000000) :
    Calls Try.prog 39 #[.slice A n cap, .int .i64 p] w fun e w' => e = .returned (textV (textF l p)) ∧ w = w' := by
  have C := is_any A n cap l p 1 w hP hn
  cases hi : isF l p 1 with
  | false =>
    have HE : Hid (textF l p = none) := Lib.hid (by unfold textF; rw [isF_no hi]; rfl)
    rw [hi] at C
    have C := Lib.hid C
    clear hi hP
    go_enter Try.func39, Try.ntmps39
    go_wp2_with fail
    refine C.out.mono ?_
    rintro e w1 ⟨rfl, rfl⟩
    go_wp2
    go_ret2
    exact ⟨by rw [HE.out]; rfl, rfl⟩
  | true =>
    obtain ⟨c, hc, ht, hf⟩ := isF_yes hi
    have HE : Hid (textF l p = some c.s) := Lib.hid (by unfold textF; rw [hf]; rfl)
    rw [hi] at C
    have C := Lib.hid C
    rcases pool_ways hP p with ⟨k, b, o, c', rfl, h1, h2, rfl, hc', hb, h0, h3, h4, h5, h6⟩ | ⟨h, hc'⟩
    · obtain rfl : c = c' := by rw [hc] at hc'; exact Option.some.inj hc'
      clear hi hP hc hc' hf ht
      go_enter Try.func39, Try.ntmps39
      go_wp2_with fail
      refine C.out.mono ?_
      rintro e w1 ⟨rfl, rfl⟩
      go_wp2
      go_ret2
      exact ⟨by rw [HE.out]; rfl, rfl⟩
    · rw [hc] at hc'
      exact absurd hc' (by simp)

theorem refClass_any (A : Option Addr) (n cap : Nat) (l : List Cst) (p : Int) (w : World) (hP : PoolSl w A n cap l) (hn : n ≤ 1000000) :
    Calls Try.prog 22 #[.slice A n cap, .int .i64 p] w fun e w' => e = .returned (textV (classF l p)) ∧ w = w' := by
  have C := is_any A n cap l p 7 w hP hn
  cases hi : isF l p 7 with
  | false =>
    have HE : Hid (classF l p = none) := Lib.hid (by unfold classF; rw [isF_no hi])
    rw [hi] at C
    have C := Lib.hid C
    clear hi hP
    go_enter Try.func22, Try.ntmps22
    go_wp2_with fail
    refine C.out.mono ?_
    rintro e w1 ⟨rfl, rfl⟩
    go_wp2
    go_ret2
    exact ⟨by rw [HE.out]; rfl, rfl⟩
  | true =>
    obtain ⟨c, hc, ht, hf⟩ := isF_yes hi
    have HE : Hid (classF l p = textF l c.a) := Lib.hid (by unfold classF; rw [hf])
    rw [hi] at C
    have C := Lib.hid C
    have CT := Lib.hid (refText_any A n cap l c.a w hP hn)
    rcases pool_ways hP p with ⟨k, b, o, c', rfl, h1, h2, rfl, hc', hb, h0, h3, h4, h5, h6⟩ | ⟨h, hc'⟩
    · obtain rfl : c = c' := by rw [hc] at hc'; exact Option.some.inj hc'
      clear hi hP hc hc' hf ht
      go_enter Try.func22, Try.ntmps22
      go_wp2_with fail
      refine C.out.mono ?_
      rintro e w1 ⟨rfl, rfl⟩
      go_wp2_with fail
      refine CT.out.mono ?_
      rintro e w1 ⟨rfl, rfl⟩
      rw [textV_eq]
      go_wp2
      go_ret2
      exact ⟨by rw [HE.out, textV_eq]; rfl, rfl⟩
    · rw [hc] at hc'
      exact absurd hc' (by simp)

theorem atF_place {w : World} {A : Option Addr} {n cap : Nat} {l : List Cst} (hP : PoolSl w A n cap l) {p : Int} {c : Cst} (h : atF l p = some c) :
    ∃ (k b o : Nat), p = (k : Int) ∧ 1 ≤ k ∧ k < n ∧ A = some ⟨b, o, none⟩ ∧ b < w.heap.size ∧ w.cell? ⟨b, o + k * 5, none⟩ = some (.int .i64 c.tag) ∧ w.cell? ⟨b, o + k * 5 + 1, none⟩ = some (.int .i64 c.a) ∧ w.cell? ⟨b, o + k * 5 + 2, none⟩ = some (.int .i64 c.b) ∧ w.cell? ⟨b, o + k * 5 + 3, none⟩ = some (.int .i64 c.n) ∧ w.cell? ⟨b, o + k * 5 + 4, none⟩ = some (.string (strB c.s)) := by
  rcases pool_ways hP p with ⟨k, b, o, c', rfl, h1, h2, rfl, hc', r⟩ | ⟨h', hc'⟩
  · obtain rfl : c = c' := by rw [h] at hc'; exact Option.some.inj hc'
    exact ⟨k, b, o, rfl, h1, h2, rfl, r⟩
  · rw [h] at hc'
    exact absurd hc' (by simp)




end Go.Proofs.Ytendpbklcgiafaa
