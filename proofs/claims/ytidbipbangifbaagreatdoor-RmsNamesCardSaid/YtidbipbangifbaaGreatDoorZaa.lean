/- Words for memory that every walk over the flash uses: a block that is known whole, a world in which only some blocks have turned, bytes that a slice reads as. Plain lemmas; nothing of the program but three type numbers. -/
import Derived.Test.YtidbipbangifbaaGreatDoorRows
import Derived.WalkKit
import Derived.WalkSpells
import Derived.WalkLawsBesides
import Derived.Lib.Hide
import Derived.Laws.BitsAllLaws
import Derived.IntWalk
import Derived.Outline
namespace Go.Proofs.YtidbipbangifbaaGreatDoor
set_option maxRecDepth 100000
open Go.RowKit

/-- Block g is just the cells cs of element type t, none frozen. -/
def Blk (w : World) (g : Nat) (t : TypeId) (cs : Array Value) : Prop := w.heap[g]? = some (.cells cs t (0, 0))

namespace Blk
variable {w : World} {g : Nat} {t : TypeId} {cs : Array Value}

/-- It says nothing but where the heap's g-th block is: whatever leaves that one alone keeps it. -/
theorem of {w' : World} (h : Blk w g t cs) (same : w'.heap[g]? = w.heap[g]?) : Blk w' g t cs := by
  show w'.heap[g]? = _
  rw [same]
  exact h
theorem lt (h : Blk w g t cs) : g < w.heap.size := (Array.getElem?_eq_some_iff.1 h).1
theorem cell (h : Blk w g t cs) (i : Nat) : w.cell? ⟨g, i, none⟩ = cs[i]? := by
  have e : w.heap[g]? = some (.cells cs t (0, 0)) := h
  simp only [World.cell?, e]
  rfl
theorem frozen (h : Blk w g t cs) (i : Nat) : w.frozen? ⟨g, i, none⟩ = false := by
  have e : w.heap[g]? = some (.cells cs t (0, 0)) := h
  simp [World.frozen?, e]
theorem new (w : World) (t : TypeId) (cs : Array Value) : Blk (w.alloc (.cells cs t)) w.heap.size t cs := by
  show (w.heap.push (.cells cs t))[w.heap.size]? = _
  rw [Array.getElem?_push_size]
theorem drew (h : Blk w g t cs) : Blk w.drew g t cs := h.of rfl
theorem drewN (h : Blk w g t cs) (n : Nat) : Blk (w.drewN n) g t cs := h.of rfl
theorem alloc (h : Blk w g t cs) (o : Obj) : Blk (w.alloc o) g t cs := h.of (Below.heap_alloc w o g h.lt)
theorem far (h : Blk w g t cs) {p : Addr} (hp : g ≠ p.block) (u : Value) : Blk (w.setCell p u) g t cs := h.of (Below.heap_setCell w p u g hp)
theorem set_ (h : Blk w g t cs) (i : Nat) (u : Value) : Blk (w.setCell ⟨g, i, none⟩ u) g t (cs.setIfInBounds i u) := by
  have e : w.heap[g]? = some (.cells cs t (0, 0)) := h
  show (w.setCell ⟨g, i, none⟩ u).heap[g]? = _
  simp [World.setCell, Array.getElem?_modify, e]
/-- Two blocks whose elements are of two types are two blocks. -/
theorem ne_ {g' : Nat} {t' : TypeId} {cs' : Array Value} (h : Blk w g t cs) (h' : Blk w g' t' cs') (hne : t ≠ t') : g ≠ g' := by
  intro e
  have both : some (Obj.cells cs t (0, 0)) = some (Obj.cells cs' t' (0, 0)) := by
    rw [← show w.heap[g]? = some (.cells cs t (0, 0)) from h, e]
    exact h'
  simp only [Option.some.injEq, Obj.cells.injEq] at both
  exact hne both.2.1
end Blk

/-- From w to w' only blocks in S, and new ones, have turned. -/
structure Only (S : Nat → Prop) (w w' : World) : Prop where
  os : w'.os = w.os
  tape : w'.tape = w.tape
  output : w'.output = w.output
  size : w.heap.size ≤ w'.heap.size
  block : ∀ k, k < w.heap.size → ¬ S k → w'.heap[k]? = w.heap[k]?

section
variable {S T : Nat → Prop} {a b c w w' : World}
theorem Only.refl (S : Nat → Prop) (w : World) : Only S w w := ⟨rfl, rfl, rfl, Nat.le_refl _, fun _ _ _ => rfl⟩
theorem Only.trans (h : Only S a b) (k : Only S b c) : Only S a c :=
  ⟨k.os.trans h.os, k.tape.trans h.tape, k.output.trans h.output, Nat.le_trans h.size k.size,
    fun i hi hs => (k.block i (Nat.lt_of_lt_of_le hi h.size) hs).trans (h.block i hi hs)⟩
/-- What turned in the second step may also be blocks that the first step made. -/
theorem Only.trans' (h : Only S a b) (k : Only T b c) (hT : ∀ i, i < a.heap.size → T i → S i) : Only S a c :=
  ⟨k.os.trans h.os, k.tape.trans h.tape, k.output.trans h.output, Nat.le_trans h.size k.size,
    fun i hi hs => (k.block i (Nat.lt_of_lt_of_le hi h.size) (fun ht => hs (hT i hi ht))).trans (h.block i hi hs)⟩
theorem Only.mono (h : Only S w w') (hT : ∀ i, i < w.heap.size → S i → T i) : Only T w w' :=
  ⟨h.os, h.tape, h.output, h.size, fun i hi hs => h.block i hi (fun k => hs (hT i hi k))⟩
theorem Only.drew (h : Only S a w) : Only S a w.drew := ⟨h.os, h.tape, h.output, h.size, h.block⟩
theorem Only.drewN (h : Only S a w) (n : Nat) : Only S a (w.drewN n) := ⟨h.os, h.tape, h.output, h.size, h.block⟩
theorem Only.alloc (h : Only S a w) (o : Obj) : Only S a (w.alloc o) :=
  ⟨h.os, h.tape, h.output, Nat.le_trans h.size (by simp), fun i hi hne => (Below.heap_alloc w o i (Nat.lt_of_lt_of_le hi h.size)).trans (h.block i hi hne)⟩
theorem Only.setCell (h : Only S a w) {p : Addr} (hp : S p.block ∨ a.heap.size ≤ p.block) (u : Value) : Only S a (w.setCell p u) :=
  ⟨h.os, h.tape, h.output, by simpa [World.setCell] using h.size, fun i hi hne => (Below.heap_setCell w p u i (by
    rintro rfl
    rcases hp with hp | hp
    · exact hne hp
    · omega)).trans (h.block i hi hne)⟩
theorem Only.below {B : Nat} (h : Only S w w') (hB : B ≤ w.heap.size) (hS : ∀ k, k < B → ¬ S k) : Below B w w' :=
  ⟨h.os, h.tape, h.output, h.size, fun k hk => h.block k (by omega) (hS k hk)⟩
theorem Only.of_below (h : Below w.heap.size w w') : Only S w w' := ⟨h.os, h.tape, h.output, h.size, fun i hi _ => h.block i hi⟩
theorem Only.of_grown {row : Option Nat} (h : w.grownBy w' row) (hS : ∀ k, row = some k → k < w.heap.size → S k) : Only S w w' :=
  ⟨h.os, h.tape, h.output, h.size, fun i hi hne => h.block i hi (fun e => hne (hS i e.symm hi))⟩
theorem Only.cell (h : Only S w w') {p : Addr} (hp : p.block < w.heap.size) (hS : ¬ S p.block) : w'.cell? p = w.cell? p := World.cell?_of_block (w := w) (h.block p.block hp hS)
theorem Only.blk {g : Nat} {t : TypeId} {cs : Array Value} (h : Only S w w') (hb : Blk w g t cs) (hS : ¬ S g) : Blk w' g t cs := hb.of (h.block g hb.lt hS)
end

theorem _root_.Go.RowKit.Below.drewN {B : Nat} {a w : World} (h : Below B a w) (n : Nat) : Below B a (w.drewN n) := ⟨h.os, h.tape, h.output, h.size, h.block⟩

/-- A byte as the machine's value. -/
def B8 (x : UInt8) : Value := .int .u8 (x.toNat : Int)

/-- The slice value '.slice A n cap' reads as the bytes xs; its block is not in S. -/
def ByteSl (w : World) (S : Nat → Prop) (A : Option Addr) (n cap : Nat) (xs : List UInt8) : Prop :=
  xs.length = n ∧ n ≤ cap ∧ cap ≤ maxLen ∧ (0 < n → ∃ ad, A = some ad ∧ ad.block < w.heap.size ∧ ¬ S ad.block ∧ ∀ j x, xs[j]? = some x → w.cell? (ad.add j) = some (B8 x))

section
variable {w w' : World} {S T : Nat → Prop} {A : Option Addr} {n cap : Nat} {xs : List UInt8}
theorem addr_add_block (ad : Addr) (n : Nat) : (ad.add n).block = ad.block := by unfold Addr.add; split <;> rfl
theorem ByteSl.only (h : ByteSl w S A n cap xs) (k : Only T w w') (hT : ∀ i, i < w.heap.size → T i → S i) : ByteSl w' S A n cap xs :=
  ⟨h.1, h.2.1, h.2.2.1, fun hn => by
    obtain ⟨ad, e, hb, hs, hc⟩ := h.2.2.2 hn
    exact ⟨ad, e, Nat.lt_of_lt_of_le hb k.size, hs, fun j x hx => (k.cell (p := ad.add j) (by rw [addr_add_block]; exact hb) (by rw [addr_add_block]; exact fun ht => hs (hT _ hb ht))).trans (hc j x hx)⟩⟩
theorem ByteSl.mono (h : ByteSl w S A n cap xs) (hT : ∀ i, i < w.heap.size → T i → S i) : ByteSl w T A n cap xs :=
  ⟨h.1, h.2.1, h.2.2.1, fun hn => by
    obtain ⟨ad, e, hb, hs, hc⟩ := h.2.2.2 hn
    exact ⟨ad, e, hb, fun ht => hs (hT _ hb ht), hc⟩⟩
theorem ByteSl.at_ (h : ByteSl w S A n cap xs) {k : Nat} (hk : k < n) : ∃ ad x, A = some ad ∧ ad.block < w.heap.size ∧ ¬ S ad.block ∧ xs[k]? = some x ∧ w.cell? (ad.add k) = some (B8 x) := by
  obtain ⟨ad, e, hb, hs, hc⟩ := h.2.2.2 (by omega)
  have hl : k < xs.length := by have := h.1; omega
  exact ⟨ad, xs[k], e, hb, hs, List.getElem?_eq_getElem hl, hc k _ (List.getElem?_eq_getElem hl)⟩
theorem ByteSl.nil_ (w : World) (S : Nat → Prop) (A : Option Addr) (cap : Nat) (h : cap ≤ maxLen) : ByteSl w S A 0 cap [] := ⟨rfl, Nat.zero_le _, h, fun h => absurd h (by omega)⟩
end

/-! ### Bits of bytes -/
theorem byte_lt (a : UInt8) : a.toNat < 256 := a.toNat_lt
theorem b_and (a b : UInt8) : bits .and .u8 (a.toNat : Int) (b.toNat : Int) = ((a &&& b).toNat : Int) := by
  rw [u8_and_nat _ _ (byte_lt a) (byte_lt b), UInt8.toNat_and]
theorem b_or (a b : UInt8) : bits .or .u8 (a.toNat : Int) (b.toNat : Int) = ((a ||| b).toNat : Int) := by
  rw [u8_or_nat _ _ (byte_lt a) (byte_lt b), UInt8.toNat_or]
theorem b_andNot (a b : UInt8) : bits .andNot .u8 (a.toNat : Int) (b.toNat : Int) = ((a &&& ~~~b).toNat : Int) := by
  rw [u8_andNot_nat _ _ (byte_lt a) (byte_lt b), UInt8.toNat_and, UInt8.toNat_not]
  rfl
theorem n_andNot (a b : UInt8) : (a &&& ~~~b).toNat = (a.toNat &&& (255 - b.toNat)) := by rw [UInt8.toNat_and, UInt8.toNat_not]; rfl
theorem n_not (b : UInt8) : (~~~b).toNat = 255 - b.toNat := by rw [UInt8.toNat_not]; rfl
theorem b_xor (b : UInt8) : bits .xor .u8 255 (b.toNat : Int) = ((~~~b).toNat : Int) := by
  have h := u8_xor_nat 255 b.toNat (by omega) (byte_lt b)
  have h2 : (255 ^^^ b.toNat) = (~~~b).toNat := by
    have e : (255 : UInt8) ^^^ b = ~~~b := by
      apply UInt8.toBitVec_inj.1
      show BitVec.allOnes 8 ^^^ b.toBitVec = ~~~b.toBitVec
      exact BitVec.allOnes_xor
    have e2 := congrArg UInt8.toNat e
    rw [UInt8.toNat_xor] at e2
    exact e2
  rw [← h2]
  exact h

end Go.Proofs.YtidbipbangifbaaGreatDoor

/- The walks over num's and the document's small functions: isSize, Sign, Cmp, bits, back, power, int64Power. -/
namespace Go.Proofs.YtidbipbangifbaaGreatDoor
set_option maxRecDepth 100000
open Go.RowKit

theorem isSize_yes (n : Int) (w : World) (h1 : 1 ≤ n) (h2 : n ≤ 8) : Calls Tryz.prog 85 #[.int .i64 n] w fun e w' => e = .returned (.bool true) ∧ w = w' := by
  go_enter Tryz.func85, Tryz.ntmps85
  go_wp2
  go_ret
  simp [h2]
theorem isSize_no (n : Int) (w : World) (h : n < 1 ∨ 8 < n) : Calls Tryz.prog 85 #[.int .i64 n] w fun e w' => e = .returned (.bool false) ∧ w = w' := by
  by_cases h1 : 1 ≤ n
  · have h2 : 8 < n := by omega
    clear h
    go_enter Tryz.func85, Tryz.ntmps85
    go_wp2
    go_ret
    simp; omega
  · clear h
    go_enter Tryz.func85, Tryz.ntmps85
    go_wp2
    go_ret
    exact ⟨rfl, rfl⟩

def cmpV (a b : Int) : Int := if a < b then -1 else if b < a then 1 else 0


/-- What the lowest n bytes of a number are worth with their sign. -/
def sgn (v n : Nat) : Int := if v % 2 ^ (8 * n) < 2 ^ (8 * n - 1) then ((v % 2 ^ (8 * n) : Nat) : Int) else ((v % 2 ^ (8 * n) : Nat) : Int) - ((2 ^ (8 * n) : Nat) : Int)

theorem sgn_prog (v n : Nat) (hv : v ≤ 18446744073709551615) (h1 : 1 ≤ n) (h2 : n ≤ 8) : wrap64 (IntKind.u64.wrap ((v : Int) * 2 ^ (64 - 8 * n))) / 2 ^ (64 - 8 * n) = sgn v n := by
  rcases (by omega : n = 1 ∨ n = 2 ∨ n = 3 ∨ n = 4 ∨ n = 5 ∨ n = 6 ∨ n = 7 ∨ n = 8) with rfl | rfl | rfl | rfl | rfl | rfl | rfl | rfl
  all_goals
    unfold sgn wrap64
    rw [IntKind.wrap_u64]
    simp only [Nat.reduceMul, Nat.reduceSub, Nat.reducePow, Int.reducePow]
    split <;> omega


theorem pow_small (n : Nat) (h1 : 1 ≤ n) (h2 : n ≤ 7) : 256 ≤ 2 ^ (8 * n) ∧ 2 ^ (8 * n) ≤ 72057594037927936 ∧ 2 ^ (8 * n) = 2 * 2 ^ (8 * n - 1) := by
  rcases (by omega : n = 1 ∨ n = 2 ∨ n = 3 ∨ n = 4 ∨ n = 5 ∨ n = 6 ∨ n = 7) with rfl | rfl | rfl | rfl | rfl | rfl | rfl <;> decide




end Go.Proofs.YtidbipbangifbaaGreatDoor

/- The flash as plain data, what a program and an erase do to it, and how it lies in memory. -/
namespace Go.Proofs.YtidbipbangifbaaGreatDoor
set_option maxRecDepth 100000
open Go.RowKit

structure Fl where
  S : Nat
  Z : Nat
  L : Nat
  bs : List UInt8
  er : List Nat
  up : Bool
  fuse : Int
  keep : Int
  mask : UInt8

namespace Fl

/-- What holds of every flash that New has made. -/
structure Ok (fl : Fl) : Prop where
  s1 : 1 ≤ fl.S
  s2 : fl.S ≤ 64
  z1 : 64 ≤ fl.Z
  z2 : fl.Z ≤ 65536
  l1 : 1 ≤ fl.L
  l2 : fl.L ≤ 1048576
  bl : fl.bs.length = fl.S * fl.Z
  el : fl.er.length = fl.S
  eb : ∀ (i n : Nat), fl.er[i]? = some n → n ≤ fl.L
  f1 : -9223372036854775808 ≤ fl.fuse
  f2 : fl.fuse ≤ 9223372036854775807
  k1 : -9223372036854775808 ≤ fl.keep
  k2 : fl.keep ≤ 9223372036854775807

/-- How many of n bytes an act does whole: all, or as the tear says. -/
def many (fl : Fl) (n : Nat) : Nat := if fl.fuse = 0 then (max fl.keep 0).toNat % (n + 1) else n
/-- An act's answer. -/
def code (fl : Fl) : Int := if fl.fuse = 0 then 5 else 0
/-- The fuse and the state behind an act. -/
def burn (fl : Fl) : Fl := if fl.fuse = 0 then { fl with up := false } else if 0 < fl.fuse then { fl with fuse := fl.fuse - 1 } else fl

/-- The cells of a flash's own block: its cells lie in block c, its counts in block e. -/
def hdr (fl : Fl) (c e : Nat) : Array Value :=
  #[.int .i64 (fl.S : Int), .int .i64 (fl.Z : Int), .int .i64 (fl.L : Int), .slice (some ⟨c, 0, none⟩) (fl.S * fl.Z) (fl.S * fl.Z), .slice (some ⟨e, 0, none⟩) fl.S fl.S,
    .bool fl.up, .int .i64 fl.fuse, .int .i64 fl.keep, B8 fl.mask]

theorem burn_geo (fl : Fl) : fl.burn.S = fl.S ∧ fl.burn.Z = fl.Z ∧ fl.burn.L = fl.L ∧ fl.burn.bs = fl.bs ∧ fl.burn.er = fl.er := by
  unfold burn
  by_cases h : fl.fuse = 0
  · simp [h]
  · by_cases h1 : 0 < fl.fuse <;> simp [h, h1]

theorem burn_rest (fl : Fl) : fl.burn.mask = fl.mask ∧ fl.burn.keep = fl.keep := by
  unfold burn
  by_cases h : fl.fuse = 0
  · simp [h]
  · by_cases h1 : 0 < fl.fuse <;> simp [h, h1]

end Fl

/-- A flash lies in memory: its own block p, its cells in c, its counts in e. -/
structure FlashAt (w : World) (p c e : Nat) (fl : Fl) : Prop where
  ok : fl.Ok
  hd : Blk w p 93 (fl.hdr c e)
  ce : Blk w c 5 (fl.bs.map B8).toArray
  er : Blk w e 3 (fl.er.map fun (n : Nat) => Value.int .i64 (n : Int)).toArray

section
variable {w w' : World} {p c e : Nat} {fl : Fl} {S : Nat → Prop}
theorem FlashAt.of (h : FlashAt w p c e fl) (k : Only S w w') (hp : ¬ S p) (hc : ¬ S c) (he : ¬ S e) : FlashAt w' p c e fl :=
  ⟨h.ok, k.blk h.hd hp, k.blk h.ce hc, k.blk h.er he⟩
theorem FlashAt.pc (h : FlashAt w p c e fl) : p ≠ c := h.hd.ne_ h.ce (by decide)
theorem FlashAt.pe (h : FlashAt w p c e fl) : p ≠ e := h.hd.ne_ h.er (by decide)
theorem FlashAt.cep (h : FlashAt w p c e fl) : c ≠ e := h.ce.ne_ h.er (by decide)
end

theorem FlashAt.drew {w : World} {p c e : Nat} {fl : Fl} (h : FlashAt w p c e fl) : FlashAt w.drew p c e fl := ⟨h.ok, h.hd.drew, h.ce.drew, h.er.drew⟩
theorem FlashAt.drewN {w : World} {p c e : Nat} {fl : Fl} (h : FlashAt w p c e fl) (n : Nat) : FlashAt (w.drewN n) p c e fl := ⟨h.ok, h.hd.drewN n, h.ce.drewN n, h.er.drewN n⟩

/-- Other bytes, as many, in a flash. -/
theorem FlashAt.bytes {w w' : World} {p c e : Nat} {fl : Fl} {S : Nat → Prop} {bs : List UInt8} (h : FlashAt w p c e fl) (k : Only S w w') (hp : ¬ S p) (he : ¬ S e) (hb : bs.length = fl.bs.length)
    (hc : Blk w' c 5 (bs.map B8).toArray) : FlashAt w' p c e { fl with bs := bs } :=
  ⟨⟨h.ok.s1, h.ok.s2, h.ok.z1, h.ok.z2, h.ok.l1, h.ok.l2, hb.trans h.ok.bl, h.ok.el, h.ok.eb, h.ok.f1, h.ok.f2, h.ok.k1, h.ok.k2⟩, k.blk h.hd hp, hc, k.blk h.er he⟩

/-- The three blocks of a flash. -/
def Three (p c e : Nat) : Nat → Prop := fun k => k = p ∨ k = c ∨ k = e

end Go.Proofs.YtidbipbangifbaaGreatDoor

/- The walks over nor's small functions: within, isDown, has, act, span, sector. -/
namespace Go.Proofs.YtidbipbangifbaaGreatDoor
set_option maxRecDepth 100000
open Go.RowKit

set_option maxHeartbeats 400000 in
theorem within_any (a b c : Int) (w : World) :
    Calls Tryz.prog 88 #[.int .i64 a, .int .i64 b, .int .i64 c] w fun e w' => e = .returned (.bool (decide (b ≤ a) && decide (a ≤ c))) ∧ w = w' := by
  by_cases h : b ≤ a
  · go_enter Tryz.func88, Tryz.ntmps88
    go_wp2
    go_ret
    simp [h]
  · go_enter Tryz.func88, Tryz.ntmps88
    go_wp2
    go_ret
    simp; omega

theorem isDown_nil (w : World) :
    Calls Tryz.prog 128 #[.pointer none] w fun e w' => e = .returned (.bool true) ∧ w = w' := by
  go_enter Tryz.func128, Tryz.ntmps128
  go_wp2
  go_ret
  exact ⟨rfl, rfl⟩

theorem isDown_any (p : Nat) (up : Bool) (w : World) (h5 : w.cell? ⟨p, 5, none⟩ = some (.bool up)) :
    Calls Tryz.prog 128 #[.pointer (some ⟨p, 0, none⟩)] w fun e w' => e = .returned (.bool (!up)) ∧ w = w' := by
  go_enter Tryz.func128, Tryz.ntmps128
  go_wp2
  go_ret
  exact ⟨rfl, rfl⟩

theorem has_nil (k : Int) (w : World) :
    Calls Tryz.prog 121 #[.pointer none, .int .i64 k] w fun e w' => e = .returned (.bool false) ∧ w = w' := by
  go_enter Tryz.func121, Tryz.ntmps121
  go_wp2
  go_ret
  exact ⟨rfl, rfl⟩

theorem has_any (p eb S : Nat) (k : Int) (w : World) (h4 : w.cell? ⟨p, 4, none⟩ = some (.slice (some ⟨eb, 0, none⟩) S S)) :
    Calls Tryz.prog 121 #[.pointer (some ⟨p, 0, none⟩), .int .i64 k] w fun e w' => e = .returned (.bool (decide (0 ≤ k) && decide (k < S))) ∧ w = w' := by
  by_cases h : 0 ≤ k
  · go_enter Tryz.func121, Tryz.ntmps121
    go_wp2
    go_ret
    simp [h]
  · go_enter Tryz.func121, Tryz.ntmps121
    go_wp2
    go_ret
    simp; omega

set_option maxHeartbeats 1000000 in
theorem act_whole (p : Nat) (fuse n : Int) (w : World) (h6 : w.cell? ⟨p, 6, none⟩ = some (.int .i64 fuse)) (f6 : w.frozen? ⟨p, 6, none⟩ = false) (hf : ¬ fuse = 0)
    (f1 : -9223372036854775808 ≤ fuse) (f2 : fuse ≤ 9223372036854775807) :
    Calls Tryz.prog 130 #[.pointer (some ⟨p, 0, none⟩), .int .i64 n] w fun e w' => e = .returned (.tuple #[.int .i64 n, .int .i64 0]) ∧
      w' = if 0 < fuse then w.setCell ⟨p, 6, none⟩ (.int .i64 (fuse - 1)) else w := by
  have hb : (fuse == 0) = false := by simp [hf]
  by_cases h : 0 < fuse
  · go_enter Tryz.func130, Tryz.ntmps130
    go_wp2
    go_ret2
    simp
  · go_enter Tryz.func130, Tryz.ntmps130
    go_wp2
    go_ret2
    simp

theorem ret_two {k l : IntKind} {a b : Int} (h : a = b) : Ending.returned (.tuple #[.int k a, .int l 5]) = .returned (.tuple #[.int k b, .int l 5]) := by rw [h]

set_option maxHeartbeats 1000000 in
theorem act_torn (p : Nat) (n keep : Int) (w : World) (h6 : w.cell? ⟨p, 6, none⟩ = some (.int .i64 0)) (h5 : w.cell? ⟨p, 5, none⟩ = some (.bool true)) (f5 : w.frozen? ⟨p, 5, none⟩ = false)
    (h7 : w.cell? ⟨p, 7, none⟩ = some (.int .i64 keep)) (n0 : 0 ≤ n) (n1 : n < 9223372036854775807) :
    Calls Tryz.prog 130 #[.pointer (some ⟨p, 0, none⟩), .int .i64 n] w fun e w' => e = .returned (.tuple #[.int .i64 (max keep 0 % (n + 1)), .int .i64 5]) ∧
      w' = w.setCell ⟨p, 5, none⟩ (.bool false) := by
  by_cases hk : keep < 0
  · have hm : max keep 0 % (n + 1) = 0 := by rw [Int.max_eq_right (by omega)]; simp
    rw [hm]
    clear hm
    go_enter Tryz.func130, Tryz.ntmps130
    go_wp2
    go_ret2
    exact ⟨rfl, rfl⟩
  · have hm : max keep 0 % (n + 1) = keep % (n + 1) := by rw [Int.max_eq_left (by omega)]
    rw [hm]
    clear hm
    go_enter Tryz.func130, Tryz.ntmps130
    go_wp2
    go_ret2
    exact ⟨rfl, rfl⟩

/-- How many bytes lie in the flash: this never meets the limits of int. -/
theorem Fl.Ok.sz {fl : Fl} (h : fl.Ok) : fl.S * fl.Z ≤ 4194304 ∧ 64 ≤ fl.S * fl.Z := by
  have h1 : fl.S * fl.Z ≤ 64 * 65536 := Nat.mul_le_mul h.s2 h.z2
  have h2 : 1 * 64 ≤ fl.S * fl.Z := Nat.mul_le_mul h.s1 h.z1
  omega

set_option maxHeartbeats 1000000 in
theorem act_any (p c e : Nat) (fl : Fl) (n : Nat) (w : World) (hf : FlashAt w p c e fl) (hu : fl.up = true) (hn : n ≤ 4611686018427387904) :
    Calls Tryz.prog 130 #[.pointer (some ⟨p, 0, none⟩), .int .i64 (n : Int)] w fun e1 w' => e1 = .returned (.tuple #[.int .i64 (fl.many n : Nat), .int .i64 fl.code]) ∧
      FlashAt w' p c e fl.burn ∧ Only (· = p) w w' := by
  have hc := hf.hd.cell
  have hz := hf.hd.frozen
  by_cases h : fl.fuse = 0
  · have e1 : ((fl.many n : Nat) : Int) = max fl.keep 0 % ((n : Int) + 1) := by
      unfold Fl.many
      rw [if_pos h]
      obtain ⟨m, hm⟩ := Int.eq_ofNat_of_zero_le (Int.le_max_right fl.keep 0)
      rw [hm]
      simp
    have e2 : fl.code = 5 := by simp [Fl.code, h]
    rw [e1, e2]
    refine (act_torn p n fl.keep w (by rw [hc]; simp [Fl.hdr, h]) (by rw [hc]; simp [Fl.hdr, hu]) (hz 5) (by rw [hc]; simp [Fl.hdr]) (by omega) (by omega)).mono fun e1 w' ⟨he, hw⟩ => ?_
    subst hw
    refine ⟨he, ?_, (Only.refl (· = p) w).setCell (p := ⟨p, 5, none⟩) (Or.inl rfl) _⟩
    have hb : fl.burn = { fl with up := false } := by simp [Fl.burn, h]
    rw [hb]
    refine ⟨⟨hf.ok.s1, hf.ok.s2, hf.ok.z1, hf.ok.z2, hf.ok.l1, hf.ok.l2, hf.ok.bl, hf.ok.el, hf.ok.eb, hf.ok.f1, hf.ok.f2, hf.ok.k1, hf.ok.k2⟩, ?_, hf.ce.far (by simpa using hf.pc.symm) _, hf.er.far (by simpa using hf.pe.symm) _⟩
    have h2 := hf.hd.set_ 5 (.bool false)
    simpa [Fl.hdr] using h2
  · have e1 : fl.many n = n := by simp [Fl.many, h]
    have e2 : fl.code = 0 := by simp [Fl.code, h]
    rw [e1, e2]
    refine (act_whole p fl.fuse n w (by rw [hc]; simp [Fl.hdr]) (hz 6) h hf.ok.f1 hf.ok.f2).mono fun e1 w' ⟨he, hw⟩ => ?_
    by_cases h1 : 0 < fl.fuse
    · rw [if_pos h1] at hw
      subst hw
      refine ⟨he, ?_, (Only.refl (· = p) w).setCell (p := ⟨p, 6, none⟩) (Or.inl rfl) _⟩
      have hb : fl.burn = { fl with fuse := fl.fuse - 1 } := by simp [Fl.burn, h, h1]
      rw [hb]
      refine ⟨⟨hf.ok.s1, hf.ok.s2, hf.ok.z1, hf.ok.z2, hf.ok.l1, hf.ok.l2, hf.ok.bl, hf.ok.el, hf.ok.eb, by show _ ≤ fl.fuse - 1; omega, by have := hf.ok.f2; show fl.fuse - 1 ≤ _; omega, hf.ok.k1, hf.ok.k2⟩, ?_, hf.ce.far (by simpa using hf.pc.symm) _, hf.er.far (by simpa using hf.pe.symm) _⟩
      have h2 := hf.hd.set_ 6 (.int .i64 (fl.fuse - 1))
      simpa [Fl.hdr] using h2
    · rw [if_neg h1] at hw
      subst hw
      have hb : fl.burn = fl := by simp [Fl.burn, h, h1]
      rw [hb]
      exact ⟨he, hf, Only.refl _ _⟩

theorem span_down (p : Nat) (a n : Int) (w : World) (h5 : w.cell? ⟨p, 5, none⟩ = some (.bool false)) :
    Calls Tryz.prog 118 #[.pointer (some ⟨p, 0, none⟩), .int .i64 a, .int .i64 n] w fun e w' => e = .returned (.tuple #[.slice none 0 0, .int .i64 5]) ∧ w = w' := by
  go_enter Tryz.func118, Tryz.ntmps118
  go_wp2
  go_ret2
  exact ⟨rfl, rfl⟩

theorem span_nil (a n : Int) (w : World) :
    Calls Tryz.prog 118 #[.pointer none, .int .i64 a, .int .i64 n] w fun e w' => e = .returned (.tuple #[.slice none 0 0, .int .i64 5]) ∧ w = w' := by
  go_enter Tryz.func118, Tryz.ntmps118
  go_wp2
  go_ret2
  exact ⟨rfl, rfl⟩

theorem span_out (p cb T : Nat) (a n : Int) (w : World) (h5 : w.cell? ⟨p, 5, none⟩ = some (.bool true)) (h3 : w.cell? ⟨p, 3, none⟩ = some (.slice (some ⟨cb, 0, none⟩) T T)) (hT : T ≤ 4194304)
    (a2 : a ≤ 9223372036854775807) (n2 : n ≤ 9223372036854775807) (h : a < 0 ∨ n < 0 ∨ (T : Int) < a + n) :
    Calls Tryz.prog 118 #[.pointer (some ⟨p, 0, none⟩), .int .i64 a, .int .i64 n] w fun e w' => e = .returned (.tuple #[.slice none 0 0, .int .i64 2]) ∧ w = w' := by
  by_cases ha : a < 0
  · go_enter Tryz.func118, Tryz.ntmps118
    go_wp2
    go_ret2
    exact ⟨rfl, rfl⟩
  · by_cases hn : n < 0
    · go_enter Tryz.func118, Tryz.ntmps118
      go_wp2
      go_ret2
      exact ⟨rfl, rfl⟩
    · have h' : (T : Int) - a < n := by omega
      clear h
      go_enter Tryz.func118, Tryz.ntmps118
      go_wp2
      go_ret2
      exact ⟨rfl, rfl⟩

set_option maxHeartbeats 1000000 in
theorem span_in (p cb T a n : Nat) (w : World) (h5 : w.cell? ⟨p, 5, none⟩ = some (.bool true)) (h3 : w.cell? ⟨p, 3, none⟩ = some (.slice (some ⟨cb, 0, none⟩) T T)) (hT : T ≤ 4194304)
    (h : a + n ≤ T) :
    Calls Tryz.prog 118 #[.pointer (some ⟨p, 0, none⟩), .int .i64 (a : Int), .int .i64 (n : Int)] w fun e w' => e = .returned (.tuple #[.slice (some ⟨cb, if n = 0 then 0 else a, none⟩) n n, .int .i64 0]) ∧ w = w' := by
  have h1 : ¬ (a : Int) < 0 := by omega
  have h2 : ¬ (n : Int) < 0 := by omega
  have h4 : (n : Int) ≤ (T : Int) - a := by omega
  by_cases h0 : n = 0
  · subst h0
    go_enter Tryz.func118, Tryz.ntmps118
    go_wp2
    go_ret2
    exact ⟨rfl, rfl⟩
  · rw [if_neg h0]
    go_enter Tryz.func118, Tryz.ntmps118
    go_wp2
    go_ret2
    exact ⟨rfl, rfl⟩

end Go.Proofs.YtidbipbangifbaaGreatDoor

/- A flash with no fuse; bytes that are cleared by bytes. Plain lemmas. -/
namespace Go.Proofs.YtidbipbangifbaaGreatDoor
set_option maxRecDepth 100000
open Go.RowKit

theorem burn_none {fl : Fl} (h : fl.fuse = -1) : fl.burn = fl := by
  unfold Fl.burn
  rw [if_neg (by omega), if_neg (by omega)]
theorem many_none {fl : Fl} (h : fl.fuse = -1) (n : Nat) : fl.many n = n := by
  unfold Fl.many
  rw [if_neg (by omega)]
theorem code_none {fl : Fl} (h : fl.fuse = -1) : fl.code = 0 := by
  unfold Fl.code
  rw [if_neg (by omega)]
theorem and_full (x : UInt8) : 255 &&& x = x := by
  apply UInt8.toBitVec_inj.1
  show BitVec.allOnes 8 &&& x.toBitVec = x.toBitVec
  exact BitVec.allOnes_and
theorem and_back (b z : UInt8) : (b &&& z) &&& b = b &&& z := by
  rw [UInt8.and_comm (b &&& z) b, ← UInt8.and_assoc, UInt8.and_self]

/-- A byte that has no bit beyond the flash's: what is cleared by it is it. -/
theorem and_fit {b x : UInt8} (h : x &&& ~~~b = 0) : b &&& x = x := by
  have e : x = (x &&& b) ||| (x &&& ~~~b) := by
    apply UInt8.toBitVec_inj.1
    show x.toBitVec = (x.toBitVec &&& b.toBitVec) ||| (x.toBitVec &&& ~~~b.toBitVec)
    ext i hi
    simp only [BitVec.getElem_or, BitVec.getElem_and, BitVec.getElem_not]
    cases x.toBitVec[i] <;> cases b.toBitVec[i] <;> rfl
  rw [h, UInt8.or_zero] at e
  rw [UInt8.and_comm]
  exact e.symm

end Go.Proofs.YtidbipbangifbaaGreatDoor
