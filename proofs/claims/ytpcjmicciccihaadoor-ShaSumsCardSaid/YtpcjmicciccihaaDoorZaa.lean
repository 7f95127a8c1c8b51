/- Words for memory that every walk over the flash uses: a block that is known whole, a world in which only some blocks have turned, bytes that a slice reads as. Plain lemmas; nothing of the program but three type numbers. -/
import Derived.Test.YtpcjmicciccihaaDoorRows
import Derived.WalkKit
import Derived.WalkSpells
import Derived.WalkLawsBesides
import Derived.Lib.Hide
import Derived.Laws.BitsAllLaws
import Derived.IntWalk
import Derived.Outline
namespace Go.Proofs.YtpcjmicciccihaaDoor
set_option maxRecDepth 100000
open Go.RowKit

/-- Block g is just the cells cs of element type t, none frozen. -/
def Blk (w : World) (g : Nat) (t : TypeId) (cs : Array Value) : Prop := w.heap[g]? = some (.cells cs t (0, 0))

namespace Blk
variable {w : World} {g : Nat} {t : TypeId} {cs : Array Value}

/-- It says nothing but where the heap's g-th block is: whatever leaves that one alone keeps it. -/
theorem of {w' : World} (h : Blk w g t cs) (same : w'.heap[g]? = w.heap[g]?) : Blk w' g t cs := by
  show w'.heap[g]? = _
  rw [same]
  exact h
theorem lt (h : Blk w g t cs) : g < w.heap.size := (Array.getElem?_eq_some_iff.1 h).1
theorem cell (h : Blk w g t cs) (i : Nat) : w.cell? ⟨g, i, none⟩ = cs[i]? := by
  have e : w.heap[g]? = some (.cells cs t (0, 0)) := h
  simp only [World.cell?, e]
  rfl
theorem frozen (h : Blk w g t cs) (i : Nat) : w.frozen? ⟨g, i, none⟩ = false := by
  have e : w.heap[g]? = some (.cells cs t (0, 0)) := h
  simp [World.frozen?, e]
theorem new (w : World) (t : TypeId) (cs : Array Value) : Blk (w.alloc (.cells cs t)) w.heap.size t cs := by
  show (w.heap.push (.cells cs t))[w.heap.size]? = _
  rw [Array.getElem?_push_size]
theorem drew (h : Blk w g t cs) : Blk w.drew g t cs := h.of rfl
theorem drewN (h : Blk w g t cs) (n : Nat) : Blk (w.drewN n) g t cs := h.of rfl
theorem alloc (h : Blk w g t cs) (o : Obj) : Blk (w.alloc o) g t cs := h.of (Below.heap_alloc w o g h.lt)
theorem far (h : Blk w g t cs) {p : Addr} (hp : g ≠ p.block) (u : Value) : Blk (w.setCell p u) g t cs := h.of (Below.heap_setCell w p u g hp)
theorem set_ (h : Blk w g t cs) (i : Nat) (u : Value) : Blk (w.setCell ⟨g, i, none⟩ u) g t (cs.setIfInBounds i u) := by
  have e : w.heap[g]? = some (.cells cs t (0, 0)) := h
  show (w.setCell ⟨g, i, none⟩ u).heap[g]? = _
  simp [World.setCell, Array.getElem?_modify, e]
/-- Two blocks whose elements are of two types are two blocks. -/
theorem ne_ {g' : Nat} {t' : TypeId} {cs' : Array Value} (h : Blk w g t cs) (h' : Blk w g' t' cs') (hne : t ≠ t') : g ≠ g' := by
  intro e
  have both : some (Obj.cells cs t (0, 0)) = some (Obj.cells cs' t' (0, 0)) := by
    rw [← show w.heap[g]? = some (.cells cs t (0, 0)) from h, e]
    exact h'
  simp only [Option.some.injEq, Obj.cells.injEq] at both
  exact hne both.2.1
end Blk

/-- From w to w' only blocks in S, and new ones, have turned. -/
structure Only (S : Nat → Prop) (w w' : World) : Prop where
  os : w'.os = w.os
  tape : w'.tape = w.tape
  output : w'.output = w.output
  size : w.heap.size ≤ w'.heap.size
  block : ∀ k, k < w.heap.size → ¬ S k → w'.heap[k]? = w.heap[k]?

section
variable {S T : Nat → Prop} {a b c w w' : World}
theorem Only.refl (S : Nat → Prop) (w : World) : Only S w w := ⟨rfl, rfl, rfl, Nat.le_refl _, fun _ _ _ => rfl⟩
theorem Only.trans (h : Only S a b) (k : Only S b c) : Only S a c :=
  ⟨k.os.trans h.os, k.tape.trans h.tape, k.output.trans h.output, Nat.le_trans h.size k.size,
    fun i hi hs => (k.block i (Nat.lt_of_lt_of_le hi h.size) hs).trans (h.block i hi hs)⟩
/-- What turned in the second step may also be blocks that the first step made. -/
theorem Only.trans' (h : Only S a b) (k : Only T b c) (hT : ∀ i, i < a.heap.size → T i → S i) : Only S a c :=
  ⟨k.os.trans h.os, k.tape.trans h.tape, k.output.trans h.output, Nat.le_trans h.size k.size,
    fun i hi hs => (k.block i (Nat.lt_of_lt_of_le hi h.size) (fun ht => hs (hT i hi ht))).trans (h.block i hi hs)⟩
theorem Only.mono (h : Only S w w') (hT : ∀ i, i < w.heap.size → S i → T i) : Only T w w' :=
  ⟨h.os, h.tape, h.output, h.size, fun i hi hs => h.block i hi (fun k => hs (hT i hi k))⟩
theorem Only.drew (h : Only S a w) : Only S a w.drew := ⟨h.os, h.tape, h.output, h.size, h.block⟩
theorem Only.drewN (h : Only S a w) (n : Nat) : Only S a (w.drewN n) := ⟨h.os, h.tape, h.output, h.size, h.block⟩
theorem Only.alloc (h : Only S a w) (o : Obj) : Only S a (w.alloc o) :=
  ⟨h.os, h.tape, h.output, Nat.le_trans h.size (by simp), fun i hi hne => (Below.heap_alloc w o i (Nat.lt_of_lt_of_le hi h.size)).trans (h.block i hi hne)⟩
theorem Only.setCell (h : Only S a w) {p : Addr} (hp : S p.block ∨ a.heap.size ≤ p.block) (u : Value) : Only S a (w.setCell p u) :=
  ⟨h.os, h.tape, h.output, by simpa [World.setCell] using h.size, fun i hi hne => (Below.heap_setCell w p u i (by
    rintro rfl
    rcases hp with hp | hp
    · exact hne hp
    · omega)).trans (h.block i hi hne)⟩
theorem Only.below {B : Nat} (h : Only S w w') (hB : B ≤ w.heap.size) (hS : ∀ k, k < B → ¬ S k) : Below B w w' :=
  ⟨h.os, h.tape, h.output, h.size, fun k hk => h.block k (by omega) (hS k hk)⟩
theorem Only.of_below (h : Below w.heap.size w w') : Only S w w' := ⟨h.os, h.tape, h.output, h.size, fun i hi _ => h.block i hi⟩
theorem Only.of_grown {row : Option Nat} (h : w.grownBy w' row) (hS : ∀ k, row = some k → k < w.heap.size → S k) : Only S w w' :=
  ⟨h.os, h.tape, h.output, h.size, fun i hi hne => h.block i hi (fun e => hne (hS i e.symm hi))⟩
theorem Only.cell (h : Only S w w') {p : Addr} (hp : p.block < w.heap.size) (hS : ¬ S p.block) : w'.cell? p = w.cell? p := World.cell?_of_block (w := w) (h.block p.block hp hS)
theorem Only.blk {g : Nat} {t : TypeId} {cs : Array Value} (h : Only S w w') (hb : Blk w g t cs) (hS : ¬ S g) : Blk w' g t cs := hb.of (h.block g hb.lt hS)
end

theorem _root_.Go.RowKit.Below.drewN {B : Nat} {a w : World} (h : Below B a w) (n : Nat) : Below B a (w.drewN n) := ⟨h.os, h.tape, h.output, h.size, h.block⟩

/-- A byte as the machine's value. -/
def B8 (x : UInt8) : Value := .int .u8 (x.toNat : Int)

/-- The slice value '.slice A n cap' reads as the bytes xs; its block is not in S. -/
def ByteSl (w : World) (S : Nat → Prop) (A : Option Addr) (n cap : Nat) (xs : List UInt8) : Prop :=
  xs.length = n ∧ n ≤ cap ∧ cap ≤ maxLen ∧ (0 < n → ∃ ad, A = some ad ∧ ad.block < w.heap.size ∧ ¬ S ad.block ∧ ∀ j x, xs[j]? = some x → w.cell? (ad.add j) = some (B8 x))

section
variable {w w' : World} {S T : Nat → Prop} {A : Option Addr} {n cap : Nat} {xs : List UInt8}
theorem addr_add_block (ad : Addr) (n : Nat) : (ad.add n).block = ad.block := by unfold Addr.add; split <;> rfl
theorem ByteSl.only (h : ByteSl w S A n cap xs) (k : Only T w w') (hT : ∀ i, i < w.heap.size → T i → S i) : ByteSl w' S A n cap xs :=
  ⟨h.1, h.2.1, h.2.2.1, fun hn => by
    obtain ⟨ad, e, hb, hs, hc⟩ := h.2.2.2 hn
    exact ⟨ad, e, Nat.lt_of_lt_of_le hb k.size, hs, fun j x hx => (k.cell (p := ad.add j) (by rw [addr_add_block]; exact hb) (by rw [addr_add_block]; exact fun ht => hs (hT _ hb ht))).trans (hc j x hx)⟩⟩
theorem ByteSl.mono (h : ByteSl w S A n cap xs) (hT : ∀ i, i < w.heap.size → T i → S i) : ByteSl w T A n cap xs :=
  ⟨h.1, h.2.1, h.2.2.1, fun hn => by
    obtain ⟨ad, e, hb, hs, hc⟩ := h.2.2.2 hn
    exact ⟨ad, e, hb, fun ht => hs (hT _ hb ht), hc⟩⟩
theorem ByteSl.at_ (h : ByteSl w S A n cap xs) {k : Nat} (hk : k < n) : ∃ ad x, A = some ad ∧ ad.block < w.heap.size ∧ ¬ S ad.block ∧ xs[k]? = some x ∧ w.cell? (ad.add k) = some (B8 x) := by
  obtain ⟨ad, e, hb, hs, hc⟩ := h.2.2.2 (by omega)
  have hl : k < xs.length := by have := h.1; omega
  exact ⟨ad, xs[k], e, hb, hs, List.getElem?_eq_getElem hl, hc k _ (List.getElem?_eq_getElem hl)⟩
theorem ByteSl.nil_ (w : World) (S : Nat → Prop) (A : Option Addr) (cap : Nat) (h : cap ≤ maxLen) : ByteSl w S A 0 cap [] := ⟨rfl, Nat.zero_le _, h, fun h => absurd h (by omega)⟩
end

/-! ### Bits of bytes -/
theorem byte_lt (a : UInt8) : a.toNat < 256 := a.toNat_lt
theorem b_and (a b : UInt8) : bits .and .u8 (a.toNat : Int) (b.toNat : Int) = ((a &&& b).toNat : Int) := by
  rw [u8_and_nat _ _ (byte_lt a) (byte_lt b), UInt8.toNat_and]
theorem b_or (a b : UInt8) : bits .or .u8 (a.toNat : Int) (b.toNat : Int) = ((a ||| b).toNat : Int) := by
  rw [u8_or_nat _ _ (byte_lt a) (byte_lt b), UInt8.toNat_or]
theorem b_andNot (a b : UInt8) : bits .andNot .u8 (a.toNat : Int) (b.toNat : Int) = ((a &&& ~~~b).toNat : Int) := by
  rw [u8_andNot_nat _ _ (byte_lt a) (byte_lt b), UInt8.toNat_and, UInt8.toNat_not]
  rfl
theorem n_andNot (a b : UInt8) : (a &&& ~~~b).toNat = (a.toNat &&& (255 - b.toNat)) := by rw [UInt8.toNat_and, UInt8.toNat_not]; rfl
theorem n_not (b : UInt8) : (~~~b).toNat = 255 - b.toNat := by rw [UInt8.toNat_not]; rfl
theorem b_xor (b : UInt8) : bits .xor .u8 255 (b.toNat : Int) = ((~~~b).toNat : Int) := by
  have h := u8_xor_nat 255 b.toNat (by omega) (byte_lt b)
  have h2 : (255 ^^^ b.toNat) = (~~~b).toNat := by
    have e : (255 : UInt8) ^^^ b = ~~~b := by
      apply UInt8.toBitVec_inj.1
      show BitVec.allOnes 8 ^^^ b.toBitVec = ~~~b.toBitVec
      exact BitVec.allOnes_xor
    have e2 := congrArg UInt8.toNat e
    rw [UInt8.toNat_xor] at e2
    exact e2
  rw [← h2]
  exact h

end Go.Proofs.YtpcjmicciccihaaDoor

/- The walks over num's and the document's small functions: isSize, Sign, Cmp, bits, back, power, int64Power. -/
namespace Go.Proofs.YtpcjmicciccihaaDoor
set_option maxRecDepth 100000
open Go.RowKit

theorem isSize_yes (n : Int) (w : World) (h1 : 1 ≤ n) (h2 : n ≤ 8) : Calls Tryd.prog 33 #[.int .i64 n] w fun e w' => e = .returned (.bool true) ∧ w = w' := by
  go_enter Tryd.func33, Tryd.ntmps33
  go_wp2
  go_ret
  simp [h2]
theorem isSize_no (n : Int) (w : World) (h : n < 1 ∨ 8 < n) : Calls Tryd.prog 33 #[.int .i64 n] w fun e w' => e = .returned (.bool false) ∧ w = w' := by
  by_cases h1 : 1 ≤ n
  · have h2 : 8 < n := by omega
    clear h
    go_enter Tryd.func33, Tryd.ntmps33
    go_wp2
    go_ret
    simp; omega
  · clear h
    go_enter Tryd.func33, Tryd.ntmps33
    go_wp2
    go_ret
    exact ⟨rfl, rfl⟩

def cmpV (a b : Int) : Int := if a < b then -1 else if b < a then 1 else 0


/-- What the lowest n bytes of a number are worth with their sign. -/
def sgn (v n : Nat) : Int := if v % 2 ^ (8 * n) < 2 ^ (8 * n - 1) then ((v % 2 ^ (8 * n) : Nat) : Int) else ((v % 2 ^ (8 * n) : Nat) : Int) - ((2 ^ (8 * n) : Nat) : Int)

theorem sgn_prog (v n : Nat) (hv : v ≤ 18446744073709551615) (h1 : 1 ≤ n) (h2 : n ≤ 8) : wrap64 (IntKind.u64.wrap ((v : Int) * 2 ^ (64 - 8 * n))) / 2 ^ (64 - 8 * n) = sgn v n := by
  rcases (by omega : n = 1 ∨ n = 2 ∨ n = 3 ∨ n = 4 ∨ n = 5 ∨ n = 6 ∨ n = 7 ∨ n = 8) with rfl | rfl | rfl | rfl | rfl | rfl | rfl | rfl
  all_goals
    unfold sgn wrap64
    rw [IntKind.wrap_u64]
    simp only [Nat.reduceMul, Nat.reduceSub, Nat.reducePow, Int.reducePow]
    split <;> omega


theorem pow_small (n : Nat) (h1 : 1 ≤ n) (h2 : n ≤ 7) : 256 ≤ 2 ^ (8 * n) ∧ 2 ^ (8 * n) ≤ 72057594037927936 ∧ 2 ^ (8 * n) = 2 * 2 ^ (8 * n - 1) := by
  rcases (by omega : n = 1 ∨ n = 2 ∨ n = 3 ∨ n = 4 ∨ n = 5 ∨ n = 6 ∨ n = 7) with rfl | rfl | rfl | rfl | rfl | rfl | rfl <;> decide




end Go.Proofs.YtpcjmicciccihaaDoor
