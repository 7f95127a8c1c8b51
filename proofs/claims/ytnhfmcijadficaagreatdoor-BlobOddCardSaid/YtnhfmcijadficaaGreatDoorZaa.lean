/- Words for memory that every walk over the flash uses: a block that is known whole, a world in which only some blocks have turned, bytes that a slice reads as. Plain lemmas; nothing of the program but three type numbers. -/
import Derived.Test.YtnhfmcijadficaaGreatDoorRows
import Derived.WalkKit
import Derived.WalkSpells
import Derived.WalkLawsBesides
import Derived.Lib.Hide
import Derived.Laws.BytesArg
import Derived.Maps.AppendAt
import Derived.Laws.AppendOwnNone
import Derived.Lib.SmallJoins
import Derived.Laws.CopyOwn
import Derived.Laws.MakeOwn
import Derived.Deep.RegionHeld3
import Derived.Deep.RegionLaw
namespace Go.Proofs.YtnhfmcijadficaaGreatDoor
set_option maxRecDepth 100000
open Go.RowKit

/-- Block g is just the cells cs of element type t, none frozen. -/
def Blk (w : World) (g : Nat) (t : TypeId) (cs : Array Value) : Prop := w.heap[g]? = some (.cells cs t (0, 0))

namespace Blk
variable {w : World} {g : Nat} {t : TypeId} {cs : Array Value}

/-- It says nothing but where the heap's g-th block is: whatever leaves that one alone keeps it. -/
theorem of {w' : World} (h : Blk w g t cs) (same : w'.heap[g]? = w.heap[g]?) : Blk w' g t cs := by
  show w'.heap[g]? = _
  rw [same]
  exact h
theorem lt (h : Blk w g t cs) : g < w.heap.size := (Array.getElem?_eq_some_iff.1 h).1
theorem cell (h : Blk w g t cs) (i : Nat) : w.cell? ⟨g, i, none⟩ = cs[i]? := by
  have e : w.heap[g]? = some (.cells cs t (0, 0)) := h
  simp only [World.cell?, e]
  rfl
theorem frozen (h : Blk w g t cs) (i : Nat) : w.frozen? ⟨g, i, none⟩ = false := by
  have e : w.heap[g]? = some (.cells cs t (0, 0)) := h
  simp [World.frozen?, e]
theorem new (w : World) (t : TypeId) (cs : Array Value) : Blk (w.alloc (.cells cs t)) w.heap.size t cs := by
  show (w.heap.push (.cells cs t))[w.heap.size]? = _
  rw [Array.getElem?_push_size]
theorem drew (h : Blk w g t cs) : Blk w.drew g t cs := h.of rfl
theorem drewN (h : Blk w g t cs) (n : Nat) : Blk (w.drewN n) g t cs := h.of rfl
theorem alloc (h : Blk w g t cs) (o : Obj) : Blk (w.alloc o) g t cs := h.of (Below.heap_alloc w o g h.lt)
theorem far (h : Blk w g t cs) {p : Addr} (hp : g ≠ p.block) (u : Value) : Blk (w.setCell p u) g t cs := h.of (Below.heap_setCell w p u g hp)
theorem set_ (h : Blk w g t cs) (i : Nat) (u : Value) : Blk (w.setCell ⟨g, i, none⟩ u) g t (cs.setIfInBounds i u) := by
  have e : w.heap[g]? = some (.cells cs t (0, 0)) := h
  show (w.setCell ⟨g, i, none⟩ u).heap[g]? = _
  simp [World.setCell, Array.getElem?_modify, e]
/-- Two blocks whose elements are of two types are two blocks. -/
theorem ne_ {g' : Nat} {t' : TypeId} {cs' : Array Value} (h : Blk w g t cs) (h' : Blk w g' t' cs') (hne : t ≠ t') : g ≠ g' := by
  intro e
  have both : some (Obj.cells cs t (0, 0)) = some (Obj.cells cs' t' (0, 0)) := by
    rw [← show w.heap[g]? = some (.cells cs t (0, 0)) from h, e]
    exact h'
  simp only [Option.some.injEq, Obj.cells.injEq] at both
  exact hne both.2.1
end Blk

/-- From w to w' only blocks in S, and new ones, have turned. -/
structure Only (S : Nat → Prop) (w w' : World) : Prop where
  os : w'.os = w.os
  tape : w'.tape = w.tape
  output : w'.output = w.output
  size : w.heap.size ≤ w'.heap.size
  block : ∀ k, k < w.heap.size → ¬ S k → w'.heap[k]? = w.heap[k]?

section
variable {S T : Nat → Prop} {a b c w w' : World}
theorem Only.refl (S : Nat → Prop) (w : World) : Only S w w := ⟨rfl, rfl, rfl, Nat.le_refl _, fun _ _ _ => rfl⟩
theorem Only.trans (h : Only S a b) (k : Only S b c) : Only S a c :=
  ⟨k.os.trans h.os, k.tape.trans h.tape, k.output.trans h.output, Nat.le_trans h.size k.size,
    fun i hi hs => (k.block i (Nat.lt_of_lt_of_le hi h.size) hs).trans (h.block i hi hs)⟩
/-- What turned in the second step may also be blocks that the first step made. -/
theorem Only.trans' (h : Only S a b) (k : Only T b c) (hT : ∀ i, i < a.heap.size → T i → S i) : Only S a c :=
  ⟨k.os.trans h.os, k.tape.trans h.tape, k.output.trans h.output, Nat.le_trans h.size k.size,
    fun i hi hs => (k.block i (Nat.lt_of_lt_of_le hi h.size) (fun ht => hs (hT i hi ht))).trans (h.block i hi hs)⟩
theorem Only.mono (h : Only S w w') (hT : ∀ i, i < w.heap.size → S i → T i) : Only T w w' :=
  ⟨h.os, h.tape, h.output, h.size, fun i hi hs => h.block i hi (fun k => hs (hT i hi k))⟩
theorem Only.drew (h : Only S a w) : Only S a w.drew := ⟨h.os, h.tape, h.output, h.size, h.block⟩
theorem Only.drewN (h : Only S a w) (n : Nat) : Only S a (w.drewN n) := ⟨h.os, h.tape, h.output, h.size, h.block⟩
theorem Only.alloc (h : Only S a w) (o : Obj) : Only S a (w.alloc o) :=
  ⟨h.os, h.tape, h.output, Nat.le_trans h.size (by simp), fun i hi hne => (Below.heap_alloc w o i (Nat.lt_of_lt_of_le hi h.size)).trans (h.block i hi hne)⟩
theorem Only.setCell (h : Only S a w) {p : Addr} (hp : S p.block ∨ a.heap.size ≤ p.block) (u : Value) : Only S a (w.setCell p u) :=
  ⟨h.os, h.tape, h.output, by simpa [World.setCell] using h.size, fun i hi hne => (Below.heap_setCell w p u i (by
    rintro rfl
    rcases hp with hp | hp
    · exact hne hp
    · omega)).trans (h.block i hi hne)⟩
theorem Only.below {B : Nat} (h : Only S w w') (hB : B ≤ w.heap.size) (hS : ∀ k, k < B → ¬ S k) : Below B w w' :=
  ⟨h.os, h.tape, h.output, h.size, fun k hk => h.block k (by omega) (hS k hk)⟩
theorem Only.of_below (h : Below w.heap.size w w') : Only S w w' := ⟨h.os, h.tape, h.output, h.size, fun i hi _ => h.block i hi⟩
theorem Only.of_grown {row : Option Nat} (h : w.grownBy w' row) (hS : ∀ k, row = some k → k < w.heap.size → S k) : Only S w w' :=
  ⟨h.os, h.tape, h.output, h.size, fun i hi hne => h.block i hi (fun e => hne (hS i e.symm hi))⟩
theorem Only.cell (h : Only S w w') {p : Addr} (hp : p.block < w.heap.size) (hS : ¬ S p.block) : w'.cell? p = w.cell? p := World.cell?_of_block (w := w) (h.block p.block hp hS)
theorem Only.blk {g : Nat} {t : TypeId} {cs : Array Value} (h : Only S w w') (hb : Blk w g t cs) (hS : ¬ S g) : Blk w' g t cs := hb.of (h.block g hb.lt hS)
end

theorem _root_.Go.RowKit.Below.drewN {B : Nat} {a w : World} (h : Below B a w) (n : Nat) : Below B a (w.drewN n) := ⟨h.os, h.tape, h.output, h.size, h.block⟩

/-- A byte as the machine's value. -/
def B8 (x : UInt8) : Value := .int .u8 (x.toNat : Int)

/-- The slice value '.slice A n cap' reads as the bytes xs; its block is not in S. -/
def ByteSl (w : World) (S : Nat → Prop) (A : Option Addr) (n cap : Nat) (xs : List UInt8) : Prop :=
  xs.length = n ∧ n ≤ cap ∧ cap ≤ maxLen ∧ (0 < n → ∃ ad, A = some ad ∧ ad.block < w.heap.size ∧ ¬ S ad.block ∧ ∀ j x, xs[j]? = some x → w.cell? (ad.add j) = some (B8 x))

section
variable {w w' : World} {S T : Nat → Prop} {A : Option Addr} {n cap : Nat} {xs : List UInt8}
theorem addr_add_block (ad : Addr) (n : Nat) : (ad.add n).block = ad.block := by unfold Addr.add; split <;> rfl
theorem ByteSl.only (h : ByteSl w S A n cap xs) (k : Only T w w') (hT : ∀ i, i < w.heap.size → T i → S i) : ByteSl w' S A n cap xs :=
  ⟨h.1, h.2.1, h.2.2.1, fun hn => by
    obtain ⟨ad, e, hb, hs, hc⟩ := h.2.2.2 hn
    exact ⟨ad, e, Nat.lt_of_lt_of_le hb k.size, hs, fun j x hx => (k.cell (p := ad.add j) (by rw [addr_add_block]; exact hb) (by rw [addr_add_block]; exact fun ht => hs (hT _ hb ht))).trans (hc j x hx)⟩⟩
theorem ByteSl.mono (h : ByteSl w S A n cap xs) (hT : ∀ i, i < w.heap.size → T i → S i) : ByteSl w T A n cap xs :=
  ⟨h.1, h.2.1, h.2.2.1, fun hn => by
    obtain ⟨ad, e, hb, hs, hc⟩ := h.2.2.2 hn
    exact ⟨ad, e, hb, fun ht => hs (hT _ hb ht), hc⟩⟩
theorem ByteSl.at_ (h : ByteSl w S A n cap xs) {k : Nat} (hk : k < n) : ∃ ad x, A = some ad ∧ ad.block < w.heap.size ∧ ¬ S ad.block ∧ xs[k]? = some x ∧ w.cell? (ad.add k) = some (B8 x) := by
  obtain ⟨ad, e, hb, hs, hc⟩ := h.2.2.2 (by omega)
  have hl : k < xs.length := by have := h.1; omega
  exact ⟨ad, xs[k], e, hb, hs, List.getElem?_eq_getElem hl, hc k _ (List.getElem?_eq_getElem hl)⟩
theorem ByteSl.nil_ (w : World) (S : Nat → Prop) (A : Option Addr) (cap : Nat) (h : cap ≤ maxLen) : ByteSl w S A 0 cap [] := ⟨rfl, Nat.zero_le _, h, fun h => absurd h (by omega)⟩
end

/-! ### Bits of bytes -/
theorem byte_lt (a : UInt8) : a.toNat < 256 := a.toNat_lt
theorem b_and (a b : UInt8) : bits .and .u8 (a.toNat : Int) (b.toNat : Int) = ((a &&& b).toNat : Int) := by
  rw [u8_and_nat _ _ (byte_lt a) (byte_lt b), UInt8.toNat_and]
theorem b_or (a b : UInt8) : bits .or .u8 (a.toNat : Int) (b.toNat : Int) = ((a ||| b).toNat : Int) := by
  rw [u8_or_nat _ _ (byte_lt a) (byte_lt b), UInt8.toNat_or]
theorem b_andNot (a b : UInt8) : bits .andNot .u8 (a.toNat : Int) (b.toNat : Int) = ((a &&& ~~~b).toNat : Int) := by
  rw [u8_andNot_nat _ _ (byte_lt a) (byte_lt b), UInt8.toNat_and, UInt8.toNat_not]
  rfl
theorem n_andNot (a b : UInt8) : (a &&& ~~~b).toNat = (a.toNat &&& (255 - b.toNat)) := by rw [UInt8.toNat_and, UInt8.toNat_not]; rfl
theorem n_not (b : UInt8) : (~~~b).toNat = 255 - b.toNat := by rw [UInt8.toNat_not]; rfl
theorem b_xor (b : UInt8) : bits .xor .u8 255 (b.toNat : Int) = ((~~~b).toNat : Int) := by
  have h := u8_xor_nat 255 b.toNat (by omega) (byte_lt b)
  have h2 : (255 ^^^ b.toNat) = (~~~b).toNat := by
    have e : (255 : UInt8) ^^^ b = ~~~b := by
      apply UInt8.toBitVec_inj.1
      show BitVec.allOnes 8 ^^^ b.toBitVec = ~~~b.toBitVec
      exact BitVec.allOnes_xor
    have e2 := congrArg UInt8.toNat e
    rw [UInt8.toNat_xor] at e2
    exact e2
  rw [← h2]
  exact h

end Go.Proofs.YtnhfmcijadficaaGreatDoor

/- Words for bytes in memory, for every layer: a block of bytes, bytes that the call laid or owns, bytes as a string, append of bytes. Nothing of the program but type numbers. -/
namespace Go.Proofs.YtnhfmcijadficaaGreatDoor
set_option maxRecDepth 100000
open Go.RowKit

theorem Tryz.infoU8 : (Tryz.prog.info? 5).map (fun i => (i.zero, i.size, i.bytes)) = some (some (.int .u8 0), 1, 1) := by kernel_rfl
theorem Tryz.sizeU8 : (Tryz.prog.info? 5).map (·.size) = some 1 := by kernel_rfl

theorem take_one {α : Type} (xs : List α) (k : Nat) (x : α) (h : xs[k]? = some x) : xs.take (k + 1) = xs.take k ++ [x] := by
  obtain ⟨hk, e⟩ := List.getElem?_eq_some_iff.1 h
  rw [List.take_succ_eq_append_getElem hk, e]

/-- The bytes of a block as its cells. -/
def cellsB (bs : List UInt8) : Array Value := (bs.map B8).toArray

theorem cellsB_get (bs : List UInt8) (i : Nat) : (cellsB bs)[i]? = bs[i]?.map B8 := by simp [cellsB]
theorem cellsB_set (bs : List UInt8) (i : Nat) (v : UInt8) : (cellsB bs).setIfInBounds i (B8 v) = cellsB (bs.set i v) := by
  simp [cellsB, List.map_set]
theorem cellsB_len (bs : List UInt8) : (cellsB bs).size = bs.length := by simp [cellsB]

/-- The string that bytes make. -/
def strB (xs : List UInt8) : ByteArray := ⟨xs.toArray⟩

theorem strB_toList (xs : List UInt8) : (strB xs).toList = xs := by simp [strB]

theorem nums_back (xs : List UInt8) : (xs.map fun x => ((x.toNat : Int))).map (fun n => UInt8.ofNat n.toNat) = xs := by
  rw [List.map_map]
  have : (fun n : Int => UInt8.ofNat n.toNat) ∘ (fun x : UInt8 => (x.toNat : Int)) = id := by
    funext x
    simp
  rw [this, List.map_id]

theorem conv_bytes {w : World} {S : Nat → Prop} {A : Option Addr} {n cap : Nat} {xs : List UInt8} (h : ByteSl w S A n cap xs) :
    (convert 22 9 (.slice A n cap)).run Tryz.prog w = .ok (.string (strB xs)) w := by
  rcases Nat.eq_zero_or_pos n with h0 | h0
  · subst h0
    have hx : xs = [] := List.eq_nil_of_length_eq_zero h.1
    subst hx
    rcases A with _ | ad
    · rw [run_convert_bytes_nil w 22 5 Tryz.underlying22 Tryz.underlying5 0 cap 9 Tryz.underlying9]
      rfl
    · rw [run_convert_bytes_string w 22 9 5 _ 0 cap Tryz.underlying22 Tryz.underlying5 Tryz.underlying9, run_bytesToString w ad 0 cap [] (by simpa using run_loadCells_list (P := Tryz.prog) w ad [] (by simp))]
      rfl
  · obtain ⟨ad, rfl, _, _, hc⟩ := h.2.2.2 h0
    have hl : (loadCells ad n).run Tryz.prog w = .ok ((xs.map fun x => (x.toNat : Int)).map (Value.int .u8)).toArray w := by
      have := run_loadCells_list (P := Tryz.prog) w ad ((xs.map fun x => (x.toNat : Int)).map (Value.int .u8)) (fun j v hj => by
        rw [List.getElem?_map, List.getElem?_map] at hj
        rcases hx : xs[j]? with _ | x
        · rw [hx] at hj; simp at hj
        · rw [hx] at hj
          simp at hj
          rw [hc j x hx, ← hj]
          rfl)
      simpa [h.1] using this
    rw [run_convert_bytes_string w 22 9 5 _ n cap Tryz.underlying22 Tryz.underlying5 Tryz.underlying9, run_bytesToString w ad n cap _ hl, foldl_push_bytes, nums_back]
    simp [strB, ByteArray.empty, ByteArray.emptyWithCapacity]
    rfl

/-- Bytes that were just laid. -/
theorem ByteSl.lit (w : World) (S : Nat → Prop) (xs : List UInt8) (n : Nat) (hn : xs.length = n) (hS : ¬ S w.heap.size) (h : n ≤ maxLen) :
    ByteSl (w.alloc (.cells (cellsB xs) 5)) S (some ⟨w.heap.size, 0, none⟩) n n xs := by
  refine ⟨hn, Nat.le_refl _, h, fun _ => ⟨_, rfl, by simp, hS, fun j x hx => ?_⟩⟩
  have ha : (⟨w.heap.size, 0, none⟩ : Addr).add j = ⟨w.heap.size, j, none⟩ := by unfold Addr.add; split <;> simp_all
  rw [ha, (Blk.new w 5 (cellsB xs)).cell, cellsB_get, hx]
  rfl

/-- Bytes of a constant text: the block bears the run-time's mark. -/
theorem ByteSl.marked (w : World) (S : Nat → Prop) (xs : List UInt8) (n : Nat) (fr : Nat × Nat) (hn : xs.length = n) (hS : ¬ S w.heap.size) (h : n ≤ maxLen) :
    ByteSl (w.alloc (.cells (cellsB xs) 5 fr)) S (some ⟨w.heap.size, 0, none⟩) n n xs := by
  refine ⟨hn, Nat.le_refl _, h, fun _ => ⟨_, rfl, by simp, hS, fun j x hx => ?_⟩⟩
  have ha : (⟨w.heap.size, 0, none⟩ : Addr).add j = ⟨w.heap.size, j, none⟩ := by unfold Addr.add; split <;> simp_all
  have hg : (w.alloc (.cells (cellsB xs) 5 fr)).heap[w.heap.size]? = some (.cells (cellsB xs) 5 fr) := by
    show (w.heap.push _)[w.heap.size]? = _
    rw [Array.getElem?_push_size]
  have hc : (w.alloc (.cells (cellsB xs) 5 fr)).cell? ⟨w.heap.size, j, none⟩ = (cellsB xs)[j]? := by simp only [World.cell?, hg]; rfl
  rw [ha, hc, cellsB_get, hx]
  rfl

/-- What an append or a read gave: bytes of the law's own. -/
theorem ByteSl.of_own {w : World} {S : Nat → Prop} {base : Nat} {v : Value} {n : Nat} {xs : List UInt8} (h : w.ownsRow base 5 1 v n (xs.map B8)) (hS : ∀ k, base ≤ k → k < w.heap.size → ¬ S k) :
    ∃ A cap, v = .slice A n cap ∧ ByteSl w S A n cap xs ∧ (0 < n → ∃ g, A = some ⟨g, 0, none⟩ ∧ base ≤ g ∧ w.frozen? ⟨g, 0, none⟩ = false) := by
  have hl : xs.length = n := by have := h.1; simpa using this
  rcases h.2 with ⟨rfl, rfl⟩ | ⟨g, cap, cur, rfl, hb, hh, hnc, hm, hs, ht⟩
  · exact ⟨none, 0, rfl, ⟨hl, Nat.le_refl _, by simp [maxLen], fun h0 => absurd h0 (by omega)⟩, fun h0 => absurd h0 (by omega)⟩
  · have hlt : g < w.heap.size := (Array.getElem?_eq_some_iff.1 hh).1
    refine ⟨_, cap, rfl, ⟨hl, hnc, hm, fun _ => ⟨_, rfl, hlt, hS g hb hlt, fun j x hx => ?_⟩⟩, fun _ => ⟨g, rfl, hb, by simp [World.frozen?, hh]⟩⟩
    exact h.cells (g := g) rfl j _ (by rw [List.getElem?_map, hx]; rfl)

/-- No block is one of S. -/
def Empty : Nat → Prop := fun _ => False

/-- An operation whose guard has struck is as one that has none. -/
theorem wpList_unguard {P : Program} {ops : Array Oper} {rest : List Oper} {q : Oper} {u : Act} {w : World} {Q : Exit → Act → World → Prop} (hw : Region.wanted q (yielded ops u.tmps) = true)
    (h : wpList P ops Q ({ q with guard := none } :: rest) u w) : wpList P ops Q (q :: rest) u w := by
  have hw0 : Region.wanted ({ q with guard := none } : Oper) (yielded ops u.tmps) = true := by simp [Region.wanted]
  unfold wpList at h ⊢
  rw [if_pos hw]
  rw [if_pos hw0] at h
  exact h

/-- append of bytes that lie somewhere (a nil slice, too) onto a row of the call's own. -/
theorem wpList_append_bytes {ops : Array Oper} {rest : List Oper} {q : Oper} {u : Act} {w : World} {Q : Exit → Act → World → Prop} (hgd : q.guard = none) (s x : Operand)
    (hq : q.op = .call { callee := .builtin .append, args := #[s, x], argTypes := #[22, 22] })
    (base : Nat) (v : Value) (hs : u.eval s = v) (k : Nat) (zs : List UInt8) (hown : w.ownsRow base 5 1 v k (zs.map B8)) (A : Option Addr) (m c : Nat) (ys : List UInt8) (S : Nat → Prop)
    (hx : u.eval x = .slice A m c) (hB : ByteSl w S A m c ys) (hn : A = none → m = 0 ∧ c = 0) (hm : k + m ≤ 16777216) (hbase : base ≤ w.heap.size)
    (h : ∀ v' w', w'.ownsRow base 5 1 v' (k + m) ((zs ++ ys).map B8) → w.grownBy w' v.ownBlock → (v' = .slice none 0 0 → v = .slice none 0 0) → wpList Tryz.prog ops Q rest (u.put q.dst v') w') : wpList Tryz.prog ops Q (q :: rest) u w := by
  obtain ⟨i0, hi, hz0, hz1, hz2⟩ := info_parts Tryz.infoU8
  rcases A with _ | ad
  · obtain ⟨rfl, rfl⟩ := hn rfl
    have hys : ys = [] := List.eq_nil_of_length_eq_zero hB.1
    subst hys
    exact wpList_append_own_none hgd s x 22 hq base 5 i0 1 Tryz.underlying22 hi v k (zs.map B8) hs hown hx (h v w (by simpa using hown) (World.grownBy.refl w _) id)
  · refine wpList_append_own_at _ hgd s x 22 hq base 5 i0 (.int .u8 0) 1 1 Tryz.underlying22 hi hz0 hz1 hz2 rfl (by decide) v k (zs.map B8) hs hown ad m c (ys.map B8) hx (by simp [hB.1]) ?_ ?_ (by unfold maxLen; omega) (by omega) hbase ?_
    · intro j y hj
      rw [List.getElem?_map] at hj
      cases hj2 : ys[j]? with
      | none => rw [hj2] at hj; cases hj
      | some z =>
        have hjm : j < m := by have := (List.getElem?_eq_some_iff.1 hj2).1; have := hB.1; omega
        obtain ⟨ad', he, _, _, hc⟩ := hB.2.2.2 (by omega)
        cases he
        rw [hj2] at hj
        rw [hc j z hj2]
        simpa using hj
    · intro y hy
      obtain ⟨z, _, rfl⟩ := List.mem_map.1 hy
      rfl
    · intro v' w' h1 h2 h3 _
      exact h v' w' (by simpa using h1) h2 (fun e => (h3.1 e).1)

/-- A row that was just made, with no bytes. -/
theorem own_made (w : World) (base : Nat) (h : base ≤ w.heap.size) : (w.alloc (.cells #[] 5)).ownsRow base 5 1 (.slice (some ⟨w.heap.size, 0, none⟩) 0 0) 0 (([] : List UInt8).map B8) :=
  World.ownsRow_made w #[] 0 h (by decide) rfl

/-- What grew by a row of the call's own: nothing else turned. -/
theorem below_grown {B : Nat} {a w w' : World} {row : Option Nat} (h : Below B a w) (hB : B ≤ w.heap.size) (g : w.grownBy w' row) (hr : ∀ k, row = some k → B ≤ k) : Below B a w' :=
  h.trans ((Only.of_grown (S := fun k => B ≤ k) g (fun k e _ => hr k e)).below hB (fun k hk h => by omega))

/-- Bytes of the call's own, at the head of a block that may have room behind them. -/
def OwnB (w : World) (g n cap : Nat) (zs : List UInt8) : Prop := zs.length = n ∧ n ≤ cap ∧ cap ≤ maxLen ∧ ∃ cur, Blk w g 5 cur ∧ cur.size = cap ∧ cur.toList.take n = zs.map B8

namespace OwnB
variable {w w' : World} {g n cap : Nat} {zs : List UInt8}
theorem of_row {base : Nat} {v : Value} (h : w.ownsRow base 5 1 v n (zs.map B8)) (hv : v ≠ .slice none 0 0) : ∃ g cap, v = .slice (some ⟨g, 0, none⟩) n cap ∧ base ≤ g ∧ OwnB w g n cap zs := by
  have hl : zs.length = n := by have := h.1; simpa using this
  rcases h.2 with ⟨rfl, rfl⟩ | ⟨g, cap, cur, rfl, hb, hh, hnc, hm, hs, ht⟩
  · exact absurd rfl hv
  · exact ⟨g, cap, rfl, hb, hl, hnc, hm, cur, hh, by simpa using hs, by simpa using ht⟩
theorem lt (h : OwnB w g n cap zs) : g < w.heap.size := by obtain ⟨_, _, _, cur, hb, _⟩ := h; exact hb.lt
theorem frozen (h : OwnB w g n cap zs) (i : Nat) : w.frozen? ⟨g, i, none⟩ = false := by obtain ⟨_, _, _, cur, hb, _⟩ := h; exact hb.frozen i
theorem cell (h : OwnB w g n cap zs) {i : Nat} {z : UInt8} (hz : zs[i]? = some z) : w.cell? ⟨g, i, none⟩ = some (B8 z) := by
  obtain ⟨hl, hn, _, cur, hb, hs, ht⟩ := h
  rw [hb.cell, ← Array.getElem?_toList]
  have hi : i < n := by have := (List.getElem?_eq_some_iff.1 hz).1; omega
  have := congrArg (fun l => l[i]?) ht
  simp only [List.getElem?_take, List.getElem?_map, hz, if_pos hi, Option.map_some] at this
  exact this
theorem set_ (h : OwnB w g n cap zs) (i : Nat) (z : UInt8) : OwnB (w.setCell ⟨g, i, none⟩ (B8 z)) g n cap (zs.set i z) := by
  obtain ⟨hl, hn, hc, cur, hb, hs, ht⟩ := h
  refine ⟨by simpa using hl, hn, hc, _, hb.set_ i (B8 z), by simpa using hs, ?_⟩
  rw [Array.toList_setIfInBounds, List.take_set, ht, List.map_set]
theorem of (h : OwnB w g n cap zs) (same : w'.heap[g]? = w.heap[g]?) : OwnB w' g n cap zs := by
  obtain ⟨hl, hn, hc, cur, hb, hs, ht⟩ := h
  exact ⟨hl, hn, hc, cur, hb.of same, hs, ht⟩
theorem bytes (h : OwnB w g n cap zs) (S : Nat → Prop) (hS : ¬ S g) : ByteSl w S (some ⟨g, 0, none⟩) n cap zs := by
  refine ⟨h.1, h.2.1, h.2.2.1, fun _ => ⟨_, rfl, h.lt, hS, fun j x hx => ?_⟩⟩
  have ha : (⟨g, 0, none⟩ : Addr).add j = ⟨g, j, none⟩ := by unfold Addr.add; split <;> simp_all
  rw [ha]
  exact h.cell hx
end OwnB

/-! ### copy: only the one block turns -/
theorem only_setRow (w : World) (g : Nat) (cs : Array Value) : Only (· = g) w (w.setRow g cs) :=
  ⟨rfl, rfl, rfl, by simp [World.setRow], fun k _ hk => setRow_other w g k cs hk⟩

section
variable {P : Program} {w : World} {ops : Array Oper} {rest : List Oper} {o : Oper} {a : Act} {Q : Exit → Act → World → Prop}
theorem wpList_copy_only (hgd : o.guard = none) (d s : Operand) (dT sT : TypeId) (ho : o.op = .call { callee := .builtin .copy, args := #[d, s], argTypes := #[dT, sT] })
    (elem : TypeId) (hu : P.underlying dT = some (.slice elem)) (hsz : (P.info? elem).map (·.size) = some 1) (dp sp : Option Addr) (dLen dCap sLen sCap : Nat) (hd : a.eval d = .slice dp dLen dCap) (hs : a.eval s = .slice sp sLen sCap)
    (g off : Nat) (cur : List Value) (t : TypeId) (hg : Blk w g t cur.toArray) (cs : List Value) (hn : cs.length = Nat.min sLen dLen)
    (hpos : 0 < cs.length → dp = some ⟨g, off, none⟩ ∧ ∃ ad, sp = some ad ∧ ∀ j v, cs[j]? = some v → w.cell? (ad.add j) = some v) (hfit : off + cs.length ≤ cur.length) (h1 : ∀ v ∈ cs, v.oneCell' = true)
    (h : ∀ w', Hid (Blk w' g t (splice cur off cs).toArray) → Only (· = g) w w' → wpList P ops Q rest (a.put o.dst (goInt cs.length)) w') : wpList P ops Q (o :: rest) a w := by
  by_cases h0 : cs.length = 0
  · obtain rfl : cs = [] := List.eq_nil_of_length_eq_zero h0
    refine wpList_copy_nothing hgd d s dT sT ho elem hu hsz dp sp dLen dCap sLen sCap hd hs (by simpa using hn.symm) ?_
    exact h w (show Blk w g t (splice cur off []).toArray by simpa [splice] using hg) (Only.refl _ _)
  · obtain ⟨rfl, ad, rfl, hsrc⟩ := hpos (by omega)
    refine wpList_copy_own hgd d s dT sT ho elem hu hsz g off dLen dCap ad sLen sCap hd hs cur.toArray t hg cs hn hsrc (by simpa using hfit) h1 ?_
    exact h _ (show w.setRow g _ |>.heap[g]? = _ by simpa [splice] using setRow_heap w g _ _ t _ hg) (only_setRow w g _)
end

theorem splice_map (bs xs : List UInt8) (o : Nat) : splice (bs.map B8) o (xs.map B8) = (splice bs o xs).map B8 := by
  simp [splice, List.map_take, List.map_drop]

/-! ### make with room; a row of the call's own, kept -/
theorem made_bytes (n : Nat) : madeCells #[.int .u8 0] n = cellsB (List.replicate n 0) := by
  apply Array.ext_getElem?
  intro i
  rw [cellsB_get, List.getElem?_replicate]
  by_cases h : i < n
  · simp [madeCells, h, Nat.mod_one]
    rfl
  · simp [madeCells, h]
theorem run_make_cap (n m : Nat) (h : n ≤ m) (hm : m ≤ 281474976710656) (W : World) :
    (Instr.makeSlice 22 (.int .i64 (n : Int)) (.int .i64 (m : Int))).run Tryz.prog W = .ok (.slice (some ⟨W.heap.size, 0, none⟩) n m) (W.alloc (.cells (cellsB (List.replicate m 0)) 5)) := by
  obtain ⟨i0, hi, hz0, hz1, hz2⟩ := info_parts Tryz.infoU8
  have hr := run_make (P := Tryz.prog) W 22 5 i0 (.int .u8 0) Tryz.underlying22 hi hz0 .i64 .i64 n m (by omega) (by omega) (by rw [hz2]; omega) (by omega)
  simp only [Int.toNat_natCast, hz1, Nat.mul_one] at hr
  rw [← made_bytes]
  exact hr
theorem own_alloc {w : World} {base : Nat} {e : TypeId} {size : Nat} {v : Value} {n : Nat} {xs : List Value} (h : w.ownsRow base e size v n xs) (o : Obj) : (w.alloc o).ownsRow base e size v n xs :=
  h.kept (row := none) ⟨rfl, rfl, rfl, by simp, fun k hk _ => Below.heap_alloc w o k hk⟩ (by cases v.ownBlock <;> simp)
/-- A block of the call's own, read to where its bytes end. -/
theorem own_of_blk {w : World} {base g n cap : Nat} {cur : List UInt8} {xs : List UInt8} (h : Blk w g 5 (cellsB cur)) (hb : base ≤ g) (hl : cur.length = cap) (hn : n ≤ cap) (hc : cap ≤ maxLen) (hx : cur.take n = xs) :
    w.ownsRow base 5 1 (.slice (some ⟨g, 0, none⟩) n cap) n (xs.map B8) := by
  subst hx
  refine ⟨by simp; omega, Or.inr ⟨g, cap, _, rfl, hb, h, hn, hc, by simp [cellsB]; omega, by simp [cellsB, List.map_take]⟩⟩

theorem own_base {w : World} {base base' : Nat} {e : TypeId} {size : Nat} {v : Value} {n : Nat} {xs : List Value} (h : w.ownsRow base e size v n xs) (hb : base' ≤ base) : w.ownsRow base' e size v n xs := by
  refine ⟨h.1, ?_⟩
  rcases h.2 with h | ⟨g, cap, cur, h1, h2, h3⟩
  · exact Or.inl h
  · exact Or.inr ⟨g, cap, cur, h1, Nat.le_trans hb h2, h3⟩

/-- A row made since base stays where only blocks that aren't such have turned. -/
theorem own_only {w w' : World} {base : Nat} {e : TypeId} {size : Nat} {v : Value} {n : Nat} {xs : List Value} {S : Nat → Prop} (h : w.ownsRow base e size v n xs) (k : Only S w w') (hS : ∀ q, base ≤ q → q < w.heap.size → ¬ S q) : w'.ownsRow base e size v n xs := by
  refine ⟨h.1, ?_⟩
  rcases h.2 with h | ⟨g, cap, cur, h1, h2, h3, h4⟩
  · exact Or.inl h
  · have hlt : g < w.heap.size := (Array.getElem?_eq_some_iff.1 h3).1
    exact Or.inr ⟨g, cap, cur, h1, h2, (k.block g hlt (hS g h2 hlt)).trans h3, h4⟩

theorem ByteSl.take_ {w : World} {S : Nat → Prop} {A : Option Addr} {n cap : Nat} {xs : List UInt8} (h : ByteSl w S A n cap xs) (k : Nat) (hk : k ≤ n) : ByteSl w S A k cap (xs.take k) := by
  refine ⟨by rw [List.length_take, h.1]; omega, Nat.le_trans hk h.2.1, h.2.2.1, fun h0 => ?_⟩
  obtain ⟨ad, e, hb, hs, hc⟩ := h.2.2.2 (by omega)
  refine ⟨ad, e, hb, hs, fun j x hx => ?_⟩
  rw [List.getElem?_take] at hx
  by_cases hj : j < k
  · rw [if_pos hj] at hx
    exact hc j x hx
  · rw [if_neg hj] at hx
    cases hx

theorem strB_cat (xs ys : List UInt8) : strB xs ++ strB ys = strB (xs ++ ys) := by
  apply ByteArray.ext
  simp [strB]

end Go.Proofs.YtnhfmcijadficaaGreatDoor

/- Rows of whatever lies in k cells each: how a slice reads as them, rows of a call's own, append. -/
namespace Go.Proofs.YtnhfmcijadficaaGreatDoor
set_option maxRecDepth 100000
open Go.RowKit

section
variable {α : Type} {cells : α → List Value} {k : Nat}

/-- The slice value reads as what lies side by side, k cells each; its block is not in S. -/
def RowSl (cells : α → List Value) (k : Nat) (w : World) (S : Nat → Prop) (A : Option Addr) (n cap : Nat) (l : List α) : Prop :=
  l.length = n ∧ n ≤ cap ∧ cap ≤ maxLen ∧ (0 < n → ∃ b o, A = some ⟨b, o, none⟩ ∧ b < w.heap.size ∧ ¬ S b ∧ ∀ i f, l[i]? = some f → ∀ j, j < k → w.cell? ⟨b, o + i * k + j, none⟩ = (cells f)[j]?)

variable {w w' : World} {S T : Nat → Prop} {A : Option Addr} {n cap : Nat} {l : List α}
theorem RowSl.only (h : RowSl cells k w S A n cap l) (q : Only T w w') (hT : ∀ i, i < w.heap.size → T i → S i) : RowSl cells k w' S A n cap l :=
  ⟨h.1, h.2.1, h.2.2.1, fun hn => by
    obtain ⟨b, o, e, hb, hs, hc⟩ := h.2.2.2 hn
    exact ⟨b, o, e, Nat.lt_of_lt_of_le hb q.size, hs, fun i f hf j hj => (q.cell (p := ⟨b, o + i * k + j, none⟩) hb (fun ht => hs (hT _ hb ht))).trans (hc i f hf j hj)⟩⟩
theorem RowSl.mono (h : RowSl cells k w S A n cap l) (hT : ∀ i, i < w.heap.size → T i → S i) : RowSl cells k w T A n cap l :=
  ⟨h.1, h.2.1, h.2.2.1, fun hn => by
    obtain ⟨b, o, e, hb, hs, hc⟩ := h.2.2.2 hn
    exact ⟨b, o, e, hb, fun ht => hs (hT _ hb ht), hc⟩⟩
theorem RowSl.below (h : RowSl cells k w S A n cap l) (q : Below w.heap.size w w') : RowSl cells k w' S A n cap l := h.only (Only.of_below (S := Empty) q) (fun _ _ h => h.elim)
theorem RowSl.nil_ (w : World) (S : Nat → Prop) (A : Option Addr) (cap : Nat) (h : cap ≤ maxLen) : RowSl cells k w S A 0 cap [] := ⟨rfl, Nat.zero_le _, h, fun h => absurd h (by omega)⟩
/-- The i-th of them. -/
theorem RowSl.at_ (h : RowSl cells k w S A n cap l) {i : Nat} (hi : i < n) : ∃ b o f, A = some ⟨b, o, none⟩ ∧ b < w.heap.size ∧ ¬ S b ∧ l[i]? = some f ∧ ∀ j, j < k → w.cell? ⟨b, o + i * k + j, none⟩ = (cells f)[j]? := by
  obtain ⟨b, o, e, hb, hs, hc⟩ := h.2.2.2 (by omega)
  have hl : i < l.length := by rw [h.1]; exact hi
  exact ⟨b, o, l[i], e, hb, hs, List.getElem?_eq_getElem hl, hc i _ (List.getElem?_eq_getElem hl)⟩

theorem rows_len (hk : ∀ f, (cells f).length = k) : ∀ l : List α, (l.flatMap cells).length = l.length * k
  | [] => by simp
  | g :: l => by
    rw [List.flatMap_cons, List.length_append, rows_len hk l, List.length_cons, hk, Nat.add_mul]
    omega
theorem rows_at (hk : ∀ f, (cells f).length = k) : ∀ (l : List α) (i j : Nat) (f : α), l[i]? = some f → j < k → (l.flatMap cells)[i * k + j]? = (cells f)[j]?
  | [], i, j, f, h, _ => by simp at h
  | g :: l, 0, j, f, h, hj => by
    simp at h
    subst h
    rw [List.flatMap_cons, Nat.zero_mul, Nat.zero_add, List.getElem?_append_left (by rw [hk]; exact hj)]
  | g :: l, i + 1, j, f, h, hj => by
    simp at h
    have e : (i + 1) * k = i * k + k := by rw [Nat.add_mul]; omega
    rw [List.flatMap_cons, List.getElem?_append_right (by rw [hk]; omega), hk, show (i + 1) * k + j - k = i * k + j by omega]
    exact rows_at hk l i j f h hj

theorem RowSl.of_blk {g : Nat} {t : TypeId} {cs : Array Value} (hk : ∀ f, (cells f).length = k) (h : Blk w g t cs) (hn : l.length = n) (hc : n ≤ cap) (hm : cap ≤ maxLen) (hl : ∀ j, j < n * k → cs[j]? = (l.flatMap cells)[j]?) (hS : ¬ S g) :
    RowSl cells k w S (some ⟨g, 0, none⟩) n cap l :=
  ⟨hn, hc, hm, fun _ => ⟨g, 0, rfl, h.lt, hS, fun i f hf j hj => by
    have hi : i < l.length := (List.getElem?_eq_some_iff.1 hf).1
    have h2 := Nat.mul_le_mul_right k (show i + 1 ≤ n by omega)
    rw [Nat.add_mul] at h2
    rw [h.cell, Nat.zero_add, hl _ (by omega), rows_at hk l i j f hf hj]⟩⟩

/-- What a call has made in a row of its own: it reads as l. -/
structure GotR (cells : α → List Value) (k : Nat) (t : TypeId) (base : Nat) (w : World) (A : Option Addr) (n cap : Nat) (l : List α) : Prop where
  own : w.ownsRow base t k (.slice A n cap) n (l.flatMap cells)
  row : RowSl cells k w Empty A n cap l
  isNil : A = none → n = 0 ∧ cap = 0
  here : A = none ∨ ∃ g cur, A = some ⟨g, 0, none⟩ ∧ base ≤ g ∧ Blk w g t cur ∧ cur.size = cap * k

theorem GotR.of_own {t : TypeId} {base : Nat} {v : Value} (hk : ∀ f, (cells f).length = k) (h : w.ownsRow base t k v n (l.flatMap cells)) (hn : l.length = n) :
    ∃ A cap, v = .slice A n cap ∧ GotR cells k t base w A n cap l := by
  have h0 := h
  rcases h.2 with ⟨rfl, h0'⟩ | ⟨g, cap, cur, rfl, hg, hh, hnc, hm, hs, ht⟩
  · subst h0'
    exact ⟨none, 0, rfl, h0, ⟨hn, Nat.le_refl _, by simp [maxLen], fun h0 => absurd h0 (by omega)⟩, fun _ => ⟨rfl, rfl⟩, Or.inl rfl⟩
  · have hlt : g < w.heap.size := (Array.getElem?_eq_some_iff.1 hh).1
    have hb : Blk w g t cur := hh
    have hat : ∀ j, j < n * k → cur[j]? = (l.flatMap cells)[j]? := fun j hj => by
      have hl := rows_len hk l
      have hj2 : j < (l.flatMap cells).length := by rw [hl, hn]; exact hj
      have hc := h.cells (g := g) rfl j ((l.flatMap cells)[j]'hj2) (List.getElem?_eq_getElem hj2)
      have ha : (⟨g, 0, none⟩ : Addr).add j = ⟨g, j, none⟩ := by unfold Addr.add; split <;> simp_all
      rw [ha, hb.cell] at hc
      rw [hc]
      exact (List.getElem?_eq_getElem hj2).symm
    exact ⟨_, cap, rfl, h0, RowSl.of_blk hk hb hn hnc hm hat (fun h => h), (fun h => by cases h), Or.inr ⟨g, cur, rfl, hg, hb, hs⟩⟩

theorem GotR.nil_ (cells : α → List Value) (k : Nat) (t : TypeId) (base : Nat) (w : World) : GotR cells k t base w none 0 0 [] :=
  ⟨⟨by simp, Or.inl ⟨rfl, rfl⟩⟩, RowSl.nil_ _ _ _ _ (by simp [maxLen]), fun _ => ⟨rfl, rfl⟩, Or.inl rfl⟩
theorem GotR.only {t : TypeId} {base : Nat} (hk : ∀ f, (cells f).length = k) (h : GotR cells k t base w A n cap l) (q : Only T w w') (hT : ∀ i, base ≤ i → i < w.heap.size → ¬ T i) : GotR cells k t base w' A n cap l := by
  have h1 := own_only h.own q (fun i h1 h2 => hT i h1 h2)
  obtain ⟨A', cap', he, h2⟩ := GotR.of_own hk h1 h.row.1
  cases he
  exact h2
theorem GotR.below {t : TypeId} {base : Nat} (hk : ∀ f, (cells f).length = k) (h : GotR cells k t base w A n cap l) (q : Below w.heap.size w w') : GotR cells k t base w' A n cap l :=
  h.only hk (Only.of_below (S := Empty) q) (fun _ _ _ h => h)
theorem GotR.alloc {t : TypeId} {base : Nat} (hk : ∀ f, (cells f).length = k) (h : GotR cells k t base w A n cap l) (o : Obj) : GotR cells k t base (w.alloc o) A n cap l :=
  h.below hk ((Below.refl _ _).alloc (Nat.le_refl _) o)
theorem GotR.lower {t : TypeId} {base base' : Nat} (h : GotR cells k t base w A n cap l) (hb : base' ≤ base) : GotR cells k t base' w A n cap l :=
  ⟨own_base h.own hb, h.row, h.isNil, h.here.imp id fun ⟨g, cur, e, hg, hbk⟩ => ⟨g, cur, e, Nat.le_trans hb hg, hbk⟩⟩
/-- It lies in no block of S, where S holds nothing from base on. -/
theorem GotR.out {t : TypeId} {base : Nat} (h : GotR cells k t base w A n cap l) (hS : ∀ i, base ≤ i → i < w.heap.size → ¬ S i) : RowSl cells k w S A n cap l :=
  ⟨h.row.1, h.row.2.1, h.row.2.2.1, fun h0 => by
    obtain ⟨b, o, e, hb, _, hc⟩ := h.row.2.2.2 h0
    refine ⟨b, o, e, hb, hS b ?_ hb, hc⟩
    rcases h.here with h | ⟨g, cur, he, hg, _⟩
    · rw [h] at e
      cases e
    · rw [he] at e
      cases e
      exact hg⟩
theorem RowSl.news (hk : ∀ f, (cells f).length = k) {ad : Addr} {m c : Nat} (hk0 : 0 < k) (h : RowSl cells k w S (some ad) m c l) : ∀ j u, (l.flatMap cells)[j]? = some u → w.cell? (ad.add j) = some u := by
  intro j u hj
  have hl := rows_len hk l
  have hlt := (List.getElem?_eq_some_iff.1 hj).1
  rw [hl, h.1] at hlt
  have hm : 0 < m := by
    rcases Nat.eq_zero_or_pos m with h0 | h0
    · rw [h0, Nat.zero_mul] at hlt
      omega
    · exact h0
  obtain ⟨b, o, e, _, _, hc⟩ := h.2.2.2 hm
  cases e
  have hi : j / k < l.length := by rw [h.1]; exact Nat.div_lt_of_lt_mul (by rw [Nat.mul_comm]; exact hlt)
  have hjk : j % k < k := Nat.mod_lt _ hk0
  have hdm : j / k * k + j % k = j := by rw [Nat.mul_comm]; exact Nat.div_add_mod j k
  have h1 := hc (j / k) (l[j / k]'hi) (List.getElem?_eq_getElem hi) (j % k) hjk
  have h2 := rows_at hk l (j / k) (j % k) (l[j / k]'hi) (List.getElem?_eq_getElem hi) hjk
  rw [hdm] at h2
  have ha : (⟨b, o, none⟩ : Addr).add j = ⟨b, o + j, none⟩ := by unfold Addr.add; split <;> simp_all
  rw [ha, show o + j = o + j / k * k + j % k by omega, h1, ← h2, hj]

/-- A literal's block, as append takes it. -/
theorem RowSl.lit (hk : ∀ f, (cells f).length = k) (w : World) (S : Nat → Prop) (t : TypeId) (l : List α) (m : Nat) (cs : List Value) (he : cs = l.flatMap cells) (hm : l.length = m) (hm2 : m ≤ maxLen) (hS : ¬ S w.heap.size) :
    RowSl cells k (w.alloc (.cells cs.toArray t)) S (some ⟨w.heap.size, 0, none⟩) m m l :=
  RowSl.of_blk hk (Blk.new w t cs.toArray) hm (Nat.le_refl _) hm2 (fun j _ => by simp [he]) hS

theorem wpList_append_rows {ops : Array Oper} {rest : List Oper} {q : Oper} {u : Act} {Q : Exit → Act → World → Prop} (hk : ∀ f, (cells f).length = k) (h1 : ∀ f, ∀ v ∈ cells f, v.oneCell' = true) (hk0 : 0 < k)
    (ts te : TypeId) (zero : Value) (bytes : Nat) (hts : Tryz.prog.underlying ts = some (.slice te)) (hinfo : (Tryz.prog.info? te).map (fun i => (i.zero, i.size, i.bytes)) = some (some zero, k, bytes)) (hzc : zero.cells.size = k) (hby : bytes ≤ 1024)
    (hgd : q.guard = none) (s x : Operand) (hq : q.op = .call { callee := .builtin .append, args := #[s, x], argTypes := #[ts, ts] })
    (base : Nat) (B : Option Addr) (m0 c0 : Nat) (zs : List α) (hs : u.eval s = .slice B m0 c0) (hown : GotR cells k te base w B m0 c0 zs) (A : Option Addr) (m c : Nat) (l : List α)
    (hx : u.eval x = .slice A m c) (hB : RowSl cells k w S A m c l) (hn : A = none → m = 0 ∧ c = 0) (hm : m0 + m ≤ 16777216) (hbase : base ≤ w.heap.size)
    (h : ∀ A' c' w', GotR cells k te base w' A' (m0 + m) c' (zs ++ l) → w.grownBy w' (Value.slice B m0 c0).ownBlock → (∀ g, (Value.slice B m0 c0).ownBlock = some g → base ≤ g) →
      ((Value.slice A' (m0 + m) c').ownBlock = (Value.slice B m0 c0).ownBlock ∨ (Value.slice A' (m0 + m) c').ownBlock = some w.heap.size) → wpList Tryz.prog ops Q rest (u.put q.dst (.slice A' (m0 + m) c')) w') : wpList Tryz.prog ops Q (q :: rest) u w := by
  obtain ⟨i0, hi, hz0, hz1, hz2⟩ := info_parts hinfo
  have hown1 : ∀ g, (Value.slice B m0 c0).ownBlock = some g → base ≤ g := fun g hg => (hown.own.lt g hg).1
  rcases A with _ | ad
  · obtain ⟨rfl, rfl⟩ := hn rfl
    have hys : l = [] := List.eq_nil_of_length_eq_zero hB.1
    subst hys
    exact wpList_append_own_none hgd s x ts hq base te i0 k hts hi _ m0 (zs.flatMap cells) hs hown.own hx (h B c0 w (by simpa using hown) (World.grownBy.refl w _) hown1 (Or.inl rfl))
  · refine wpList_append_own_at _ hgd s x ts hq base te i0 _ k bytes hts hi hz0 hz1 hz2 hzc hk0 _ m0 (zs.flatMap cells) hs hown.own ad m c (l.flatMap cells) hx (by rw [rows_len hk, hB.1]) (hB.news hk hk0) (fun v hv => ?_) (by unfold maxLen; omega) ?_ hbase ?_
    · obtain ⟨f, _, hf⟩ := List.mem_flatMap.1 hv
      exact h1 f v hf
    · have h2 : (m0 + m) * bytes ≤ 16777216 * 1024 := Nat.mul_le_mul hm hby
      omega
    · intro v' w' h1 h2 _ h4
      obtain ⟨A', c', rfl, h3⟩ := GotR.of_own hk (l := zs ++ l) (by rw [List.flatMap_append]; exact h1) (by rw [List.length_append, hown.row.1, hB.1])
      exact h A' c' w' h3 h2 hown1 h4

/-- append onto a row of the call's own, as an equation. -/
theorem run_append_rows (hk : ∀ f, (cells f).length = k) (h1 : ∀ f, ∀ v ∈ cells f, v.oneCell' = true) (hk0 : 0 < k)
    (ts te : TypeId) (zero : Value) (bytes : Nat) (hts : Tryz.prog.underlying ts = some (.slice te)) (hinfo : (Tryz.prog.info? te).map (fun i => (i.zero, i.size, i.bytes)) = some (some zero, k, bytes)) (hzc : zero.cells.size = k) (hby : bytes ≤ 1024) (ty : TypeId)
    (base : Nat) (B : Option Addr) (m0 c0 : Nat) (zs : List α) (hown : GotR cells k te base w B m0 c0 zs) (ad : Addr) (m c : Nat) (l : List α) (hB : RowSl cells k w S (some ad) m c l) (hm : m0 + m ≤ 16777216) (hbase : base ≤ w.heap.size) :
    ∃ A' c' w', (Builtin.append_ #[ts, ts] ty #[.slice B m0 c0, .slice (some ad) m c]).run Tryz.prog w = .ok (.slice A' (m0 + m) c') w' ∧ GotR cells k te base w' A' (m0 + m) c' (zs ++ l) ∧ w.grownBy w' (Value.slice B m0 c0).ownBlock ∧ (∀ g, (Value.slice B m0 c0).ownBlock = some g → base ≤ g) := by
  obtain ⟨i0, hi, hz0, hz1, hz2⟩ := info_parts hinfo
  have hown1 : ∀ g, (Value.slice B m0 c0).ownBlock = some g → base ≤ g := fun g hg => (hown.own.lt g hg).1
  obtain ⟨v', w', hr, h2, h3, _, _⟩ := run_append_own_at (P := Tryz.prog) w base ts ty te i0 _ k bytes hts hi hz0 hz1 hz2 hzc hk0 _ m0 (zs.flatMap cells) hown.own ad m c (l.flatMap cells) (by rw [rows_len hk, hB.1]) (hB.news hk hk0) (fun v hv => by
    obtain ⟨f, _, hf⟩ := List.mem_flatMap.1 hv
    exact h1 f v hf) (by unfold maxLen; omega) (by have h2 : (m0 + m) * bytes ≤ 16777216 * 1024 := Nat.mul_le_mul hm hby; omega) hbase
  obtain ⟨A', c', rfl, h4⟩ := GotR.of_own hk (l := zs ++ l) (by rw [List.flatMap_append]; exact h2) (by rw [List.length_append, hown.row.1, hB.1])
  exact ⟨A', c', w', hr, h4, h3, hown1⟩

theorem below_gotR {B : Nat} {a : World} {base : Nat} (h : Below B a w) (hB : B ≤ w.heap.size) (g : w.grownBy w' (Value.slice A n cap).ownBlock) (hr : ∀ q, (Value.slice A n cap).ownBlock = some q → base ≤ q) (hb : B ≤ base) : Below B a w' :=
  below_grown h hB g (fun q hq => Nat.le_trans hb (hr q hq))
end

/-- append as one step of a region that draws its order, by its equation. -/
theorem step_append_eq {ops : Array Oper} {o : Oper} {a : Act} {w w' : World} {K : Act → World → Prop} {Q : Exit → Act → World → Prop} {E : Prop} {ts : TypeId} (hgd : o.guard = none) (s x : Operand)
    (hq : o.op = .call { callee := .builtin .append, args := #[s, x], argTypes := #[ts, ts] }) (hty : o.type = ts) {a0 a1 v : Value} (hs : a.eval s = a0) (hx : a.eval x = a1) (hr : (Builtin.append_ #[ts, ts] ts #[a0, a1]).run Tryz.prog w = .ok v w') (h : K (a.put o.dst v) w') :
    if Region.wanted o (yielded ops a.tmps) = true then Oper.wp Tryz.prog o a w K Q else E := by
  have hw : Region.wanted o (yielded ops a.tmps) = true := by simp [Region.wanted, hgd]
  rw [if_pos hw]
  unfold Oper.wp execOp
  simp only [hq, hty, resolve, invoke, builtin, Sem.run_bind, Sem.run_pure, Result.andThen_ok, List.map_toArray, List.map_cons, List.map_nil, hs, hx, hr]
  exact h

end Go.Proofs.YtnhfmcijadficaaGreatDoor
