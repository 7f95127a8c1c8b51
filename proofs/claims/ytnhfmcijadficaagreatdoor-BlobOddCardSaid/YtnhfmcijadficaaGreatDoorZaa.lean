/- Words for memory that every walk over the flash uses: a block that is known whole, a world in which only some blocks have turned, bytes that a slice reads as. Plain lemmas; nothing of the program but three type numbers. -/
import Derived.Test.YtnhfmcijadficaaGreatDoorRows
import Derived.WalkKit
import Derived.WalkSpells
import Derived.WalkLawsBesides
import Derived.Lib.Hide
import Derived.Laws.BytesArg
import Derived.Maps.AppendAt
import Derived.Laws.AppendOwnNone
import Derived.Lib.SmallJoins
import Derived.Laws.CopyOwn
import Derived.Laws.MakeOwn
import Derived.ProofKit
namespace Go.Proofs.YtnhfmcijadficaaGreatDoor
set_option maxRecDepth 100000
open Go.RowKit

/-- Block g is just the cells cs of element type t, none frozen. -/
def Blk (w : World) (g : Nat) (t : TypeId) (cs : Array Value) : Prop := w.heap[g]? = some (.cells cs t (0, 0))

namespace Blk
variable {w : World} {g : Nat} {t : TypeId} {cs : Array Value}

/-- It says nothing but where the heap's g-th block is: whatever leaves that one alone keeps it. -/
theorem of {w' : World} (h : Blk w g t cs) (same : w'.heap[g]? = w.heap[g]?) : Blk w' g t cs := by
  show w'.heap[g]? = _
  rw [same]
  exact h
theorem lt (h : Blk w g t cs) : g < w.heap.size := (Array.getElem?_eq_some_iff.1 h).1
theorem cell (h : Blk w g t cs) (i : Nat) : w.cell? ⟨g, i, none⟩ = cs[i]? := by
  have e : w.heap[g]? = some (.cells cs t (0, 0)) := h
  simp only [World.cell?, e]
  rfl
theorem frozen (h : Blk w g t cs) (i : Nat) : w.frozen? ⟨g, i, none⟩ = false := by
  have e : w.heap[g]? = some (.cells cs t (0, 0)) := h
  simp [World.frozen?, e]
theorem new (w : World) (t : TypeId) (cs : Array Value) : Blk (w.alloc (.cells cs t)) w.heap.size t cs := by
  show (w.heap.push (.cells cs t))[w.heap.size]? = _
  rw [Array.getElem?_push_size]
theorem drew (h : Blk w g t cs) : Blk w.drew g t cs := h.of rfl
theorem drewN (h : Blk w g t cs) (n : Nat) : Blk (w.drewN n) g t cs := h.of rfl
theorem alloc (h : Blk w g t cs) (o : Obj) : Blk (w.alloc o) g t cs := h.of (Below.heap_alloc w o g h.lt)
theorem far (h : Blk w g t cs) {p : Addr} (hp : g ≠ p.block) (u : Value) : Blk (w.setCell p u) g t cs := h.of (Below.heap_setCell w p u g hp)
theorem set_ (h : Blk w g t cs) (i : Nat) (u : Value) : Blk (w.setCell ⟨g, i, none⟩ u) g t (cs.setIfInBounds i u) := by
  have e : w.heap[g]? = some (.cells cs t (0, 0)) := h
  show (w.setCell ⟨g, i, none⟩ u).heap[g]? = _
  simp [World.setCell, Array.getElem?_modify, e]
/-- Two blocks whose elements are of two types are two blocks. -/
theorem ne_ {g' : Nat} {t' : TypeId} {cs' : Array Value} (h : Blk w g t cs) (h' : Blk w g' t' cs') (hne : t ≠ t') : g ≠ g' := by
  intro e
  have both : some (Obj.cells cs t (0, 0)) = some (Obj.cells cs' t' (0, 0)) := by
    rw [← show w.heap[g]? = some (.cells cs t (0, 0)) from h, e]
    exact h'
  simp only [Option.some.injEq, Obj.cells.injEq] at both
  exact hne both.2.1
end Blk

/-- From w to w' only blocks in S, and new ones, have turned. -/
structure Only (S : Nat → Prop) (w w' : World) : Prop where
  os : w'.os = w.os
  tape : w'.tape = w.tape
  output : w'.output = w.output
  size : w.heap.size ≤ w'.heap.size
  block : ∀ k, k < w.heap.size → ¬ S k → w'.heap[k]? = w.heap[k]?

section
variable {S T : Nat → Prop} {a b c w w' : World}
theorem Only.refl (S : Nat → Prop) (w : World) : Only S w w := ⟨rfl, rfl, rfl, Nat.le_refl _, fun _ _ _ => rfl⟩
theorem Only.trans (h : Only S a b) (k : Only S b c) : Only S a c :=
  ⟨k.os.trans h.os, k.tape.trans h.tape, k.output.trans h.output, Nat.le_trans h.size k.size,
    fun i hi hs => (k.block i (Nat.lt_of_lt_of_le hi h.size) hs).trans (h.block i hi hs)⟩
/-- What turned in the second step may also be blocks that the first step made. -/
theorem Only.trans' (h : Only S a b) (k : Only T b c) (hT : ∀ i, i < a.heap.size → T i → S i) : Only S a c :=
  ⟨k.os.trans h.os, k.tape.trans h.tape, k.output.trans h.output, Nat.le_trans h.size k.size,
    fun i hi hs => (k.block i (Nat.lt_of_lt_of_le hi h.size) (fun ht => hs (hT i hi ht))).trans (h.block i hi hs)⟩
theorem Only.mono (h : Only S w w') (hT : ∀ i, i < w.heap.size → S i → T i) : Only T w w' :=
  ⟨h.os, h.tape, h.output, h.size, fun i hi hs => h.block i hi (fun k => hs (hT i hi k))⟩
theorem Only.drew (h : Only S a w) : Only S a w.drew := ⟨h.os, h.tape, h.output, h.size, h.block⟩
theorem Only.drewN (h : Only S a w) (n : Nat) : Only S a (w.drewN n) := ⟨h.os, h.tape, h.output, h.size, h.block⟩
theorem Only.alloc (h : Only S a w) (o : Obj) : Only S a (w.alloc o) :=
  ⟨h.os, h.tape, h.output, Nat.le_trans h.size (by simp), fun i hi hne => (Below.heap_alloc w o i (Nat.lt_of_lt_of_le hi h.size)).trans (h.block i hi hne)⟩
theorem Only.setCell (h : Only S a w) {p : Addr} (hp : S p.block ∨ a.heap.size ≤ p.block) (u : Value) : Only S a (w.setCell p u) :=
  ⟨h.os, h.tape, h.output, by simpa [World.setCell] using h.size, fun i hi hne => (Below.heap_setCell w p u i (by
    rintro rfl
    rcases hp with hp | hp
    · exact hne hp
    · omega)).trans (h.block i hi hne)⟩
theorem Only.below {B : Nat} (h : Only S w w') (hB : B ≤ w.heap.size) (hS : ∀ k, k < B → ¬ S k) : Below B w w' :=
  ⟨h.os, h.tape, h.output, h.size, fun k hk => h.block k (by omega) (hS k hk)⟩
theorem Only.of_below (h : Below w.heap.size w w') : Only S w w' := ⟨h.os, h.tape, h.output, h.size, fun i hi _ => h.block i hi⟩
theorem Only.of_grown {row : Option Nat} (h : w.grownBy w' row) (hS : ∀ k, row = some k → k < w.heap.size → S k) : Only S w w' :=
  ⟨h.os, h.tape, h.output, h.size, fun i hi hne => h.block i hi (fun e => hne (hS i e.symm hi))⟩
theorem Only.cell (h : Only S w w') {p : Addr} (hp : p.block < w.heap.size) (hS : ¬ S p.block) : w'.cell? p = w.cell? p := World.cell?_of_block (w := w) (h.block p.block hp hS)
theorem Only.blk {g : Nat} {t : TypeId} {cs : Array Value} (h : Only S w w') (hb : Blk w g t cs) (hS : ¬ S g) : Blk w' g t cs := hb.of (h.block g hb.lt hS)
end

theorem _root_.Go.RowKit.Below.drewN {B : Nat} {a w : World} (h : Below B a w) (n : Nat) : Below B a (w.drewN n) := ⟨h.os, h.tape, h.output, h.size, h.block⟩

/-- A byte as the machine's value. -/
def B8 (x : UInt8) : Value := .int .u8 (x.toNat : Int)

/-- The slice value '.slice A n cap' reads as the bytes xs; its block is not in S. -/
def ByteSl (w : World) (S : Nat → Prop) (A : Option Addr) (n cap : Nat) (xs : List UInt8) : Prop :=
  xs.length = n ∧ n ≤ cap ∧ cap ≤ maxLen ∧ (0 < n → ∃ ad, A = some ad ∧ ad.block < w.heap.size ∧ ¬ S ad.block ∧ ∀ j x, xs[j]? = some x → w.cell? (ad.add j) = some (B8 x))

section
variable {w w' : World} {S T : Nat → Prop} {A : Option Addr} {n cap : Nat} {xs : List UInt8}
theorem addr_add_block (ad : Addr) (n : Nat) : (ad.add n).block = ad.block := by unfold Addr.add; split <;> rfl
theorem ByteSl.only (h : ByteSl w S A n cap xs) (k : Only T w w') (hT : ∀ i, i < w.heap.size → T i → S i) : ByteSl w' S A n cap xs :=
  ⟨h.1, h.2.1, h.2.2.1, fun hn => by
    obtain ⟨ad, e, hb, hs, hc⟩ := h.2.2.2 hn
    exact ⟨ad, e, Nat.lt_of_lt_of_le hb k.size, hs, fun j x hx => (k.cell (p := ad.add j) (by rw [addr_add_block]; exact hb) (by rw [addr_add_block]; exact fun ht => hs (hT _ hb ht))).trans (hc j x hx)⟩⟩
theorem ByteSl.mono (h : ByteSl w S A n cap xs) (hT : ∀ i, i < w.heap.size → T i → S i) : ByteSl w T A n cap xs :=
  ⟨h.1, h.2.1, h.2.2.1, fun hn => by
    obtain ⟨ad, e, hb, hs, hc⟩ := h.2.2.2 hn
    exact ⟨ad, e, hb, fun ht => hs (hT _ hb ht), hc⟩⟩
theorem ByteSl.at_ (h : ByteSl w S A n cap xs) {k : Nat} (hk : k < n) : ∃ ad x, A = some ad ∧ ad.block < w.heap.size ∧ ¬ S ad.block ∧ xs[k]? = some x ∧ w.cell? (ad.add k) = some (B8 x) := by
  obtain ⟨ad, e, hb, hs, hc⟩ := h.2.2.2 (by omega)
  have hl : k < xs.length := by have := h.1; omega
  exact ⟨ad, xs[k], e, hb, hs, List.getElem?_eq_getElem hl, hc k _ (List.getElem?_eq_getElem hl)⟩
theorem ByteSl.nil_ (w : World) (S : Nat → Prop) (A : Option Addr) (cap : Nat) (h : cap ≤ maxLen) : ByteSl w S A 0 cap [] := ⟨rfl, Nat.zero_le _, h, fun h => absurd h (by omega)⟩
end

/-! ### Bits of bytes -/
theorem byte_lt (a : UInt8) : a.toNat < 256 := a.toNat_lt
theorem b_and (a b : UInt8) : bits .and .u8 (a.toNat : Int) (b.toNat : Int) = ((a &&& b).toNat : Int) := by
  rw [u8_and_nat _ _ (byte_lt a) (byte_lt b), UInt8.toNat_and]
theorem b_or (a b : UInt8) : bits .or .u8 (a.toNat : Int) (b.toNat : Int) = ((a ||| b).toNat : Int) := by
  rw [u8_or_nat _ _ (byte_lt a) (byte_lt b), UInt8.toNat_or]
theorem b_andNot (a b : UInt8) : bits .andNot .u8 (a.toNat : Int) (b.toNat : Int) = ((a &&& ~~~b).toNat : Int) := by
  rw [u8_andNot_nat _ _ (byte_lt a) (byte_lt b), UInt8.toNat_and, UInt8.toNat_not]
  rfl
theorem n_andNot (a b : UInt8) : (a &&& ~~~b).toNat = (a.toNat &&& (255 - b.toNat)) := by rw [UInt8.toNat_and, UInt8.toNat_not]; rfl
theorem n_not (b : UInt8) : (~~~b).toNat = 255 - b.toNat := by rw [UInt8.toNat_not]; rfl
theorem b_xor (b : UInt8) : bits .xor .u8 255 (b.toNat : Int) = ((~~~b).toNat : Int) := by
  have h := u8_xor_nat 255 b.toNat (by omega) (byte_lt b)
  have h2 : (255 ^^^ b.toNat) = (~~~b).toNat := by
    have e : (255 : UInt8) ^^^ b = ~~~b := by
      apply UInt8.toBitVec_inj.1
      show BitVec.allOnes 8 ^^^ b.toBitVec = ~~~b.toBitVec
      exact BitVec.allOnes_xor
    have e2 := congrArg UInt8.toNat e
    rw [UInt8.toNat_xor] at e2
    exact e2
  rw [← h2]
  exact h

end Go.Proofs.YtnhfmcijadficaaGreatDoor

/- Words for bytes in memory, for every layer: a block of bytes, bytes that the call laid or owns, bytes as a string, append of bytes. Nothing of the program but type numbers. -/
namespace Go.Proofs.YtnhfmcijadficaaGreatDoor
set_option maxRecDepth 100000
open Go.RowKit

theorem Tryz.infoU8 : (Tryz.prog.info? 5).map (fun i => (i.zero, i.size, i.bytes)) = some (some (.int .u8 0), 1, 1) := by kernel_rfl
theorem Tryz.sizeU8 : (Tryz.prog.info? 5).map (·.size) = some 1 := by kernel_rfl

theorem take_one {α : Type} (xs : List α) (k : Nat) (x : α) (h : xs[k]? = some x) : xs.take (k + 1) = xs.take k ++ [x] := by
  obtain ⟨hk, e⟩ := List.getElem?_eq_some_iff.1 h
  rw [List.take_succ_eq_append_getElem hk, e]

/-- The bytes of a block as its cells. -/
def cellsB (bs : List UInt8) : Array Value := (bs.map B8).toArray

theorem cellsB_get (bs : List UInt8) (i : Nat) : (cellsB bs)[i]? = bs[i]?.map B8 := by simp [cellsB]
theorem cellsB_set (bs : List UInt8) (i : Nat) (v : UInt8) : (cellsB bs).setIfInBounds i (B8 v) = cellsB (bs.set i v) := by
  simp [cellsB, List.map_set]
theorem cellsB_len (bs : List UInt8) : (cellsB bs).size = bs.length := by simp [cellsB]

/-- The string that bytes make. -/
def strB (xs : List UInt8) : ByteArray := ⟨xs.toArray⟩

theorem strB_toList (xs : List UInt8) : (strB xs).toList = xs := by simp [strB]

theorem nums_back (xs : List UInt8) : (xs.map fun x => ((x.toNat : Int))).map (fun n => UInt8.ofNat n.toNat) = xs := by
  rw [List.map_map]
  have : (fun n : Int => UInt8.ofNat n.toNat) ∘ (fun x : UInt8 => (x.toNat : Int)) = id := by
    funext x
    simp
  rw [this, List.map_id]

theorem conv_bytes {w : World} {S : Nat → Prop} {A : Option Addr} {n cap : Nat} {xs : List UInt8} (h : ByteSl w S A n cap xs) :
    (convert 22 9 (.slice A n cap)).run Tryz.prog w = .ok (.string (strB xs)) w := by
  rcases Nat.eq_zero_or_pos n with h0 | h0
  · subst h0
    have hx : xs = [] := List.eq_nil_of_length_eq_zero h.1
    subst hx
    rcases A with _ | ad
    · rw [run_convert_bytes_nil w 22 5 Tryz.underlying22 Tryz.underlying5 0 cap 9 Tryz.underlying9]
      rfl
    · rw [run_convert_bytes_string w 22 9 5 _ 0 cap Tryz.underlying22 Tryz.underlying5 Tryz.underlying9, run_bytesToString w ad 0 cap [] (by simpa using run_loadCells_list (P := Tryz.prog) w ad [] (by simp))]
      rfl
  · obtain ⟨ad, rfl, _, _, hc⟩ := h.2.2.2 h0
    have hl : (loadCells ad n).run Tryz.prog w = .ok ((xs.map fun x => (x.toNat : Int)).map (Value.int .u8)).toArray w := by
      have := run_loadCells_list (P := Tryz.prog) w ad ((xs.map fun x => (x.toNat : Int)).map (Value.int .u8)) (fun j v hj => by
        rw [List.getElem?_map, List.getElem?_map] at hj
        rcases hx : xs[j]? with _ | x
        · rw [hx] at hj; simp at hj
        · rw [hx] at hj
          simp at hj
          rw [hc j x hx, ← hj]
          rfl)
      simpa [h.1] using this
    rw [run_convert_bytes_string w 22 9 5 _ n cap Tryz.underlying22 Tryz.underlying5 Tryz.underlying9, run_bytesToString w ad n cap _ hl, foldl_push_bytes, nums_back]
    simp [strB, ByteArray.empty, ByteArray.emptyWithCapacity]
    rfl

/-- Bytes that were just laid. -/
theorem ByteSl.lit (w : World) (S : Nat → Prop) (xs : List UInt8) (n : Nat) (hn : xs.length = n) (hS : ¬ S w.heap.size) (h : n ≤ maxLen) :
    ByteSl (w.alloc (.cells (cellsB xs) 5)) S (some ⟨w.heap.size, 0, none⟩) n n xs := by
  refine ⟨hn, Nat.le_refl _, h, fun _ => ⟨_, rfl, by simp, hS, fun j x hx => ?_⟩⟩
  have ha : (⟨w.heap.size, 0, none⟩ : Addr).add j = ⟨w.heap.size, j, none⟩ := by unfold Addr.add; split <;> simp_all
  rw [ha, (Blk.new w 5 (cellsB xs)).cell, cellsB_get, hx]
  rfl

/-- Bytes of a constant text: the block bears the run-time's mark. -/
theorem ByteSl.marked (w : World) (S : Nat → Prop) (xs : List UInt8) (n : Nat) (fr : Nat × Nat) (hn : xs.length = n) (hS : ¬ S w.heap.size) (h : n ≤ maxLen) :
    ByteSl (w.alloc (.cells (cellsB xs) 5 fr)) S (some ⟨w.heap.size, 0, none⟩) n n xs := by
  refine ⟨hn, Nat.le_refl _, h, fun _ => ⟨_, rfl, by simp, hS, fun j x hx => ?_⟩⟩
  have ha : (⟨w.heap.size, 0, none⟩ : Addr).add j = ⟨w.heap.size, j, none⟩ := by unfold Addr.add; split <;> simp_all
  have hg : (w.alloc (.cells (cellsB xs) 5 fr)).heap[w.heap.size]? = some (.cells (cellsB xs) 5 fr) := by
    show (w.heap.push _)[w.heap.size]? = _
    rw [Array.getElem?_push_size]
  have hc : (w.alloc (.cells (cellsB xs) 5 fr)).cell? ⟨w.heap.size, j, none⟩ = (cellsB xs)[j]? := by simp only [World.cell?, hg]; rfl
  rw [ha, hc, cellsB_get, hx]
  rfl

/-- What an append or a read gave: bytes of the law's own. -/
theorem ByteSl.of_own {w : World} {S : Nat → Prop} {base : Nat} {v : Value} {n : Nat} {xs : List UInt8} (h : w.ownsRow base 5 1 v n (xs.map B8)) (hS : ∀ k, base ≤ k → k < w.heap.size → ¬ S k) :
    ∃ A cap, v = .slice A n cap ∧ ByteSl w S A n cap xs ∧ (0 < n → ∃ g, A = some ⟨g, 0, none⟩ ∧ base ≤ g ∧ w.frozen? ⟨g, 0, none⟩ = false) := by
  have hl : xs.length = n := by have := h.1; simpa using this
  rcases h.2 with ⟨rfl, rfl⟩ | ⟨g, cap, cur, rfl, hb, hh, hnc, hm, hs, ht⟩
  · exact ⟨none, 0, rfl, ⟨hl, Nat.le_refl _, by simp [maxLen], fun h0 => absurd h0 (by omega)⟩, fun h0 => absurd h0 (by omega)⟩
  · have hlt : g < w.heap.size := (Array.getElem?_eq_some_iff.1 hh).1
    refine ⟨_, cap, rfl, ⟨hl, hnc, hm, fun _ => ⟨_, rfl, hlt, hS g hb hlt, fun j x hx => ?_⟩⟩, fun _ => ⟨g, rfl, hb, by simp [World.frozen?, hh]⟩⟩
    exact h.cells (g := g) rfl j _ (by rw [List.getElem?_map, hx]; rfl)

/-- No block is one of S. -/
def Empty : Nat → Prop := fun _ => False

/-- An operation whose guard has struck is as one that has none. -/
theorem wpList_unguard {P : Program} {ops : Array Oper} {rest : List Oper} {q : Oper} {u : Act} {w : World} {Q : Exit → Act → World → Prop} (hw : Region.wanted q (yielded ops u.tmps) = true)
    (h : wpList P ops Q ({ q with guard := none } :: rest) u w) : wpList P ops Q (q :: rest) u w := by
  have hw0 : Region.wanted ({ q with guard := none } : Oper) (yielded ops u.tmps) = true := by simp [Region.wanted]
  unfold wpList at h ⊢
  rw [if_pos hw]
  rw [if_pos hw0] at h
  exact h

/-- append of bytes that lie somewhere (a nil slice, too) onto a row of the call's own. -/
theorem wpList_append_bytes {ops : Array Oper} {rest : List Oper} {q : Oper} {u : Act} {w : World} {Q : Exit → Act → World → Prop} (hgd : q.guard = none) (s x : Operand)
    (hq : q.op = .call { callee := .builtin .append, args := #[s, x], argTypes := #[22, 22] })
    (base : Nat) (v : Value) (hs : u.eval s = v) (k : Nat) (zs : List UInt8) (hown : w.ownsRow base 5 1 v k (zs.map B8)) (A : Option Addr) (m c : Nat) (ys : List UInt8) (S : Nat → Prop)
    (hx : u.eval x = .slice A m c) (hB : ByteSl w S A m c ys) (hn : A = none → m = 0 ∧ c = 0) (hm : k + m ≤ 16777216) (hbase : base ≤ w.heap.size)
    (h : ∀ v' w', w'.ownsRow base 5 1 v' (k + m) ((zs ++ ys).map B8) → w.grownBy w' v.ownBlock → (v' = .slice none 0 0 → v = .slice none 0 0) → wpList Tryz.prog ops Q rest (u.put q.dst v') w') : wpList Tryz.prog ops Q (q :: rest) u w := by
  obtain ⟨i0, hi, hz0, hz1, hz2⟩ := info_parts Tryz.infoU8
  rcases A with _ | ad
  · obtain ⟨rfl, rfl⟩ := hn rfl
    have hys : ys = [] := List.eq_nil_of_length_eq_zero hB.1
    subst hys
    exact wpList_append_own_none hgd s x 22 hq base 5 i0 1 Tryz.underlying22 hi v k (zs.map B8) hs hown hx (h v w (by simpa using hown) (World.grownBy.refl w _) id)
  · refine wpList_append_own_at _ hgd s x 22 hq base 5 i0 (.int .u8 0) 1 1 Tryz.underlying22 hi hz0 hz1 hz2 rfl (by decide) v k (zs.map B8) hs hown ad m c (ys.map B8) hx (by simp [hB.1]) ?_ ?_ (by unfold maxLen; omega) (by omega) hbase ?_
    · intro j y hj
      rw [List.getElem?_map] at hj
      cases hj2 : ys[j]? with
      | none => rw [hj2] at hj; cases hj
      | some z =>
        have hjm : j < m := by have := (List.getElem?_eq_some_iff.1 hj2).1; have := hB.1; omega
        obtain ⟨ad', he, _, _, hc⟩ := hB.2.2.2 (by omega)
        cases he
        rw [hj2] at hj
        rw [hc j z hj2]
        simpa using hj
    · intro y hy
      obtain ⟨z, _, rfl⟩ := List.mem_map.1 hy
      rfl
    · intro v' w' h1 h2 h3 _
      exact h v' w' (by simpa using h1) h2 (fun e => (h3.1 e).1)

/-- A row that was just made, with no bytes. -/
theorem own_made (w : World) (base : Nat) (h : base ≤ w.heap.size) : (w.alloc (.cells #[] 5)).ownsRow base 5 1 (.slice (some ⟨w.heap.size, 0, none⟩) 0 0) 0 (([] : List UInt8).map B8) :=
  World.ownsRow_made w #[] 0 h (by decide) rfl

/-- What grew by a row of the call's own: nothing else turned. -/
theorem below_grown {B : Nat} {a w w' : World} {row : Option Nat} (h : Below B a w) (hB : B ≤ w.heap.size) (g : w.grownBy w' row) (hr : ∀ k, row = some k → B ≤ k) : Below B a w' :=
  h.trans ((Only.of_grown (S := fun k => B ≤ k) g (fun k e _ => hr k e)).below hB (fun k hk h => by omega))

/-- Bytes of the call's own, at the head of a block that may have room behind them. -/
def OwnB (w : World) (g n cap : Nat) (zs : List UInt8) : Prop := zs.length = n ∧ n ≤ cap ∧ cap ≤ maxLen ∧ ∃ cur, Blk w g 5 cur ∧ cur.size = cap ∧ cur.toList.take n = zs.map B8

namespace OwnB
variable {w w' : World} {g n cap : Nat} {zs : List UInt8}
theorem of_row {base : Nat} {v : Value} (h : w.ownsRow base 5 1 v n (zs.map B8)) (hv : v ≠ .slice none 0 0) : ∃ g cap, v = .slice (some ⟨g, 0, none⟩) n cap ∧ base ≤ g ∧ OwnB w g n cap zs := by
  have hl : zs.length = n := by have := h.1; simpa using this
  rcases h.2 with ⟨rfl, rfl⟩ | ⟨g, cap, cur, rfl, hb, hh, hnc, hm, hs, ht⟩
  · exact absurd rfl hv
  · exact ⟨g, cap, rfl, hb, hl, hnc, hm, cur, hh, by simpa using hs, by simpa using ht⟩
theorem lt (h : OwnB w g n cap zs) : g < w.heap.size := by obtain ⟨_, _, _, cur, hb, _⟩ := h; exact hb.lt
theorem frozen (h : OwnB w g n cap zs) (i : Nat) : w.frozen? ⟨g, i, none⟩ = false := by obtain ⟨_, _, _, cur, hb, _⟩ := h; exact hb.frozen i
theorem cell (h : OwnB w g n cap zs) {i : Nat} {z : UInt8} (hz : zs[i]? = some z) : w.cell? ⟨g, i, none⟩ = some (B8 z) := by
  obtain ⟨hl, hn, _, cur, hb, hs, ht⟩ := h
  rw [hb.cell, ← Array.getElem?_toList]
  have hi : i < n := by have := (List.getElem?_eq_some_iff.1 hz).1; omega
  have := congrArg (fun l => l[i]?) ht
  simp only [List.getElem?_take, List.getElem?_map, hz, if_pos hi, Option.map_some] at this
  exact this
theorem set_ (h : OwnB w g n cap zs) (i : Nat) (z : UInt8) : OwnB (w.setCell ⟨g, i, none⟩ (B8 z)) g n cap (zs.set i z) := by
  obtain ⟨hl, hn, hc, cur, hb, hs, ht⟩ := h
  refine ⟨by simpa using hl, hn, hc, _, hb.set_ i (B8 z), by simpa using hs, ?_⟩
  rw [Array.toList_setIfInBounds, List.take_set, ht, List.map_set]
theorem of (h : OwnB w g n cap zs) (same : w'.heap[g]? = w.heap[g]?) : OwnB w' g n cap zs := by
  obtain ⟨hl, hn, hc, cur, hb, hs, ht⟩ := h
  exact ⟨hl, hn, hc, cur, hb.of same, hs, ht⟩
theorem bytes (h : OwnB w g n cap zs) (S : Nat → Prop) (hS : ¬ S g) : ByteSl w S (some ⟨g, 0, none⟩) n cap zs := by
  refine ⟨h.1, h.2.1, h.2.2.1, fun _ => ⟨_, rfl, h.lt, hS, fun j x hx => ?_⟩⟩
  have ha : (⟨g, 0, none⟩ : Addr).add j = ⟨g, j, none⟩ := by unfold Addr.add; split <;> simp_all
  rw [ha]
  exact h.cell hx
end OwnB

/-! ### copy: only the one block turns -/
theorem only_setRow (w : World) (g : Nat) (cs : Array Value) : Only (· = g) w (w.setRow g cs) :=
  ⟨rfl, rfl, rfl, by simp [World.setRow], fun k _ hk => setRow_other w g k cs hk⟩

section
variable {P : Program} {w : World} {ops : Array Oper} {rest : List Oper} {o : Oper} {a : Act} {Q : Exit → Act → World → Prop}
theorem wpList_copy_only (hgd : o.guard = none) (d s : Operand) (dT sT : TypeId) (ho : o.op = .call { callee := .builtin .copy, args := #[d, s], argTypes := #[dT, sT] })
    (elem : TypeId) (hu : P.underlying dT = some (.slice elem)) (hsz : (P.info? elem).map (·.size) = some 1) (dp sp : Option Addr) (dLen dCap sLen sCap : Nat) (hd : a.eval d = .slice dp dLen dCap) (hs : a.eval s = .slice sp sLen sCap)
    (g off : Nat) (cur : List Value) (t : TypeId) (hg : Blk w g t cur.toArray) (cs : List Value) (hn : cs.length = Nat.min sLen dLen)
    (hpos : 0 < cs.length → dp = some ⟨g, off, none⟩ ∧ ∃ ad, sp = some ad ∧ ∀ j v, cs[j]? = some v → w.cell? (ad.add j) = some v) (hfit : off + cs.length ≤ cur.length) (h1 : ∀ v ∈ cs, v.oneCell' = true)
    (h : ∀ w', Hid (Blk w' g t (splice cur off cs).toArray) → Only (· = g) w w' → wpList P ops Q rest (a.put o.dst (goInt cs.length)) w') : wpList P ops Q (o :: rest) a w := by
  by_cases h0 : cs.length = 0
  · obtain rfl : cs = [] := List.eq_nil_of_length_eq_zero h0
    refine wpList_copy_nothing hgd d s dT sT ho elem hu hsz dp sp dLen dCap sLen sCap hd hs (by simpa using hn.symm) ?_
    exact h w (show Blk w g t (splice cur off []).toArray by simpa [splice] using hg) (Only.refl _ _)
  · obtain ⟨rfl, ad, rfl, hsrc⟩ := hpos (by omega)
    refine wpList_copy_own hgd d s dT sT ho elem hu hsz g off dLen dCap ad sLen sCap hd hs cur.toArray t hg cs hn hsrc (by simpa using hfit) h1 ?_
    exact h _ (show w.setRow g _ |>.heap[g]? = _ by simpa [splice] using setRow_heap w g _ _ t _ hg) (only_setRow w g _)
end

theorem splice_map (bs xs : List UInt8) (o : Nat) : splice (bs.map B8) o (xs.map B8) = (splice bs o xs).map B8 := by
  simp [splice, List.map_take, List.map_drop]

/-! ### make with room; a row of the call's own, kept -/
theorem made_bytes (n : Nat) : madeCells #[.int .u8 0] n = cellsB (List.replicate n 0) := by
  apply Array.ext_getElem?
  intro i
  rw [cellsB_get, List.getElem?_replicate]
  by_cases h : i < n
  · simp [madeCells, h, Nat.mod_one]
    rfl
  · simp [madeCells, h]
theorem run_make_cap (n m : Nat) (h : n ≤ m) (hm : m ≤ 281474976710656) (W : World) :
    (Instr.makeSlice 22 (.int .i64 (n : Int)) (.int .i64 (m : Int))).run Tryz.prog W = .ok (.slice (some ⟨W.heap.size, 0, none⟩) n m) (W.alloc (.cells (cellsB (List.replicate m 0)) 5)) := by
  obtain ⟨i0, hi, hz0, hz1, hz2⟩ := info_parts Tryz.infoU8
  have hr := run_make (P := Tryz.prog) W 22 5 i0 (.int .u8 0) Tryz.underlying22 hi hz0 .i64 .i64 n m (by omega) (by omega) (by rw [hz2]; omega) (by omega)
  simp only [Int.toNat_natCast, hz1, Nat.mul_one] at hr
  rw [← made_bytes]
  exact hr
theorem own_alloc {w : World} {base : Nat} {e : TypeId} {size : Nat} {v : Value} {n : Nat} {xs : List Value} (h : w.ownsRow base e size v n xs) (o : Obj) : (w.alloc o).ownsRow base e size v n xs :=
  h.kept (row := none) ⟨rfl, rfl, rfl, by simp, fun k hk _ => Below.heap_alloc w o k hk⟩ (by cases v.ownBlock <;> simp)
/-- A block of the call's own, read to where its bytes end. -/
theorem own_of_blk {w : World} {base g n cap : Nat} {cur : List UInt8} {xs : List UInt8} (h : Blk w g 5 (cellsB cur)) (hb : base ≤ g) (hl : cur.length = cap) (hn : n ≤ cap) (hc : cap ≤ maxLen) (hx : cur.take n = xs) :
    w.ownsRow base 5 1 (.slice (some ⟨g, 0, none⟩) n cap) n (xs.map B8) := by
  subst hx
  refine ⟨by simp; omega, Or.inr ⟨g, cap, _, rfl, hb, h, hn, hc, by simp [cellsB]; omega, by simp [cellsB, List.map_take]⟩⟩

theorem own_base {w : World} {base base' : Nat} {e : TypeId} {size : Nat} {v : Value} {n : Nat} {xs : List Value} (h : w.ownsRow base e size v n xs) (hb : base' ≤ base) : w.ownsRow base' e size v n xs := by
  refine ⟨h.1, ?_⟩
  rcases h.2 with h | ⟨g, cap, cur, h1, h2, h3⟩
  · exact Or.inl h
  · exact Or.inr ⟨g, cap, cur, h1, Nat.le_trans hb h2, h3⟩

/-- A row made since base stays where only blocks that aren't such have turned. -/
theorem own_only {w w' : World} {base : Nat} {e : TypeId} {size : Nat} {v : Value} {n : Nat} {xs : List Value} {S : Nat → Prop} (h : w.ownsRow base e size v n xs) (k : Only S w w') (hS : ∀ q, base ≤ q → q < w.heap.size → ¬ S q) : w'.ownsRow base e size v n xs := by
  refine ⟨h.1, ?_⟩
  rcases h.2 with h | ⟨g, cap, cur, h1, h2, h3, h4⟩
  · exact Or.inl h
  · have hlt : g < w.heap.size := (Array.getElem?_eq_some_iff.1 h3).1
    exact Or.inr ⟨g, cap, cur, h1, h2, (k.block g hlt (hS g h2 hlt)).trans h3, h4⟩

theorem ByteSl.take_ {w : World} {S : Nat → Prop} {A : Option Addr} {n cap : Nat} {xs : List UInt8} (h : ByteSl w S A n cap xs) (k : Nat) (hk : k ≤ n) : ByteSl w S A k cap (xs.take k) := by
  refine ⟨by rw [List.length_take, h.1]; omega, Nat.le_trans hk h.2.1, h.2.2.1, fun h0 => ?_⟩
  obtain ⟨ad, e, hb, hs, hc⟩ := h.2.2.2 (by omega)
  refine ⟨ad, e, hb, hs, fun j x hx => ?_⟩
  rw [List.getElem?_take] at hx
  by_cases hj : j < k
  · rw [if_pos hj] at hx
    exact hc j x hx
  · rw [if_neg hj] at hx
    cases hx

theorem strB_cat (xs ys : List UInt8) : strB xs ++ strB ys = strB (xs ++ ys) := by
  apply ByteArray.ext
  simp [strB]

end Go.Proofs.YtnhfmcijadficaaGreatDoor

/- The step from a law's walk to its row: whatever the parameters' types, if the call returns true and has turned nothing that was there. And how arguments are opened. -/
namespace Go.Proofs.YtnhfmcijadficaaGreatDoor
set_option maxRecDepth 100000
open Go.ChangeShapes Go.WideShapes Go.ChangeAt Go.RowKit Go.Joins

theorem Tryz.ownKnobs : ownKnob Tryz.prog.godebug = none := by kernel_rfl
theorem Tryz.allLaid : laidOutB Tryz.prog = true := by kernel_rfl

section
variable {H : Type} {enc : TypeId × Value → H} {P : Program}

/-- Each argument reads behind the call as it read ahead of it, through the same places. -/
theorem trodAll_below (hl : laidOutB P = true) {W W' : World} (hb : Below W.heap.size W W') : ∀ (ts : List TypeId) (vs : List Value) (ds : List (DataW H)) (ps : List MemPlace),
    (∀ t ∈ ts, P.readableRec t = true ∧ t < P.types.size) → DataW.TrodAll enc P W 0 (fun _ => true) true ts vs ds ps → (∀ x ∈ ps, x.block < W.heap.size) →
    DataW.TrodAll enc P W' 0 (fun b => decide (b < W.heap.size)) true ts vs ds ps
  | [], vs, ds, ps, _, h, _ => by
    cases vs <;> cases ds <;> simp_all [DataW.TrodAll]
  | t :: ts, vs, ds, ps, hr, h, hlt => by
    match vs, ds, h with
    | v :: vs, d :: ds, ⟨p, q, h1, h2, h3⟩ =>
      subst h3
      have ht := hr t (by simp)
      exact ⟨p, q, Below.trod hl ht.1 ht.2 h1 hb (fun x hx => hlt x (by simp [hx])), trodAll_below hl hb ts vs ds q (fun u hu => hr u (by simp [hu])) h2 (fun x hx => hlt x (by simp [hx])), rfl⟩

theorem law_post {f : Func} {s : ChangeSpec} {W W' : World} {args : Array Value} {ds gs : List (DataW H)} {before : List MemPlace} {b : TypeId} (hl : laidOutB P = true)
    (hr : ∀ t ∈ f.params.toList, P.readableRec t = true ∧ t < P.types.size) (hrt : f.resultTypes = #[b]) (hbt : P.underlying b = some .bool) (hv : s.vars = [])
    (hW : DataW.Whole enc P f.params.toList s.vars false W args.toList ds gs before) (hres : (s.fn H (ds ++ gs)).results = [.lit (.bool true)]) (hargs : (s.fn H (ds ++ gs)).args = ds) (hvs : (s.fn H (ds ++ gs)).vars = [])
    (hb : Below W.heap.size W W') : s.post enc P f false true false false W args (.bool true) W' := by
  have hlt : ∀ x ∈ before, x.block < W.heap.size := fun x hx => hW.lt x hx
  have hW2 := hW
  obtain ⟨p, q, hA, hV, rfl, hfz, hnd⟩ := hW2
  rw [hv] at hV
  obtain ⟨_, rfl⟩ := trodVars_none hV
  refine ⟨ds, gs, _, [], p, [], hW, ?_, ?_, ?_, hb.frame _, fun h => by cases h⟩
  · rw [hrt, hres]
    exact trodAll_mk1 (shut_bool hbt _)
  · rw [hargs]
    exact trodAll_below hl hb _ _ _ _ hr hA (fun x hx => hlt x (by simp [hx]))
  · rw [hv, hvs]
    rfl
end

/-! ### Arguments opened -/
section
variable {H : Type} {enc : TypeId × Value → H} {W : World} {base : Nat}

theorem cell_lt {w : World} {a : Addr} {v : Value} (h : w.cell? a = some v) : a.block < w.heap.size := by
  rcases Nat.lt_or_ge a.block w.heap.size with h1 | h1
  · exact h1
  · rw [World.cell?, Array.getElem?_eq_none h1] at h
    cases h

/-- An integer's bounds. -/
theorem bd_i64 {n : Int} (h : (Lit.int .i64 n).wf = true) : -9223372036854775808 ≤ n ∧ n ≤ 9223372036854775807 := by
  simp [Lit.wf, IntKind.min, IntKind.max, IntKind.bits, IntKind.signed] at h
  omega
theorem bd_u8 {n : Int} (h : (Lit.int .u8 n).wf = true) : ∃ m : UInt8, Value.int .u8 n = B8 m := by
  simp [Lit.wf, IntKind.min, IntKind.max, IntKind.bits, IntKind.signed] at h
  obtain ⟨k, rfl⟩ := Int.eq_ofNat_of_zero_le h.1
  refine ⟨UInt8.ofNat k, ?_⟩
  unfold B8
  rw [UInt8.toNat_ofNat']
  congr 1
  omega

theorem bd_u8i {n : Int} (h : (Lit.int .u8 n).wf = true) : 0 ≤ n ∧ n ≤ 255 := by
  simp [Lit.wf, IntKind.min, IntKind.max, IntKind.bits, IntKind.signed] at h
  omega
theorem bd_u16i {n : Int} (h : (Lit.int .u16 n).wf = true) : 0 ≤ n ∧ n ≤ 65535 := by
  simp [Lit.wf, IntKind.min, IntKind.max, IntKind.bits, IntKind.signed] at h
  omega
theorem bd_i32i {n : Int} (h : (Lit.int .i32 n).wf = true) : -2147483648 ≤ n ∧ n ≤ 2147483647 := by
  simp [Lit.wf, IntKind.min, IntKind.max, IntKind.bits, IntKind.signed] at h
  omega
theorem bd_u32i {n : Int} (h : (Lit.int .u32 n).wf = true) : 0 ≤ n ∧ n ≤ 4294967295 := by
  simp [Lit.wf, IntKind.min, IntKind.max, IntKind.bits, IntKind.signed] at h
  omega
theorem bd_u64i {n : Int} (h : (Lit.int .u64 n).wf = true) : 0 ≤ n ∧ n ≤ 18446744073709551615 := by
  simp [Lit.wf, IntKind.min, IntKind.max, IntKind.bits, IntKind.signed] at h
  omega
theorem open_int_ {v : Value} {d : DataW H} {p : List MemPlace} (hv : Value.okWide Tryz.prog W .any base 3 v) (h : DataW.Trod enc Tryz.prog W 0 (fun _ => true) true 3 v d p) :
    ∃ n : Int, v = .int .i64 n ∧ -9223372036854775808 ≤ n ∧ n ≤ 9223372036854775807 := by
  obtain ⟨n, rfl, _, _, wn⟩ := open_int Tryz.underlying3 hv h
  exact ⟨n, rfl, bd_i64 wn⟩
theorem open_i64_ {v : Value} {d : DataW H} {p : List MemPlace} (hv : Value.okWide Tryz.prog W .any base 2 v) (h : DataW.Trod enc Tryz.prog W 0 (fun _ => true) true 2 v d p) :
    ∃ n : Int, v = .int .i64 n ∧ -9223372036854775808 ≤ n ∧ n ≤ 9223372036854775807 := by
  obtain ⟨n, rfl, _, _, wn⟩ := open_int Tryz.underlying2 hv h
  exact ⟨n, rfl, bd_i64 wn⟩
theorem open_i32_ {v : Value} {d : DataW H} {p : List MemPlace} (hv : Value.okWide Tryz.prog W .any base 21 v) (h : DataW.Trod enc Tryz.prog W 0 (fun _ => true) true 21 v d p) :
    ∃ n : Int, v = .int .i32 n ∧ -2147483648 ≤ n ∧ n ≤ 2147483647 := by
  obtain ⟨n, rfl, _, _, wn⟩ := open_int Tryz.underlying21 hv h
  exact ⟨n, rfl, bd_i32i wn⟩
theorem open_u16_ {v : Value} {d : DataW H} {p : List MemPlace} (hv : Value.okWide Tryz.prog W .any base 248 v) (h : DataW.Trod enc Tryz.prog W 0 (fun _ => true) true 248 v d p) :
    ∃ n : Int, v = .int .u16 n ∧ 0 ≤ n ∧ n ≤ 65535 := by
  obtain ⟨n, rfl, _, _, wn⟩ := open_int Tryz.underlying248 hv h
  exact ⟨n, rfl, bd_u16i wn⟩
theorem open_u32_ {v : Value} {d : DataW H} {p : List MemPlace} (hv : Value.okWide Tryz.prog W .any base 45 v) (h : DataW.Trod enc Tryz.prog W 0 (fun _ => true) true 45 v d p) :
    ∃ n : Int, v = .int .u32 n ∧ 0 ≤ n ∧ n ≤ 4294967295 := by
  obtain ⟨n, rfl, _, _, wn⟩ := open_int Tryz.underlying45 hv h
  exact ⟨n, rfl, bd_u32i wn⟩
theorem open_u64_ {v : Value} {d : DataW H} {p : List MemPlace} (hv : Value.okWide Tryz.prog W .any base 168 v) (h : DataW.Trod enc Tryz.prog W 0 (fun _ => true) true 168 v d p) :
    ∃ n : Int, v = .int .u64 n ∧ 0 ≤ n ∧ n ≤ 18446744073709551615 := by
  obtain ⟨n, rfl, _, _, wn⟩ := open_int Tryz.underlying168 hv h
  exact ⟨n, rfl, bd_u64i wn⟩

theorem open_u8 {v : Value} {d : DataW H} {p : List MemPlace} (hv : Value.okWide Tryz.prog W .any base 5 v) (h : DataW.Trod enc Tryz.prog W 0 (fun _ => true) true 5 v d p) :
    ∃ n : Int, v = .int .u8 n ∧ 0 ≤ n ∧ n ≤ 255 := by
  obtain ⟨n, rfl, _, _, wn⟩ := open_int Tryz.underlying5 hv h
  exact ⟨n, rfl, bd_u8i wn⟩
theorem open_b {v : Value} {d : DataW H} {p : List MemPlace} (hv : Value.okWide Tryz.prog W .any base 4 v) (h : DataW.Trod enc Tryz.prog W 0 (fun _ => true) true 4 v d p) :
    ∃ b : Bool, v = .bool b := by
  obtain ⟨b, rfl, _, _⟩ := open_bool Tryz.underlying4 hv h
  exact ⟨b, rfl⟩
theorem open_tear {v : Value} {d : DataW H} {p : List MemPlace} (hv : Value.okWide Tryz.prog W .any base 64 v) (h : DataW.Trod enc Tryz.prog W 0 (fun _ => true) true 64 v d p) :
    ∃ (k : Int) (m : UInt8), v = .agg #[.int .i64 k, B8 m] ∧ -9223372036854775808 ≤ k ∧ k ≤ 9223372036854775807 := by
  obtain ⟨v0, v1, y0, y1, n, rfl, rfl, rfl, h0, h1⟩ := open_agg2 Tryz.underlying64 (by kernel_rfl) (by kernel_rfl) hv h
  obtain ⟨k, e0, _, wk⟩ := DataW.trod_int Tryz.underlying3 h0
  obtain ⟨m, e1, _, wm⟩ := DataW.trod_int Tryz.underlying5 h1
  simp at e0 e1
  subst e0 e1
  obtain ⟨u, hu⟩ := bd_u8 wm
  exact ⟨k, u, by rw [hu], bd_i64 wk⟩

/-- A []byte that came in, as the walks take it. -/
theorem open_bytes {v : Value} {d : DataW H} {p : List MemPlace} (hv : Value.okWide Tryz.prog W .any base 22 v) (h : DataW.Trod enc Tryz.prog W 0 (fun _ => true) true 22 v d p) :
    ∃ (A : Option Addr) (n cap : Nat) (xs : List UInt8), v = .slice A n cap ∧ ByteSl W (fun k => W.heap.size ≤ k) A n cap xs ∧ (A = none → n = 0 ∧ cap = 0) := by
  obtain ⟨A, n, cap, rfl⟩ := okWide_slice Tryz.underlying22 hv
  obtain ⟨fuel, hf⟩ := h
  rcases open_ints Tryz.underlying22 Tryz.underlying5 (by kernel_rfl) hf with ⟨hcs, _⟩ | ⟨x, l, c, zs, hcs, _, hl, hm, hz, _, hcell, hwz⟩
  · simp [Value.cells] at hcs
    obtain ⟨rfl, rfl, rfl⟩ := hcs
    exact ⟨none, 0, 0, [], rfl, ByteSl.nil_ _ _ _ _ (by simp [maxLen]), fun _ => ⟨rfl, rfl⟩⟩
  · simp [Value.cells] at hcs
    obtain ⟨rfl, rfl, rfl⟩ := hcs
    have hzl : zs.length = cap := by simpa using hz
    refine ⟨some x, n, cap, (zs.take n).map (fun z => UInt8.ofNat z.toNat), rfl, ⟨by simp; omega, hl, hm, fun hn => ⟨x, rfl, ?_, ?_, ?_⟩⟩, fun h => by cases h⟩
    · have h0 := hcell 0 (by omega)
      simp only [Addr.add, if_pos] at h0
      exact cell_lt h0
    · have h0 := hcell 0 (by omega)
      simp only [Addr.add, if_pos] at h0
      have := cell_lt h0
      omega
    · intro j y hj
      rw [List.getElem?_map, List.getElem?_take] at hj
      by_cases hjn : j < n
      · rw [if_pos hjn] at hj
        have hjl : j < zs.length := by omega
        rw [hcell j hjl]
        rw [List.getElem?_eq_getElem hjl] at hj
        simp at hj
        have hw := hwz zs[j] (List.getElem_mem hjl)
        simp [Lit.wf, IntKind.min, IntKind.max, IntKind.bits, IntKind.signed] at hw
        have hg : zs.getD j 0 = zs[j] := by simp [List.getD, hjl]
        rw [hg, ← hj]
        unfold B8
        rw [UInt8.toNat_ofNat']
        congr 2
        omega
      · rw [if_neg hjn] at hj
        cases hj
end

end Go.Proofs.YtnhfmcijadficaaGreatDoor
