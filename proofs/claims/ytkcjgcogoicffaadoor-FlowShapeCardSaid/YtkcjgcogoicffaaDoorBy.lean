/- Words for bytes in memory, for every layer: a block of bytes, bytes that the call laid or owns, bytes as a string, append of bytes. Nothing of the program but type numbers. -/
import Derived.Test.YtkcjgcogoicffaaDoorMem
import Derived.Laws.BytesArg
import Derived.Maps.AppendAt
import Derived.Laws.AppendOwnNone
import Derived.Lib.SmallJoins
import Derived.Laws.CopyOwn
import Derived.Laws.MakeOwn
namespace Go.Proofs.YtkcjgcogoicffaaDoor
set_option maxRecDepth 100000
open Go.RowKit

theorem Tryd.infoU8 : (Tryd.prog.info? 5).map (fun i => (i.zero, i.size, i.bytes)) = some (some (.int .u8 0), 1, 1) := by kernel_rfl
theorem Tryd.sizeU8 : (Tryd.prog.info? 5).map (·.size) = some 1 := by kernel_rfl

theorem take_one {α : Type} (xs : List α) (k : Nat) (x : α) (h : xs[k]? = some x) : xs.take (k + 1) = xs.take k ++ [x] := by
  obtain ⟨hk, e⟩ := List.getElem?_eq_some_iff.1 h
  rw [List.take_succ_eq_append_getElem hk, e]

/-- The bytes of a block as its cells. -/
def cellsB (bs : List UInt8) : Array Value := (bs.map B8).toArray

theorem cellsB_get (bs : List UInt8) (i : Nat) : (cellsB bs)[i]? = bs[i]?.map B8 := by simp [cellsB]
theorem cellsB_set (bs : List UInt8) (i : Nat) (v : UInt8) : (cellsB bs).setIfInBounds i (B8 v) = cellsB (bs.set i v) := by
  simp [cellsB, List.map_set]
theorem cellsB_len (bs : List UInt8) : (cellsB bs).size = bs.length := by simp [cellsB]

/-- The string that bytes make. -/
def strB (xs : List UInt8) : ByteArray := ⟨xs.toArray⟩

theorem strB_toList (xs : List UInt8) : (strB xs).toList = xs := by simp [strB]

theorem nums_back (xs : List UInt8) : (xs.map fun x => ((x.toNat : Int))).map (fun n => UInt8.ofNat n.toNat) = xs := by
  rw [List.map_map]
  have : (fun n : Int => UInt8.ofNat n.toNat) ∘ (fun x : UInt8 => (x.toNat : Int)) = id := by
    funext x
    simp
  rw [this, List.map_id]


/-- Bytes that were just laid. -/
theorem ByteSl.lit (w : World) (S : Nat → Prop) (xs : List UInt8) (n : Nat) (hn : xs.length = n) (hS : ¬ S w.heap.size) (h : n ≤ maxLen) :
    ByteSl (w.alloc (.cells (cellsB xs) 5)) S (some ⟨w.heap.size, 0, none⟩) n n xs := by
  refine ⟨hn, Nat.le_refl _, h, fun _ => ⟨_, rfl, by simp, hS, fun j x hx => ?_⟩⟩
  have ha : (⟨w.heap.size, 0, none⟩ : Addr).add j = ⟨w.heap.size, j, none⟩ := by unfold Addr.add; split <;> simp_all
  rw [ha, (Blk.new w 5 (cellsB xs)).cell, cellsB_get, hx]
  rfl

/-- Bytes of a constant text: the block bears the run-time's mark. -/
theorem ByteSl.marked (w : World) (S : Nat → Prop) (xs : List UInt8) (n : Nat) (fr : Nat × Nat) (hn : xs.length = n) (hS : ¬ S w.heap.size) (h : n ≤ maxLen) :
    ByteSl (w.alloc (.cells (cellsB xs) 5 fr)) S (some ⟨w.heap.size, 0, none⟩) n n xs := by
  refine ⟨hn, Nat.le_refl _, h, fun _ => ⟨_, rfl, by simp, hS, fun j x hx => ?_⟩⟩
  have ha : (⟨w.heap.size, 0, none⟩ : Addr).add j = ⟨w.heap.size, j, none⟩ := by unfold Addr.add; split <;> simp_all
  have hg : (w.alloc (.cells (cellsB xs) 5 fr)).heap[w.heap.size]? = some (.cells (cellsB xs) 5 fr) := by
    show (w.heap.push _)[w.heap.size]? = _
    rw [Array.getElem?_push_size]
  have hc : (w.alloc (.cells (cellsB xs) 5 fr)).cell? ⟨w.heap.size, j, none⟩ = (cellsB xs)[j]? := by simp only [World.cell?, hg]; rfl
  rw [ha, hc, cellsB_get, hx]
  rfl

/-- What an append or a read gave: bytes of the law's own. -/
theorem ByteSl.of_own {w : World} {S : Nat → Prop} {base : Nat} {v : Value} {n : Nat} {xs : List UInt8} (h : w.ownsRow base 5 1 v n (xs.map B8)) (hS : ∀ k, base ≤ k → k < w.heap.size → ¬ S k) :
    ∃ A cap, v = .slice A n cap ∧ ByteSl w S A n cap xs ∧ (0 < n → ∃ g, A = some ⟨g, 0, none⟩ ∧ base ≤ g ∧ w.frozen? ⟨g, 0, none⟩ = false) := by
  have hl : xs.length = n := by have := h.1; simpa using this
  rcases h.2 with ⟨rfl, rfl⟩ | ⟨g, cap, cur, rfl, hb, hh, hnc, hm, hs, ht⟩
  · exact ⟨none, 0, rfl, ⟨hl, Nat.le_refl _, by simp [maxLen], fun h0 => absurd h0 (by omega)⟩, fun h0 => absurd h0 (by omega)⟩
  · have hlt : g < w.heap.size := (Array.getElem?_eq_some_iff.1 hh).1
    refine ⟨_, cap, rfl, ⟨hl, hnc, hm, fun _ => ⟨_, rfl, hlt, hS g hb hlt, fun j x hx => ?_⟩⟩, fun _ => ⟨g, rfl, hb, by simp [World.frozen?, hh]⟩⟩
    exact h.cells (g := g) rfl j _ (by rw [List.getElem?_map, hx]; rfl)

/-- No block is one of S. -/
def Empty : Nat → Prop := fun _ => False

/-- An operation whose guard has struck is as one that has none. -/
theorem wpList_unguard {P : Program} {ops : Array Oper} {rest : List Oper} {q : Oper} {u : Act} {w : World} {Q : Exit → Act → World → Prop} (hw : Region.wanted q (yielded ops u.tmps) = true)
    (h : wpList P ops Q ({ q with guard := none } :: rest) u w) : wpList P ops Q (q :: rest) u w := by
  have hw0 : Region.wanted ({ q with guard := none } : Oper) (yielded ops u.tmps) = true := by simp [Region.wanted]
  unfold wpList at h ⊢
  rw [if_pos hw]
  rw [if_pos hw0] at h
  exact h


/-- A row that was just made, with no bytes. -/
theorem own_made (w : World) (base : Nat) (h : base ≤ w.heap.size) : (w.alloc (.cells #[] 5)).ownsRow base 5 1 (.slice (some ⟨w.heap.size, 0, none⟩) 0 0) 0 (([] : List UInt8).map B8) :=
  World.ownsRow_made w #[] 0 h (by decide) rfl

/-- What grew by a row of the call's own: nothing else turned. -/
theorem below_grown {B : Nat} {a w w' : World} {row : Option Nat} (h : Below B a w) (hB : B ≤ w.heap.size) (g : w.grownBy w' row) (hr : ∀ k, row = some k → B ≤ k) : Below B a w' :=
  h.trans ((Only.of_grown (S := fun k => B ≤ k) g (fun k e _ => hr k e)).below hB (fun k hk h => by omega))

/-- Bytes of the call's own, at the head of a block that may have room behind them. -/
def OwnB (w : World) (g n cap : Nat) (zs : List UInt8) : Prop := zs.length = n ∧ n ≤ cap ∧ cap ≤ maxLen ∧ ∃ cur, Blk w g 5 cur ∧ cur.size = cap ∧ cur.toList.take n = zs.map B8

namespace OwnB
variable {w w' : World} {g n cap : Nat} {zs : List UInt8}
theorem of_row {base : Nat} {v : Value} (h : w.ownsRow base 5 1 v n (zs.map B8)) (hv : v ≠ .slice none 0 0) : ∃ g cap, v = .slice (some ⟨g, 0, none⟩) n cap ∧ base ≤ g ∧ OwnB w g n cap zs := by
  have hl : zs.length = n := by have := h.1; simpa using this
  rcases h.2 with ⟨rfl, rfl⟩ | ⟨g, cap, cur, rfl, hb, hh, hnc, hm, hs, ht⟩
  · exact absurd rfl hv
  · exact ⟨g, cap, rfl, hb, hl, hnc, hm, cur, hh, by simpa using hs, by simpa using ht⟩
theorem lt (h : OwnB w g n cap zs) : g < w.heap.size := by obtain ⟨_, _, _, cur, hb, _⟩ := h; exact hb.lt
theorem frozen (h : OwnB w g n cap zs) (i : Nat) : w.frozen? ⟨g, i, none⟩ = false := by obtain ⟨_, _, _, cur, hb, _⟩ := h; exact hb.frozen i
theorem cell (h : OwnB w g n cap zs) {i : Nat} {z : UInt8} (hz : zs[i]? = some z) : w.cell? ⟨g, i, none⟩ = some (B8 z) := by
  obtain ⟨hl, hn, _, cur, hb, hs, ht⟩ := h
  rw [hb.cell, ← Array.getElem?_toList]
  have hi : i < n := by have := (List.getElem?_eq_some_iff.1 hz).1; omega
  have := congrArg (fun l => l[i]?) ht
  simp only [List.getElem?_take, List.getElem?_map, hz, if_pos hi, Option.map_some] at this
  exact this
theorem set_ (h : OwnB w g n cap zs) (i : Nat) (z : UInt8) : OwnB (w.setCell ⟨g, i, none⟩ (B8 z)) g n cap (zs.set i z) := by
  obtain ⟨hl, hn, hc, cur, hb, hs, ht⟩ := h
  refine ⟨by simpa using hl, hn, hc, _, hb.set_ i (B8 z), by simpa using hs, ?_⟩
  rw [Array.toList_setIfInBounds, List.take_set, ht, List.map_set]
theorem of (h : OwnB w g n cap zs) (same : w'.heap[g]? = w.heap[g]?) : OwnB w' g n cap zs := by
  obtain ⟨hl, hn, hc, cur, hb, hs, ht⟩ := h
  exact ⟨hl, hn, hc, cur, hb.of same, hs, ht⟩
theorem bytes (h : OwnB w g n cap zs) (S : Nat → Prop) (hS : ¬ S g) : ByteSl w S (some ⟨g, 0, none⟩) n cap zs := by
  refine ⟨h.1, h.2.1, h.2.2.1, fun _ => ⟨_, rfl, h.lt, hS, fun j x hx => ?_⟩⟩
  have ha : (⟨g, 0, none⟩ : Addr).add j = ⟨g, j, none⟩ := by unfold Addr.add; split <;> simp_all
  rw [ha]
  exact h.cell hx
end OwnB

/-! ### copy: only the one block turns -/
theorem only_setRow (w : World) (g : Nat) (cs : Array Value) : Only (· = g) w (w.setRow g cs) :=
  ⟨rfl, rfl, rfl, by simp [World.setRow], fun k _ hk => setRow_other w g k cs hk⟩

section
variable {P : Program} {w : World} {ops : Array Oper} {rest : List Oper} {o : Oper} {a : Act} {Q : Exit → Act → World → Prop}
theorem wpList_copy_only (hgd : o.guard = none) (d s : Operand) (dT sT : TypeId) (ho : o.op = .call { callee := .builtin .copy, args := #[d, s], argTypes := #[dT, sT] })
    (elem : TypeId) (hu : P.underlying dT = some (.slice elem)) (hsz : (P.info? elem).map (·.size) = some 1) (dp sp : Option Addr) (dLen dCap sLen sCap : Nat) (hd : a.eval d = .slice dp dLen dCap) (hs : a.eval s = .slice sp sLen sCap)
    (g off : Nat) (cur : List Value) (t : TypeId) (hg : Blk w g t cur.toArray) (cs : List Value) (hn : cs.length = Nat.min sLen dLen)
    (hpos : 0 < cs.length → dp = some ⟨g, off, none⟩ ∧ ∃ ad, sp = some ad ∧ ∀ j v, cs[j]? = some v → w.cell? (ad.add j) = some v) (hfit : off + cs.length ≤ cur.length) (h1 : ∀ v ∈ cs, v.oneCell' = true)
    (h : ∀ w', Hid (Blk w' g t (splice cur off cs).toArray) → Only (· = g) w w' → wpList P ops Q rest (a.put o.dst (goInt cs.length)) w') : wpList P ops Q (o :: rest) a w := by
  by_cases h0 : cs.length = 0
  · obtain rfl : cs = [] := List.eq_nil_of_length_eq_zero h0
    refine wpList_copy_nothing hgd d s dT sT ho elem hu hsz dp sp dLen dCap sLen sCap hd hs (by simpa using hn.symm) ?_
    exact h w (show Blk w g t (splice cur off []).toArray by simpa [splice] using hg) (Only.refl _ _)
  · obtain ⟨rfl, ad, rfl, hsrc⟩ := hpos (by omega)
    refine wpList_copy_own hgd d s dT sT ho elem hu hsz g off dLen dCap ad sLen sCap hd hs cur.toArray t hg cs hn hsrc (by simpa using hfit) h1 ?_
    exact h _ (show w.setRow g _ |>.heap[g]? = _ by simpa [splice] using setRow_heap w g _ _ t _ hg) (only_setRow w g _)
end

theorem splice_map (bs xs : List UInt8) (o : Nat) : splice (bs.map B8) o (xs.map B8) = (splice bs o xs).map B8 := by
  simp [splice, List.map_take, List.map_drop]

/-! ### make with room; a row of the call's own, kept -/
theorem made_bytes (n : Nat) : madeCells #[.int .u8 0] n = cellsB (List.replicate n 0) := by
  apply Array.ext_getElem?
  intro i
  rw [cellsB_get, List.getElem?_replicate]
  by_cases h : i < n
  · simp [madeCells, h, Nat.mod_one]
    rfl
  · simp [madeCells, h]
theorem own_alloc {w : World} {base : Nat} {e : TypeId} {size : Nat} {v : Value} {n : Nat} {xs : List Value} (h : w.ownsRow base e size v n xs) (o : Obj) : (w.alloc o).ownsRow base e size v n xs :=
  h.kept (row := none) ⟨rfl, rfl, rfl, by simp, fun k hk _ => Below.heap_alloc w o k hk⟩ (by cases v.ownBlock <;> simp)
/-- A block of the call's own, read to where its bytes end. -/
theorem own_of_blk {w : World} {base g n cap : Nat} {cur : List UInt8} {xs : List UInt8} (h : Blk w g 5 (cellsB cur)) (hb : base ≤ g) (hl : cur.length = cap) (hn : n ≤ cap) (hc : cap ≤ maxLen) (hx : cur.take n = xs) :
    w.ownsRow base 5 1 (.slice (some ⟨g, 0, none⟩) n cap) n (xs.map B8) := by
  subst hx
  refine ⟨by simp; omega, Or.inr ⟨g, cap, _, rfl, hb, h, hn, hc, by simp [cellsB]; omega, by simp [cellsB, List.map_take]⟩⟩

theorem own_base {w : World} {base base' : Nat} {e : TypeId} {size : Nat} {v : Value} {n : Nat} {xs : List Value} (h : w.ownsRow base e size v n xs) (hb : base' ≤ base) : w.ownsRow base' e size v n xs := by
  refine ⟨h.1, ?_⟩
  rcases h.2 with h | ⟨g, cap, cur, h1, h2, h3⟩
  · exact Or.inl h
  · exact Or.inr ⟨g, cap, cur, h1, Nat.le_trans hb h2, h3⟩

/-- A row made since base stays where only blocks that aren't such have turned. -/
theorem own_only {w w' : World} {base : Nat} {e : TypeId} {size : Nat} {v : Value} {n : Nat} {xs : List Value} {S : Nat → Prop} (h : w.ownsRow base e size v n xs) (k : Only S w w') (hS : ∀ q, base ≤ q → q < w.heap.size → ¬ S q) : w'.ownsRow base e size v n xs := by
  refine ⟨h.1, ?_⟩
  rcases h.2 with h | ⟨g, cap, cur, h1, h2, h3, h4⟩
  · exact Or.inl h
  · have hlt : g < w.heap.size := (Array.getElem?_eq_some_iff.1 h3).1
    exact Or.inr ⟨g, cap, cur, h1, h2, (k.block g hlt (hS g h2 hlt)).trans h3, h4⟩

theorem ByteSl.take_ {w : World} {S : Nat → Prop} {A : Option Addr} {n cap : Nat} {xs : List UInt8} (h : ByteSl w S A n cap xs) (k : Nat) (hk : k ≤ n) : ByteSl w S A k cap (xs.take k) := by
  refine ⟨by rw [List.length_take, h.1]; omega, Nat.le_trans hk h.2.1, h.2.2.1, fun h0 => ?_⟩
  obtain ⟨ad, e, hb, hs, hc⟩ := h.2.2.2 (by omega)
  refine ⟨ad, e, hb, hs, fun j x hx => ?_⟩
  rw [List.getElem?_take] at hx
  by_cases hj : j < k
  · rw [if_pos hj] at hx
    exact hc j x hx
  · rw [if_neg hj] at hx
    cases hx

theorem strB_cat (xs ys : List UInt8) : strB xs ++ strB ys = strB (xs ++ ys) := by
  apply ByteArray.ext
  simp [strB]

end Go.Proofs.YtkcjgcogoicffaaDoor
