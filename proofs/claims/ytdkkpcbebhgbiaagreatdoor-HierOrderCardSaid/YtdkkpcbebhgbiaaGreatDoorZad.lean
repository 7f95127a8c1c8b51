/- Words for bytes in memory, for every layer: a block of bytes, bytes that the call laid or owns, bytes as a string, append of bytes. Nothing of the program but type numbers. -/
import Derived.Test.YtdkkpcbebhgbiaaGreatDoorZac
import Derived.Laws.BytesArg
import Derived.Maps.AppendAt
import Derived.Laws.AppendOwnNone
import Derived.Lib.SmallJoins
import Derived.Laws.CopyOwn
import Derived.Laws.MakeOwn
import Derived.Outline
import Derived.Laws.Rows
import Derived.Test.YtdkkpcbebhgbiaaGreatDoorZaa
import Derived.Test.YtdkkpcbebhgbiaaGreatDoorZab
namespace Go.Proofs.YtdkkpcbebhgbiaaGreatDoor
set_option maxRecDepth 100000
open Go.RowKit

theorem Tryz.infoU8 : (Tryz.prog.info? 5).map (fun i => (i.zero, i.size, i.bytes)) = some (some (.int .u8 0), 1, 1) := by kernel_rfl
theorem Tryz.sizeU8 : (Tryz.prog.info? 5).map (·.size) = some 1 := by kernel_rfl

theorem take_one {α : Type} (xs : List α) (k : Nat) (x : α) (h : xs[k]? = some x) : xs.take (k + 1) = xs.take k ++ [x] := by
  obtain ⟨hk, e⟩ := List.getElem?_eq_some_iff.1 h
  rw [List.take_succ_eq_append_getElem hk, e]

/-- The bytes of a block as its cells. -/
def cellsB (bs : List UInt8) : Array Value := (bs.map B8).toArray

theorem cellsB_get (bs : List UInt8) (i : Nat) : (cellsB bs)[i]? = bs[i]?.map B8 := by simp [cellsB]
theorem cellsB_set (bs : List UInt8) (i : Nat) (v : UInt8) : (cellsB bs).setIfInBounds i (B8 v) = cellsB (bs.set i v) := by
  simp [cellsB, List.map_set]
theorem cellsB_len (bs : List UInt8) : (cellsB bs).size = bs.length := by simp [cellsB]

/-- The string that bytes make. -/
def strB (xs : List UInt8) : ByteArray := ⟨xs.toArray⟩

theorem strB_toList (xs : List UInt8) : (strB xs).toList = xs := by simp [strB]

theorem nums_back (xs : List UInt8) : (xs.map fun x => ((x.toNat : Int))).map (fun n => UInt8.ofNat n.toNat) = xs := by
  rw [List.map_map]
  have : (fun n : Int => UInt8.ofNat n.toNat) ∘ (fun x : UInt8 => (x.toNat : Int)) = id := by
    funext x
    simp
  rw [this, List.map_id]

theorem conv_bytes {w : World} {S : Nat → Prop} {A : Option Addr} {n cap : Nat} {xs : List UInt8} (h : ByteSl w S A n cap xs) :
    (convert 22 9 (.slice A n cap)).run Tryz.prog w = .ok (.string (strB xs)) w := by
  rcases Nat.eq_zero_or_pos n with h0 | h0
  · subst h0
    have hx : xs = [] := List.eq_nil_of_length_eq_zero h.1
    subst hx
    rcases A with _ | ad
    · rw [run_convert_bytes_nil w 22 5 Tryz.underlying22 Tryz.underlying5 0 cap 9 Tryz.underlying9]
      rfl
    · rw [run_convert_bytes_string w 22 9 5 _ 0 cap Tryz.underlying22 Tryz.underlying5 Tryz.underlying9, run_bytesToString w ad 0 cap [] (by simpa using run_loadCells_list (P := Tryz.prog) w ad [] (by simp))]
      rfl
  · obtain ⟨ad, rfl, _, _, hc⟩ := h.2.2.2 h0
    have hl : (loadCells ad n).run Tryz.prog w = .ok ((xs.map fun x => (x.toNat : Int)).map (Value.int .u8)).toArray w := by
      have := run_loadCells_list (P := Tryz.prog) w ad ((xs.map fun x => (x.toNat : Int)).map (Value.int .u8)) (fun j v hj => by
        rw [List.getElem?_map, List.getElem?_map] at hj
        rcases hx : xs[j]? with _ | x
        · rw [hx] at hj; simp at hj
        · rw [hx] at hj
          simp at hj
          rw [hc j x hx, ← hj]
          rfl)
      simpa [h.1] using this
    rw [run_convert_bytes_string w 22 9 5 _ n cap Tryz.underlying22 Tryz.underlying5 Tryz.underlying9, run_bytesToString w ad n cap _ hl, foldl_push_bytes, nums_back]
    simp [strB, ByteArray.empty, ByteArray.emptyWithCapacity]
    rfl

/-- Bytes that were just laid. -/
theorem ByteSl.lit (w : World) (S : Nat → Prop) (xs : List UInt8) (n : Nat) (hn : xs.length = n) (hS : ¬ S w.heap.size) (h : n ≤ maxLen) :
    ByteSl (w.alloc (.cells (cellsB xs) 5)) S (some ⟨w.heap.size, 0, none⟩) n n xs := by
  refine ⟨hn, Nat.le_refl _, h, fun _ => ⟨_, rfl, by simp, hS, fun j x hx => ?_⟩⟩
  have ha : (⟨w.heap.size, 0, none⟩ : Addr).add j = ⟨w.heap.size, j, none⟩ := by unfold Addr.add; split <;> simp_all
  rw [ha, (Blk.new w 5 (cellsB xs)).cell, cellsB_get, hx]
  rfl

/-- Bytes of a constant text: the block bears the run-time's mark. -/
theorem ByteSl.marked (w : World) (S : Nat → Prop) (xs : List UInt8) (n : Nat) (fr : Nat × Nat) (hn : xs.length = n) (hS : ¬ S w.heap.size) (h : n ≤ maxLen) :
    ByteSl (w.alloc (.cells (cellsB xs) 5 fr)) S (some ⟨w.heap.size, 0, none⟩) n n xs := by
  refine ⟨hn, Nat.le_refl _, h, fun _ => ⟨_, rfl, by simp, hS, fun j x hx => ?_⟩⟩
  have ha : (⟨w.heap.size, 0, none⟩ : Addr).add j = ⟨w.heap.size, j, none⟩ := by unfold Addr.add; split <;> simp_all
  have hg : (w.alloc (.cells (cellsB xs) 5 fr)).heap[w.heap.size]? = some (.cells (cellsB xs) 5 fr) := by
    show (w.heap.push _)[w.heap.size]? = _
    rw [Array.getElem?_push_size]
  have hc : (w.alloc (.cells (cellsB xs) 5 fr)).cell? ⟨w.heap.size, j, none⟩ = (cellsB xs)[j]? := by simp only [World.cell?, hg]; rfl
  rw [ha, hc, cellsB_get, hx]
  rfl

/-- What an append or a read gave: bytes of the law's own. -/
theorem ByteSl.of_own {w : World} {S : Nat → Prop} {base : Nat} {v : Value} {n : Nat} {xs : List UInt8} (h : w.ownsRow base 5 1 v n (xs.map B8)) (hS : ∀ k, base ≤ k → k < w.heap.size → ¬ S k) :
    ∃ A cap, v = .slice A n cap ∧ ByteSl w S A n cap xs ∧ (0 < n → ∃ g, A = some ⟨g, 0, none⟩ ∧ base ≤ g ∧ w.frozen? ⟨g, 0, none⟩ = false) := by
  have hl : xs.length = n := by have := h.1; simpa using this
  rcases h.2 with ⟨rfl, rfl⟩ | ⟨g, cap, cur, rfl, hb, hh, hnc, hm, hs, ht⟩
  · exact ⟨none, 0, rfl, ⟨hl, Nat.le_refl _, by simp [maxLen], fun h0 => absurd h0 (by omega)⟩, fun h0 => absurd h0 (by omega)⟩
  · have hlt : g < w.heap.size := (Array.getElem?_eq_some_iff.1 hh).1
    refine ⟨_, cap, rfl, ⟨hl, hnc, hm, fun _ => ⟨_, rfl, hlt, hS g hb hlt, fun j x hx => ?_⟩⟩, fun _ => ⟨g, rfl, hb, by simp [World.frozen?, hh]⟩⟩
    exact h.cells (g := g) rfl j _ (by rw [List.getElem?_map, hx]; rfl)

/-- No block is one of S. -/
def Empty : Nat → Prop := fun _ => False

/-- An operation whose guard has struck is as one that has none. -/
theorem wpList_unguard {P : Program} {ops : Array Oper} {rest : List Oper} {q : Oper} {u : Act} {w : World} {Q : Exit → Act → World → Prop} (hw : Region.wanted q (yielded ops u.tmps) = true)
    (h : wpList P ops Q ({ q with guard := none } :: rest) u w) : wpList P ops Q (q :: rest) u w := by
  have hw0 : Region.wanted ({ q with guard := none } : Oper) (yielded ops u.tmps) = true := by simp [Region.wanted]
  unfold wpList at h ⊢
  rw [if_pos hw]
  rw [if_pos hw0] at h
  exact h

/-- append of bytes that lie somewhere (a nil slice, too) onto a row of the call's own. -/
theorem wpList_append_bytes {ops : Array Oper} {rest : List Oper} {q : Oper} {u : Act} {w : World} {Q : Exit → Act → World → Prop} (hgd : q.guard = none) (s x : Operand)
    (hq : q.op = .call { callee := .builtin .append, args := #[s, x], argTypes := #[22, 22] })
    (base : Nat) (v : Value) (hs : u.eval s = v) (k : Nat) (zs : List UInt8) (hown : w.ownsRow base 5 1 v k (zs.map B8)) (A : Option Addr) (m c : Nat) (ys : List UInt8) (S : Nat → Prop)
    (hx : u.eval x = .slice A m c) (hB : ByteSl w S A m c ys) (hn : A = none → m = 0 ∧ c = 0) (hm : k + m ≤ 16777216) (hbase : base ≤ w.heap.size)
    (h : ∀ v' w', w'.ownsRow base 5 1 v' (k + m) ((zs ++ ys).map B8) → w.grownBy w' v.ownBlock → (v' = .slice none 0 0 → v = .slice none 0 0) → wpList Tryz.prog ops Q rest (u.put q.dst v') w') : wpList Tryz.prog ops Q (q :: rest) u w := by
  obtain ⟨i0, hi, hz0, hz1, hz2⟩ := info_parts Tryz.infoU8
  rcases A with _ | ad
  · obtain ⟨rfl, rfl⟩ := hn rfl
    have hys : ys = [] := List.eq_nil_of_length_eq_zero hB.1
    subst hys
    exact wpList_append_own_none hgd s x 22 hq base 5 i0 1 Tryz.underlying22 hi v k (zs.map B8) hs hown hx (h v w (by simpa using hown) (World.grownBy.refl w _) id)
  · refine wpList_append_own_at _ hgd s x 22 hq base 5 i0 (.int .u8 0) 1 1 Tryz.underlying22 hi hz0 hz1 hz2 rfl (by decide) v k (zs.map B8) hs hown ad m c (ys.map B8) hx (by simp [hB.1]) ?_ ?_ (by unfold maxLen; omega) (by omega) hbase ?_
    · intro j y hj
      rw [List.getElem?_map] at hj
      cases hj2 : ys[j]? with
      | none => rw [hj2] at hj; cases hj
      | some z =>
        have hjm : j < m := by have := (List.getElem?_eq_some_iff.1 hj2).1; have := hB.1; omega
        obtain ⟨ad', he, _, _, hc⟩ := hB.2.2.2 (by omega)
        cases he
        rw [hj2] at hj
        rw [hc j z hj2]
        simpa using hj
    · intro y hy
      obtain ⟨z, _, rfl⟩ := List.mem_map.1 hy
      rfl
    · intro v' w' h1 h2 h3 _
      exact h v' w' (by simpa using h1) h2 (fun e => (h3.1 e).1)

/-- A row that was just made, with no bytes. -/
theorem own_made (w : World) (base : Nat) (h : base ≤ w.heap.size) : (w.alloc (.cells #[] 5)).ownsRow base 5 1 (.slice (some ⟨w.heap.size, 0, none⟩) 0 0) 0 (([] : List UInt8).map B8) :=
  World.ownsRow_made w #[] 0 h (by decide) rfl

/-- What grew by a row of the call's own: nothing else turned. -/
theorem below_grown {B : Nat} {a w w' : World} {row : Option Nat} (h : Below B a w) (hB : B ≤ w.heap.size) (g : w.grownBy w' row) (hr : ∀ k, row = some k → B ≤ k) : Below B a w' :=
  h.trans ((Only.of_grown (S := fun k => B ≤ k) g (fun k e _ => hr k e)).below hB (fun k hk h => by omega))

/-- Bytes of the call's own, at the head of a block that may have room behind them. -/
def OwnB (w : World) (g n cap : Nat) (zs : List UInt8) : Prop := zs.length = n ∧ n ≤ cap ∧ cap ≤ maxLen ∧ ∃ cur, Blk w g 5 cur ∧ cur.size = cap ∧ cur.toList.take n = zs.map B8

namespace OwnB
variable {w w' : World} {g n cap : Nat} {zs : List UInt8}
theorem of_row {base : Nat} {v : Value} (h : w.ownsRow base 5 1 v n (zs.map B8)) (hv : v ≠ .slice none 0 0) : ∃ g cap, v = .slice (some ⟨g, 0, none⟩) n cap ∧ base ≤ g ∧ OwnB w g n cap zs := by
  have hl : zs.length = n := by have := h.1; simpa using this
  rcases h.2 with ⟨rfl, rfl⟩ | ⟨g, cap, cur, rfl, hb, hh, hnc, hm, hs, ht⟩
  · exact absurd rfl hv
  · exact ⟨g, cap, rfl, hb, hl, hnc, hm, cur, hh, by simpa using hs, by simpa using ht⟩
theorem lt (h : OwnB w g n cap zs) : g < w.heap.size := by obtain ⟨_, _, _, cur, hb, _⟩ := h; exact hb.lt
theorem frozen (h : OwnB w g n cap zs) (i : Nat) : w.frozen? ⟨g, i, none⟩ = false := by obtain ⟨_, _, _, cur, hb, _⟩ := h; exact hb.frozen i
theorem cell (h : OwnB w g n cap zs) {i : Nat} {z : UInt8} (hz : zs[i]? = some z) : w.cell? ⟨g, i, none⟩ = some (B8 z) := by
  obtain ⟨hl, hn, _, cur, hb, hs, ht⟩ := h
  rw [hb.cell, ← Array.getElem?_toList]
  have hi : i < n := by have := (List.getElem?_eq_some_iff.1 hz).1; omega
  have := congrArg (fun l => l[i]?) ht
  simp only [List.getElem?_take, List.getElem?_map, hz, if_pos hi, Option.map_some] at this
  exact this
theorem set_ (h : OwnB w g n cap zs) (i : Nat) (z : UInt8) : OwnB (w.setCell ⟨g, i, none⟩ (B8 z)) g n cap (zs.set i z) := by
  obtain ⟨hl, hn, hc, cur, hb, hs, ht⟩ := h
  refine ⟨by simpa using hl, hn, hc, _, hb.set_ i (B8 z), by simpa using hs, ?_⟩
  rw [Array.toList_setIfInBounds, List.take_set, ht, List.map_set]
theorem of (h : OwnB w g n cap zs) (same : w'.heap[g]? = w.heap[g]?) : OwnB w' g n cap zs := by
  obtain ⟨hl, hn, hc, cur, hb, hs, ht⟩ := h
  exact ⟨hl, hn, hc, cur, hb.of same, hs, ht⟩
theorem bytes (h : OwnB w g n cap zs) (S : Nat → Prop) (hS : ¬ S g) : ByteSl w S (some ⟨g, 0, none⟩) n cap zs := by
  refine ⟨h.1, h.2.1, h.2.2.1, fun _ => ⟨_, rfl, h.lt, hS, fun j x hx => ?_⟩⟩
  have ha : (⟨g, 0, none⟩ : Addr).add j = ⟨g, j, none⟩ := by unfold Addr.add; split <;> simp_all
  rw [ha]
  exact h.cell hx
end OwnB

/-! ### copy: only the one block turns -/
theorem only_setRow (w : World) (g : Nat) (cs : Array Value) : Only (· = g) w (w.setRow g cs) :=
  ⟨rfl, rfl, rfl, by simp [World.setRow], fun k _ hk => setRow_other w g k cs hk⟩

section
variable {P : Program} {w : World} {ops : Array Oper} {rest : List Oper} {o : Oper} {a : Act} {Q : Exit → Act → World → Prop}
theorem wpList_copy_only (hgd : o.guard = none) (d s : Operand) (dT sT : TypeId) (ho : o.op = .call { callee := .builtin .copy, args := #[d, s], argTypes := #[dT, sT] })
    (elem : TypeId) (hu : P.underlying dT = some (.slice elem)) (hsz : (P.info? elem).map (·.size) = some 1) (dp sp : Option Addr) (dLen dCap sLen sCap : Nat) (hd : a.eval d = .slice dp dLen dCap) (hs : a.eval s = .slice sp sLen sCap)
    (g off : Nat) (cur : List Value) (t : TypeId) (hg : Blk w g t cur.toArray) (cs : List Value) (hn : cs.length = Nat.min sLen dLen)
    (hpos : 0 < cs.length → dp = some ⟨g, off, none⟩ ∧ ∃ ad, sp = some ad ∧ ∀ j v, cs[j]? = some v → w.cell? (ad.add j) = some v) (hfit : off + cs.length ≤ cur.length) (h1 : ∀ v ∈ cs, v.oneCell' = true)
    (h : ∀ w', Hid (Blk w' g t (splice cur off cs).toArray) → Only (· = g) w w' → wpList P ops Q rest (a.put o.dst (goInt cs.length)) w') : wpList P ops Q (o :: rest) a w := by
  by_cases h0 : cs.length = 0
  · obtain rfl : cs = [] := List.eq_nil_of_length_eq_zero h0
    refine wpList_copy_nothing hgd d s dT sT ho elem hu hsz dp sp dLen dCap sLen sCap hd hs (by simpa using hn.symm) ?_
    exact h w (show Blk w g t (splice cur off []).toArray by simpa [splice] using hg) (Only.refl _ _)
  · obtain ⟨rfl, ad, rfl, hsrc⟩ := hpos (by omega)
    refine wpList_copy_own hgd d s dT sT ho elem hu hsz g off dLen dCap ad sLen sCap hd hs cur.toArray t hg cs hn hsrc (by simpa using hfit) h1 ?_
    exact h _ (show w.setRow g _ |>.heap[g]? = _ by simpa [splice] using setRow_heap w g _ _ t _ hg) (only_setRow w g _)
end

theorem splice_map (bs xs : List UInt8) (o : Nat) : splice (bs.map B8) o (xs.map B8) = (splice bs o xs).map B8 := by
  simp [splice, List.map_take, List.map_drop]

/-! ### make with room; a row of the call's own, kept -/
theorem made_bytes (n : Nat) : madeCells #[.int .u8 0] n = cellsB (List.replicate n 0) := by
  apply Array.ext_getElem?
  intro i
  rw [cellsB_get, List.getElem?_replicate]
  by_cases h : i < n
  · simp [madeCells, h, Nat.mod_one]
    rfl
  · simp [madeCells, h]
theorem run_make_cap (n m : Nat) (h : n ≤ m) (hm : m ≤ 281474976710656) (W : World) :
    (Instr.makeSlice 22 (.int .i64 (n : Int)) (.int .i64 (m : Int))).run Tryz.prog W = .ok (.slice (some ⟨W.heap.size, 0, none⟩) n m) (W.alloc (.cells (cellsB (List.replicate m 0)) 5)) := by
  obtain ⟨i0, hi, hz0, hz1, hz2⟩ := info_parts Tryz.infoU8
  have hr := run_make (P := Tryz.prog) W 22 5 i0 (.int .u8 0) Tryz.underlying22 hi hz0 .i64 .i64 n m (by omega) (by omega) (by rw [hz2]; omega) (by omega)
  simp only [Int.toNat_natCast, hz1, Nat.mul_one] at hr
  rw [← made_bytes]
  exact hr
theorem own_alloc {w : World} {base : Nat} {e : TypeId} {size : Nat} {v : Value} {n : Nat} {xs : List Value} (h : w.ownsRow base e size v n xs) (o : Obj) : (w.alloc o).ownsRow base e size v n xs :=
  h.kept (row := none) ⟨rfl, rfl, rfl, by simp, fun k hk _ => Below.heap_alloc w o k hk⟩ (by cases v.ownBlock <;> simp)
/-- A block of the call's own, read to where its bytes end. -/
theorem own_of_blk {w : World} {base g n cap : Nat} {cur : List UInt8} {xs : List UInt8} (h : Blk w g 5 (cellsB cur)) (hb : base ≤ g) (hl : cur.length = cap) (hn : n ≤ cap) (hc : cap ≤ maxLen) (hx : cur.take n = xs) :
    w.ownsRow base 5 1 (.slice (some ⟨g, 0, none⟩) n cap) n (xs.map B8) := by
  subst hx
  refine ⟨by simp; omega, Or.inr ⟨g, cap, _, rfl, hb, h, hn, hc, by simp [cellsB]; omega, by simp [cellsB, List.map_take]⟩⟩

theorem own_base {w : World} {base base' : Nat} {e : TypeId} {size : Nat} {v : Value} {n : Nat} {xs : List Value} (h : w.ownsRow base e size v n xs) (hb : base' ≤ base) : w.ownsRow base' e size v n xs := by
  refine ⟨h.1, ?_⟩
  rcases h.2 with h | ⟨g, cap, cur, h1, h2, h3⟩
  · exact Or.inl h
  · exact Or.inr ⟨g, cap, cur, h1, Nat.le_trans hb h2, h3⟩

/-- A row made since base stays where only blocks that aren't such have turned. -/
theorem own_only {w w' : World} {base : Nat} {e : TypeId} {size : Nat} {v : Value} {n : Nat} {xs : List Value} {S : Nat → Prop} (h : w.ownsRow base e size v n xs) (k : Only S w w') (hS : ∀ q, base ≤ q → q < w.heap.size → ¬ S q) : w'.ownsRow base e size v n xs := by
  refine ⟨h.1, ?_⟩
  rcases h.2 with h | ⟨g, cap, cur, h1, h2, h3, h4⟩
  · exact Or.inl h
  · have hlt : g < w.heap.size := (Array.getElem?_eq_some_iff.1 h3).1
    exact Or.inr ⟨g, cap, cur, h1, h2, (k.block g hlt (hS g h2 hlt)).trans h3, h4⟩

theorem ByteSl.take_ {w : World} {S : Nat → Prop} {A : Option Addr} {n cap : Nat} {xs : List UInt8} (h : ByteSl w S A n cap xs) (k : Nat) (hk : k ≤ n) : ByteSl w S A k cap (xs.take k) := by
  refine ⟨by rw [List.length_take, h.1]; omega, Nat.le_trans hk h.2.1, h.2.2.1, fun h0 => ?_⟩
  obtain ⟨ad, e, hb, hs, hc⟩ := h.2.2.2 (by omega)
  refine ⟨ad, e, hb, hs, fun j x hx => ?_⟩
  rw [List.getElem?_take] at hx
  by_cases hj : j < k
  · rw [if_pos hj] at hx
    exact hc j x hx
  · rw [if_neg hj] at hx
    cases hx

theorem strB_cat (xs ys : List UInt8) : strB xs ++ strB ys = strB (xs ++ ys) := by
  apply ByteArray.ext
  simp [strB]

end Go.Proofs.YtdkkpcbebhgbiaaGreatDoor

/- What a call leaves alone by type: blocks whose type isn't in E stay. Plain lemmas. -/
namespace Go.Proofs.YtdkkpcbebhgbiaaGreatDoor
set_option maxRecDepth 100000
open Go.RowKit

/-- Blocks of all other types stay. -/
def Keep (E : TypeId → Prop) (w w' : World) : Prop := ∀ q t cs, Blk w q t cs → ¬ E t → Blk w' q t cs
theorem Keep.trans {E : TypeId → Prop} {a b c : World} (h : Keep E a b) (k : Keep E b c) : Keep E a c := fun q t cs h1 h2 => k q t cs (h q t cs h1 h2) h2
theorem Keep.mono {E F : TypeId → Prop} {a b : World} (h : Keep E a b) (k : ∀ t, E t → F t) : Keep F a b := fun q t cs h1 h2 => h q t cs h1 (fun h3 => h2 (k t h3))
theorem Keep.of_empty {E : TypeId → Prop} {a b : World} (h : Only Empty a b) : Keep E a b := fun _ _ _ h1 _ => h.blk h1 (fun h => h)
theorem Keep.of_block {E : TypeId → Prop} {a b : World} {q : Nat} {t : TypeId} {cs : Array Value} (hB : Blk a q t cs) (hE : E t) (h : Only (· = q) a b) : Keep E a b := fun _ _ _ h1 h2 =>
  h.blk h1 (fun e => Blk.ne_ h1 hB (fun e2 => h2 (e2 ▸ hE)) e)

end Go.Proofs.YtdkkpcbebhgbiaaGreatDoor

/- Layer 13's table of spans as plain data; each byte's form; how the table lies in memory. -/
namespace Go.Proofs.YtdkkpcbebhgbiaaGreatDoor
open Go.RowKit

/-- The spans: first, last, form. -/
def spanL : List (Nat × Nat × Nat) := [(0, 10, 1), (16, 16, 3), (17, 17, 4), (18, 18, 5), (20, 20, 6), (21, 22, 2), (25, 25, 2), (46, 46, 1), (50, 51, 1), (54, 55, 2), (58, 58, 2), (79, 79, 1), (83, 84, 1), (87, 87, 1), (89, 89, 1), (95, 97, 1), (100, 101, 1), (104, 105, 1), (108, 109, 1), (112, 113, 1), (116, 117, 1), (120, 131, 1), (132, 132, 8), (133, 133, 1), (136, 136, 1), (145, 145, 1), (148, 148, 1), (153, 167, 7), (172, 173, 1), (176, 177, 1), (178, 182, 6), (184, 184, 6), (187, 187, 6), (188, 188, 9), (189, 189, 6), (190, 191, 1), (192, 193, 6), (198, 199, 7)]
def spansA : Array Value := (spanL.flatMap fun s => [.int .u8 (s.1 : Int), .int .u8 (s.2.1 : Int), .int .u8 (s.2.2 : Int)]).toArray
def spanV (k : Nat) : Value := .agg #[.int .u8 ((spanL.getD k (0, 0, 0)).1 : Int), .int .u8 ((spanL.getD k (0, 0, 0)).2.1 : Int), .int .u8 ((spanL.getD k (0, 0, 0)).2.2 : Int)]
/-- The shapes: A's size, whether it has a sign, B's. -/
def shapeL : List (Nat × Bool × Nat × Bool) := [(0, false, 0, false), (0, false, 0, false), (1, false, 0, false), (1, true, 0, false), (2, true, 0, false), (1, false, 0, false), (2, false, 0, false), (2, true, 0, false), (1, false, 1, true), (1, false, 0, false)]
def shapesA : Array Value := (shapeL.flatMap fun s => [.int .i64 (s.1 : Int), .bool s.2.1, .int .i64 (s.2.2.1 : Int), .bool s.2.2.2]).toArray
def shapeF (f : Nat) : Nat × Bool × Nat × Bool := shapeL.getD f (0, false, 0, false)

/-- So many of a span's operations laid. -/
def fillS (T : List UInt8) (a c : Nat) : Nat → List UInt8
  | 0 => T
  | i + 1 => (fillS T a c i).set (a + i) (UInt8.ofNat c)
/-- So many spans laid. -/
def fillL : Nat → List UInt8
  | 0 => List.replicate 256 0
  | k + 1 => fillS (fillL k) (spanL.getD k (0, 0, 0)).1 (spanL.getD k (0, 0, 0)).2.2 ((spanL.getD k (0, 0, 0)).2.1 - (spanL.getD k (0, 0, 0)).1 + 1)
def formsL : List UInt8 := fillL 38
/-- A byte's form. -/
def formN (x : Nat) : Nat := (formsL.getD x 0).toNat

theorem fillS_len (T : List UInt8) (a c : Nat) : ∀ i, (fillS T a c i).length = T.length
  | 0 => rfl
  | i + 1 => by simp [fillS, fillS_len T a c i]
theorem fillL_len : ∀ k, (fillL k).length = 256
  | 0 => List.length_replicate
  | k + 1 => by simp [fillL, fillS_len, fillL_len k]
theorem formsL_len : formsL.length = 256 := fillL_len 38
theorem formsL_get (x : Nat) (h : x < 256) : formsL[x]? = some (UInt8.ofNat (formN x)) := by
  have hl : x < formsL.length := by rw [formsL_len]; exact h
  rw [List.getElem?_eq_getElem hl]
  congr 1
  unfold formN
  simp [List.getD, hl]
/-- No form is greater than 9. -/
theorem formN_le (x : Nat) : formN x ≤ 9 := by
  by_cases h : x < 256
  · have hall : ((List.range 256).all fun x => decide (formN x ≤ 9)) = true := by kernel_rfl
    exact of_decide_eq_true (List.all_eq_true.1 hall x (List.mem_range.2 h))
  · have hn : formsL[x]? = none := List.getElem?_eq_none (by rw [formsL_len]; omega)
    unfold formN
    simp [List.getD, hn]
theorem span_bd (k : Nat) (h : k < 38) : (spanL.getD k (0, 0, 0)).1 ≤ (spanL.getD k (0, 0, 0)).2.1 ∧ (spanL.getD k (0, 0, 0)).2.1 < 200 ∧ (spanL.getD k (0, 0, 0)).2.2 ≤ 9 := by
  have hall : ((List.range 38).all fun k => decide ((spanL.getD k (0, 0, 0)).1 ≤ (spanL.getD k (0, 0, 0)).2.1 ∧ (spanL.getD k (0, 0, 0)).2.1 < 200 ∧ (spanL.getD k (0, 0, 0)).2.2 ≤ 9)) = true := by kernel_rfl
  exact of_decide_eq_true (List.all_eq_true.1 hall k (List.mem_range.2 h))

set_option maxRecDepth 100000 in
theorem span_index : ∀ k : Nat, k < 38 → ∀ w, (Instr.index 232 (.agg spansA) (.int .i64 (k : Int))).run Tryz.prog w = .ok (spanV k) w
  | 0, _, _ => by kernel_rfl
  | 1, _, _ => by kernel_rfl
  | 2, _, _ => by kernel_rfl
  | 3, _, _ => by kernel_rfl
  | 4, _, _ => by kernel_rfl
  | 5, _, _ => by kernel_rfl
  | 6, _, _ => by kernel_rfl
  | 7, _, _ => by kernel_rfl
  | 8, _, _ => by kernel_rfl
  | 9, _, _ => by kernel_rfl
  | 10, _, _ => by kernel_rfl
  | 11, _, _ => by kernel_rfl
  | 12, _, _ => by kernel_rfl
  | 13, _, _ => by kernel_rfl
  | 14, _, _ => by kernel_rfl
  | 15, _, _ => by kernel_rfl
  | 16, _, _ => by kernel_rfl
  | 17, _, _ => by kernel_rfl
  | 18, _, _ => by kernel_rfl
  | 19, _, _ => by kernel_rfl
  | 20, _, _ => by kernel_rfl
  | 21, _, _ => by kernel_rfl
  | 22, _, _ => by kernel_rfl
  | 23, _, _ => by kernel_rfl
  | 24, _, _ => by kernel_rfl
  | 25, _, _ => by kernel_rfl
  | 26, _, _ => by kernel_rfl
  | 27, _, _ => by kernel_rfl
  | 28, _, _ => by kernel_rfl
  | 29, _, _ => by kernel_rfl
  | 30, _, _ => by kernel_rfl
  | 31, _, _ => by kernel_rfl
  | 32, _, _ => by kernel_rfl
  | 33, _, _ => by kernel_rfl
  | 34, _, _ => by kernel_rfl
  | 35, _, _ => by kernel_rfl
  | 36, _, _ => by kernel_rfl
  | 37, _, _ => by kernel_rfl
  | k + 38, h, _ => absurd h (by omega)

/-- The program's table of spans lies as it was laid. -/
def Spans (w : World) : Prop := ∃ t fr, w.heap[0]? = some (.cells spansA t fr)
theorem Spans.lt {w : World} (h : Spans w) : 0 < w.heap.size := by
  obtain ⟨t, fr, e⟩ := h
  exact (Array.getElem?_eq_some_iff.1 e).1
theorem Spans.below {w w' : World} (h : Spans w) (k : Below w.heap.size w w') : Spans w' := by
  obtain ⟨t, fr, e⟩ := h
  exact ⟨t, fr, (k.block _ (Array.getElem?_eq_some_iff.1 e).1).trans e⟩

/-- The forms of all bytes lie in block g. -/
def FormsAt (w : World) (g : Nat) : Prop := Blk w g 204 (cellsB formsL)
theorem FormsAt.cell {w : World} {g : Nat} (h : FormsAt w g) (x : Nat) (hx : x < 256) : w.cell? ⟨g, x, none⟩ = some (.int .u8 (formN x : Int)) := by
  rw [Blk.cell h, cellsB_get, formsL_get x hx]
  have := formN_le x
  show some (B8 _) = _
  unfold B8
  congr 2
  rw [UInt8.toNat_ofNat']
  omega

end Go.Proofs.YtdkkpcbebhgbiaaGreatDoor

/- Codes in shape (layer 18), as plain data: what Check, Nexts, MapAt, Ends answer; what follows of a code in shape. Nothing of the program. -/
namespace Go.Proofs.YtdkkpcbebhgbiaaGreatDoor
set_option maxRecDepth 100000
open Go.RowKit

/-- Nothing goes on behind it. -/
def endsB (o : UInt8) : Bool := o == 167 || o == 172 || o == 173 || o == 176 || o == 177 || o == 191
/-- Is a place one of n? -/
def inPl (at_ : Int) (n : Nat) : Bool := decide (0 ≤ at_) && decide (at_ < (n : Int))
def branchB (o : UInt8) : Bool := formN o.toNat == 7
def longB (o : UInt8) : Bool := o == 22 || o == 55
def inI (a n : Int) : Bool := decide (0 ≤ a) && decide (a < n)
/-- May an instruction be in a code with so many locals? -/
def rightB (x : InD) (locals : Int) : Bool :=
  if formN x.op.toNat = 0 then false
  else if formN x.op.toNat = 2 ∨ formN x.op.toNat = 8 then inI x.n locals && (!longB x.op || inI (x.n + 1) locals)
  else true
def endB (code : List InD) : Bool := match code.getLast? with | none => false | some x => endsB x.op
def formedB (m : MeD) : Bool :=
  (methodF m.desc).isSome && inPl m.stack 65 && inPl m.locals 65 && endB m.code && m.code.all (fun x => rightB x m.locals)
def astrayB (n : Nat) (x : InD) : Bool := branchB x.op && !inPl x.n n
def wrongB (n : Nat) (t : TrD) : Bool := decide (t.b ≤ t.a) || decide ((n : Int) < t.b) || !inPl t.c n
def risingB (n : Nat) : Int → List MpD → Bool
  | _, [] => true
  | last, x :: r => !(decide (x.at_ ≤ last) || decide ((n : Int) ≤ x.at_)) && risingB n x.at_ r
def placedB (m : MeD) : Bool := !m.code.any (astrayB m.code.length) && !m.traps.any (wrongB m.code.length) && risingB m.code.length (-1) m.maps
/-- Has a place a map, or is it the end? -/
def hasB (m : MeD) (at_ : Int) : Bool := at_ == (m.code.length : Int) || m.maps.any (fun x => x.at_ == at_)
def bareB (m : MeD) (t : TrD) : Bool := !hasB m t.c
def lackB (m : MeD) (i : Nat) (x : InD) : Bool := (branchB x.op && !hasB m x.n) || (endsB x.op && !hasB m ((i : Int) + 1))
def lacksB (m : MeD) : Nat → List InD → Bool
  | _, [] => false
  | i, x :: r => lackB m i x || lacksB m (i + 1) r
def mappedB (m : MeD) : Bool := !lacksB m 0 m.code && !m.traps.any (bareB m)
/-- What Check answers. -/
def checkF (m : MeD) : Int := if !formedB m then 8 else if !placedB m then 2 else if !mappedB m then 11 else 0
/-- Where it goes on. -/
def nextsF (m : MeD) (at_ : Int) : List Int :=
  if inPl at_ m.code.length then
    match m.code[at_.toNat]? with
    | none => []
    | some x =>
      let a := if !endsB x.op && inPl (at_ + 1) m.code.length then [at_ + 1] else []
      if branchB x.op && inPl x.n m.code.length then
        match a with
        | [] => [x.n]
        | _ => if at_ + 1 < x.n then [at_ + 1, x.n] else if x.n < at_ + 1 then [x.n, at_ + 1] else [x.n]
      else a
  else []
def mapAtF (m : MeD) (at_ : Int) : Option MpD := m.maps.find? (fun x => x.at_ == at_)

theorem checkF_ok {m : MeD} (h : checkF m = 0) : formedB m = true ∧ placedB m = true ∧ mappedB m = true := by
  unfold checkF at h
  cases h1 : formedB m <;> cases h2 : placedB m <;> cases h3 : mappedB m <;> simp [h1, h2, h3] at h ⊢
theorem lacks_at {m : MeD} : ∀ {l : List InD} {i j : Nat} {x : InD}, lacksB m i l = false → l[j]? = some x → lackB m (i + j) x = false
  | [], _, _, _, _, h => by simp at h
  | y :: r, i, 0, x, h, hx => by
    simp at hx; subst hx
    simp only [lacksB, Bool.or_eq_false_iff] at h
    exact h.1
  | y :: r, i, j + 1, x, h, hx => by
    simp only [lacksB, Bool.or_eq_false_iff] at h
    have := lacks_at h.2 (show r[j]? = some x by simpa using hx)
    rwa [show i + 1 + j = i + (j + 1) by omega] at this
theorem inPl_iff {a : Int} {n : Nat} : inPl a n = true ↔ 0 ≤ a ∧ a < (n : Int) := by simp [inPl]
theorem hasB_map {m : MeD} {a : Int} (h : hasB m a = true) (hn : a < (m.code.length : Int)) : (mapAtF m a).isSome = true := by
  simp only [hasB, Bool.or_eq_true, beq_iff_eq] at h
  rcases h with h | h
  · omega
  · unfold mapAtF
    rw [List.find?_isSome]
    obtain ⟨x, hx, hy⟩ := List.any_eq_true.1 h
    exact ⟨x, hx, hy⟩
/-- Of a code in shape: what the statement asks of one instruction. -/
theorem shape_at {m : MeD} (h : checkF m = 0) {i : Nat} {x : InD} (hx : m.code[i]? = some x) :
    (nextsF m (i : Int) = [] → endsB x.op = true) ∧ ∀ k ∈ nextsF m (i : Int), 0 ≤ k ∧ k < (m.code.length : Int) ∧ (k = (i : Int) + 1 ∨ (mapAtF m k).isSome = true) := by
  obtain ⟨h1, h2, h3⟩ := checkF_ok h
  have hi : i < m.code.length := (List.getElem?_eq_some_iff.1 hx).1
  have hin : inPl (i : Int) m.code.length = true := inPl_iff.2 ⟨by omega, by omega⟩
  have hlack : lackB m i x = false := by
    have := (Bool.and_eq_true _ _ ▸ h3 : (!lacksB m 0 m.code) = true ∧ _).1
    have := lacks_at (i := 0) (m := m) (by simpa using this) hx
    simpa using this
  have hbr : branchB x.op = true → hasB m x.n = true := fun hb => by
    simp only [lackB, hb, Bool.true_and, Bool.or_eq_false_iff, Bool.not_eq_eq_eq_not, Bool.not_false] at hlack
    exact hlack.1
  have hend : endsB x.op = false → (i : Int) + 1 < (m.code.length : Int) := fun he => by
    have h4 : endB m.code = true := by
      unfold formedB at h1
      simp only [Bool.and_eq_true] at h1
      exact h1.1.2
    rcases Nat.lt_or_ge (i + 1) m.code.length with h5 | h5
    · omega
    · exfalso
      unfold endB at h4
      have hl : m.code.getLast? = some x := by
        rw [List.getLast?_eq_getElem?, show m.code.length - 1 = i by omega, hx]
      rw [hl] at h4
      simp [he] at h4
  have hnx : nextsF m (i : Int) = (let a := if !endsB x.op && inPl ((i : Int) + 1) m.code.length then [(i : Int) + 1] else []
      if branchB x.op && inPl x.n m.code.length then
        match a with
        | [] => [x.n]
        | _ => if (i : Int) + 1 < x.n then [(i : Int) + 1, x.n] else if x.n < (i : Int) + 1 then [x.n, (i : Int) + 1] else [x.n]
      else a) := by
    unfold nextsF
    rw [if_pos hin, Int.toNat_natCast, hx]
  rw [hnx]
  have hmap : (branchB x.op && inPl x.n m.code.length) = true → 0 ≤ x.n ∧ x.n < (m.code.length : Int) ∧ (x.n = (i : Int) + 1 ∨ (mapAtF m x.n).isSome = true) := fun hb => by
    simp only [Bool.and_eq_true] at hb
    have h6 := inPl_iff.1 hb.2
    exact ⟨h6.1, h6.2, Or.inr (hasB_map (hbr hb.1) h6.2)⟩
  cases he : endsB x.op with
  | true =>
    refine ⟨fun _ => rfl, ?_⟩
    simp only [Bool.not_true, Bool.false_and, Bool.false_eq_true, if_false]
    intro k hk
    split at hk
    · rename_i hb
      simp at hk; subst hk
      exact hmap hb
    · simp at hk
  | false =>
    have hi1 : inPl ((i : Int) + 1) m.code.length = true := inPl_iff.2 ⟨by omega, hend he⟩
    have hk1 : 0 ≤ (i : Int) + 1 ∧ (i : Int) + 1 < (m.code.length : Int) ∧ ((i : Int) + 1 = (i : Int) + 1 ∨ (mapAtF m ((i : Int) + 1)).isSome = true) := ⟨by omega, hend he, Or.inl rfl⟩
    simp only [Bool.not_false, Bool.true_and, hi1, if_true]
    refine ⟨fun hh => ?_, fun k hk => ?_⟩
    · exfalso
      split at hh
      · split at hh
        · simp at hh
        · split at hh <;> simp at hh
      · simp at hh
    · split at hk
      · rename_i hb
        have hm := hmap hb
        split at hk
        · simp at hk
          rcases hk with rfl | rfl
          · exact hk1
          · exact hm
        · split at hk
          · simp at hk
            rcases hk with rfl | rfl
            · exact hm
            · exact hk1
          · simp at hk; subst hk
            exact hm
      · simp at hk; subst hk
        exact hk1

end Go.Proofs.YtdkkpcbebhgbiaaGreatDoor

/- What the writer keeps: instructions that may be, branches to places with maps, ends with a map behind them, maps that rise, traps that may be. Nothing of the program. -/
namespace Go.Proofs.YtdkkpcbebhgbiaaGreatDoor
set_option maxRecDepth 100000
open Ws

/-- Has a place a map? -/
def hasM (s : Ws) (n : Int) : Prop := ∃ m ∈ s.maps, m.at_ = n
/-- A writer's state in shape; Q: branches whose place isn't told yet; e: an end may stand last. -/
structure InvW (Q : Nat → Prop) (e : Bool) (s : Ws) : Prop where
  right : ∀ x ∈ s.code, rightB x 8 = true
  br : ∀ (i : Nat) (x : InD), s.code[i]? = some x → branchB x.op = true → Q i ∨ hasM s x.n
  ends : ∀ (i : Nat) (x : InD), s.code[i]? = some x → endsB x.op = true → hasM s ((i : Int) + 1) ∨ (e = true ∧ i + 1 = s.code.length)
  ris : s.maps.Pairwise (fun a b => a.at_ < b.at_)
  bd : ∀ m ∈ s.maps, (0 ≤ m.at_ ∧ m.at_ ≤ (s.code.length : Int)) ∧ m.locals.length ≤ 7 ∧ m.stack.length ≤ 1
  trap : ∀ t ∈ s.traps, 0 ≤ t.a ∧ t.a < t.b ∧ t.b ≤ (s.code.length : Int) ∧ hasM s t.c ∧ t.cls ∈ trapN
/-- An instruction that goes on just to the next one. -/
def plainI (x : InD) : Prop := rightB x 8 = true ∧ branchB x.op = false ∧ endsB x.op = false
/-- What was there stays, in shape. -/
structure Stp9 (s t : Ws) : Prop where
  pre : ∃ r, t.code = s.code ++ r
  maps : ∀ n, hasM s n → hasM t n
  inv : ∀ Q, InvW Q false s → InvW Q false t
theorem Stp9.refl (s : Ws) : Stp9 s s := ⟨⟨[], by simp⟩, fun _ h => h, fun _ h => h⟩
theorem Stp9.trans {a b c : Ws} (h : Stp9 a b) (k : Stp9 b c) : Stp9 a c :=
  ⟨by
    obtain ⟨r, hr⟩ := h.pre
    obtain ⟨q, hq⟩ := k.pre
    exact ⟨r ++ q, by rw [hq, hr, List.append_assoc]⟩, fun n h1 => k.maps n (h.maps n h1), fun Q h1 => k.inv Q (h.inv Q h1)⟩
theorem Stp9.nx (xs : Bs) (s : Ws) : Stp9 s (s.nx xs) := ⟨⟨[], by simp [Ws.nx]⟩, fun _ h => h, fun _ h => ⟨h.right, h.br, h.ends, h.ris, h.bd, h.trap⟩⟩
theorem Stp9.paid (s : Ws) : Stp9 s s.paid := ⟨⟨[], by simp [Ws.paid]⟩, fun _ h => h, fun _ h => ⟨h.right, h.br, h.ends, h.ris, h.bd, h.trap⟩⟩
theorem at_snoc {l : List InD} {y x : InD} {i : Nat} (h : (l ++ [y])[i]? = some x) : l[i]? = some x ∨ (i = l.length ∧ x = y) := by
  rcases Nat.lt_or_ge i l.length with hi | hi
  · rw [List.getElem?_append_left hi] at h
    exact Or.inl h
  · rw [List.getElem?_append_right hi] at h
    rcases Nat.eq_zero_or_pos (i - l.length) with h0 | h0
    · rw [h0] at h
      exact Or.inr ⟨by omega, by simpa using h.symm⟩
    · rw [List.getElem?_eq_none (by simp; omega)] at h
      cases h
theorem len_i {l : List InD} {i : Nat} {x : InD} (h : l[i]? = some x) : i < l.length := (List.getElem?_eq_some_iff.1 h).1
/-- An instruction more, whatever it is. -/
theorem InvW.push {Q Q' : Nat → Prop} {e : Bool} {s : Ws} (h : InvW Q false s) {x : InD} (hQ : ∀ i, Q i → Q' i) (hr : rightB x 8 = true) (hb : branchB x.op = true → Q' s.code.length ∨ hasM s x.n) (he : endsB x.op = true → e = true) : InvW Q' e (s.push x) := by
  refine ⟨?_, ?_, ?_, h.ris, ?_, ?_⟩
  · intro y hy
    rcases List.mem_append.1 hy with h1 | h1
    · exact h.right y h1
    · rw [List.mem_singleton.1 h1]; exact hr
  · intro i y hi hy
    rcases at_snoc hi with h1 | ⟨rfl, rfl⟩
    · exact (h.br i y h1 hy).imp (hQ i) (fun h => h)
    · exact hb hy
  · intro i y hi hy
    rcases at_snoc hi with h1 | ⟨rfl, rfl⟩
    · rcases h.ends i y h1 hy with h2 | h2
      · exact Or.inl h2
      · cases h2.1
    · exact Or.inr ⟨he hy, by simp [Ws.push]⟩
  · intro m hm
    have := h.bd m hm
    exact ⟨⟨this.1.1, by have := this.1.2; simp [Ws.push]; omega⟩, this.2⟩
  · intro t ht
    obtain ⟨h1, h2, h3, h4⟩ := h.trap t ht
    exact ⟨h1, h2, by simp [Ws.push]; omega, h4⟩
theorem Stp9.push (s : Ws) {x : InD} (hx : plainI x) : Stp9 s (s.push x) :=
  ⟨⟨[x], rfl⟩, fun _ h => h, fun Q h => h.push (fun _ h => h) hx.1 (fun h1 => by rw [hx.2.1] at h1; cases h1) (fun h1 => by rw [hx.2.2] at h1; cases h1)⟩
/-- A label. -/
theorem has_label (s : Ws) (st : List Bs) : hasM (s.label st) (s.code.length : Int) := by
  unfold label
  split
  · rename_i m hm
    split
    · rename_i h1
      exact ⟨m, List.mem_of_getLast? hm, h1⟩
    · exact ⟨_, List.mem_append_right _ (List.mem_singleton.2 rfl), rfl⟩
  · exact ⟨_, List.mem_append_right _ (List.mem_singleton.2 rfl), rfl⟩
theorem label_maps (s : Ws) (st : List Bs) (n : Int) (h : hasM s n) : hasM (s.label st) n := by
  have h2 : hasM { s with maps := s.maps ++ [⟨(s.code.length : Int), localsL, st⟩] } n := by
    obtain ⟨m, hm, e⟩ := h
    exact ⟨m, List.mem_append_left _ hm, e⟩
  unfold label
  split
  · split
    · exact h
    · exact h2
  · exact h2
theorem label_code (s : Ws) (st : List Bs) : (s.label st).code = s.code ∧ (s.label st).traps = s.traps := by
  unfold label
  split
  · split <;> exact ⟨rfl, rfl⟩
  · exact ⟨rfl, rfl⟩
theorem label_lastly (s : Ws) (st : List Bs) (hst : st.length ≤ 1) (hr : s.maps.Pairwise (fun a b => a.at_ < b.at_)) (hb : ∀ m ∈ s.maps, (0 ≤ m.at_ ∧ m.at_ ≤ (s.code.length : Int)) ∧ m.locals.length ≤ 7 ∧ m.stack.length ≤ 1) :
    (s.label st).maps.Pairwise (fun a b => a.at_ < b.at_) ∧ ∀ m ∈ (s.label st).maps, (0 ≤ m.at_ ∧ m.at_ ≤ (s.code.length : Int)) ∧ m.locals.length ≤ 7 ∧ m.stack.length ≤ 1 := by
  have hb2 : ∀ m ∈ s.maps ++ [(⟨(s.code.length : Int), localsL, st⟩ : MpD)], (0 ≤ m.at_ ∧ m.at_ ≤ (s.code.length : Int)) ∧ m.locals.length ≤ 7 ∧ m.stack.length ≤ 1 := fun m hm => by
    rcases List.mem_append.1 hm with h1 | h1
    · exact hb m h1
    · rw [List.mem_singleton.1 h1]; exact ⟨⟨by simp, by simp⟩, Nat.le_refl 7, hst⟩
  unfold label
  split
  · rename_i m hm
    split
    · exact ⟨hr, hb⟩
    · rename_i hne
      refine ⟨?_, hb2⟩
      refine List.pairwise_append.2 ⟨hr, List.pairwise_singleton _ _, fun a ha b hb' => ?_⟩
      rw [List.mem_singleton.1 hb']
      have hm2 := (hb m (List.mem_of_getLast? hm)).1
      have hle : a.at_ ≤ m.at_ := by
        obtain ⟨l, hl⟩ := List.getLast?_eq_some_iff.1 hm
        rw [hl] at ha hr
        rcases List.mem_append.1 ha with h1 | h1
        · exact Int.le_of_lt ((List.pairwise_append.1 hr).2.2 a h1 m (List.mem_singleton.2 rfl))
        · rw [List.mem_singleton.1 h1]; exact Int.le_refl _
      show a.at_ < (s.code.length : Int)
      omega
  · rename_i hn
    have h0 : s.maps = [] := List.getLast?_eq_none_iff.1 hn
    refine ⟨?_, hb2⟩
    rw [h0]
    exact List.pairwise_singleton _ _
theorem InvW.label {Q : Nat → Prop} {e : Bool} {s : Ws} (h : InvW Q e s) (st : List Bs) (hst : st.length ≤ 1) : InvW Q false (s.label st) := by
  obtain ⟨hc, ht⟩ := label_code s st
  obtain ⟨h1, h2⟩ := label_lastly s st hst h.ris h.bd
  refine ⟨by rw [hc]; exact h.right, ?_, ?_, h1, by rw [hc]; exact h2, ?_⟩
  · intro i x hi hx
    rw [hc] at hi
    exact (h.br i x hi hx).imp (fun h => h) (label_maps s st _)
  · intro i x hi hx
    rw [hc] at hi
    rcases h.ends i x hi hx with h3 | h3
    · exact Or.inl (label_maps s st _ h3)
    · refine Or.inl ?_
      have := has_label s st
      rw [← h3.2] at this
      simpa using this
  · intro t ht'
    rw [ht] at ht'
    obtain ⟨a, b, c, d, f⟩ := h.trap t ht'
    exact ⟨a, b, by rw [hc]; exact c, label_maps s st _ d, f⟩
theorem label_pre (s : Ws) (st : List Bs) : ∃ r, (s.label st).code = s.code ++ r := ⟨[], by rw [(label_code s st).1]; simp⟩
theorem Stp9.label (s : Ws) (st : List Bs) (hst : st.length ≤ 1) : Stp9 s (s.label st) := ⟨label_pre s st, label_maps s st, fun Q h => h.label st hst⟩
/-- A branch's place is told. -/
theorem InvW.aim {Q Q' : Nat → Prop} {e : Bool} {s : Ws} (h : InvW Q e s) {k : Nat} {n : Int} (hn : hasM s n) (hk : ∀ x : InD, s.code[k]? = some x → branchB x.op = true) (hQ : ∀ i, Q i → i ≠ k → Q' i) : InvW Q' e (s.aim k n) := by
  have hat : ∀ (i : Nat) (x : InD), (s.aim k n).code[i]? = some x → ∃ y, s.code[i]? = some y ∧ x = if k = i then { y with n := n } else y := fun i x hx => by
    simp only [Ws.aim, List.getElem?_modify] at hx
    cases hy : s.code[i]? with
    | none => rw [hy] at hx; simp at hx
    | some y =>
      rw [hy] at hx
      refine ⟨y, rfl, ?_⟩
      by_cases e' : k = i
      · simpa [e'] using hx.symm
      · simpa [e'] using hx.symm
  refine ⟨?_, ?_, ?_, h.ris, ?_, ?_⟩
  · intro x hx
    obtain ⟨i, hi⟩ := List.mem_iff_getElem?.1 hx
    obtain ⟨y, hy, e'⟩ := hat i x hi
    have hy2 := h.right y (List.mem_iff_getElem?.2 ⟨i, hy⟩)
    rw [e']
    split
    · rename_i e2
      rw [e2] at hk
      have hb := hk y hy
      have hf : formN y.op.toNat = 7 := by simpa [branchB] using hb
      unfold rightB
      simp [hf]
    · exact hy2
  · intro i x hi hx
    obtain ⟨y, hy, e'⟩ := hat i x hi
    by_cases e2 : k = i
    · rw [if_pos e2] at e'
      rw [e']
      exact Or.inr hn
    · rw [if_neg e2] at e'
      rw [e'] at hx ⊢
      exact (h.br i y hy hx).imp (fun hq => hQ i hq (fun e3 => e2 e3.symm)) (fun h => h)
  · intro i x hi hx
    obtain ⟨y, hy, e'⟩ := hat i x hi
    have ho : x.op = y.op := by rw [e']; split <;> rfl
    rw [ho] at hx
    rw [show (s.aim k n).code.length = s.code.length from len_aim _ _ _]
    exact h.ends i y hy hx
  · rw [show (s.aim k n).code.length = s.code.length from len_aim _ _ _]
    exact h.bd
  · rw [show (s.aim k n).code.length = s.code.length from len_aim _ _ _]
    exact h.trap
theorem aim_pre {s t : Ws} {k : Nat} {n : Int} (h : ∃ r, t.code = s.code ++ r) (hk : s.code.length ≤ k) : ∃ r, (t.aim k n).code = s.code ++ r := by
  obtain ⟨r, hr⟩ := h
  refine ⟨r.modify (k - s.code.length) (fun i => { i with n := n }), ?_⟩
  show t.code.modify k _ = _
  rw [hr]
  refine List.ext_getElem? fun i => ?_
  rw [List.getElem?_modify]
  rcases Nat.lt_or_ge i s.code.length with hi | hi
  · rw [List.getElem?_append_left hi, List.getElem?_append_left hi]
    have : k ≠ i := by omega
    cases s.code[i]? <;> simp [this]
  · rw [List.getElem?_append_right hi, List.getElem?_append_right hi, List.getElem?_modify]
    by_cases e : k = i
    · subst e; simp
    · have : k - s.code.length ≠ i - s.code.length := by omega
      cases r[i - s.code.length]? <;> simp [e, this]
theorem InvW.imp {Q Q' : Nat → Prop} {e : Bool} {s : Ws} (h : InvW Q e s) (hQ : ∀ (i : Nat) (x : InD), s.code[i]? = some x → Q i → Q' i) : InvW Q' e s :=
  ⟨h.right, fun i x hi hx => (h.br i x hi hx).imp (hQ i x hi) (fun h => h), h.ends, h.ris, h.bd, h.trap⟩

end Go.Proofs.YtdkkpcbebhgbiaaGreatDoor
