/- Words for bytes in memory, for every layer: a block of bytes, bytes that the call laid or owns, bytes as a string, append of bytes. Nothing of the program but type numbers. -/
import Derived.Test.YtmdnhpnaikfpjaaGreatDoorZaa
import Derived.Laws.BytesArg
import Derived.Maps.AppendAt
import Derived.Laws.AppendOwnNone
import Derived.Lib.SmallJoins
import Derived.Laws.CopyOwn
import Derived.Laws.MakeOwn
import Derived.RegionTactic
import Derived.ChangeAlike
import Derived.Deep.QuietTactic
import Derived.BigQuiet
import Derived.BigRegion
import Derived.Deep.OwnRows
namespace Go.Proofs.YtmdnhpnaikfpjaaGreatDoor
set_option maxRecDepth 100000
open Go.RowKit

theorem Tryz.infoU8 : (Tryz.prog.info? 5).map (fun i => (i.zero, i.size, i.bytes)) = some (some (.int .u8 0), 1, 1) := by kernel_rfl
theorem Tryz.sizeU8 : (Tryz.prog.info? 5).map (·.size) = some 1 := by kernel_rfl

theorem take_one {α : Type} (xs : List α) (k : Nat) (x : α) (h : xs[k]? = some x) : xs.take (k + 1) = xs.take k ++ [x] := by
  obtain ⟨hk, e⟩ := List.getElem?_eq_some_iff.1 h
  rw [List.take_succ_eq_append_getElem hk, e]

/-- The bytes of a block as its cells. -/
def cellsB (bs : List UInt8) : Array Value := (bs.map B8).toArray

theorem cellsB_get (bs : List UInt8) (i : Nat) : (cellsB bs)[i]? = bs[i]?.map B8 := by simp [cellsB]
theorem cellsB_set (bs : List UInt8) (i : Nat) (v : UInt8) : (cellsB bs).setIfInBounds i (B8 v) = cellsB (bs.set i v) := by
  simp [cellsB, List.map_set]
theorem cellsB_len (bs : List UInt8) : (cellsB bs).size = bs.length := by simp [cellsB]

/-- The string that bytes make. -/
def strB (xs : List UInt8) : ByteArray := ⟨xs.toArray⟩

theorem strB_toList (xs : List UInt8) : (strB xs).toList = xs := by simp [strB]

theorem nums_back (xs : List UInt8) : (xs.map fun x => ((x.toNat : Int))).map (fun n => UInt8.ofNat n.toNat) = xs := by
  rw [List.map_map]
  have : (fun n : Int => UInt8.ofNat n.toNat) ∘ (fun x : UInt8 => (x.toNat : Int)) = id := by
    funext x
    simp
  rw [this, List.map_id]

theorem conv_bytes {w : World} {S : Nat → Prop} {A : Option Addr} {n cap : Nat} {xs : List UInt8} (h : ByteSl w S A n cap xs) :
    (convert 22 9 (.slice A n cap)).run Tryz.prog w = .ok (.string (strB xs)) w := by
  rcases Nat.eq_zero_or_pos n with h0 | h0
  · subst h0
    have hx : xs = [] := List.eq_nil_of_length_eq_zero h.1
    subst hx
    rcases A with _ | ad
    · rw [run_convert_bytes_nil w 22 5 Tryz.underlying22 Tryz.underlying5 0 cap 9 Tryz.underlying9]
      rfl
    · rw [run_convert_bytes_string w 22 9 5 _ 0 cap Tryz.underlying22 Tryz.underlying5 Tryz.underlying9, run_bytesToString w ad 0 cap [] (by simpa using run_loadCells_list (P := Tryz.prog) w ad [] (by simp))]
      rfl
  · obtain ⟨ad, rfl, _, _, hc⟩ := h.2.2.2 h0
    have hl : (loadCells ad n).run Tryz.prog w = .ok ((xs.map fun x => (x.toNat : Int)).map (Value.int .u8)).toArray w := by
      have := run_loadCells_list (P := Tryz.prog) w ad ((xs.map fun x => (x.toNat : Int)).map (Value.int .u8)) (fun j v hj => by
        rw [List.getElem?_map, List.getElem?_map] at hj
        rcases hx : xs[j]? with _ | x
        · rw [hx] at hj; simp at hj
        · rw [hx] at hj
          simp at hj
          rw [hc j x hx, ← hj]
          rfl)
      simpa [h.1] using this
    rw [run_convert_bytes_string w 22 9 5 _ n cap Tryz.underlying22 Tryz.underlying5 Tryz.underlying9, run_bytesToString w ad n cap _ hl, foldl_push_bytes, nums_back]
    simp [strB, ByteArray.empty, ByteArray.emptyWithCapacity]
    rfl

/-- Bytes that were just laid. -/
theorem ByteSl.lit (w : World) (S : Nat → Prop) (xs : List UInt8) (n : Nat) (hn : xs.length = n) (hS : ¬ S w.heap.size) (h : n ≤ maxLen) :
    ByteSl (w.alloc (.cells (cellsB xs) 5)) S (some ⟨w.heap.size, 0, none⟩) n n xs := by
  refine ⟨hn, Nat.le_refl _, h, fun _ => ⟨_, rfl, by simp, hS, fun j x hx => ?_⟩⟩
  have ha : (⟨w.heap.size, 0, none⟩ : Addr).add j = ⟨w.heap.size, j, none⟩ := by unfold Addr.add; split <;> simp_all
  rw [ha, (Blk.new w 5 (cellsB xs)).cell, cellsB_get, hx]
  rfl

/-- Bytes of a constant text: the block bears the run-time's mark. -/
theorem ByteSl.marked (w : World) (S : Nat → Prop) (xs : List UInt8) (n : Nat) (fr : Nat × Nat) (hn : xs.length = n) (hS : ¬ S w.heap.size) (h : n ≤ maxLen) :
    ByteSl (w.alloc (.cells (cellsB xs) 5 fr)) S (some ⟨w.heap.size, 0, none⟩) n n xs := by
  refine ⟨hn, Nat.le_refl _, h, fun _ => ⟨_, rfl, by simp, hS, fun j x hx => ?_⟩⟩
  have ha : (⟨w.heap.size, 0, none⟩ : Addr).add j = ⟨w.heap.size, j, none⟩ := by unfold Addr.add; split <;> simp_all
  have hg : (w.alloc (.cells (cellsB xs) 5 fr)).heap[w.heap.size]? = some (.cells (cellsB xs) 5 fr) := by
    show (w.heap.push _)[w.heap.size]? = _
    rw [Array.getElem?_push_size]
  have hc : (w.alloc (.cells (cellsB xs) 5 fr)).cell? ⟨w.heap.size, j, none⟩ = (cellsB xs)[j]? := by simp only [World.cell?, hg]; rfl
  rw [ha, hc, cellsB_get, hx]
  rfl

/-- What an append or a read gave: bytes of the law's own. -/
theorem ByteSl.of_own {w : World} {S : Nat → Prop} {base : Nat} {v : Value} {n : Nat} {xs : List UInt8} (h : w.ownsRow base 5 1 v n (xs.map B8)) (hS : ∀ k, base ≤ k → k < w.heap.size → ¬ S k) :
    ∃ A cap, v = .slice A n cap ∧ ByteSl w S A n cap xs ∧ (0 < n → ∃ g, A = some ⟨g, 0, none⟩ ∧ base ≤ g ∧ w.frozen? ⟨g, 0, none⟩ = false) := by
  have hl : xs.length = n := by have := h.1; simpa using this
  rcases h.2 with ⟨rfl, rfl⟩ | ⟨g, cap, cur, rfl, hb, hh, hnc, hm, hs, ht⟩
  · exact ⟨none, 0, rfl, ⟨hl, Nat.le_refl _, by simp [maxLen], fun h0 => absurd h0 (by omega)⟩, fun h0 => absurd h0 (by omega)⟩
  · have hlt : g < w.heap.size := (Array.getElem?_eq_some_iff.1 hh).1
    refine ⟨_, cap, rfl, ⟨hl, hnc, hm, fun _ => ⟨_, rfl, hlt, hS g hb hlt, fun j x hx => ?_⟩⟩, fun _ => ⟨g, rfl, hb, by simp [World.frozen?, hh]⟩⟩
    exact h.cells (g := g) rfl j _ (by rw [List.getElem?_map, hx]; rfl)

/-- No block is one of S. -/
def Empty : Nat → Prop := fun _ => False

/-- An operation whose guard has struck is as one that has none. -/
theorem wpList_unguard {P : Program} {ops : Array Oper} {rest : List Oper} {q : Oper} {u : Act} {w : World} {Q : Exit → Act → World → Prop} (hw : Region.wanted q (yielded ops u.tmps) = true)
    (h : wpList P ops Q ({ q with guard := none } :: rest) u w) : wpList P ops Q (q :: rest) u w := by
  have hw0 : Region.wanted ({ q with guard := none } : Oper) (yielded ops u.tmps) = true := by simp [Region.wanted]
  unfold wpList at h ⊢
  rw [if_pos hw]
  rw [if_pos hw0] at h
  exact h

/-- append of bytes that lie somewhere (a nil slice, too) onto a row of the call's own. -/
theorem wpList_append_bytes {ops : Array Oper} {rest : List Oper} {q : Oper} {u : Act} {w : World} {Q : Exit → Act → World → Prop} (hgd : q.guard = none) (s x : Operand)
    (hq : q.op = .call { callee := .builtin .append, args := #[s, x], argTypes := #[22, 22] })
    (base : Nat) (v : Value) (hs : u.eval s = v) (k : Nat) (zs : List UInt8) (hown : w.ownsRow base 5 1 v k (zs.map B8)) (A : Option Addr) (m c : Nat) (ys : List UInt8) (S : Nat → Prop)
    (hx : u.eval x = .slice A m c) (hB : ByteSl w S A m c ys) (hn : A = none → m = 0 ∧ c = 0) (hm : k + m ≤ 16777216) (hbase : base ≤ w.heap.size)
    (h : ∀ v' w', w'.ownsRow base 5 1 v' (k + m) ((zs ++ ys).map B8) → w.grownBy w' v.ownBlock → (v' = .slice none 0 0 → v = .slice none 0 0) → wpList Tryz.prog ops Q rest (u.put q.dst v') w') : wpList Tryz.prog ops Q (q :: rest) u w := by
  obtain ⟨i0, hi, hz0, hz1, hz2⟩ := info_parts Tryz.infoU8
  rcases A with _ | ad
  · obtain ⟨rfl, rfl⟩ := hn rfl
    have hys : ys = [] := List.eq_nil_of_length_eq_zero hB.1
    subst hys
    exact wpList_append_own_none hgd s x 22 hq base 5 i0 1 Tryz.underlying22 hi v k (zs.map B8) hs hown hx (h v w (by simpa using hown) (World.grownBy.refl w _) id)
  · refine wpList_append_own_at _ hgd s x 22 hq base 5 i0 (.int .u8 0) 1 1 Tryz.underlying22 hi hz0 hz1 hz2 rfl (by decide) v k (zs.map B8) hs hown ad m c (ys.map B8) hx (by simp [hB.1]) ?_ ?_ (by unfold maxLen; omega) (by omega) hbase ?_
    · intro j y hj
      rw [List.getElem?_map] at hj
      cases hj2 : ys[j]? with
      | none => rw [hj2] at hj; cases hj
      | some z =>
        have hjm : j < m := by have := (List.getElem?_eq_some_iff.1 hj2).1; have := hB.1; omega
        obtain ⟨ad', he, _, _, hc⟩ := hB.2.2.2 (by omega)
        cases he
        rw [hj2] at hj
        rw [hc j z hj2]
        simpa using hj
    · intro y hy
      obtain ⟨z, _, rfl⟩ := List.mem_map.1 hy
      rfl
    · intro v' w' h1 h2 h3 _
      exact h v' w' (by simpa using h1) h2 (fun e => (h3.1 e).1)

/-- A row that was just made, with no bytes. -/
theorem own_made (w : World) (base : Nat) (h : base ≤ w.heap.size) : (w.alloc (.cells #[] 5)).ownsRow base 5 1 (.slice (some ⟨w.heap.size, 0, none⟩) 0 0) 0 (([] : List UInt8).map B8) :=
  World.ownsRow_made w #[] 0 h (by decide) rfl

/-- What grew by a row of the call's own: nothing else turned. -/
theorem below_grown {B : Nat} {a w w' : World} {row : Option Nat} (h : Below B a w) (hB : B ≤ w.heap.size) (g : w.grownBy w' row) (hr : ∀ k, row = some k → B ≤ k) : Below B a w' :=
  h.trans ((Only.of_grown (S := fun k => B ≤ k) g (fun k e _ => hr k e)).below hB (fun k hk h => by omega))

/-- Bytes of the call's own, at the head of a block that may have room behind them. -/
def OwnB (w : World) (g n cap : Nat) (zs : List UInt8) : Prop := zs.length = n ∧ n ≤ cap ∧ cap ≤ maxLen ∧ ∃ cur, Blk w g 5 cur ∧ cur.size = cap ∧ cur.toList.take n = zs.map B8

namespace OwnB
variable {w w' : World} {g n cap : Nat} {zs : List UInt8}
theorem of_row {base : Nat} {v : Value} (h : w.ownsRow base 5 1 v n (zs.map B8)) (hv : v ≠ .slice none 0 0) : ∃ g cap, v = .slice (some ⟨g, 0, none⟩) n cap ∧ base ≤ g ∧ OwnB w g n cap zs := by
  have hl : zs.length = n := by have := h.1; simpa using this
  rcases h.2 with ⟨rfl, rfl⟩ | ⟨g, cap, cur, rfl, hb, hh, hnc, hm, hs, ht⟩
  · exact absurd rfl hv
  · exact ⟨g, cap, rfl, hb, hl, hnc, hm, cur, hh, by simpa using hs, by simpa using ht⟩
theorem lt (h : OwnB w g n cap zs) : g < w.heap.size := by obtain ⟨_, _, _, cur, hb, _⟩ := h; exact hb.lt
theorem frozen (h : OwnB w g n cap zs) (i : Nat) : w.frozen? ⟨g, i, none⟩ = false := by obtain ⟨_, _, _, cur, hb, _⟩ := h; exact hb.frozen i
theorem cell (h : OwnB w g n cap zs) {i : Nat} {z : UInt8} (hz : zs[i]? = some z) : w.cell? ⟨g, i, none⟩ = some (B8 z) := by
  obtain ⟨hl, hn, _, cur, hb, hs, ht⟩ := h
  rw [hb.cell, ← Array.getElem?_toList]
  have hi : i < n := by have := (List.getElem?_eq_some_iff.1 hz).1; omega
  have := congrArg (fun l => l[i]?) ht
  simp only [List.getElem?_take, List.getElem?_map, hz, if_pos hi, Option.map_some] at this
  exact this
theorem set_ (h : OwnB w g n cap zs) (i : Nat) (z : UInt8) : OwnB (w.setCell ⟨g, i, none⟩ (B8 z)) g n cap (zs.set i z) := by
  obtain ⟨hl, hn, hc, cur, hb, hs, ht⟩ := h
  refine ⟨by simpa using hl, hn, hc, _, hb.set_ i (B8 z), by simpa using hs, ?_⟩
  rw [Array.toList_setIfInBounds, List.take_set, ht, List.map_set]
theorem of (h : OwnB w g n cap zs) (same : w'.heap[g]? = w.heap[g]?) : OwnB w' g n cap zs := by
  obtain ⟨hl, hn, hc, cur, hb, hs, ht⟩ := h
  exact ⟨hl, hn, hc, cur, hb.of same, hs, ht⟩
theorem bytes (h : OwnB w g n cap zs) (S : Nat → Prop) (hS : ¬ S g) : ByteSl w S (some ⟨g, 0, none⟩) n cap zs := by
  refine ⟨h.1, h.2.1, h.2.2.1, fun _ => ⟨_, rfl, h.lt, hS, fun j x hx => ?_⟩⟩
  have ha : (⟨g, 0, none⟩ : Addr).add j = ⟨g, j, none⟩ := by unfold Addr.add; split <;> simp_all
  rw [ha]
  exact h.cell hx
end OwnB

/-! ### copy: only the one block turns -/
theorem only_setRow (w : World) (g : Nat) (cs : Array Value) : Only (· = g) w (w.setRow g cs) :=
  ⟨rfl, rfl, rfl, by simp [World.setRow], fun k _ hk => setRow_other w g k cs hk⟩

section
variable {P : Program} {w : World} {ops : Array Oper} {rest : List Oper} {o : Oper} {a : Act} {Q : Exit → Act → World → Prop}
theorem wpList_copy_only (hgd : o.guard = none) (d s : Operand) (dT sT : TypeId) (ho : o.op = .call { callee := .builtin .copy, args := #[d, s], argTypes := #[dT, sT] })
    (elem : TypeId) (hu : P.underlying dT = some (.slice elem)) (hsz : (P.info? elem).map (·.size) = some 1) (dp sp : Option Addr) (dLen dCap sLen sCap : Nat) (hd : a.eval d = .slice dp dLen dCap) (hs : a.eval s = .slice sp sLen sCap)
    (g off : Nat) (cur : List Value) (t : TypeId) (hg : Blk w g t cur.toArray) (cs : List Value) (hn : cs.length = Nat.min sLen dLen)
    (hpos : 0 < cs.length → dp = some ⟨g, off, none⟩ ∧ ∃ ad, sp = some ad ∧ ∀ j v, cs[j]? = some v → w.cell? (ad.add j) = some v) (hfit : off + cs.length ≤ cur.length) (h1 : ∀ v ∈ cs, v.oneCell' = true)
    (h : ∀ w', Hid (Blk w' g t (splice cur off cs).toArray) → Only (· = g) w w' → wpList P ops Q rest (a.put o.dst (goInt cs.length)) w') : wpList P ops Q (o :: rest) a w := by
  by_cases h0 : cs.length = 0
  · obtain rfl : cs = [] := List.eq_nil_of_length_eq_zero h0
    refine wpList_copy_nothing hgd d s dT sT ho elem hu hsz dp sp dLen dCap sLen sCap hd hs (by simpa using hn.symm) ?_
    exact h w (show Blk w g t (splice cur off []).toArray by simpa [splice] using hg) (Only.refl _ _)
  · obtain ⟨rfl, ad, rfl, hsrc⟩ := hpos (by omega)
    refine wpList_copy_own hgd d s dT sT ho elem hu hsz g off dLen dCap ad sLen sCap hd hs cur.toArray t hg cs hn hsrc (by simpa using hfit) h1 ?_
    exact h _ (show w.setRow g _ |>.heap[g]? = _ by simpa [splice] using setRow_heap w g _ _ t _ hg) (only_setRow w g _)
end

theorem splice_map (bs xs : List UInt8) (o : Nat) : splice (bs.map B8) o (xs.map B8) = (splice bs o xs).map B8 := by
  simp [splice, List.map_take, List.map_drop]

/-! ### make with room; a row of the call's own, kept -/
theorem made_bytes (n : Nat) : madeCells #[.int .u8 0] n = cellsB (List.replicate n 0) := by
  apply Array.ext_getElem?
  intro i
  rw [cellsB_get, List.getElem?_replicate]
  by_cases h : i < n
  · simp [madeCells, h, Nat.mod_one]
    rfl
  · simp [madeCells, h]
theorem run_make_cap (n m : Nat) (h : n ≤ m) (hm : m ≤ 281474976710656) (W : World) :
    (Instr.makeSlice 22 (.int .i64 (n : Int)) (.int .i64 (m : Int))).run Tryz.prog W = .ok (.slice (some ⟨W.heap.size, 0, none⟩) n m) (W.alloc (.cells (cellsB (List.replicate m 0)) 5)) := by
  obtain ⟨i0, hi, hz0, hz1, hz2⟩ := info_parts Tryz.infoU8
  have hr := run_make (P := Tryz.prog) W 22 5 i0 (.int .u8 0) Tryz.underlying22 hi hz0 .i64 .i64 n m (by omega) (by omega) (by rw [hz2]; omega) (by omega)
  simp only [Int.toNat_natCast, hz1, Nat.mul_one] at hr
  rw [← made_bytes]
  exact hr
theorem own_alloc {w : World} {base : Nat} {e : TypeId} {size : Nat} {v : Value} {n : Nat} {xs : List Value} (h : w.ownsRow base e size v n xs) (o : Obj) : (w.alloc o).ownsRow base e size v n xs :=
  h.kept (row := none) ⟨rfl, rfl, rfl, by simp, fun k hk _ => Below.heap_alloc w o k hk⟩ (by cases v.ownBlock <;> simp)
/-- A block of the call's own, read to where its bytes end. -/
theorem own_of_blk {w : World} {base g n cap : Nat} {cur : List UInt8} {xs : List UInt8} (h : Blk w g 5 (cellsB cur)) (hb : base ≤ g) (hl : cur.length = cap) (hn : n ≤ cap) (hc : cap ≤ maxLen) (hx : cur.take n = xs) :
    w.ownsRow base 5 1 (.slice (some ⟨g, 0, none⟩) n cap) n (xs.map B8) := by
  subst hx
  refine ⟨by simp; omega, Or.inr ⟨g, cap, _, rfl, hb, h, hn, hc, by simp [cellsB]; omega, by simp [cellsB, List.map_take]⟩⟩

theorem own_base {w : World} {base base' : Nat} {e : TypeId} {size : Nat} {v : Value} {n : Nat} {xs : List Value} (h : w.ownsRow base e size v n xs) (hb : base' ≤ base) : w.ownsRow base' e size v n xs := by
  refine ⟨h.1, ?_⟩
  rcases h.2 with h | ⟨g, cap, cur, h1, h2, h3⟩
  · exact Or.inl h
  · exact Or.inr ⟨g, cap, cur, h1, Nat.le_trans hb h2, h3⟩

/-- A row made since base stays where only blocks that aren't such have turned. -/
theorem own_only {w w' : World} {base : Nat} {e : TypeId} {size : Nat} {v : Value} {n : Nat} {xs : List Value} {S : Nat → Prop} (h : w.ownsRow base e size v n xs) (k : Only S w w') (hS : ∀ q, base ≤ q → q < w.heap.size → ¬ S q) : w'.ownsRow base e size v n xs := by
  refine ⟨h.1, ?_⟩
  rcases h.2 with h | ⟨g, cap, cur, h1, h2, h3, h4⟩
  · exact Or.inl h
  · have hlt : g < w.heap.size := (Array.getElem?_eq_some_iff.1 h3).1
    exact Or.inr ⟨g, cap, cur, h1, h2, (k.block g hlt (hS g h2 hlt)).trans h3, h4⟩

theorem ByteSl.take_ {w : World} {S : Nat → Prop} {A : Option Addr} {n cap : Nat} {xs : List UInt8} (h : ByteSl w S A n cap xs) (k : Nat) (hk : k ≤ n) : ByteSl w S A k cap (xs.take k) := by
  refine ⟨by rw [List.length_take, h.1]; omega, Nat.le_trans hk h.2.1, h.2.2.1, fun h0 => ?_⟩
  obtain ⟨ad, e, hb, hs, hc⟩ := h.2.2.2 (by omega)
  refine ⟨ad, e, hb, hs, fun j x hx => ?_⟩
  rw [List.getElem?_take] at hx
  by_cases hj : j < k
  · rw [if_pos hj] at hx
    exact hc j x hx
  · rw [if_neg hj] at hx
    cases hx

theorem strB_cat (xs ys : List UInt8) : strB xs ++ strB ys = strB (xs ++ ys) := by
  apply ByteArray.ext
  simp [strB]

end Go.Proofs.YtmdnhpnaikfpjaaGreatDoor

/- Bytes written one by one: the words, and the walk over nor.fill. -/
namespace Go.Proofs.YtmdnhpnaikfpjaaGreatDoor
set_option maxRecDepth 100000
open Go.RowKit

/-- One byte more has turned. -/
theorem set_mapIdx (bs : List UInt8) (f g : Nat → UInt8 → UInt8) (i : Nat) (v : UInt8) (hv : ∀ b, bs[i]? = some b → g i b = v) (ho : ∀ j b, j ≠ i → g j b = f j b) : (bs.mapIdx f).set i v = bs.mapIdx g := by
  apply List.ext_getElem?
  intro j
  rw [List.getElem?_set, List.getElem?_mapIdx, List.getElem?_mapIdx]
  by_cases h : i = j
  · subst h
    rw [if_pos rfl]
    rcases hb : bs[i]? with _ | b
    · simp
      rw [List.getElem?_eq_none_iff] at hb
      exact hb
    · have hl : i < bs.length := (List.getElem?_eq_some_iff.1 hb).1
      simp [hl, hv b hb]
  · rw [if_neg h]
    rcases hb : bs[j]? with _ | b
    · rfl
    · simp [ho j b (fun e => h e.symm)]

theorem mapIdx_id (bs : List UInt8) (f : Nat → UInt8 → UInt8) (h : ∀ i b, bs[i]? = some b → f i b = b) : bs.mapIdx f = bs := by
  apply List.ext_getElem?
  intro j
  rw [List.getElem?_mapIdx]
  rcases hb : bs[j]? with _ | b
  · rfl
  · simp [h j b hb]

/-- From off on k bytes are 255. -/
def fillF (off k : Nat) : Nat → UInt8 → UInt8 := fun i b => if off ≤ i ∧ i < off + k then 255 else b

theorem fillF_step (bs : List UInt8) (off k : Nat) : (bs.mapIdx (fillF off k)).set (off + k) 255 = bs.mapIdx (fillF off (k + 1)) := by
  apply set_mapIdx
  · intro b _
    simp [fillF]
  · intro j b hj
    unfold fillF
    by_cases h : off ≤ j ∧ j < off + k
    · rw [if_pos h, if_pos (by omega)]
    · rw [if_neg h, if_neg (by omega)]

theorem fillF_zero (bs : List UInt8) (off : Nat) : bs.mapIdx (fillF off 0) = bs :=
  mapIdx_id _ _ fun i b _ => by unfold fillF; rw [if_neg (by omega)]

set_option maxHeartbeats 1000000 in
theorem fill_any (cb off n cap : Nat) (bs : List UInt8) (w : World) (hb : Blk w cb 5 (cellsB bs)) (hl : off + n ≤ bs.length) (hn : n ≤ 4611686018427387904) :
    Calls Tryz.prog 42 #[.slice (some ⟨cb, off, none⟩) n cap] w fun e w' => e = .returned (.tuple #[]) ∧ Blk w' cb 5 (cellsB (bs.mapIdx (fillF off n))) ∧ Only (· = cb) w w' := by
  go_enter Tryz.func42, Tryz.ntmps42
  go_wp2
  go_loopw [5] (fun i wr => ∃ k : Nat, k ≤ n ∧ i = .int .i64 (k : Int) ∧ Blk wr cb 5 (cellsB (bs.mapIdx (fillF off k))) ∧ Only (· = cb) w wr) (fun i _ => n - (intOf i).toNat)
  case atStart => exact ⟨0, Nat.zero_le _, rfl, by rw [fillF_zero]; exact hb, Only.refl _ _⟩
  case round =>
    obtain ⟨k, hk, rfl, hbk, hok⟩ := hrel
    have hcell : k < n → wr.cell? ⟨cb, off + k, none⟩ = some (B8 ((fillF off k) (off + k) (bs[off + k]?.getD 0))) := by
      intro hlt
      rw [hbk.cell, cellsB_get, List.getElem?_mapIdx]
      have h : off + k < bs.length := by omega
      simp [h]
    have hfr := hbk.frozen (off + k)
    go_wp2
    · go_roundw
      case rel => exact ⟨k + 1, by omega, by go_num, by rw [← fillF_step, ← cellsB_set]; exact hbk.set_ _ _, hok.setCell (p := ⟨cb, off + k, none⟩) (Or.inl rfl) _⟩
      case measure => simp [intOf]; omega
    · obtain rfl : k = n := by omega
      go_end0
      exact ⟨rfl, hbk, hok⟩

end Go.Proofs.YtmdnhpnaikfpjaaGreatDoor

/- The walk over (*nor.Flash).Program. -/
namespace Go.Proofs.YtmdnhpnaikfpjaaGreatDoor
set_option maxRecDepth 100000
open Go.RowKit

/-- From o on the bytes xs are laid, k of n of them whole; of the next one the bits that the mask lets go. -/
def progF (o : Nat) (xs : List UInt8) (k : Nat) : Nat → UInt8 → UInt8 := fun i b => if o ≤ i ∧ i < o + k then b &&& (xs[i - o]?.getD 0) else b
def tornF (o : Nat) (xs : List UInt8) (k : Nat) (mask : UInt8) : Nat → UInt8 → UInt8 := fun i b =>
  if o ≤ i ∧ i < o + k then b &&& (xs[i - o]?.getD 0) else if i = o + k ∧ k < xs.length then b &&& ~~~(mask &&& ~~~(xs[k]?.getD 0)) else b

theorem progF_step (bs : List UInt8) (o k : Nat) (xs : List UInt8) : (bs.mapIdx (progF o xs k)).set (o + k) ((bs[o + k]?.getD 0) &&& (xs[k]?.getD 0)) = bs.mapIdx (progF o xs (k + 1)) := by
  apply set_mapIdx
  · intro b hb
    have e : o + k - o = k := by omega
    simp [progF, hb, e]
  · intro j b hj
    unfold progF
    by_cases h : o ≤ j ∧ j < o + k
    · rw [if_pos h, if_pos (by omega)]
    · rw [if_neg h, if_neg (by omega)]
theorem progF_zero (bs : List UInt8) (o : Nat) (xs : List UInt8) : bs.mapIdx (progF o xs 0) = bs :=
  mapIdx_id _ _ fun i b _ => by unfold progF; rw [if_neg (by omega)]
theorem progF_all (bs : List UInt8) (o k : Nat) (xs : List UInt8) (mask : UInt8) (h : ¬ k < xs.length) : bs.mapIdx (progF o xs k) = bs.mapIdx (tornF o xs k mask) := by
  congr 1
  funext i b
  unfold progF tornF
  by_cases h1 : o ≤ i ∧ i < o + k
  · rw [if_pos h1, if_pos h1]
  · rw [if_neg h1, if_neg h1, if_neg (by omega)]
theorem progF_torn (bs : List UInt8) (o k : Nat) (xs : List UInt8) (mask : UInt8) (h : k < xs.length) :
    (bs.mapIdx (progF o xs k)).set (o + k) ((bs[o + k]?.getD 0) &&& ~~~(mask &&& ~~~(xs[k]?.getD 0))) = bs.mapIdx (tornF o xs k mask) := by
  apply set_mapIdx
  · intro b hb
    unfold tornF
    rw [if_neg (by omega), if_pos ⟨rfl, h⟩, hb]
    rfl
  · intro j b hj
    unfold progF tornF
    by_cases h1 : o ≤ j ∧ j < o + k
    · rw [if_pos h1, if_pos h1]
    · rw [if_neg h1, if_neg h1, if_neg (by omega)]

/-- No bit of xs is 1 where the flash's is 0. -/
def Fits (bs : List UInt8) (o : Nat) (xs : List UInt8) : Prop := ∀ j, j < xs.length → (xs[j]?.getD 0) &&& ~~~(bs[o + j]?.getD 0) = 0
instance (bs : List UInt8) (o : Nat) (xs : List UInt8) : Decidable (Fits bs o xs) := by unfold Fits; infer_instance

def Fl.prog (fl : Fl) (o : Nat) (xs : List UInt8) : Fl := { fl.burn with bs := fl.bs.mapIdx (tornF o xs (fl.many xs.length) fl.mask) }

theorem Fl.many_le (fl : Fl) (n : Nat) : fl.many n ≤ n := by
  unfold Fl.many
  split
  · have := Nat.mod_lt (max fl.keep 0).toNat (show 0 < n + 1 by omega)
    omega
  · exact Nat.le_refl _

theorem not_not8 (x : UInt8) : ~~~(~~~x) = x := by
  apply UInt8.toBitVec_inj.1
  show ~~~(~~~x.toBitVec) = x.toBitVec
  exact BitVec.not_not
theorem clear_and (b x : UInt8) : b &&& ~~~(~~~x) = b &&& x := by rw [not_not8]

theorem b_clear (b x : UInt8) : Value.int .u8 (bits .andNot .u8 (b.toNat : Int) (bits .xor .u8 (if IntKind.u8.signed = true then -1 else IntKind.u8.max) (x.toNat : Int))) = B8 (b &&& x) := by
  have e : (if IntKind.u8.signed = true then -1 else IntKind.u8.max) = 255 := by decide
  rw [e, b_xor, b_andNot, not_not8]
  rfl
theorem b_torn (b mask x : UInt8) : Value.int .u8 (bits .andNot .u8 (b.toNat : Int) (bits .andNot .u8 (mask.toNat : Int) (x.toNat : Int))) = B8 (b &&& ~~~(mask &&& ~~~x)) := by
  rw [b_andNot, b_andNot]
  rfl

set_option maxHeartbeats 2000000 in
theorem program_fits (p c e at_ n cap : Nat) (fl : Fl) (xs : List UInt8) (A : Option Addr) (w : World) (hf : FlashAt w p c e fl) (hu : fl.up = true) (hs : ByteSl w (Three p c e) A n cap xs)
    (hin : at_ + n ≤ fl.S * fl.Z) (hfit : Fits fl.bs at_ xs) :
    Calls Tryz.prog 20 #[.pointer (some ⟨p, 0, none⟩), .int .i64 (at_ : Int), .slice A n cap] w fun e1 w' => e1 = .returned (.int .i64 fl.code) ∧
      FlashAt w' p c e (fl.prog at_ xs) ∧ Only (Three p c e) w w' := by
  have hsz := hf.ok.sz
  have hxl := hs.1
  have hnc := hs.2.1
  have hspan := span_in p c (fl.S * fl.Z) at_ n w (by rw [hf.hd.cell]; simp [Fl.hdr, hu]) (by rw [hf.hd.cell]; simp [Fl.hdr]) (by omega) hin
  obtain ⟨o, ho⟩ : ∃ o, o = if n = 0 then 0 else at_ := ⟨_, rfl⟩
  rw [← ho] at hspan
  have Hspan := Lib.hid hspan
  have Ho := Lib.hid ho
  have Hxl := Lib.hid hxl
  have Hu := Lib.hid hu
  clear hspan ho hxl hu
  go_enter Tryz.func20, Tryz.ntmps20
  go_wp2_with fail
  refine Hspan.out.mono ?_
  rintro e1 w1 ⟨rfl, rfl⟩
  go_wp2_with fail
  go_loop [27] (fun i => ∃ k : Nat, k ≤ n ∧ i = .int .i64 (k : Int)) (fun i => n - (intOf i).toNat)
  case atStart => exact ⟨0, Nat.zero_le _, rfl⟩
  case round =>
    obtain ⟨k, hk, rfl⟩ := hrel
    by_cases hlt : k < n
    · obtain ⟨ad, x, rfl, hab, hnS, hx, hxc⟩ := hs.at_ hlt
      have hoa : o = at_ := by rw [Ho.out, if_neg (by omega)]
      subst hoa
      have hcl : o + k < fl.bs.length := by rw [hf.ok.bl]; omega
      have hcc : w.cell? ⟨c, o + k, none⟩ = some (B8 (fl.bs[o + k]?.getD 0)) := by
        rw [hf.ce.cell]
        simp [hcl]
      have hz : (bits .andNot .u8 ((xs[k]?.getD 0).toNat : Int) ((fl.bs[o + k]?.getD 0).toNat : Int) != 0) = false := by
        rw [b_andNot, hfit k (by rw [Hxl.out]; exact hlt)]; rfl
      rw [hx] at hz
      unfold B8 at hxc hcc
      simp only [Option.getD_some] at hz
      generalize fl.bs[o + k]?.getD 0 = cb at hz hcc
      clear hs hf hfit hcl hx
      go_wp2
      go_round
      case rel => exact ⟨k + 1, by omega, by go_num⟩
      case measure => simp [intOf]; omega
    · clear hfit
      have hml := fl.many_le n
      go_wp2_with fail
      refine (act_any p c e fl n w hf Hu.out (by have := hs.2.2.1; unfold maxLen at this; omega)).mono ?_
      rintro e1 w1 ⟨rfl, hf1, ho1⟩
      have hs1 : ByteSl w1 (Three p c e) A n cap xs := hs.only ho1 (by intro i _ hi; exact Or.inl hi)
      obtain ⟨m, hm⟩ : ∃ m, m = fl.many n := ⟨_, rfl⟩
      rw [← hm] at hml ⊢
      have Hm := Lib.hid hm
      clear hm
      go_wp2_with fail
      have hgeo := fl.burn_geo
      go_loopw [51] (fun i wr => ∃ k : Nat, k ≤ m ∧ i = .int .i64 (k : Int) ∧ Blk wr c 5 (cellsB (fl.bs.mapIdx (progF o xs k))) ∧ Only (· = c) w1 wr) (fun i _ => m - (intOf i).toNat)
      case atStart => exact ⟨0, Nat.zero_le _, rfl, by rw [progF_zero]; have := hf1.ce; rw [hgeo.2.2.2.1] at this; exact this, Only.refl _ _⟩
      case round =>
        obtain ⟨k, hk, rfl, hbk, hok⟩ := hrel
        by_cases hlt : k < m
        · obtain ⟨ad, x, rfl, hab, hnS, hx, hxc⟩ := (hs1.only hok (by intro i _ hi; exact Or.inr (Or.inl hi))).at_ (show k < n by omega)
          have hoa : o = at_ := by rw [Ho.out, if_neg (by omega)]
          subst hoa
          have hcl : o + k < fl.bs.length := by rw [hf.ok.bl]; omega
          have hcc : wr.cell? ⟨c, o + k, none⟩ = some (B8 (fl.bs[o + k]?.getD 0)) := by
            rw [hbk.cell, cellsB_get, List.getElem?_mapIdx]
            simp [hcl, progF]
          have hfr := hbk.frozen (o + k)
          have Hbk := Lib.hid hbk
          have Hst := Lib.hid (progF_step fl.bs o k xs)
          have Hx := Lib.hid hx
          clear hs hs1 hf hf1 hbk hcl hx hgeo
          unfold B8 at hxc hcc
          generalize hcb : fl.bs[o + k]?.getD 0 = cb at hcc
          have Hcb := Lib.hid hcb
          clear hcb
          go_wp2
          go_roundw
          case rel =>
            refine ⟨k + 1, by omega, by go_num, ?_, hok.setCell (p := ⟨c, o + k, none⟩) (Or.inl rfl) _⟩
            rw [b_clear, ← Hst.out, ← cellsB_set, Hcb.out, Hx.out]
            exact Hbk.out.set_ _ _
          case measure => simp [intOf]; omega
        · obtain rfl : k = m := by omega
          have hp8 : wr.cell? ⟨p, 8, none⟩ = some (B8 fl.mask) := by
            have h1 := hok.blk hf1.hd hf1.pc
            rw [h1.cell]
            simp [Fl.hdr, fl.burn_rest.1]
          by_cases hmn : k < n
          · obtain ⟨ad, x, rfl, hab, hnS, hx, hxc⟩ := (hs1.only hok (by intro i _ hi; exact Or.inr (Or.inl hi))).at_ hmn
            have hoa : o = at_ := by rw [Ho.out, if_neg (by omega)]
            subst hoa
            have hcl : o + k < fl.bs.length := by rw [hf.ok.bl]; omega
            have hcc : wr.cell? ⟨c, o + k, none⟩ = some (B8 (fl.bs[o + k]?.getD 0)) := by
              rw [hbk.cell, cellsB_get, List.getElem?_mapIdx]
              simp [hcl, progF]
            have hfr := hbk.frozen (o + k)
            have Hbk := Lib.hid hbk
            have Hst := Lib.hid (progF_torn fl.bs o k xs fl.mask (by rw [Hxl.out]; exact hmn))
            have Hx := Lib.hid hx
            have Hf1 := Lib.hid hf1
            clear hs hs1 hf hf1 hbk hcl hx hgeo
            unfold B8 at hxc hcc hp8
            generalize hcb : fl.bs[o + k]?.getD 0 = cb at hcc
            have Hcb := Lib.hid hcb
            clear hcb
            go_wp2
            go_region
            go_wp2
            go_ret
            rw [b_torn]
            refine ⟨rfl, ?_, ?_⟩
            · have hb2 := Hbk.out.set_ (o + k) (B8 (cb &&& ~~~(fl.mask &&& ~~~x)))
              rw [cellsB_set, ← Hcb.out] at hb2
              have hst := Hst.out
              rw [Hx.out] at hst
              rw [Option.getD_some] at hst
              rw [hst] at hb2
              have ho2 := hok.setCell (p := ⟨c, o + k, none⟩) (Or.inl rfl) (B8 (fl.bs[o + k]?.getD 0 &&& ~~~(fl.mask &&& ~~~x)))
              have hfin := Hf1.out.bytes ho2 Hf1.out.pc Hf1.out.cep.symm (by rw [fl.burn_geo.2.2.2.1]; simp) hb2
              rw [Hcb.out] at hfin
              unfold Fl.prog
              rw [Hxl.out, ← Hm.out]
              exact hfin.drew
            · exact (((ho1.mono (T := Three p c e) (fun i _ hi => Or.inl hi)).trans (hok.mono (fun i _ hi => Or.inr (Or.inl hi)))).setCell (p := ⟨c, o + k, none⟩) (Or.inl (Or.inr (Or.inl rfl))) _).drew
          · go_wp2
            go_ret
            refine ⟨rfl, ?_, ?_⟩
            · have hst := progF_all fl.bs o k xs fl.mask (by rw [Hxl.out]; exact hmn)
              rw [hst] at hbk
              have hfin := hf1.bytes hok hf1.pc hf1.cep.symm (by rw [fl.burn_geo.2.2.2.1]; simp) hbk
              have ho3 : fl.bs.mapIdx (tornF o xs k fl.mask) = fl.bs.mapIdx (tornF at_ xs k fl.mask) := by
                by_cases h0 : n = 0
                · have hx0 : xs.length = 0 := by rw [Hxl.out, h0]
                  have hk0 : k = 0 := by omega
                  subst hk0
                  rw [mapIdx_id, mapIdx_id]
                  · intro i b _; unfold tornF; rw [if_neg (by omega), if_neg (by omega)]
                  · intro i b _; unfold tornF; rw [if_neg (by omega), if_neg (by omega)]
                · rw [Ho.out, if_neg h0]
              rw [ho3] at hfin
              unfold Fl.prog
              rw [Hxl.out, ← Hm.out]
              exact hfin
            · exact (ho1.mono (fun i _ hi => Or.inl hi)).trans (hok.mono (fun i _ hi => Or.inr (Or.inl hi)))

theorem program_nil (a : Int) (A : Option Addr) (n cap : Nat) (w : World) :
    Calls Tryz.prog 20 #[.pointer none, .int .i64 a, .slice A n cap] w fun e w' => e = .returned (.int .i64 5) ∧ w = w' := by
  go_enter Tryz.func20, Tryz.ntmps20
  go_wp2_with fail
  refine (span_nil _ _ _).mono ?_
  rintro e1 w1 ⟨rfl, rfl⟩
  go_wp2
  go_ret
  exact ⟨rfl, rfl⟩

theorem program_down (p : Nat) (a : Int) (A : Option Addr) (n cap : Nat) (w : World) (h5 : w.cell? ⟨p, 5, none⟩ = some (.bool false)) :
    Calls Tryz.prog 20 #[.pointer (some ⟨p, 0, none⟩), .int .i64 a, .slice A n cap] w fun e w' => e = .returned (.int .i64 5) ∧ w = w' := by
  go_enter Tryz.func20, Tryz.ntmps20
  go_wp2_with fail
  refine (span_down _ _ _ _ h5).mono ?_
  rintro e1 w1 ⟨rfl, rfl⟩
  go_wp2
  go_ret
  exact ⟨rfl, rfl⟩

theorem program_out (p c e : Nat) (fl : Fl) (a : Int) (A : Option Addr) (n cap : Nat) (w : World) (hf : FlashAt w p c e fl) (hu : fl.up = true) (a2 : a ≤ 9223372036854775807) (hn : n ≤ maxLen)
    (h : a < 0 ∨ ((fl.S * fl.Z : Nat) : Int) < a + n) :
    Calls Tryz.prog 20 #[.pointer (some ⟨p, 0, none⟩), .int .i64 a, .slice A n cap] w fun e w' => e = .returned (.int .i64 2) ∧ w = w' := by
  have hsz := hf.ok.sz
  have hs := span_out p c (fl.S * fl.Z) a n w (by rw [hf.hd.cell]; simp [Fl.hdr, hu]) (by rw [hf.hd.cell]; simp [Fl.hdr]) (by omega) a2 (by unfold maxLen at hn; omega) (by omega)
  have Hs := Lib.hid hs
  clear hs hf hu h
  go_enter Tryz.func20, Tryz.ntmps20
  go_wp2_with fail
  refine Hs.out.mono ?_
  rintro e1 w1 ⟨rfl, rfl⟩
  go_wp2
  go_ret
  exact ⟨rfl, rfl⟩

set_option maxHeartbeats 2000000 in
theorem program_bits (p c e at_ n cap : Nat) (fl : Fl) (xs : List UInt8) (A : Option Addr) (w : World) (hf : FlashAt w p c e fl) (hu : fl.up = true) (hs : ByteSl w (Three p c e) A n cap xs)
    (hin : at_ + n ≤ fl.S * fl.Z) (hfit : ¬ Fits fl.bs at_ xs) :
    Calls Tryz.prog 20 #[.pointer (some ⟨p, 0, none⟩), .int .i64 (at_ : Int), .slice A n cap] w fun e1 w' => e1 = .returned (.int .i64 3) ∧ w = w' := by
  have hsz := hf.ok.sz
  have hxl := hs.1
  have hnc := hs.2.1
  have hspan := span_in p c (fl.S * fl.Z) at_ n w (by rw [hf.hd.cell]; simp [Fl.hdr, hu]) (by rw [hf.hd.cell]; simp [Fl.hdr]) (by omega) hin
  have h0 : ¬ n = 0 := fun h0 => hfit fun j hj => by omega
  rw [if_neg h0] at hspan
  have Hspan := Lib.hid hspan
  have Hxl := Lib.hid hxl
  have Hfit := Lib.hid hfit
  clear hspan hxl hu h0 hfit
  go_enter Tryz.func20, Tryz.ntmps20
  go_wp2_with fail
  refine Hspan.out.mono ?_
  rintro e1 w1 ⟨rfl, rfl⟩
  go_wp2_with fail
  go_loop [27] (fun i => ∃ k : Nat, k ≤ n ∧ i = .int .i64 (k : Int) ∧ ∀ j, j < k → (xs[j]?.getD 0) &&& ~~~(fl.bs[at_ + j]?.getD 0) = 0) (fun i => n - (intOf i).toNat)
  case atStart => exact ⟨0, Nat.zero_le _, rfl, fun j hj => by omega⟩
  case round =>
    obtain ⟨k, hk, rfl, hall⟩ := hrel
    have Hall := Lib.hid hall
    clear hall
    by_cases hlt : k < n
    · obtain ⟨ad, x, rfl, hab, hnS, hx, hxc⟩ := hs.at_ hlt
      have hcl : at_ + k < fl.bs.length := by rw [hf.ok.bl]; omega
      have hcc : w.cell? ⟨c, at_ + k, none⟩ = some (B8 (fl.bs[at_ + k]?.getD 0)) := by
        rw [hf.ce.cell]
        simp [hcl]
      have hgx : xs[k]?.getD 0 = x := by rw [hx]; rfl
      have Hgx := Lib.hid hgx
      unfold B8 at hxc hcc
      by_cases hz : x &&& ~~~(fl.bs[at_ + k]?.getD 0) = 0
      · have hz1 : (bits .andNot .u8 (x.toNat : Int) ((fl.bs[at_ + k]?.getD 0).toNat : Int) != 0) = false := by rw [b_andNot, hz]; rfl
        have Hz := Lib.hid hz
        generalize hgb : fl.bs[at_ + k]?.getD 0 = b at hz1 hcc
        have Hgb := Lib.hid hgb
        clear hgb hz hs hf hcl hx hgx
        go_wp2
        go_round
        case rel =>
          refine ⟨k + 1, by omega, by go_num, fun j hj => ?_⟩
          by_cases hjk : j = k
          · subst hjk; rw [Hgx.out]; exact Hz.out
          · exact Hall.out j (by omega)
        case measure => simp [intOf]; omega
      · have hz1 : (bits .andNot .u8 (x.toNat : Int) ((fl.bs[at_ + k]?.getD 0).toNat : Int) != 0) = true := by
          rw [b_andNot, bne_iff_ne]
          intro h
          apply hz
          apply UInt8.toNat_inj.1
          have h2 : (x &&& ~~~(fl.bs[at_ + k]?.getD 0)).toNat = 0 := by omega
          rw [h2]; rfl
        generalize hgb : fl.bs[at_ + k]?.getD 0 = b at hz1 hcc
        clear hgb hz hs hf hcl hx hgx
        go_wp2
        go_ret
        exact ⟨rfl, rfl⟩
    · exfalso
      apply Hfit.out
      intro j hj
      rw [Hxl.out] at hj
      exact Hall.out j (by omega)

end Go.Proofs.YtmdnhpnaikfpjaaGreatDoor
