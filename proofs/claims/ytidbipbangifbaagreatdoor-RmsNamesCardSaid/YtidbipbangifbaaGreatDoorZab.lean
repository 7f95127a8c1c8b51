/- Words for bytes in memory, for every layer: a block of bytes, bytes that the call laid or owns, bytes as a string, append of bytes. Nothing of the program but type numbers. -/
import Derived.Test.YtidbipbangifbaaGreatDoorZaa
import Derived.Laws.BytesArg
import Derived.Maps.AppendAt
import Derived.Laws.AppendOwnNone
import Derived.Lib.SmallJoins
import Derived.Laws.CopyOwn
import Derived.Laws.MakeOwn
namespace Go.Proofs.YtidbipbangifbaaGreatDoor
set_option maxRecDepth 100000
open Go.RowKit

theorem Tryz.infoU8 : (Tryz.prog.info? 5).map (fun i => (i.zero, i.size, i.bytes)) = some (some (.int .u8 0), 1, 1) := by kernel_rfl
theorem Tryz.sizeU8 : (Tryz.prog.info? 5).map (·.size) = some 1 := by kernel_rfl

theorem take_one {α : Type} (xs : List α) (k : Nat) (x : α) (h : xs[k]? = some x) : xs.take (k + 1) = xs.take k ++ [x] := by
  obtain ⟨hk, e⟩ := List.getElem?_eq_some_iff.1 h
  rw [List.take_succ_eq_append_getElem hk, e]

/-- The bytes of a block as its cells. -/
def cellsB (bs : List UInt8) : Array Value := (bs.map B8).toArray

theorem cellsB_get (bs : List UInt8) (i : Nat) : (cellsB bs)[i]? = bs[i]?.map B8 := by simp [cellsB]
theorem cellsB_set (bs : List UInt8) (i : Nat) (v : UInt8) : (cellsB bs).setIfInBounds i (B8 v) = cellsB (bs.set i v) := by
  simp [cellsB, List.map_set]
theorem cellsB_len (bs : List UInt8) : (cellsB bs).size = bs.length := by simp [cellsB]

/-- The string that bytes make. -/
def strB (xs : List UInt8) : ByteArray := ⟨xs.toArray⟩

theorem strB_toList (xs : List UInt8) : (strB xs).toList = xs := by simp [strB]

theorem nums_back (xs : List UInt8) : (xs.map fun x => ((x.toNat : Int))).map (fun n => UInt8.ofNat n.toNat) = xs := by
  rw [List.map_map]
  have : (fun n : Int => UInt8.ofNat n.toNat) ∘ (fun x : UInt8 => (x.toNat : Int)) = id := by
    funext x
    simp
  rw [this, List.map_id]

theorem conv_bytes {w : World} {S : Nat → Prop} {A : Option Addr} {n cap : Nat} {xs : List UInt8} (h : ByteSl w S A n cap xs) :
    (convert 22 9 (.slice A n cap)).run Tryz.prog w = .ok (.string (strB xs)) w := by
  rcases Nat.eq_zero_or_pos n with h0 | h0
  · subst h0
    have hx : xs = [] := List.eq_nil_of_length_eq_zero h.1
    subst hx
    rcases A with _ | ad
    · rw [run_convert_bytes_nil w 22 5 Tryz.underlying22 Tryz.underlying5 0 cap 9 Tryz.underlying9]
      rfl
    · rw [run_convert_bytes_string w 22 9 5 _ 0 cap Tryz.underlying22 Tryz.underlying5 Tryz.underlying9, run_bytesToString w ad 0 cap [] (by simpa using run_loadCells_list (P := Tryz.prog) w ad [] (by simp))]
      rfl
  · obtain ⟨ad, rfl, _, _, hc⟩ := h.2.2.2 h0
    have hl : (loadCells ad n).run Tryz.prog w = .ok ((xs.map fun x => (x.toNat : Int)).map (Value.int .u8)).toArray w := by
      have := run_loadCells_list (P := Tryz.prog) w ad ((xs.map fun x => (x.toNat : Int)).map (Value.int .u8)) (fun j v hj => by
        rw [List.getElem?_map, List.getElem?_map] at hj
        rcases hx : xs[j]? with _ | x
        · rw [hx] at hj; simp at hj
        · rw [hx] at hj
          simp at hj
          rw [hc j x hx, ← hj]
          rfl)
      simpa [h.1] using this
    rw [run_convert_bytes_string w 22 9 5 _ n cap Tryz.underlying22 Tryz.underlying5 Tryz.underlying9, run_bytesToString w ad n cap _ hl, foldl_push_bytes, nums_back]
    simp [strB, ByteArray.empty, ByteArray.emptyWithCapacity]
    rfl

/-- Bytes that were just laid. -/
theorem ByteSl.lit (w : World) (S : Nat → Prop) (xs : List UInt8) (n : Nat) (hn : xs.length = n) (hS : ¬ S w.heap.size) (h : n ≤ maxLen) :
    ByteSl (w.alloc (.cells (cellsB xs) 5)) S (some ⟨w.heap.size, 0, none⟩) n n xs := by
  refine ⟨hn, Nat.le_refl _, h, fun _ => ⟨_, rfl, by simp, hS, fun j x hx => ?_⟩⟩
  have ha : (⟨w.heap.size, 0, none⟩ : Addr).add j = ⟨w.heap.size, j, none⟩ := by unfold Addr.add; split <;> simp_all
  rw [ha, (Blk.new w 5 (cellsB xs)).cell, cellsB_get, hx]
  rfl

/-- Bytes of a constant text: the block bears the run-time's mark. -/
theorem ByteSl.marked (w : World) (S : Nat → Prop) (xs : List UInt8) (n : Nat) (fr : Nat × Nat) (hn : xs.length = n) (hS : ¬ S w.heap.size) (h : n ≤ maxLen) :
    ByteSl (w.alloc (.cells (cellsB xs) 5 fr)) S (some ⟨w.heap.size, 0, none⟩) n n xs := by
  refine ⟨hn, Nat.le_refl _, h, fun _ => ⟨_, rfl, by simp, hS, fun j x hx => ?_⟩⟩
  have ha : (⟨w.heap.size, 0, none⟩ : Addr).add j = ⟨w.heap.size, j, none⟩ := by unfold Addr.add; split <;> simp_all
  have hg : (w.alloc (.cells (cellsB xs) 5 fr)).heap[w.heap.size]? = some (.cells (cellsB xs) 5 fr) := by
    show (w.heap.push _)[w.heap.size]? = _
    rw [Array.getElem?_push_size]
  have hc : (w.alloc (.cells (cellsB xs) 5 fr)).cell? ⟨w.heap.size, j, none⟩ = (cellsB xs)[j]? := by simp only [World.cell?, hg]; rfl
  rw [ha, hc, cellsB_get, hx]
  rfl

/-- What an append or a read gave: bytes of the law's own. -/
theorem ByteSl.of_own {w : World} {S : Nat → Prop} {base : Nat} {v : Value} {n : Nat} {xs : List UInt8} (h : w.ownsRow base 5 1 v n (xs.map B8)) (hS : ∀ k, base ≤ k → k < w.heap.size → ¬ S k) :
    ∃ A cap, v = .slice A n cap ∧ ByteSl w S A n cap xs ∧ (0 < n → ∃ g, A = some ⟨g, 0, none⟩ ∧ base ≤ g ∧ w.frozen? ⟨g, 0, none⟩ = false) := by
  have hl : xs.length = n := by have := h.1; simpa using this
  rcases h.2 with ⟨rfl, rfl⟩ | ⟨g, cap, cur, rfl, hb, hh, hnc, hm, hs, ht⟩
  · exact ⟨none, 0, rfl, ⟨hl, Nat.le_refl _, by simp [maxLen], fun h0 => absurd h0 (by omega)⟩, fun h0 => absurd h0 (by omega)⟩
  · have hlt : g < w.heap.size := (Array.getElem?_eq_some_iff.1 hh).1
    refine ⟨_, cap, rfl, ⟨hl, hnc, hm, fun _ => ⟨_, rfl, hlt, hS g hb hlt, fun j x hx => ?_⟩⟩, fun _ => ⟨g, rfl, hb, by simp [World.frozen?, hh]⟩⟩
    exact h.cells (g := g) rfl j _ (by rw [List.getElem?_map, hx]; rfl)

/-- No block is one of S. -/
def Empty : Nat → Prop := fun _ => False

/-- An operation whose guard has struck is as one that has none. -/
theorem wpList_unguard {P : Program} {ops : Array Oper} {rest : List Oper} {q : Oper} {u : Act} {w : World} {Q : Exit → Act → World → Prop} (hw : Region.wanted q (yielded ops u.tmps) = true)
    (h : wpList P ops Q ({ q with guard := none } :: rest) u w) : wpList P ops Q (q :: rest) u w := by
  have hw0 : Region.wanted ({ q with guard := none } : Oper) (yielded ops u.tmps) = true := by simp [Region.wanted]
  unfold wpList at h ⊢
  rw [if_pos hw]
  rw [if_pos hw0] at h
  exact h

/-- append of bytes that lie somewhere (a nil slice, too) onto a row of the call's own. -/
theorem wpList_append_bytes {ops : Array Oper} {rest : List Oper} {q : Oper} {u : Act} {w : World} {Q : Exit → Act → World → Prop} (hgd : q.guard = none) (s x : Operand)
    (hq : q.op = .call { callee := .builtin .append, args := #[s, x], argTypes := #[22, 22] })
    (base : Nat) (v : Value) (hs : u.eval s = v) (k : Nat) (zs : List UInt8) (hown : w.ownsRow base 5 1 v k (zs.map B8)) (A : Option Addr) (m c : Nat) (ys : List UInt8) (S : Nat → Prop)
    (hx : u.eval x = .slice A m c) (hB : ByteSl w S A m c ys) (hn : A = none → m = 0 ∧ c = 0) (hm : k + m ≤ 16777216) (hbase : base ≤ w.heap.size)
    (h : ∀ v' w', w'.ownsRow base 5 1 v' (k + m) ((zs ++ ys).map B8) → w.grownBy w' v.ownBlock → (v' = .slice none 0 0 → v = .slice none 0 0) → wpList Tryz.prog ops Q rest (u.put q.dst v') w') : wpList Tryz.prog ops Q (q :: rest) u w := by
  obtain ⟨i0, hi, hz0, hz1, hz2⟩ := info_parts Tryz.infoU8
  rcases A with _ | ad
  · obtain ⟨rfl, rfl⟩ := hn rfl
    have hys : ys = [] := List.eq_nil_of_length_eq_zero hB.1
    subst hys
    exact wpList_append_own_none hgd s x 22 hq base 5 i0 1 Tryz.underlying22 hi v k (zs.map B8) hs hown hx (h v w (by simpa using hown) (World.grownBy.refl w _) id)
  · refine wpList_append_own_at _ hgd s x 22 hq base 5 i0 (.int .u8 0) 1 1 Tryz.underlying22 hi hz0 hz1 hz2 rfl (by decide) v k (zs.map B8) hs hown ad m c (ys.map B8) hx (by simp [hB.1]) ?_ ?_ (by unfold maxLen; omega) (by omega) hbase ?_
    · intro j y hj
      rw [List.getElem?_map] at hj
      cases hj2 : ys[j]? with
      | none => rw [hj2] at hj; cases hj
      | some z =>
        have hjm : j < m := by have := (List.getElem?_eq_some_iff.1 hj2).1; have := hB.1; omega
        obtain ⟨ad', he, _, _, hc⟩ := hB.2.2.2 (by omega)
        cases he
        rw [hj2] at hj
        rw [hc j z hj2]
        simpa using hj
    · intro y hy
      obtain ⟨z, _, rfl⟩ := List.mem_map.1 hy
      rfl
    · intro v' w' h1 h2 h3 _
      exact h v' w' (by simpa using h1) h2 (fun e => (h3.1 e).1)

/-- A row that was just made, with no bytes. -/
theorem own_made (w : World) (base : Nat) (h : base ≤ w.heap.size) : (w.alloc (.cells #[] 5)).ownsRow base 5 1 (.slice (some ⟨w.heap.size, 0, none⟩) 0 0) 0 (([] : List UInt8).map B8) :=
  World.ownsRow_made w #[] 0 h (by decide) rfl

/-- What grew by a row of the call's own: nothing else turned. -/
theorem below_grown {B : Nat} {a w w' : World} {row : Option Nat} (h : Below B a w) (hB : B ≤ w.heap.size) (g : w.grownBy w' row) (hr : ∀ k, row = some k → B ≤ k) : Below B a w' :=
  h.trans ((Only.of_grown (S := fun k => B ≤ k) g (fun k e _ => hr k e)).below hB (fun k hk h => by omega))

/-- Bytes of the call's own, at the head of a block that may have room behind them. -/
def OwnB (w : World) (g n cap : Nat) (zs : List UInt8) : Prop := zs.length = n ∧ n ≤ cap ∧ cap ≤ maxLen ∧ ∃ cur, Blk w g 5 cur ∧ cur.size = cap ∧ cur.toList.take n = zs.map B8

namespace OwnB
variable {w w' : World} {g n cap : Nat} {zs : List UInt8}
theorem of_row {base : Nat} {v : Value} (h : w.ownsRow base 5 1 v n (zs.map B8)) (hv : v ≠ .slice none 0 0) : ∃ g cap, v = .slice (some ⟨g, 0, none⟩) n cap ∧ base ≤ g ∧ OwnB w g n cap zs := by
  have hl : zs.length = n := by have := h.1; simpa using this
  rcases h.2 with ⟨rfl, rfl⟩ | ⟨g, cap, cur, rfl, hb, hh, hnc, hm, hs, ht⟩
  · exact absurd rfl hv
  · exact ⟨g, cap, rfl, hb, hl, hnc, hm, cur, hh, by simpa using hs, by simpa using ht⟩
theorem lt (h : OwnB w g n cap zs) : g < w.heap.size := by obtain ⟨_, _, _, cur, hb, _⟩ := h; exact hb.lt
theorem frozen (h : OwnB w g n cap zs) (i : Nat) : w.frozen? ⟨g, i, none⟩ = false := by obtain ⟨_, _, _, cur, hb, _⟩ := h; exact hb.frozen i
theorem cell (h : OwnB w g n cap zs) {i : Nat} {z : UInt8} (hz : zs[i]? = some z) : w.cell? ⟨g, i, none⟩ = some (B8 z) := by
  obtain ⟨hl, hn, _, cur, hb, hs, ht⟩ := h
  rw [hb.cell, ← Array.getElem?_toList]
  have hi : i < n := by have := (List.getElem?_eq_some_iff.1 hz).1; omega
  have := congrArg (fun l => l[i]?) ht
  simp only [List.getElem?_take, List.getElem?_map, hz, if_pos hi, Option.map_some] at this
  exact this
theorem set_ (h : OwnB w g n cap zs) (i : Nat) (z : UInt8) : OwnB (w.setCell ⟨g, i, none⟩ (B8 z)) g n cap (zs.set i z) := by
  obtain ⟨hl, hn, hc, cur, hb, hs, ht⟩ := h
  refine ⟨by simpa using hl, hn, hc, _, hb.set_ i (B8 z), by simpa using hs, ?_⟩
  rw [Array.toList_setIfInBounds, List.take_set, ht, List.map_set]
theorem of (h : OwnB w g n cap zs) (same : w'.heap[g]? = w.heap[g]?) : OwnB w' g n cap zs := by
  obtain ⟨hl, hn, hc, cur, hb, hs, ht⟩ := h
  exact ⟨hl, hn, hc, cur, hb.of same, hs, ht⟩
theorem bytes (h : OwnB w g n cap zs) (S : Nat → Prop) (hS : ¬ S g) : ByteSl w S (some ⟨g, 0, none⟩) n cap zs := by
  refine ⟨h.1, h.2.1, h.2.2.1, fun _ => ⟨_, rfl, h.lt, hS, fun j x hx => ?_⟩⟩
  have ha : (⟨g, 0, none⟩ : Addr).add j = ⟨g, j, none⟩ := by unfold Addr.add; split <;> simp_all
  rw [ha]
  exact h.cell hx
end OwnB

/-! ### copy: only the one block turns -/
theorem only_setRow (w : World) (g : Nat) (cs : Array Value) : Only (· = g) w (w.setRow g cs) :=
  ⟨rfl, rfl, rfl, by simp [World.setRow], fun k _ hk => setRow_other w g k cs hk⟩

section
variable {P : Program} {w : World} {ops : Array Oper} {rest : List Oper} {o : Oper} {a : Act} {Q : Exit → Act → World → Prop}
theorem wpList_copy_only (hgd : o.guard = none) (d s : Operand) (dT sT : TypeId) (ho : o.op = .call { callee := .builtin .copy, args := #[d, s], argTypes := #[dT, sT] })
    (elem : TypeId) (hu : P.underlying dT = some (.slice elem)) (hsz : (P.info? elem).map (·.size) = some 1) (dp sp : Option Addr) (dLen dCap sLen sCap : Nat) (hd : a.eval d = .slice dp dLen dCap) (hs : a.eval s = .slice sp sLen sCap)
    (g off : Nat) (cur : List Value) (t : TypeId) (hg : Blk w g t cur.toArray) (cs : List Value) (hn : cs.length = Nat.min sLen dLen)
    (hpos : 0 < cs.length → dp = some ⟨g, off, none⟩ ∧ ∃ ad, sp = some ad ∧ ∀ j v, cs[j]? = some v → w.cell? (ad.add j) = some v) (hfit : off + cs.length ≤ cur.length) (h1 : ∀ v ∈ cs, v.oneCell' = true)
    (h : ∀ w', Hid (Blk w' g t (splice cur off cs).toArray) → Only (· = g) w w' → wpList P ops Q rest (a.put o.dst (goInt cs.length)) w') : wpList P ops Q (o :: rest) a w := by
  by_cases h0 : cs.length = 0
  · obtain rfl : cs = [] := List.eq_nil_of_length_eq_zero h0
    refine wpList_copy_nothing hgd d s dT sT ho elem hu hsz dp sp dLen dCap sLen sCap hd hs (by simpa using hn.symm) ?_
    exact h w (show Blk w g t (splice cur off []).toArray by simpa [splice] using hg) (Only.refl _ _)
  · obtain ⟨rfl, ad, rfl, hsrc⟩ := hpos (by omega)
    refine wpList_copy_own hgd d s dT sT ho elem hu hsz g off dLen dCap ad sLen sCap hd hs cur.toArray t hg cs hn hsrc (by simpa using hfit) h1 ?_
    exact h _ (show w.setRow g _ |>.heap[g]? = _ by simpa [splice] using setRow_heap w g _ _ t _ hg) (only_setRow w g _)
end

theorem splice_map (bs xs : List UInt8) (o : Nat) : splice (bs.map B8) o (xs.map B8) = (splice bs o xs).map B8 := by
  simp [splice, List.map_take, List.map_drop]

/-! ### make with room; a row of the call's own, kept -/
theorem made_bytes (n : Nat) : madeCells #[.int .u8 0] n = cellsB (List.replicate n 0) := by
  apply Array.ext_getElem?
  intro i
  rw [cellsB_get, List.getElem?_replicate]
  by_cases h : i < n
  · simp [madeCells, h, Nat.mod_one]
    rfl
  · simp [madeCells, h]
theorem run_make_cap (n m : Nat) (h : n ≤ m) (hm : m ≤ 281474976710656) (W : World) :
    (Instr.makeSlice 22 (.int .i64 (n : Int)) (.int .i64 (m : Int))).run Tryz.prog W = .ok (.slice (some ⟨W.heap.size, 0, none⟩) n m) (W.alloc (.cells (cellsB (List.replicate m 0)) 5)) := by
  obtain ⟨i0, hi, hz0, hz1, hz2⟩ := info_parts Tryz.infoU8
  have hr := run_make (P := Tryz.prog) W 22 5 i0 (.int .u8 0) Tryz.underlying22 hi hz0 .i64 .i64 n m (by omega) (by omega) (by rw [hz2]; omega) (by omega)
  simp only [Int.toNat_natCast, hz1, Nat.mul_one] at hr
  rw [← made_bytes]
  exact hr
theorem own_alloc {w : World} {base : Nat} {e : TypeId} {size : Nat} {v : Value} {n : Nat} {xs : List Value} (h : w.ownsRow base e size v n xs) (o : Obj) : (w.alloc o).ownsRow base e size v n xs :=
  h.kept (row := none) ⟨rfl, rfl, rfl, by simp, fun k hk _ => Below.heap_alloc w o k hk⟩ (by cases v.ownBlock <;> simp)
/-- A block of the call's own, read to where its bytes end. -/
theorem own_of_blk {w : World} {base g n cap : Nat} {cur : List UInt8} {xs : List UInt8} (h : Blk w g 5 (cellsB cur)) (hb : base ≤ g) (hl : cur.length = cap) (hn : n ≤ cap) (hc : cap ≤ maxLen) (hx : cur.take n = xs) :
    w.ownsRow base 5 1 (.slice (some ⟨g, 0, none⟩) n cap) n (xs.map B8) := by
  subst hx
  refine ⟨by simp; omega, Or.inr ⟨g, cap, _, rfl, hb, h, hn, hc, by simp [cellsB]; omega, by simp [cellsB, List.map_take]⟩⟩

theorem own_base {w : World} {base base' : Nat} {e : TypeId} {size : Nat} {v : Value} {n : Nat} {xs : List Value} (h : w.ownsRow base e size v n xs) (hb : base' ≤ base) : w.ownsRow base' e size v n xs := by
  refine ⟨h.1, ?_⟩
  rcases h.2 with h | ⟨g, cap, cur, h1, h2, h3⟩
  · exact Or.inl h
  · exact Or.inr ⟨g, cap, cur, h1, Nat.le_trans hb h2, h3⟩

/-- A row made since base stays where only blocks that aren't such have turned. -/
theorem own_only {w w' : World} {base : Nat} {e : TypeId} {size : Nat} {v : Value} {n : Nat} {xs : List Value} {S : Nat → Prop} (h : w.ownsRow base e size v n xs) (k : Only S w w') (hS : ∀ q, base ≤ q → q < w.heap.size → ¬ S q) : w'.ownsRow base e size v n xs := by
  refine ⟨h.1, ?_⟩
  rcases h.2 with h | ⟨g, cap, cur, h1, h2, h3, h4⟩
  · exact Or.inl h
  · have hlt : g < w.heap.size := (Array.getElem?_eq_some_iff.1 h3).1
    exact Or.inr ⟨g, cap, cur, h1, h2, (k.block g hlt (hS g h2 hlt)).trans h3, h4⟩

theorem ByteSl.take_ {w : World} {S : Nat → Prop} {A : Option Addr} {n cap : Nat} {xs : List UInt8} (h : ByteSl w S A n cap xs) (k : Nat) (hk : k ≤ n) : ByteSl w S A k cap (xs.take k) := by
  refine ⟨by rw [List.length_take, h.1]; omega, Nat.le_trans hk h.2.1, h.2.2.1, fun h0 => ?_⟩
  obtain ⟨ad, e, hb, hs, hc⟩ := h.2.2.2 (by omega)
  refine ⟨ad, e, hb, hs, fun j x hx => ?_⟩
  rw [List.getElem?_take] at hx
  by_cases hj : j < k
  · rw [if_pos hj] at hx
    exact hc j x hx
  · rw [if_neg hj] at hx
    cases hx

theorem strB_cat (xs ys : List UInt8) : strB xs ++ strB ys = strB (xs ++ ys) := by
  apply ByteArray.ext
  simp [strB]

end Go.Proofs.YtidbipbangifbaaGreatDoor

/- The walks over num.Put and the document's Put. -/
namespace Go.Proofs.YtidbipbangifbaaGreatDoor
set_option maxRecDepth 100000
open Go.RowKit

/-- A number's byte, counted from the lowest. -/
def byteOf (v i : Nat) : UInt8 := UInt8.ofNat (v / 2 ^ (8 * i))
/-- The lowest n bytes of a number, the highest first. -/
def putL (v n : Nat) : List UInt8 := (List.range n).map fun j => byteOf v (n - 1 - j)

theorem byteOf_int (v i : Nat) : ((byteOf v i).toNat : Int) = (v : Int) / 2 ^ (8 * i) % 256 := by
  unfold byteOf
  rw [UInt8.toNat_ofNat']
  simp
theorem putL_len (v n : Nat) : (putL v n).length = n := by simp [putL]
theorem putL_next (v n c : Nat) (h : c < n) : (putL v n).take (c + 1) = (putL v n).take c ++ [byteOf v (n - 1 - c)] := by
  rw [List.take_succ_eq_append_getElem (by rw [putL_len]; exact h)]
  simp [putL]

set_option maxHeartbeats 1000000 in
theorem put_yes (A : Option Addr) (m cap : Nat) (xs : List UInt8) (v n : Nat) (w : World) (hB : ByteSl w Empty A m cap xs) (hv : v ≤ 18446744073709551615) (h1 : 1 ≤ n) (h2 : n ≤ 8) (hm : m ≤ 1048576) :
    Calls Tryz.prog 48 #[.slice A m cap, .int .u64 (v : Int), .int .i64 (n : Int)] w fun e w' => (∃ u, e = .returned u ∧ w'.ownsRow w.heap.size 5 1 u (m + n) ((xs ++ putL v n).map B8)) ∧ Below w.heap.size w w' := by
  have hmk := fun W => run_make_cap m (m + n) (by omega) (by omega) W
  rw [show ((m + n : Nat) : Int) = (m : Int) + (n : Int) by simp] at hmk
  obtain ⟨Z, hZ⟩ : ∃ Z, Z = List.replicate (m + n) (0 : UInt8) := ⟨_, rfl⟩
  rw [← hZ] at hmk
  have hZl : Z.length = m + n := by simp [hZ]
  have HZl := Lib.hid hZl
  clear hZ hZl
  go_enter Tryz.func48, Tryz.ntmps48
  go_wp2_with fail
  refine (isSize_yes n _ (by omega) (by omega)).mono ?_
  rintro e1 w1 ⟨rfl, rfl⟩
  have hblk : Blk (w.alloc (.cells (cellsB Z) 5)) w.heap.size 5 (Z.map B8).toArray := Blk.new _ _ _
  have hB1 : ByteSl (w.alloc (.cells (cellsB Z) 5)) Empty A m cap xs := hB.only ((Only.refl Empty w).alloc _) (fun _ _ h => h)
  have hbw : Below w.heap.size w (w.alloc (.cells (cellsB Z) 5)) := (Below.refl _ _).alloc (Nat.le_refl _) _
  have hlen := hB.1
  have Hlen := Lib.hid hlen
  have HB1 := Lib.hid hB1
  have Hblk := Lib.hid hblk
  have Hbw := Lib.hid hbw
  clear hblk hB1 hbw hlen hB
  have hone : ∀ u ∈ xs.map B8, u.oneCell' = true := by
    intro u hu
    obtain ⟨z, _, rfl⟩ := List.mem_map.1 hu
    rfl
  have Hone := Lib.hid hone
  clear hone
  go_wp2_with (with_reducible refine wpList_copy_only rfl (.tmp 19) (.tmp 20) 22 22 rfl 5 Tryz.underlying22 Tryz.sizeU8 (some ⟨w.heap.size, 0, none⟩) A m (m + n) m cap rfl rfl w.heap.size 0 (Z.map B8) 5 Hblk.out (xs.map B8) ?c1 ?c2 ?c3 Hone.out ?_)
  case c1 => simp [Hlen.out]
  case c2 =>
    intro h0
    obtain ⟨ad, rfl, _, _, hc⟩ := HB1.out.2.2.2 (by simp [Hlen.out] at h0; exact h0)
    exact ⟨ad, rfl, hc⟩
  case c3 => simp [Hlen.out, HZl.out]
  intro w2 hb2 ho2
  have hb3 : Blk w2 w.heap.size 5 (cellsB (splice Z 0 xs)) := by
    have h := hb2.out
    rw [splice_map] at h
    exact h
  have hown : w2.ownsRow w.heap.size 5 1 (.slice (some ⟨w.heap.size, 0, none⟩) m (m + n)) m (xs.map B8) :=
    own_of_blk hb3 (Nat.le_refl _) (by rw [length_splice _ _ _ (by simp [Hlen.out, HZl.out]), HZl.out]) (by omega) (by unfold maxLen; omega) (by simp [splice, Hlen.out])
  have hw2 : Below w.heap.size w w2 := Hbw.out.trans (ho2.below (by simp) (by intro k hk e; omega))
  have Hown := Lib.hid hown
  have Hw2 := Lib.hid hw2
  clear hb2 hb3 ho2 hown hw2
  have hz : w.heap.size ≤ w2.heap.size := Hw2.out.size
  have Hz := Lib.hid hz
  clear hz
  go_wp2
  go_loopw [7, 8] (fun u i wr => ∃ c : Nat, c ≤ n ∧ i = .int .i64 ((n : Int) - 1 - (c : Int)) ∧ wr.ownsRow w.heap.size 5 1 u (m + c) ((xs ++ (putL v n).take c).map B8) ∧ Below w.heap.size w wr) (fun _ i _ => (intOf i + 1).toNat)
  case atStart => exact ⟨0, by omega, by simp, by simpa using Hown.out, Hw2.out⟩
  case round =>
    obtain ⟨c, hc, rfl, hO, hW⟩ := hrel
    have HO := Lib.hid hO
    have HW := Lib.hid hW
    clear hO hW
    by_cases hlt : c < n
    · obtain ⟨j, hj⟩ : ∃ j : Nat, n - 1 - c = j := ⟨_, rfl⟩
      have hj1 : (n : Int) - 1 - (c : Int) = (j : Int) := by omega
      have hj2 : j ≤ 7 := by omega
      have hby := byteOf_int v j
      have hnx := putL_next v n c hlt
      rw [hj] at hnx
      rw [hj1]
      have Hj := Lib.hid hj
      have Hnx := Lib.hid hnx
      clear hj hj1 hnx
      have e : cellsB [byteOf v j] = #[.int .u8 ((v : Int) / 2 ^ (8 * j) % 256)] := by
        show #[Value.int .u8 ((byteOf v j).toNat : Int)] = _
        rw [hby]
      have hl := ByteSl.lit wr Empty [byteOf v j] 1 rfl (fun h => h) (by decide)
      rw [e] at hl
      have HL := Lib.hid hl
      have hO2 := own_alloc HO.out (.cells #[.int .u8 ((v : Int) / 2 ^ (8 * j) % 256)] 5)
      have HO2 := Lib.hid hO2
      have hW2 := HW.out.alloc (HW.out.size) (.cells #[.int .u8 ((v : Int) / 2 ^ (8 * j) % 256)] 5)
      have HW2 := Lib.hid hW2
      have hlt2 := hO2.lt
      have Hlt2 := Lib.hid hlt2
      clear e hl hO2 hby hW2 hlt2
      go_wp2_with (at_builtin; refine wpList_append_bytes rfl (.tmp 28) (.tmp 34) rfl w.heap.size _ rfl (m + c) (xs ++ (putL v n).take c) HO2.out (some ⟨wr.heap.size, 0, none⟩) 1 1 [byteOf v j] Empty rfl HL.out (fun h => by cases h) ?c4 ?c5 ?_)
      case c4 => omega
      case c5 => exact HW2.out.size
      intro v7 w7 hown7 hg7 _
      have HO7 := Lib.hid hown7
      have HW7 := Lib.hid (below_grown HW2.out HW2.out.size hg7 (fun q hq => (Hlt2.out q hq).1))
      clear hown7 hg7
      go_wp2
      go_roundw
      case rel => exact ⟨c + 1, by omega, by congr 1; have := Hj.out; omega, by rw [Hnx.out]; simp only [List.map_append, List.map_take, List.map_cons, List.map_nil]; exact HO7.out, HW7.out⟩
      case measure => simp [intOf]
    · obtain rfl : c = n := by omega
      have hneg : (c : Int) - 1 - (c : Int) = -1 := by omega
      rw [hneg]
      clear hneg
      go_wp2
      go_ret
      exact ⟨⟨_, rfl, by have h := HO.out; rw [List.take_of_length_le (by rw [putL_len]; omega)] at h; exact h⟩, HW.out⟩

set_option maxHeartbeats 1000000 in
theorem put_no (A : Option Addr) (m cap : Nat) (xs : List UInt8) (v : Nat) (n : Int) (w : World) (hB : ByteSl w Empty A m cap xs) (h : n < 1 ∨ 8 < n) (hm : m ≤ 1048576) :
    Calls Tryz.prog 48 #[.slice A m cap, .int .u64 (v : Int), .int .i64 n] w fun e w' => (∃ u, e = .returned u ∧ w'.ownsRow w.heap.size 5 1 u m (xs.map B8)) ∧ Below w.heap.size w w' := by
  have hmk := fun W => run_make_cap m m (by omega) (by omega) W
  obtain ⟨Z, hZ⟩ : ∃ Z, Z = List.replicate m (0 : UInt8) := ⟨_, rfl⟩
  rw [← hZ] at hmk
  have hZl : Z.length = m := by simp [hZ]
  have HZl := Lib.hid hZl
  clear hZ hZl
  go_enter Tryz.func48, Tryz.ntmps48
  go_wp2_with fail
  refine (isSize_no n _ h).mono ?_
  rintro e1 w1 ⟨rfl, rfl⟩
  have hblk : Blk (w.alloc (.cells (cellsB Z) 5)) w.heap.size 5 (Z.map B8).toArray := Blk.new _ _ _
  have hB1 : ByteSl (w.alloc (.cells (cellsB Z) 5)) Empty A m cap xs := hB.only ((Only.refl Empty w).alloc _) (fun _ _ h => h)
  have hbw : Below w.heap.size w (w.alloc (.cells (cellsB Z) 5)) := (Below.refl _ _).alloc (Nat.le_refl _) _
  have hlen := hB.1
  have Hlen := Lib.hid hlen
  have HB1 := Lib.hid hB1
  have Hblk := Lib.hid hblk
  have Hbw := Lib.hid hbw
  clear hblk hB1 hbw hlen hB h
  have hone : ∀ u ∈ xs.map B8, u.oneCell' = true := by
    intro u hu
    obtain ⟨z, _, rfl⟩ := List.mem_map.1 hu
    rfl
  have Hone := Lib.hid hone
  clear hone
  go_wp2_with (with_reducible refine wpList_copy_only rfl (.tmp 19) (.tmp 20) 22 22 rfl 5 Tryz.underlying22 Tryz.sizeU8 (some ⟨w.heap.size, 0, none⟩) A m m m cap rfl rfl w.heap.size 0 (Z.map B8) 5 Hblk.out (xs.map B8) ?c1 ?c2 ?c3 Hone.out ?_)
  case c1 => simp [Hlen.out]
  case c2 =>
    intro h0
    obtain ⟨ad, rfl, _, _, hc⟩ := HB1.out.2.2.2 (by simp [Hlen.out] at h0; exact h0)
    exact ⟨ad, rfl, hc⟩
  case c3 => simp [Hlen.out, HZl.out]
  intro w2 hb2 ho2
  have hb3 : Blk w2 w.heap.size 5 (cellsB (splice Z 0 xs)) := by
    have h := hb2.out
    rw [splice_map] at h
    exact h
  have hown : w2.ownsRow w.heap.size 5 1 (.slice (some ⟨w.heap.size, 0, none⟩) m m) m (xs.map B8) :=
    own_of_blk hb3 (Nat.le_refl _) (by rw [length_splice _ _ _ (by simp [Hlen.out, HZl.out]), HZl.out]) (by omega) (by unfold maxLen; omega) (by simp [splice, Hlen.out])
  have hw2 : Below w.heap.size w w2 := Hbw.out.trans (ho2.below (by simp) (by intro k hk e; omega))
  have Hown := Lib.hid hown
  have Hw2 := Lib.hid hw2
  clear hb2 hb3 ho2 hown hw2
  go_wp2
  go_loop [7, 8] (fun u i => u = .slice (some ⟨w.heap.size, 0, none⟩) m m ∧ i = .int .i64 (-1)) (fun _ i => (intOf i + 1).toNat)
  case atStart => exact ⟨rfl, rfl⟩
  case round =>
    obtain ⟨rfl, rfl⟩ := hrel
    go_wp2
    go_ret
    exact ⟨⟨_, rfl, Hown.out⟩, Hw2.out⟩

set_option maxHeartbeats 1000000 in
theorem refPut_no (A : Option Addr) (m cap : Nat) (xs : List UInt8) (v : Nat) (n : Int) (w : World) (hB : ByteSl w Empty A m cap xs) (hA : A = none → m = 0 ∧ cap = 0) (h : n < 1 ∨ 8 < n) (hm : m ≤ 1048576) :
    Calls Tryz.prog 72 #[.slice A m cap, .int .u64 (v : Int), .int .i64 n] w fun e w' => (∃ u, e = .returned u ∧ w'.ownsRow w.heap.size 5 1 u m (xs.map B8)) ∧ Below w.heap.size w w' := by
  have HO := Lib.hid (own_made w w.heap.size (Nat.le_refl _))
  have HB := Lib.hid (hB.only ((Only.refl Empty w).alloc (.cells #[] 5)) (fun _ _ h => h))
  have HW := Lib.hid ((Below.refl w.heap.size w).alloc (Nat.le_refl _) (.cells #[] 5))
  have HA := Lib.hid hA
  clear hB hA
  by_cases hs : n < 1
  all_goals
    go_enter Tryz.func72, Tryz.ntmps72
    go_wp2_with (at_builtin; refine wpList_append_bytes rfl (.tmp 9) (.tmp 10) rfl w.heap.size _ rfl 0 [] HO.out A m cap xs Empty rfl HB.out HA.out (by omega) HW.out.size ?_)
    intro v7 w7 hown7 hg7 _
    have HO7 := Lib.hid hown7
    have HW7 := Lib.hid (below_grown HW.out HW.out.size hg7 (fun q hq => by simp [Value.ownBlock] at hq; omega))
    clear hown7 hg7
    have hd : decide (8 < n) = true ∨ n < 1 := by simp; omega
    go_wp2
    go_ret
    exact ⟨⟨_, rfl, by have h := HO7.out; simpa using h⟩, HW7.out⟩

set_option maxHeartbeats 1000000 in
theorem refPut_yes (A : Option Addr) (m cap : Nat) (xs : List UInt8) (v n : Nat) (w : World) (hB : ByteSl w Empty A m cap xs) (hA : A = none → m = 0 ∧ cap = 0) (hv : v ≤ 18446744073709551615) (h1 : 1 ≤ n) (h2 : n ≤ 8) (hm : m ≤ 1048576) :
    Calls Tryz.prog 72 #[.slice A m cap, .int .u64 (v : Int), .int .i64 (n : Int)] w fun e w' => (∃ u, e = .returned u ∧ w'.ownsRow w.heap.size 5 1 u (m + n) ((xs ++ putL v n).map B8)) ∧ Below w.heap.size w w' := by
  have HO := Lib.hid (own_made w w.heap.size (Nat.le_refl _))
  have HB := Lib.hid (hB.only ((Only.refl Empty w).alloc (.cells #[] 5)) (fun _ _ h => h))
  have HW := Lib.hid ((Below.refl w.heap.size w).alloc (Nat.le_refl _) (.cells #[] 5))
  have HA := Lib.hid hA
  clear hB hA
  go_enter Tryz.func72, Tryz.ntmps72
  go_wp2_with (at_builtin; refine wpList_append_bytes rfl (.tmp 9) (.tmp 10) rfl w.heap.size _ rfl 0 [] HO.out A m cap xs Empty rfl HB.out HA.out (by omega) HW.out.size ?_)
  intro v7 w7 hown7 hg7 _
  have hown8 : w7.ownsRow w.heap.size 5 1 v7 m (xs.map B8) := by simpa using hown7
  have Hown := Lib.hid hown8
  have Hw2 := Lib.hid (below_grown HW.out HW.out.size hg7 (fun q hq => by simp [Value.ownBlock] at hq; omega))
  clear hown7 hg7 hown8
  go_wp2
  go_loopw [7, 8] (fun u i wr => ∃ c : Nat, c ≤ n ∧ i = .int .i64 ((n : Int) - 1 - (c : Int)) ∧ wr.ownsRow w.heap.size 5 1 u (m + c) ((xs ++ (putL v n).take c).map B8) ∧ Below w.heap.size w wr) (fun _ i _ => (intOf i + 1).toNat)
  case atStart => exact ⟨0, by omega, by simp, by simpa using Hown.out, Hw2.out⟩
  case round =>
    obtain ⟨c, hc, rfl, hO, hW⟩ := hrel
    have HO := Lib.hid hO
    have HW := Lib.hid hW
    clear hO hW
    by_cases hlt : c < n
    · obtain ⟨j, hj⟩ : ∃ j : Nat, n - 1 - c = j := ⟨_, rfl⟩
      have hj1 : (n : Int) - 1 - (c : Int) = (j : Int) := by omega
      have hj2 : j ≤ 7 := by omega
      have hby := byteOf_int v j
      have hnx := putL_next v n c hlt
      rw [hj] at hnx
      rw [hj1]
      have Hj := Lib.hid hj
      have Hnx := Lib.hid hnx
      clear hj hj1 hnx
      have e : cellsB [byteOf v j] = #[.int .u8 (((v : Int) / 2 ^ (8 * j)).tmod 256 % 256)] := by
        show #[Value.int .u8 ((byteOf v j).toNat : Int)] = _
        rw [hby, Int.tmod_eq_emod_of_nonneg (Int.ediv_nonneg (by omega) (Int.le_of_lt (Int.pow_pos (by decide)))), Int.emod_emod]
      have hl := ByteSl.lit wr Empty [byteOf v j] 1 rfl (fun h => h) (by decide)
      rw [e] at hl
      have HL := Lib.hid hl
      have hO2 := own_alloc HO.out (.cells #[.int .u8 (((v : Int) / 2 ^ (8 * j)).tmod 256 % 256)] 5)
      have HO2 := Lib.hid hO2
      have hW2 := HW.out.alloc (HW.out.size) (.cells #[.int .u8 (((v : Int) / 2 ^ (8 * j)).tmod 256 % 256)] 5)
      have HW2 := Lib.hid hW2
      have hlt2 := hO2.lt
      have Hlt2 := Lib.hid hlt2
      clear e hl hO2 hby hW2 hlt2
      go_wp2_with (at_builtin; refine wpList_append_bytes rfl (.tmp 25) (.tmp 33) rfl w.heap.size _ rfl (m + c) (xs ++ (putL v n).take c) HO2.out (some ⟨wr.heap.size, 0, none⟩) 1 1 [byteOf v j] Empty rfl HL.out (fun h => by cases h) (by omega) HW2.out.size ?_)
      intro v7 w7 hown7 hg7 _
      have HO7 := Lib.hid hown7
      have HW7 := Lib.hid (below_grown HW2.out HW2.out.size hg7 (fun q hq => (Hlt2.out q hq).1))
      clear hown7 hg7
      go_wp2
      go_roundw
      case rel => exact ⟨c + 1, by omega, by congr 1; have := Hj.out; omega, by rw [Hnx.out]; simp only [List.map_append, List.map_take, List.map_cons, List.map_nil]; exact HO7.out, HW7.out⟩
      case measure => simp [intOf]
    · obtain rfl : c = n := by omega
      have hneg : (c : Int) - 1 - (c : Int) = -1 := by omega
      rw [hneg]
      clear hneg
      go_wp2
      go_ret
      exact ⟨⟨_, rfl, by have h := HO.out; rw [List.take_of_length_le (by rw [putL_len]; omega)] at h; exact h⟩, HW.out⟩

end Go.Proofs.YtidbipbangifbaaGreatDoor

/- The walks over num.Get and the document's Get. -/
namespace Go.Proofs.YtidbipbangifbaaGreatDoor
set_option maxRecDepth 100000
open Go.RowKit

/-- Which number bytes are. -/
def getV (xs : List UInt8) : Nat := xs.foldl (fun v x => v * 256 + x.toNat) 0
theorem getV_snoc (xs : List UInt8) (x : UInt8) : getV (xs ++ [x]) = getV xs * 256 + x.toNat := by simp [getV]
theorem getV_fold (xs : List UInt8) (v k : Nat) (h : v < 256 ^ k) : xs.foldl (fun v x => v * 256 + x.toNat) v < 256 ^ (k + xs.length) := by
  induction xs generalizing v k with
  | nil => simpa using h
  | cons x xs ih =>
    have hx := x.toNat_lt
    have h2 := ih (v * 256 + x.toNat) (k + 1) (by rw [Nat.pow_succ]; omega)
    rw [List.foldl_cons, List.length_cons, show k + (xs.length + 1) = k + 1 + xs.length by omega]
    exact h2
theorem getV_lt (xs : List UInt8) : getV xs < 256 ^ xs.length := by
  have h := getV_fold xs 0 0 (by decide)
  rw [Nat.zero_add] at h
  exact h

theorem get_arg (A : Option Addr) (m cap : Nat) (a n : Int) (w : World) (h : n < 1 ∨ 8 < n) :
    Calls Tryz.prog 151 #[.slice A m cap, .int .i64 a, .int .i64 n] w fun e w' => e = .returned (.tuple #[.int .u64 0, .int .i64 1]) ∧ w = w' := by
  go_enter Tryz.func151, Tryz.ntmps151
  go_wp2_with fail
  refine (isSize_no n _ h).mono ?_
  rintro e1 w1 ⟨rfl, rfl⟩
  go_wp2
  go_ret2
  exact ⟨rfl, rfl⟩
theorem get_short (A : Option Addr) (m cap : Nat) (a n : Int) (w : World) (h1 : 1 ≤ n) (h2 : n ≤ 8) (hm : m ≤ 9223372036854775807) (h : a < 0 ∨ (m : Int) - n < a) :
    Calls Tryz.prog 151 #[.slice A m cap, .int .i64 a, .int .i64 n] w fun e w' => e = .returned (.tuple #[.int .u64 0, .int .i64 6]) ∧ w = w' := by
  have Hs := Lib.hid (isSize_yes n w h1 h2)
  by_cases h0 : a < 0
  · clear h
    go_enter Tryz.func151, Tryz.ntmps151
    go_wp2_with fail
    refine Hs.out.mono ?_
    rintro e1 w1 ⟨rfl, rfl⟩
    go_wp2
    go_ret2
    exact ⟨rfl, rfl⟩
  · have h3 : (m : Int) - n < a := by omega
    clear h
    go_enter Tryz.func151, Tryz.ntmps151
    go_wp2_with fail
    refine Hs.out.mono ?_
    rintro e1 w1 ⟨rfl, rfl⟩
    go_wp2
    go_ret2
    exact ⟨rfl, rfl⟩

theorem add_add (ad : Addr) (i j : Nat) : (ad.add i).add j = ad.add (i + j) := by
  unfold Addr.add
  by_cases hi : i = 0
  · subst hi; simp
  · by_cases hj : j = 0
    · subst hj; simp
    · rw [if_neg hj, if_neg hi, if_neg (by omega)]
      simp only [Nat.add_assoc]

theorem or256 (y x : Nat) (hy : y < 72057594037927936) (hx : x < 256) : bits .or .u64 (IntKind.u64.wrap ((y : Int) * 256)) (x : Int) = ((y * 256 + x : Nat) : Int) := by
  rw [show IntKind.u64.wrap ((y : Int) * 256) = ((y * 256 : Nat) : Int) by rw [IntKind.wrap_u64]; omega, u64_or_nat _ _ (by omega) (by omega), nat_join 8 _ _ (by omega) (by omega)]
theorem pow256 (k : Nat) (h : k ≤ 7) : 256 ^ k ≤ 72057594037927936 := Nat.pow_le_pow_right (n := 256) (by decide) h

set_option maxHeartbeats 1000000 in
theorem get_yes (A : Option Addr) (m cap a n : Nat) (xs : List UInt8) (w : World) (hB : ByteSl w Empty A m cap xs) (h1 : 1 ≤ n) (h2 : n ≤ 8) (hm : m ≤ 1048576) (ha : a + n ≤ m) :
    Calls Tryz.prog 151 #[.slice A m cap, .int .i64 (a : Int), .int .i64 (n : Int)] w fun e w' => e = .returned (.tuple #[.int .u64 (getV ((xs.drop a).take n) : Int), .int .i64 0]) ∧ w = w' := by
  have hc := hB.2.1
  have hc2 := hB.2.2.1
  unfold maxLen at hc2
  obtain ⟨ad, rfl, hbl, -, hcell⟩ := hB.2.2.2 (by omega)
  have Hcell := Lib.hid hcell
  have Hl := Lib.hid hB.1
  have Hs := Lib.hid (isSize_yes n w (by omega) (by omega))
  have h3 : (a : Int) ≤ (m : Int) - (n : Int) := by omega
  clear hcell hB
  go_enter Tryz.func151, Tryz.ntmps151
  go_wp2_with fail
  refine Hs.out.mono ?_
  rintro e1 w1 ⟨rfl, rfl⟩
  go_wp2
  go_loop [8, 31] (fun v i => ∃ k : Nat, k ≤ n ∧ i = .int .i64 (k : Int) ∧ v = .int .u64 (getV (((xs.drop a).take n).take k) : Int)) (fun _ i => n - (intOf i).toNat)
  case atStart => exact ⟨0, Nat.zero_le _, rfl, rfl⟩
  case round =>
    obtain ⟨k, hk, rfl, rfl⟩ := hrel
    by_cases hlt : k < n
    · have hlen := Hl.out
      have hk1 : a + k < xs.length := by omega
      obtain ⟨x, hx⟩ : ∃ x, xs[a + k]? = some x := ⟨_, List.getElem?_eq_getElem hk1⟩
      have hx2 : ((xs.drop a).take n)[k]? = some x := by rw [List.getElem?_take, if_pos hlt, List.getElem?_drop]; exact hx
      have hcl := Hcell.out (a + k) x hx
      rw [← add_add] at hcl
      have hsn := take_one _ k x hx2
      have hb1 := getV_lt (((xs.drop a).take n).take k)
      have hb2 := pow256 k (by omega)
      have hb3 : (((xs.drop a).take n).take k).length = k := by simp; omega
      rw [hb3] at hb1
      have hv : getV (((xs.drop a).take n).take (k + 1)) = getV (((xs.drop a).take n).take k) * 256 + x.toNat := by rw [hsn, getV_snoc]
      unfold B8 at hcl
      have Hv := Lib.hid hv
      have hy : getV (((xs.drop a).take n).take k) < 72057594037927936 := by omega
      clear hsn hb1 hb2 hb3 hv hx hx2 hk1 hlen
      generalize getV (((xs.drop a).take n).take k) = y at Hv hy ⊢
      have hm2 : x.toNat < 256 := x.toNat_lt
      generalize x.toNat = z at hcl Hv hm2
      have hor := or256 y z hy hm2
      clear hy
      go_wp2
      go_round
      case rel => exact ⟨k + 1, by omega, by go_num, by rw [Hv.out]; simp⟩
      case measure => simp [intOf]; omega
    · obtain rfl : k = n := by omega
      go_wp2
      go_ret2
      exact ⟨by rw [List.take_of_length_le (by simp; omega)]; rfl, rfl⟩


theorem getV_put (v n c : Nat) (hc : c ≤ n) : getV ((putL v n).take c) = v / 2 ^ (8 * (n - c)) % 2 ^ (8 * c) := by
  induction c with
  | zero => simp [getV, Nat.mod_one]
  | succ c ih =>
    rw [putL_next v n c (by omega), getV_snoc, ih (by omega)]
    have e1 : 2 ^ (8 * (n - c)) = 2 ^ (8 * (n - (c + 1))) * 256 := by
      rw [show 8 * (n - c) = 8 * (n - (c + 1)) + 8 by omega, Nat.pow_add]
    have e2 : 2 ^ (8 * (c + 1)) = 256 * 2 ^ (8 * c) := by
      rw [show 8 * (c + 1) = 8 + 8 * c by omega, Nat.pow_add]
    have e3 : (byteOf v (n - 1 - c)).toNat = v / 2 ^ (8 * (n - (c + 1))) % 256 := by
      unfold byteOf
      rw [UInt8.toNat_ofNat', show n - 1 - c = n - (c + 1) by omega]
    rw [e1, e2, e3, ← Nat.div_div_eq_div_mul, Nat.mod_mul]
    omega
theorem getV_putL (v n : Nat) : getV (putL v n) = v % 2 ^ (8 * n) := by
  have h := getV_put v n n (Nat.le_refl _)
  rw [List.take_of_length_le (by rw [putL_len]; omega)] at h
  simpa using h

end Go.Proofs.YtidbipbangifbaaGreatDoor

/- Bytes written one by one: the words, and the walk over nor.fill. -/
namespace Go.Proofs.YtidbipbangifbaaGreatDoor
set_option maxRecDepth 100000
open Go.RowKit

/-- One byte more has turned. -/
theorem set_mapIdx (bs : List UInt8) (f g : Nat → UInt8 → UInt8) (i : Nat) (v : UInt8) (hv : ∀ b, bs[i]? = some b → g i b = v) (ho : ∀ j b, j ≠ i → g j b = f j b) : (bs.mapIdx f).set i v = bs.mapIdx g := by
  apply List.ext_getElem?
  intro j
  rw [List.getElem?_set, List.getElem?_mapIdx, List.getElem?_mapIdx]
  by_cases h : i = j
  · subst h
    rw [if_pos rfl]
    rcases hb : bs[i]? with _ | b
    · simp
      rw [List.getElem?_eq_none_iff] at hb
      exact hb
    · have hl : i < bs.length := (List.getElem?_eq_some_iff.1 hb).1
      simp [hl, hv b hb]
  · rw [if_neg h]
    rcases hb : bs[j]? with _ | b
    · rfl
    · simp [ho j b (fun e => h e.symm)]

theorem mapIdx_id (bs : List UInt8) (f : Nat → UInt8 → UInt8) (h : ∀ i b, bs[i]? = some b → f i b = b) : bs.mapIdx f = bs := by
  apply List.ext_getElem?
  intro j
  rw [List.getElem?_mapIdx]
  rcases hb : bs[j]? with _ | b
  · rfl
  · simp [h j b hb]

/-- From off on k bytes are 255. -/
def fillF (off k : Nat) : Nat → UInt8 → UInt8 := fun i b => if off ≤ i ∧ i < off + k then 255 else b

theorem fillF_step (bs : List UInt8) (off k : Nat) : (bs.mapIdx (fillF off k)).set (off + k) 255 = bs.mapIdx (fillF off (k + 1)) := by
  apply set_mapIdx
  · intro b _
    simp [fillF]
  · intro j b hj
    unfold fillF
    by_cases h : off ≤ j ∧ j < off + k
    · rw [if_pos h, if_pos (by omega)]
    · rw [if_neg h, if_neg (by omega)]

theorem fillF_zero (bs : List UInt8) (off : Nat) : bs.mapIdx (fillF off 0) = bs :=
  mapIdx_id _ _ fun i b _ => by unfold fillF; rw [if_neg (by omega)]

set_option maxHeartbeats 1000000 in
theorem fill_any (cb off n cap : Nat) (bs : List UInt8) (w : World) (hb : Blk w cb 5 (cellsB bs)) (hl : off + n ≤ bs.length) (hn : n ≤ 4611686018427387904) :
    Calls Tryz.prog 53 #[.slice (some ⟨cb, off, none⟩) n cap] w fun e w' => e = .returned (.tuple #[]) ∧ Blk w' cb 5 (cellsB (bs.mapIdx (fillF off n))) ∧ Only (· = cb) w w' := by
  go_enter Tryz.func53, Tryz.ntmps53
  go_wp2
  go_loopw [5] (fun i wr => ∃ k : Nat, k ≤ n ∧ i = .int .i64 (k : Int) ∧ Blk wr cb 5 (cellsB (bs.mapIdx (fillF off k))) ∧ Only (· = cb) w wr) (fun i _ => n - (intOf i).toNat)
  case atStart => exact ⟨0, Nat.zero_le _, rfl, by rw [fillF_zero]; exact hb, Only.refl _ _⟩
  case round =>
    obtain ⟨k, hk, rfl, hbk, hok⟩ := hrel
    have hcell : k < n → wr.cell? ⟨cb, off + k, none⟩ = some (B8 ((fillF off k) (off + k) (bs[off + k]?.getD 0))) := by
      intro hlt
      rw [hbk.cell, cellsB_get, List.getElem?_mapIdx]
      have h : off + k < bs.length := by omega
      simp [h]
    have hfr := hbk.frozen (off + k)
    go_wp2
    · go_roundw
      case rel => exact ⟨k + 1, by omega, by go_num, by rw [← fillF_step, ← cellsB_set]; exact hbk.set_ _ _, hok.setCell (p := ⟨cb, off + k, none⟩) (Or.inl rfl) _⟩
      case measure => simp [intOf]; omega
    · obtain rfl : k = n := by omega
      go_end0
      exact ⟨rfl, hbk, hok⟩

end Go.Proofs.YtidbipbangifbaaGreatDoor

/- What a call leaves alone by type: blocks whose type isn't in E stay. Plain lemmas. -/
namespace Go.Proofs.YtidbipbangifbaaGreatDoor
set_option maxRecDepth 100000
open Go.RowKit

/-- Blocks of all other types stay. -/
def Keep (E : TypeId → Prop) (w w' : World) : Prop := ∀ q t cs, Blk w q t cs → ¬ E t → Blk w' q t cs
theorem Keep.trans {E : TypeId → Prop} {a b c : World} (h : Keep E a b) (k : Keep E b c) : Keep E a c := fun q t cs h1 h2 => k q t cs (h q t cs h1 h2) h2
theorem Keep.mono {E F : TypeId → Prop} {a b : World} (h : Keep E a b) (k : ∀ t, E t → F t) : Keep F a b := fun q t cs h1 h2 => h q t cs h1 (fun h3 => h2 (k t h3))
theorem Keep.of_empty {E : TypeId → Prop} {a b : World} (h : Only Empty a b) : Keep E a b := fun _ _ _ h1 _ => h.blk h1 (fun h => h)
theorem Keep.of_block {E : TypeId → Prop} {a b : World} {q : Nat} {t : TypeId} {cs : Array Value} (hB : Blk a q t cs) (hE : E t) (h : Only (· = q) a b) : Keep E a b := fun _ _ _ h1 h2 =>
  h.blk h1 (fun e => Blk.ne_ h1 hB (fun e2 => h2 (e2 ▸ hE)) e)

end Go.Proofs.YtidbipbangifbaaGreatDoor
