/- Slices of records, and of changes, that come in. -/
import Derived.Test.YtnhfmcijadficaaGreatDoorZab
import Derived.Test.YtnhfmcijadficaaGreatDoorZan
import Derived.Test.YtnhfmcijadficaaGreatDoorZal
import Derived.Maps.Own
import Derived.Maps.OwnSet
namespace Go.Proofs.YtnhfmcijadficaaGreatDoor
set_option maxRecDepth 100000
open Go.ChangeShapes Go.WideShapes Go.ChangeAt Go.RowKit Go.Joins

/-- Records that lie side by side: the slice value reads as them (their places count for nothing). -/
def Recs (w : World) (S : Nat → Prop) (A : Option Addr) (n cap : Nat) (l : List Fd) : Prop :=
  l.length = n ∧ n ≤ cap ∧ cap ≤ maxLen ∧ (0 < n → ∃ b o, A = some ⟨b, o, none⟩ ∧ b < w.heap.size ∧ ¬ S b ∧ ∀ i f, l[i]? = some f → ∀ j, j < 5 → w.cell? ⟨b, o + i * 5 + j, none⟩ = f.cells[j + 1]?) ∧ Blobs w S l ∧ ∀ f ∈ l, f.t ≤ 4294967295

/-- A change as it lies in memory. -/
structure Ch where
  del : Bool
  s : ByteArray
  A : Option Addr
  n : Nat
  cap : Nat
  blob : List UInt8
def Ch.cells (f : Ch) : List Value := [.bool f.del, .string f.s, .slice f.A f.n f.cap]
def Chs (w : World) (S : Nat → Prop) (A : Option Addr) (n cap : Nat) (l : List Ch) : Prop :=
  l.length = n ∧ n ≤ cap ∧ cap ≤ maxLen ∧ (0 < n → ∃ b o, A = some ⟨b, o, none⟩ ∧ b < w.heap.size ∧ ¬ S b ∧ ∀ i f, l[i]? = some f → ∀ j, j < 3 → w.cell? ⟨b, o + i * 3 + j, none⟩ = f.cells[j]?) ∧
    ∀ f ∈ l, ByteSl w S f.A f.n f.cap f.blob ∧ (f.A = none → f.n = 0 ∧ f.cap = 0)

section
variable {H : Type} {enc : TypeId × Value → H} {W : World} {base : Nat}

theorem open_recs {v : Value} {d : DataW H} {p : List MemPlace} (hv : Value.okWide Tryz.prog W .any base 201 v) (h : DataW.Trod enc Tryz.prog W 0 (fun _ => true) true 201 v d p) :
    ∃ (A : Option Addr) (n cap : Nat) (l : List Fd), v = .slice A n cap ∧ Recs W (fun q => W.heap.size ≤ q) A n cap l := by
  obtain ⟨A, n, cap, l, rfl, hl, hn, hm, hA, hP⟩ := open_rows (enc := enc) (⟨0, 0, 0, ⟨#[]⟩, none, 0, 0, 0, []⟩ : Fd) 201 161 5 Tryz.underlying201 (by kernel_rfl) (by decide)
    (fun b off f => (∀ j, j < 5 → W.cell? ⟨b, off + j, none⟩ = f.cells[j + 1]?) ∧ (ByteSl W (fun q => W.heap.size ≤ q) f.A f.n f.cap f.blob ∧ (f.A = none → f.n = 0 ∧ f.cap = 0)) ∧ f.t ≤ 4294967295)
    (fun b off fuel cs x hc ht => by
      obtain ⟨ys, m, _, _, _, hyl, hg⟩ := DataW.trod_struct Tryz.underlying161 ht
      obtain ⟨_, hl, hat⟩ := World.cells?_some hc
      match cs, hl with
      | [c0, c1, c2, c3, c4], _ =>
        match ys, hyl with
        | [y0, y1, y2, y3, y4], _ =>
          have g0 : DataW.trod enc Tryz.prog W 0 (fun _ => true) true m 3 [c0] = some y0 := hg 0 _ rfl
          have g1 : DataW.trod enc Tryz.prog W 0 (fun _ => true) true m 45 [c1] = some y1 := hg 1 _ rfl
          have g2 : DataW.trod enc Tryz.prog W 0 (fun _ => true) true m 9 [c2] = some y2 := hg 2 _ rfl
          have g3 : DataW.trod enc Tryz.prog W 0 (fun _ => true) true m 22 [c3] = some y3 := hg 3 _ rfl
          have g4 : DataW.trod enc Tryz.prog W 0 (fun _ => true) true m 3 [c4] = some y4 := hg 4 _ rfl
          obtain ⟨k, e0, _, _⟩ := DataW.trod_int Tryz.underlying3 g0
          obtain ⟨t, e1, _, w1⟩ := DataW.trod_int Tryz.underlying45 g1
          obtain ⟨s, e2, _, _⟩ := DataW.trod_string Tryz.underlying9 g2
          obtain ⟨A, n, cap, xs, rfl, hB, hA⟩ := bytes_cell g3
          obtain ⟨c, e4, _, _⟩ := DataW.trod_int Tryz.underlying3 g4
          simp at e0 e1 e2 e4
          subst e0 e1 e2 e4
          have hb := bd_u32i w1
          obtain ⟨t', rfl⟩ := Int.eq_ofNat_of_zero_le hb.1
          refine ⟨⟨0, k, t', s, A, n, cap, c, xs⟩, fun j hj => ?_, ⟨hB, hA⟩, by show t' ≤ _; omega⟩
          have h1 := hat j hj
          rw [add_off] at h1
          rw [h1]
          rfl)
    hv h
  have hall : ∀ f ∈ l, (ByteSl W (fun q => W.heap.size ≤ q) f.A f.n f.cap f.blob ∧ (f.A = none → f.n = 0 ∧ f.cap = 0)) ∧ f.t ≤ 4294967295 := fun f hf => by
    obtain ⟨i, hi, he⟩ := List.mem_iff_getElem.1 hf
    obtain ⟨b, o, _, _, hP2⟩ := hP (by omega)
    exact (hP2 i f (by rw [List.getElem?_eq_getElem hi, he])).2
  refine ⟨A, n, cap, l, rfl, hl, hn, hm, fun h0 => ?_, fun f hf => (hall f hf).1, fun f hf => (hall f hf).2⟩
  obtain ⟨b, o, e, hb, hP2⟩ := hP h0
  exact ⟨b, o, e, hb, by omega, fun i f hf => (hP2 i f hf).1⟩

theorem open_changes {v : Value} {d : DataW H} {p : List MemPlace} (hv : Value.okWide Tryz.prog W .any base 38 v) (h : DataW.Trod enc Tryz.prog W 0 (fun _ => true) true 38 v d p) :
    ∃ (A : Option Addr) (n cap : Nat) (l : List Ch), v = .slice A n cap ∧ Chs W (fun q => W.heap.size ≤ q) A n cap l := by
  obtain ⟨A, n, cap, l, rfl, hl, hn, hm, hA, hP⟩ := open_rows (enc := enc) (⟨false, ⟨#[]⟩, none, 0, 0, []⟩ : Ch) 38 37 3 Tryz.underlying38 (by kernel_rfl) (by decide)
    (fun b off f => (∀ j, j < 3 → W.cell? ⟨b, off + j, none⟩ = f.cells[j]?) ∧ (ByteSl W (fun q => W.heap.size ≤ q) f.A f.n f.cap f.blob ∧ (f.A = none → f.n = 0 ∧ f.cap = 0)))
    (fun b off fuel cs x hc ht => by
      obtain ⟨ys, m, _, _, _, hyl, hg⟩ := DataW.trod_struct Tryz.underlying37 ht
      obtain ⟨_, hl, hat⟩ := World.cells?_some hc
      match cs, hl with
      | [c0, c1, c2], _ =>
        match ys, hyl with
        | [y0, y1, y2], _ =>
          have g0 : DataW.trod enc Tryz.prog W 0 (fun _ => true) true m 4 [c0] = some y0 := hg 0 _ rfl
          have g1 : DataW.trod enc Tryz.prog W 0 (fun _ => true) true m 9 [c1] = some y1 := hg 1 _ rfl
          have g2 : DataW.trod enc Tryz.prog W 0 (fun _ => true) true m 22 [c2] = some y2 := hg 2 _ rfl
          obtain ⟨k, e0, _⟩ := DataW.trod_bool Tryz.underlying4 g0
          obtain ⟨s, e1, _, _⟩ := DataW.trod_string Tryz.underlying9 g1
          obtain ⟨A, n, cap, xs, rfl, hB, hA⟩ := bytes_cell g2
          simp at e0 e1
          subst e0 e1
          refine ⟨⟨k, s, A, n, cap, xs⟩, fun j hj => ?_, hB, hA⟩
          have h1 := hat j hj
          rw [add_off] at h1
          rw [h1]
          rfl)
    hv h
  have hall : ∀ f ∈ l, (ByteSl W (fun q => W.heap.size ≤ q) f.A f.n f.cap f.blob ∧ (f.A = none → f.n = 0 ∧ f.cap = 0)) := fun f hf => by
    obtain ⟨i, hi, he⟩ := List.mem_iff_getElem.1 hf
    obtain ⟨b, o, _, _, hP2⟩ := hP (by omega)
    exact (hP2 i f (by rw [List.getElem?_eq_getElem hi, he])).2
  refine ⟨A, n, cap, l, rfl, hl, hn, hm, fun h0 => ?_, hall⟩
  obtain ⟨b, o, e, hb, hP2⟩ := hP h0
  exact ⟨b, o, e, hb, by omega, fun i f hf => (hP2 i f hf).1⟩
end

end Go.Proofs.YtnhfmcijadficaaGreatDoor

/- Rows of a call's own that stand side by side: what grows one leaves the others. -/
namespace Go.Proofs.YtnhfmcijadficaaGreatDoor
set_option maxRecDepth 100000
open Go.RowKit

section
variable {w w' : World} {base base' n n' size size' : Nat} {e e' : TypeId} {v v' : Value} {xs xs' : List Value}

theorem own_ne (h : w.ownsRow base e size v n xs) (h' : w.ownsRow base' e' size' v' n' xs') (hne : e ≠ e') : v.ownBlock = none ∨ v.ownBlock ≠ v'.ownBlock := by
  rcases h.2 with ⟨rfl, _⟩ | ⟨g, cap, cur, rfl, _, hh, _⟩
  · exact Or.inl rfl
  · rcases h'.2 with ⟨rfl, _⟩ | ⟨g', cap', cur', rfl, _, hh', _⟩
    · exact Or.inr (by simp [Value.ownBlock])
    · refine Or.inr fun he => ?_
      simp [Value.ownBlock] at he
      subst he
      rw [hh] at hh'
      simp only [Option.some.injEq, Obj.cells.injEq] at hh'
      exact hne hh'.2.1

theorem blk_ne {g : Nat} {t : TypeId} {cs : Array Value} (h : w.ownsRow base e size v n xs) (hb : Blk w g t cs) (hne : e ≠ t) : ¬ v.ownBlock = some g := by
  intro he
  rcases h.2 with ⟨rfl, _⟩ | ⟨g', cap, cur, rfl, _, hh, _⟩
  · cases he
  · simp [Value.ownBlock] at he
    subst he
    exact hne ((Blk.ne_ (w := w) (g := g') (t := e) (t' := t) hh hb · rfl) |> fun k => Classical.byContradiction fun hk => k hk)

/-- A block of another type stays while a row grows. -/
theorem Blk.row {g : Nat} {t : TypeId} {cs : Array Value} (hb : Blk w g t cs) (h : w.ownsRow base e size v n xs) (hne : e ≠ t) (hg : w.grownBy w' v.ownBlock) : Blk w' g t cs :=
  hb.of (hg.block g hb.lt (fun he => blk_ne h hb hne he.symm))

/-- A block of five cells, cell by cell. -/
theorem Blk.five {g : Nat} {t : TypeId} {a b c d u : Value} (h : Blk w g t #[a, b, c, d, u]) :
    w.cell? ⟨g, 0, none⟩ = some a ∧ w.cell? ⟨g, 1, none⟩ = some b ∧ w.cell? ⟨g, 2, none⟩ = some c ∧ w.cell? ⟨g, 3, none⟩ = some d ∧ w.cell? ⟨g, 4, none⟩ = some u :=
  ⟨h.cell 0, h.cell 1, h.cell 2, h.cell 3, h.cell 4⟩

/-- Bytes of the call's own stay while a row of another type grows. -/
theorem Got.row {A : Option Addr} {m cap : Nat} {zs : List UInt8} (h : Got base w A m cap zs) (ho : w.ownsRow base' e size v n xs) (hne : 5 ≠ e) (hg : w.grownBy w' v.ownBlock) : Got base w' A m cap zs := by
  have h1 := h.own.kept hg (own_ne h.own ho hne)
  obtain ⟨A', cap', he, h2⟩ := Got.of_own h1
  cases he
  exact h2
end

/-- append of bytes onto bytes of the call's own: the new value is a slice, too. -/
theorem wpList_append_got {ops : Array Oper} {rest : List Oper} {o : Oper} {a : Act} {w : World} {Q : Exit → Act → World → Prop} (hgd : o.guard = none) (s x : Operand)
    (hq : o.op = .call { callee := .builtin .append, args := #[s, x], argTypes := #[22, 22] })
    (base : Nat) (A : Option Addr) (n cap : Nat) (zs : List UInt8) (hs : a.eval s = .slice A n cap) (hG : Got base w A n cap zs) (B : Option Addr) (m c : Nat) (ys : List UInt8) (hx : a.eval x = .slice B m c)
    (hB : ByteSl w Empty B m c ys) (hBn : B = none → m = 0 ∧ c = 0) (hm : n + m ≤ 16777216) (hbase : base ≤ w.heap.size)
    (h : ∀ A' c' w', Got base w' A' (n + m) c' (zs ++ ys) → w.grownBy w' (Value.slice A n cap).ownBlock → (∀ q, (Value.slice A n cap).ownBlock = some q → base ≤ q) → wpList Tryz.prog ops Q rest (a.put o.dst (.slice A' (n + m) c')) w') : wpList Tryz.prog ops Q (o :: rest) a w := by
  refine wpList_append_bytes hgd s x hq base _ hs n zs hG.own B m c ys Empty hx hB hBn hm hbase ?_
  intro v' w' h1 h2 _
  obtain ⟨A', c', rfl, hG'⟩ := Got.of_own h1
  exact h A' c' w' hG' h2 (fun q hq => (hG.own.lt q hq).1)

/-- A row that was just made, with no bytes. -/
theorem got_made (w : World) (base : Nat) (h : base ≤ w.heap.size) : Got base (w.alloc (.cells #[] 5)) (some ⟨w.heap.size, 0, none⟩) 0 0 [] :=
  ⟨own_made w base h, ByteSl.nil_ _ _ _ _ (by simp [maxLen]), fun h => by cases h⟩

theorem below_got {B : Nat} {a w w' : World} {A : Option Addr} {n cap base : Nat} (h : Below B a w) (hB : B ≤ w.heap.size) (g : w.grownBy w' (Value.slice A n cap).ownBlock) (hr : ∀ q, (Value.slice A n cap).ownBlock = some q → base ≤ q) (hb : B ≤ base) : Below B a w' :=
  below_grown h hB g (fun q hq => Nat.le_trans hb (hr q hq))

end Go.Proofs.YtnhfmcijadficaaGreatDoor

/- Txns in a map, as plain data; the walk over scan.countTxns. -/
namespace Go.Proofs.YtnhfmcijadficaaGreatDoor
set_option maxRecDepth 100000
open Go.RowKit Go.Maps

def txnV (p : Nat × Bool) : Value := .agg #[.int .i64 (p.1 : Int), .bool p.2]
def txnD (p : Nat × Bool) : DataW Unit := .agg [.lit (.int .i64 (p.1 : Int)), .lit (.bool p.2)]
/-- How a txn reads. -/
def txnElem : Value → Option (DataW Unit × List MemPlace)
  | .agg ⟨[.int .i64 a, .bool b]⟩ => some (.agg [.lit (.int .i64 a), .lit (.bool b)], [])
  | _ => none
theorem txnElem_mk (p : Nat × Bool) : txnElem (txnV p) = some (txnD p, []) := rfl
theorem txnElem_inv {v : Value} {p : Nat × Bool} {ps : List MemPlace} (h : txnElem v = some (txnD p, ps)) : v = txnV p := by
  unfold txnElem at h
  split at h
  · simp only [txnD, Option.some.injEq, Prod.mk.injEq, DataW.agg.injEq, List.cons.injEq, DataW.lit.injEq, Lit.int.injEq, Lit.bool.injEq, true_and, and_true] at h
    obtain ⟨⟨h1, h2⟩, _⟩ := h
    unfold txnV
    rw [h1, h2]
  · cases h

theorem Tryz.txnKeyed : Keyed Tryz.prog 45 := int_keyed Tryz.underlying45
theorem Tryz.txnZero (w : World) : (zeroValue 222).run Tryz.prog w = .ok (txnV (0, false)) w := by kernel_rfl
theorem u32_wf {t : Nat} (h : t ≤ 4294967295) : (Lit.int .u32 (t : Int)).wf = true := by
  simp [Lit.wf, IntKind.min, IntKind.max, IntKind.bits, IntKind.signed]
  omega

/-- Block b is a map that has f t under each t. -/
def TxM (w : World) (b n : Nat) (f : Nat → Nat × Bool) : Prop :=
  ∃ D : DataW Unit, w.ownsMap Tryz.prog 45 txnElem b n D ∧ ∀ t : Nat, t ≤ 4294967295 → D.atKey (.int .u32 (t : Int)) (txnD (0, false)) = txnD (f t)
def put (f : Nat → Nat × Bool) (t : Nat) (p : Nat × Bool) : Nat → Nat × Bool := fun u => if u = t then p else f u

section
variable {w w' : World} {b n : Nat} {f : Nat → Nat × Bool}
theorem TxM.made (w : World) : TxM (w.alloc (.map #[] 0)) w.heap.size 0 (fun _ => (0, false)) := ⟨_, World.ownsMap_made _ _ _ _, fun _ _ => rfl⟩
theorem TxM.lt (h : TxM w b n f) : b < w.heap.size := by obtain ⟨D, h, _⟩ := h; exact h.lt
theorem TxM.kept {row : Option Nat} (h : TxM w b n f) (hg : w.grownBy w' row) (hne : some b ≠ row) : TxM w' b n f := by
  obtain ⟨D, h, hf⟩ := h
  exact ⟨D, h.kept hg hne, hf⟩
theorem TxM.alloc (h : TxM w b n f) (o : Obj) : TxM (w.alloc o) b n f := h.kept (World.grownBy_alloc w o none) (by simp)
theorem TxM.only {S : Nat → Prop} (h : TxM w b n f) (k : Only S w w') (hS : ¬ S b) : TxM w' b n f := by
  obtain ⟨D, ⟨es, clock, hb, F, hs, hD⟩, hf⟩ := h
  exact ⟨D, ⟨es, clock, (k.block b (Array.getElem?_eq_some_iff.1 hb).1 hS).trans hb, F, hs, hD⟩, hf⟩
theorem TxM.look (h : TxM w b n f) {t : Nat} (ht : t ≤ 4294967295) : (Instr.lookup 219 (.map (some b)) (.int .u32 (t : Int)) false).run Tryz.prog w = .ok (txnV (f t)) w := by
  obtain ⟨D, h, hf⟩ := h
  obtain ⟨v, ps, hrun, hv⟩ := h.lookup Tryz.txnKeyed Tryz.underlying219 (Tryz.txnZero w) (txnElem_mk (0, false)) (keyOf_int_mk Tryz.underlying45 (u32_wf ht))
  rw [hf t ht] at hv
  rw [hrun, txnElem_inv hv]

theorem wpList_txn_put {ops : Array Oper} {rest : List Oper} {o : Oper} {a : Act} {Q : Exit → Act → World → Prop} (hg : o.guard = none) (m x v : Operand) (hop : o.op = Op.mapUpdate 219 m x v)
    (b n : Nat) (f : Nat → Nat × Bool) (hm : a.eval m = .map (some b)) (hM : TxM w b n f) (hn : n < maxLen) (t : Nat) (ht : t ≤ 4294967295) (p : Nat × Bool) (hx : a.eval x = .int .u32 (t : Int)) (hv : a.eval v = txnV p)
    (hK : ∀ w', TxM w' b (n + 1) (put f t p) → w.grownBy w' (some b) → wpList Tryz.prog ops Q rest (a.put o.dst undef) w') : wpList Tryz.prog ops Q (o :: rest) a w := by
  obtain ⟨D, hown, hf⟩ := hM
  refine wpList_mapUpdate_own w hg m x v 219 hop 45 222 Tryz.txnKeyed Tryz.underlying219 txnElem b n D hm hown hn _ _ _ hx hv (keyOf_int_mk Tryz.underlying45 (u32_wf ht)) (txnD p) [] (txnElem_mk p) ?_
  intro w' h1 h2
  refine hK w' ⟨_, h1, fun u hu => ?_⟩ h2
  by_cases hut : u = t
  · subst hut
    rw [atKey_put_same hown.isMap (show WideAt.IsKeyLit (Lit.int .u32 (u : Int)) from trivial)]
    simp [put]
  · rw [atKey_put_other (by simp; omega), hf u hu]
    simp [put, hut]
end

/-- What a found record makes of the Txns. -/
def stepT (f : Nat → Nat × Bool) (d : FD) : Nat → Nat × Bool :=
  put f d.t (if d.k = 3 then (if d.c = ((f d.t).1 : Int) then ((f d.t).1, true) else f d.t) else ((f d.t).1 + 1, false))
def countT (l : List FD) : Nat → Nat × Bool := l.foldl stepT (fun _ => (0, false))
theorem countT_snoc (l : List FD) (d : FD) : countT (l ++ [d]) = stepT (countT l) d := by simp [countT, List.foldl_append]
theorem stepT_le (f : Nat → Nat × Bool) (d : FD) (m : Nat) (h : ∀ t, (f t).1 ≤ m) (t : Nat) : (stepT f d t).1 ≤ m + 1 := by
  have h1 := h t
  have h2 := h d.t
  unfold stepT put
  split
  · split
    · split
      · show (f d.t).1 ≤ m + 1
        omega
      · omega
    · show (f d.t).1 + 1 ≤ m + 1
      omega
  · omega
theorem foldT_le : ∀ (l : List FD) (f : Nat → Nat × Bool) (m : Nat), (∀ t, (f t).1 ≤ m) → ∀ t, (l.foldl stepT f t).1 ≤ m + l.length
  | [], f, m, h, t => h t
  | d :: l, f, m, h, t => by
    have := foldT_le l (stepT f d) (m + 1) (stepT_le f d m h) t
    rw [List.foldl_cons, List.length_cons]
    omega
theorem countT_le (l : List FD) (t : Nat) : (countT l t).1 ≤ l.length := by
  have := foldT_le l (fun _ => (0, false)) 0 (fun _ => Nat.le_refl _) t
  rw [Nat.zero_add] at this
  exact this

set_option maxHeartbeats 4000000 in
theorem count6_any (A : Option Addr) (n cap : Nat) (l : List Fd) (w : World) (hF : Founds w Empty A n cap l) (ht : ∀ f ∈ l, f.t ≤ 4294967295) (hm : n ≤ 1048576) :
    Calls Tryz.prog 143 #[.slice A n cap] w fun e w' => (e = .returned (.map (some w.heap.size)) ∧ TxM w' w.heap.size n (countT (l.map Fd.d))) ∧ Below w.heap.size w w' := by
  have hmm := @run_makeMap Tryz.prog
  have HF := Lib.hid hF
  have Ht := Lib.hid ht
  have hcap := hF.2.1
  have hcap2 : cap ≤ 9223372036854775807 := by have := hF.2.2.1; unfold maxLen at this; omega
  clear hF ht
  go_enter Tryz.func143, Tryz.ntmps143
  go_wp2_with fail
  clear hmm
  go_loopw [10] (fun v wr => ∃ i : Nat, i ≤ n ∧ v = .int .i64 (i : Int) ∧ Hid (TxM wr w.heap.size i (countT ((l.take i).map Fd.d))) ∧ Hid (Below w.heap.size w wr)) (fun v _ => n - (intOf v).toNat)
  case atStart => exact ⟨0, Nat.zero_le _, rfl, Lib.hid (TxM.made w), Lib.hid ((Below.refl _ _).alloc (Nat.le_refl _) _)⟩
  case round =>
    obtain ⟨i, hi, rfl, HM, HB⟩ := hrel
    by_cases hlt : i < n
    · obtain ⟨b, o, rfl, hb, -, hcl⟩ := HF.out.2.2.2.1 (by omega)
      obtain ⟨f, hf⟩ : ∃ f, l[i]? = some f := ⟨_, List.getElem?_eq_getElem (by have := HF.out.1; omega)⟩
      have hc := hcl i f hf
      have hft := Ht.out f (List.mem_of_getElem? hf)
      have htake := congrArg (fun z => z.map Fd.d) (take_one l i f hf)
      rw [List.map_append, List.map_cons, List.map_nil] at htake
      have hcnt : countT ((l.take (i + 1)).map Fd.d) = stepT (countT ((l.take i).map Fd.d)) f.d := by rw [htake, countT_snoc]
      have hle := countT_le ((l.take i).map Fd.d) f.t
      rw [List.length_map, List.length_take] at hle
      obtain ⟨pl, k, t, s, A1, m1, p1, c, xs⟩ := f
      obtain ⟨F, hFd⟩ : ∃ F, F = countT ((l.take i).map Fd.d) := ⟨_, rfl⟩
      rw [← hFd] at hcnt HM hle
      have hst : stepT F (Fd.mk pl k t s A1 m1 p1 c xs).d = put F t (if k = 3 then (if c = ((F t).1 : Int) then ((F t).1, true) else F t) else ((F t).1 + 1, false)) := rfl
      rw [hst] at hcnt
      simp only at hft hle
      have hcell : ∀ j, j < 6 → wr.cell? ⟨b, o + i * 6 + j, none⟩ = (Fd.mk pl k t s A1 m1 p1 c xs).cells[j]? := fun j hj => (HB.out.cell (p := ⟨b, o + i * 6 + j, none⟩) hb).trans (hc j hj)
      have d0 : wr.cell? ⟨b, o + i * 6, none⟩ = some (.int .i64 pl) := hcell 0 (by omega)
      have d1 : wr.cell? ⟨b, o + i * 6 + 1, none⟩ = some (.int .i64 k) := hcell 1 (by omega)
      have d2 : wr.cell? ⟨b, o + i * 6 + 2, none⟩ = some (.int .u32 (t : Int)) := hcell 2 (by omega)
      have d3 : wr.cell? ⟨b, o + i * 6 + 3, none⟩ = some (.string s) := hcell 3 (by omega)
      have d4 : wr.cell? ⟨b, o + i * 6 + 4, none⟩ = some (.slice A1 m1 p1) := hcell 4 (by omega)
      have d5 : wr.cell? ⟨b, o + i * 6 + 5, none⟩ = some (.int .i64 c) := hcell 5 (by omega)
      obtain ⟨x, y, hxy⟩ : ∃ x y, F t = (x, y) := ⟨_, _, rfl⟩
      rw [hxy] at hle hcnt
      simp only at hle hcnt
      have hlook := fun ob => (HM.out.alloc ob).look hft
      rw [hxy] at hlook
      unfold txnV at hlook
      clear hc hcl hf hst hcell hFd htake hxy
      have Hi : Hid (i < maxLen) := Lib.hid (by unfold maxLen; omega)
      by_cases hk : k = 3
      · by_cases hcx : c = (x : Int)
        · have q1 : (c == (x : Int)) = true := by simpa using hcx
          rw [if_pos hk, if_pos hcx] at hcnt
          have Hcnt := Lib.hid hcnt
          subst hk
          clear hcx hcnt
          go_wp2_with (at_mapUpdate; refine wpList_txn_put rfl _ _ _ rfl w.heap.size i F rfl ((HM.out.alloc _).alloc _) Hi.out t hft (x, true) rfl rfl ?_; intro w7 hm7 hg7)
          have HM7 := Lib.hid hm7
          rw [← Hcnt.out] at HM7
          have HB7 := Lib.hid (below_grown ((HB.out.alloc HB.out.size _).alloc (Nat.le_trans HB.out.size (by simp)) _) (Nat.le_trans HB.out.size (by simp; omega)) hg7 (fun q hq => by cases hq; exact Nat.le_refl _))
          clear hm7 hg7 hlook d0 d1 d2 d3 d4 d5
          go_roundw
          case rel => exact ⟨i + 1, by omega, by go_num, HM7, HB7⟩
          case measure => simp [intOf]; omega
        · have q1 : (c == (x : Int)) = false := by simpa using hcx
          rw [if_pos hk, if_neg hcx] at hcnt
          have Hcnt := Lib.hid hcnt
          subst hk
          clear hcx hcnt
          go_wp2_with (at_mapUpdate; refine wpList_txn_put rfl _ _ _ rfl w.heap.size i F rfl ((HM.out.alloc _).alloc _) Hi.out t hft (x, y) rfl rfl ?_; intro w7 hm7 hg7)
          have HM7 := Lib.hid hm7
          rw [← Hcnt.out] at HM7
          have HB7 := Lib.hid (below_grown ((HB.out.alloc HB.out.size _).alloc (Nat.le_trans HB.out.size (by simp)) _) (Nat.le_trans HB.out.size (by simp; omega)) hg7 (fun q hq => by cases hq; exact Nat.le_refl _))
          clear hm7 hg7 hlook d0 d1 d2 d3 d4 d5
          go_roundw
          case rel => exact ⟨i + 1, by omega, by go_num, HM7, HB7⟩
          case measure => simp [intOf]; omega
      · have q1 : (k == 3) = false := by simpa using hk
        have q2 : (k != 3) = true := by simp only [bne, q1]; rfl
        rw [if_neg hk] at hcnt
        have Hcnt := Lib.hid hcnt
        clear hk hcnt
        go_wp2_with (at_mapUpdate; refine wpList_txn_put rfl _ _ _ rfl w.heap.size i F rfl ((HM.out.alloc _).alloc _) Hi.out t hft (x + 1, false) rfl rfl ?_; intro w7 hm7 hg7)
        have HM7 := Lib.hid hm7
        rw [← Hcnt.out] at HM7
        have HB7 := Lib.hid (below_grown ((HB.out.alloc HB.out.size _).alloc (Nat.le_trans HB.out.size (by simp)) _) (Nat.le_trans HB.out.size (by simp; omega)) hg7 (fun q hq => by cases hq; exact Nat.le_refl _))
        clear hm7 hg7 hlook d0 d1 d2 d3 d4 d5
        go_roundw
        case rel => exact ⟨i + 1, by omega, by go_num, HM7, HB7⟩
        case measure => simp [intOf]; omega
    · obtain rfl : i = n := by omega
      rw [List.take_of_length_le (by rw [HF.out.1]; omega)] at HM
      go_wp2_with fail
      go_ret
      exact ⟨⟨rfl, HM.out⟩, HB.out⟩

end Go.Proofs.YtnhfmcijadficaaGreatDoor
