/- Found records as plain data, and as they lie in memory: rows of them that a call has made, rows of them that are read. -/
import Derived.Test.YtmdnhpnaikfpjaaGreatDoorZam
import Derived.Test.YtmdnhpnaikfpjaaGreatDoorZak
import Derived.Test.YtmdnhpnaikfpjaaGreatDoorZaj
namespace Go.Proofs.YtmdnhpnaikfpjaaGreatDoor
set_option maxRecDepth 100000
open Go.RowKit

/-- A found record as plain data. -/
structure FD where
  pl : Int
  k : Int
  t : Nat
  key : List UInt8
  blob : List UInt8
  c : Int

/-- A found record as it lies in memory, and what its blob reads as. -/
structure Fd where
  pl : Int
  k : Int
  t : Nat
  s : ByteArray
  A : Option Addr
  n : Nat
  cap : Nat
  c : Int
  blob : List UInt8

def Fd.d (f : Fd) : FD := ⟨f.pl, f.k, f.t, f.s.data.toList, f.blob, f.c⟩
def Fd.cells (f : Fd) : List Value := [.int .i64 f.pl, .int .i64 f.k, .int .u32 (f.t : Int), .string f.s, .slice f.A f.n f.cap, .int .i64 f.c]

theorem cells_at : ∀ (l : List Fd) (i j : Nat) (f : Fd), l[i]? = some f → j < 6 → (l.flatMap Fd.cells)[i * 6 + j]? = f.cells[j]?
  | [], i, j, f, h, _ => by simp at h
  | g :: l, 0, j, f, h, hj => by
    simp only [List.getElem?_cons_zero, Option.some.injEq] at h
    subst h
    rw [List.flatMap_cons, List.getElem?_append_left (by show 0 * 6 + j < 6; omega), Nat.zero_mul, Nat.zero_add]
  | g :: l, i + 1, j, f, h, hj => by
    have h6 : g.cells.length = 6 := rfl
    rw [List.flatMap_cons, List.getElem?_append_right (by rw [h6]; omega), h6, show (i + 1) * 6 + j - 6 = i * 6 + j by omega]
    exact cells_at l i j f (by simpa using h) hj

theorem cells_len : ∀ l : List Fd, (l.flatMap Fd.cells).length = l.length * 6
  | [] => rfl
  | g :: l => by
    have h6 : g.cells.length = 6 := rfl
    rw [List.flatMap_cons, List.length_append, cells_len l, List.length_cons, h6]
    omega

/-- Each record's blob reads as its bytes, in a block that isn't in S. -/
def Blobs (w : World) (S : Nat → Prop) (l : List Fd) : Prop := ∀ f ∈ l, ByteSl w S f.A f.n f.cap f.blob ∧ (f.A = none → f.n = 0 ∧ f.cap = 0)

section
variable {w w' : World} {S T : Nat → Prop} {l : List Fd}
theorem Blobs.nil_ (w : World) (S : Nat → Prop) : Blobs w S [] := fun f h => by cases h
theorem Blobs.only (h : Blobs w S l) (k : Only T w w') (hT : ∀ i, i < w.heap.size → T i → S i) : Blobs w' S l := fun f hf => ⟨(h f hf).1.only k hT, (h f hf).2⟩
theorem Blobs.mono (h : Blobs w S l) (hT : ∀ i, i < w.heap.size → T i → S i) : Blobs w T l := fun f hf => ⟨(h f hf).1.mono hT, (h f hf).2⟩
theorem Blobs.snoc (h : Blobs w S l) {f : Fd} (hf : ByteSl w S f.A f.n f.cap f.blob) (hn : f.A = none → f.n = 0 ∧ f.cap = 0) : Blobs w S (l ++ [f]) := fun g hg => by
  rcases List.mem_append.1 hg with hg | hg
  · exact h g hg
  · rw [List.mem_singleton] at hg
    subst hg
    exact ⟨hf, hn⟩
end

/-- The slice value reads as these found records; it and their blobs lie in blocks that aren't in S. -/
def Founds (w : World) (S : Nat → Prop) (A : Option Addr) (n cap : Nat) (l : List Fd) : Prop :=
  l.length = n ∧ n ≤ cap ∧ cap ≤ maxLen ∧ (0 < n → ∃ b o, A = some ⟨b, o, none⟩ ∧ b < w.heap.size ∧ ¬ S b ∧ ∀ i f, l[i]? = some f → ∀ j, j < 6 → w.cell? ⟨b, o + i * 6 + j, none⟩ = f.cells[j]?) ∧ Blobs w S l

section
variable {w w' : World} {S T : Nat → Prop} {A : Option Addr} {n cap : Nat} {l : List Fd}
theorem Founds.only (h : Founds w S A n cap l) (k : Only T w w') (hT : ∀ i, i < w.heap.size → T i → S i) : Founds w' S A n cap l :=
  ⟨h.1, h.2.1, h.2.2.1, fun hn => by
    obtain ⟨b, o, e, hb, hs, hc⟩ := h.2.2.2.1 hn
    exact ⟨b, o, e, Nat.lt_of_lt_of_le hb k.size, hs, fun i f hf j hj => (k.cell (p := ⟨b, o + i * 6 + j, none⟩) hb (fun ht => hs (hT _ hb ht))).trans (hc i f hf j hj)⟩, h.2.2.2.2.only k hT⟩
theorem Founds.mono (h : Founds w S A n cap l) (hT : ∀ i, i < w.heap.size → T i → S i) : Founds w T A n cap l :=
  ⟨h.1, h.2.1, h.2.2.1, fun hn => by
    obtain ⟨b, o, e, hb, hs, hc⟩ := h.2.2.2.1 hn
    exact ⟨b, o, e, hb, fun ht => hs (hT _ hb ht), hc⟩, h.2.2.2.2.mono hT⟩

/-- What a call has made so far reads as what it laid. -/
theorem Founds.of_own {base : Nat} {v : Value} (h : w.ownsRow base 205 6 v l.length (l.flatMap Fd.cells)) (hb : Blobs w S l) (hS : ∀ k, base ≤ k → k < w.heap.size → v.ownBlock = some k → ¬ S k) :
    ∃ A cap, v = .slice A l.length cap ∧ Founds w S A l.length cap l := by
  rcases h.2 with ⟨rfl, h0⟩ | ⟨g, cap, cur, rfl, hg, hh, hnc, hm, hs, ht⟩
  · exact ⟨none, 0, by rw [h0], rfl, by omega, by simp [maxLen], fun hn => absurd hn (by omega), hb⟩
  · have hlt : g < w.heap.size := (Array.getElem?_eq_some_iff.1 hh).1
    refine ⟨_, cap, rfl, rfl, hnc, hm, fun _ => ⟨g, 0, rfl, hlt, hS g hg hlt rfl, fun i f hf j hj => ?_⟩, hb⟩
    have h6 : f.cells.length = 6 := rfl
    have hc := h.cells (g := g) rfl (i * 6 + j) (f.cells[j]'(by omega)) (by rw [cells_at l i j f hf hj]; exact List.getElem?_eq_getElem (by omega))
    have ha : (⟨g, 0, none⟩ : Addr).add (i * 6 + j) = ⟨g, 0 + i * 6 + j, none⟩ := by unfold Addr.add; split <;> simp_all
    rw [ha] at hc
    rw [hc]
    exact (List.getElem?_eq_getElem (by omega)).symm
end

theorem Tryz.infoFound : (Tryz.prog.info? 205).map (fun i => (i.zero, i.size, i.bytes)) = some (some (.agg #[.int .i64 0, .int .i64 0, .int .u32 0, .string ⟨#[]⟩, .slice none 0 0, .int .i64 0]), 6, 72) := by kernel_rfl

/-- append of one found record, which lies in a block of its own, onto a row of the call's own. -/
theorem wpList_append_found {ops : Array Oper} {rest : List Oper} {o : Oper} {a : Act} {w : World} {Q : Exit → Act → World → Prop} (hgd : o.guard = none) (s x : Operand)
    (hq : o.op = .call { callee := .builtin .append, args := #[s, x], argTypes := #[200, 200] })
    (base : Nat) (v : Value) (hs : a.eval s = v) (l : List Fd) (hown : w.ownsRow base 205 6 v l.length (l.flatMap Fd.cells)) (f : Fd) (g : Nat)
    (hx : a.eval x = .slice (some ⟨g, 0, none⟩) 1 1) (hg : Blk w g 205 f.cells.toArray) (hm : l.length + 1 ≤ 1048576) (hbase : base ≤ w.heap.size)
    (h : ∀ v' w', w'.ownsRow base 205 6 v' (l ++ [f]).length ((l ++ [f]).flatMap Fd.cells) → w.grownBy w' v.ownBlock → (v'.ownBlock = v.ownBlock ∨ v'.ownBlock = some w.heap.size) → wpList Tryz.prog ops Q rest (a.put o.dst v') w') : wpList Tryz.prog ops Q (o :: rest) a w := by
  obtain ⟨i0, hi, hz0, hz1, hz2⟩ := info_parts Tryz.infoFound
  refine wpList_append_own_at _ hgd s x 200 hq base 205 i0 _ 6 72 Tryz.underlying200 hi hz0 hz1 hz2 (by simp [Value.cells]) (by decide) v l.length (l.flatMap Fd.cells) hs hown ⟨g, 0, none⟩ 1 1 f.cells hx rfl ?_ ?_ (by unfold maxLen; omega) (by omega) hbase ?_
  · intro j y hj
    have ha : (⟨g, 0, none⟩ : Addr).add j = ⟨g, j, none⟩ := by unfold Addr.add; split <;> simp_all
    rw [ha, hg.cell]
    simpa using hj
  · intro y hy
    simp only [Fd.cells, List.mem_cons, List.not_mem_nil, or_false] at hy
    rcases hy with rfl | rfl | rfl | rfl | rfl | rfl <;> rfl
  · intro v' w' h1 h2 _ h4
    refine h v' w' ?_ h2 h4
    rw [List.length_append, List.flatMap_append]
    simpa using h1

/-- What was read of old records stays, and the new one is read, behind such an append. -/
theorem Blobs.append {w w' : World} {v v' : Value} {l : List Fd} {f : Fd} (h : Blobs w (fun q => v.ownBlock = some q) l) (hf : ByteSl w (fun q => v.ownBlock = some q) f.A f.n f.cap f.blob) (hn : f.A = none → f.n = 0 ∧ f.cap = 0)
    (hg : w.grownBy w' v.ownBlock) (hv : v'.ownBlock = v.ownBlock ∨ v'.ownBlock = some w.heap.size) : Blobs w' (fun q => v'.ownBlock = some q) (l ++ [f]) := by
  have h1 := h.snoc hf hn
  have h2 : Blobs w (fun q => v.ownBlock = some q ∨ v'.ownBlock = some q) (l ++ [f]) := h1.mono (fun i hi hT => by
    rcases hT with hT | hT
    · exact hT
    · rcases hv with e | e
      · rw [← e]; exact hT
      · rw [e] at hT
        cases hT
        omega)
  exact (h2.only (Only.of_grown (S := fun q => v.ownBlock = some q) hg (fun q e _ => e)) (fun i _ h => Or.inl h)).mono (fun i _ h => Or.inr h)

end Go.Proofs.YtmdnhpnaikfpjaaGreatDoor

/- Slices of records, and of changes, that come in. -/
namespace Go.Proofs.YtmdnhpnaikfpjaaGreatDoor
set_option maxRecDepth 100000
open Go.ChangeShapes Go.WideShapes Go.ChangeAt Go.RowKit Go.Joins

/-- Records that lie side by side: the slice value reads as them (their places count for nothing). -/
def Recs (w : World) (S : Nat → Prop) (A : Option Addr) (n cap : Nat) (l : List Fd) : Prop :=
  l.length = n ∧ n ≤ cap ∧ cap ≤ maxLen ∧ (0 < n → ∃ b o, A = some ⟨b, o, none⟩ ∧ b < w.heap.size ∧ ¬ S b ∧ ∀ i f, l[i]? = some f → ∀ j, j < 5 → w.cell? ⟨b, o + i * 5 + j, none⟩ = f.cells[j + 1]?) ∧ Blobs w S l ∧ ∀ f ∈ l, f.t ≤ 4294967295

/-- A change as it lies in memory. -/
structure Ch where
  del : Bool
  s : ByteArray
  A : Option Addr
  n : Nat
  cap : Nat
  blob : List UInt8
def Ch.cells (f : Ch) : List Value := [.bool f.del, .string f.s, .slice f.A f.n f.cap]
def Chs (w : World) (S : Nat → Prop) (A : Option Addr) (n cap : Nat) (l : List Ch) : Prop :=
  l.length = n ∧ n ≤ cap ∧ cap ≤ maxLen ∧ (0 < n → ∃ b o, A = some ⟨b, o, none⟩ ∧ b < w.heap.size ∧ ¬ S b ∧ ∀ i f, l[i]? = some f → ∀ j, j < 3 → w.cell? ⟨b, o + i * 3 + j, none⟩ = f.cells[j]?) ∧
    ∀ f ∈ l, ByteSl w S f.A f.n f.cap f.blob ∧ (f.A = none → f.n = 0 ∧ f.cap = 0)

section
variable {H : Type} {enc : TypeId × Value → H} {W : World} {base : Nat}

theorem open_recs {v : Value} {d : DataW H} {p : List MemPlace} (hv : Value.okWide Tryz.prog W .any base 213 v) (h : DataW.Trod enc Tryz.prog W 0 (fun _ => true) true 213 v d p) :
    ∃ (A : Option Addr) (n cap : Nat) (l : List Fd), v = .slice A n cap ∧ Recs W (fun q => W.heap.size ≤ q) A n cap l := by
  obtain ⟨A, n, cap, l, rfl, hl, hn, hm, hA, hP⟩ := open_rows (enc := enc) (⟨0, 0, 0, ⟨#[]⟩, none, 0, 0, 0, []⟩ : Fd) 213 105 5 Tryz.underlying213 (by kernel_rfl) (by decide)
    (fun b off f => (∀ j, j < 5 → W.cell? ⟨b, off + j, none⟩ = f.cells[j + 1]?) ∧ (ByteSl W (fun q => W.heap.size ≤ q) f.A f.n f.cap f.blob ∧ (f.A = none → f.n = 0 ∧ f.cap = 0)) ∧ f.t ≤ 4294967295)
    (fun b off fuel cs x hc ht => by
      obtain ⟨ys, m, _, _, _, hyl, hg⟩ := DataW.trod_struct Tryz.underlying105 ht
      obtain ⟨_, hl, hat⟩ := World.cells?_some hc
      match cs, hl with
      | [c0, c1, c2, c3, c4], _ =>
        match ys, hyl with
        | [y0, y1, y2, y3, y4], _ =>
          have g0 : DataW.trod enc Tryz.prog W 0 (fun _ => true) true m 3 [c0] = some y0 := hg 0 _ rfl
          have g1 : DataW.trod enc Tryz.prog W 0 (fun _ => true) true m 54 [c1] = some y1 := hg 1 _ rfl
          have g2 : DataW.trod enc Tryz.prog W 0 (fun _ => true) true m 9 [c2] = some y2 := hg 2 _ rfl
          have g3 : DataW.trod enc Tryz.prog W 0 (fun _ => true) true m 22 [c3] = some y3 := hg 3 _ rfl
          have g4 : DataW.trod enc Tryz.prog W 0 (fun _ => true) true m 3 [c4] = some y4 := hg 4 _ rfl
          obtain ⟨k, e0, _, _⟩ := DataW.trod_int Tryz.underlying3 g0
          obtain ⟨t, e1, _, w1⟩ := DataW.trod_int Tryz.underlying54 g1
          obtain ⟨s, e2, _, _⟩ := DataW.trod_string Tryz.underlying9 g2
          obtain ⟨A, n, cap, xs, rfl, hB, hA⟩ := bytes_cell g3
          obtain ⟨c, e4, _, _⟩ := DataW.trod_int Tryz.underlying3 g4
          simp at e0 e1 e2 e4
          subst e0 e1 e2 e4
          have hb := bd_u32i w1
          obtain ⟨t', rfl⟩ := Int.eq_ofNat_of_zero_le hb.1
          refine ⟨⟨0, k, t', s, A, n, cap, c, xs⟩, fun j hj => ?_, ⟨hB, hA⟩, by show t' ≤ _; omega⟩
          have h1 := hat j hj
          rw [add_off] at h1
          rw [h1]
          rfl)
    hv h
  have hall : ∀ f ∈ l, (ByteSl W (fun q => W.heap.size ≤ q) f.A f.n f.cap f.blob ∧ (f.A = none → f.n = 0 ∧ f.cap = 0)) ∧ f.t ≤ 4294967295 := fun f hf => by
    obtain ⟨i, hi, he⟩ := List.mem_iff_getElem.1 hf
    obtain ⟨b, o, _, _, hP2⟩ := hP (by omega)
    exact (hP2 i f (by rw [List.getElem?_eq_getElem hi, he])).2
  refine ⟨A, n, cap, l, rfl, hl, hn, hm, fun h0 => ?_, fun f hf => (hall f hf).1, fun f hf => (hall f hf).2⟩
  obtain ⟨b, o, e, hb, hP2⟩ := hP h0
  exact ⟨b, o, e, hb, by omega, fun i f hf => (hP2 i f hf).1⟩

theorem open_changes {v : Value} {d : DataW H} {p : List MemPlace} (hv : Value.okWide Tryz.prog W .any base 36 v) (h : DataW.Trod enc Tryz.prog W 0 (fun _ => true) true 36 v d p) :
    ∃ (A : Option Addr) (n cap : Nat) (l : List Ch), v = .slice A n cap ∧ Chs W (fun q => W.heap.size ≤ q) A n cap l := by
  obtain ⟨A, n, cap, l, rfl, hl, hn, hm, hA, hP⟩ := open_rows (enc := enc) (⟨false, ⟨#[]⟩, none, 0, 0, []⟩ : Ch) 36 35 3 Tryz.underlying36 (by kernel_rfl) (by decide)
    (fun b off f => (∀ j, j < 3 → W.cell? ⟨b, off + j, none⟩ = f.cells[j]?) ∧ (ByteSl W (fun q => W.heap.size ≤ q) f.A f.n f.cap f.blob ∧ (f.A = none → f.n = 0 ∧ f.cap = 0)))
    (fun b off fuel cs x hc ht => by
      obtain ⟨ys, m, _, _, _, hyl, hg⟩ := DataW.trod_struct Tryz.underlying35 ht
      obtain ⟨_, hl, hat⟩ := World.cells?_some hc
      match cs, hl with
      | [c0, c1, c2], _ =>
        match ys, hyl with
        | [y0, y1, y2], _ =>
          have g0 : DataW.trod enc Tryz.prog W 0 (fun _ => true) true m 4 [c0] = some y0 := hg 0 _ rfl
          have g1 : DataW.trod enc Tryz.prog W 0 (fun _ => true) true m 9 [c1] = some y1 := hg 1 _ rfl
          have g2 : DataW.trod enc Tryz.prog W 0 (fun _ => true) true m 22 [c2] = some y2 := hg 2 _ rfl
          obtain ⟨k, e0, _⟩ := DataW.trod_bool Tryz.underlying4 g0
          obtain ⟨s, e1, _, _⟩ := DataW.trod_string Tryz.underlying9 g1
          obtain ⟨A, n, cap, xs, rfl, hB, hA⟩ := bytes_cell g2
          simp at e0 e1
          subst e0 e1
          refine ⟨⟨k, s, A, n, cap, xs⟩, fun j hj => ?_, hB, hA⟩
          have h1 := hat j hj
          rw [add_off] at h1
          rw [h1]
          rfl)
    hv h
  have hall : ∀ f ∈ l, (ByteSl W (fun q => W.heap.size ≤ q) f.A f.n f.cap f.blob ∧ (f.A = none → f.n = 0 ∧ f.cap = 0)) := fun f hf => by
    obtain ⟨i, hi, he⟩ := List.mem_iff_getElem.1 hf
    obtain ⟨b, o, _, _, hP2⟩ := hP (by omega)
    exact (hP2 i f (by rw [List.getElem?_eq_getElem hi, he])).2
  refine ⟨A, n, cap, l, rfl, hl, hn, hm, fun h0 => ?_, hall⟩
  obtain ⟨b, o, e, hb, hP2⟩ := hP h0
  exact ⟨b, o, e, hb, by omega, fun i f hf => (hP2 i f hf).1⟩
end

end Go.Proofs.YtmdnhpnaikfpjaaGreatDoor

/- The walks over blob's small functions: Down, takes, behindHeader, record, roomOf. -/
namespace Go.Proofs.YtmdnhpnaikfpjaaGreatDoor
set_option maxRecDepth 100000
open Go.RowKit

/-- A store's cells. -/
structure HeadV where
  sec : Int
  next : Int
  left : Int
  txn : Int
def HeadV.v (h : HeadV) : Value := .agg #[.int .i64 h.sec, .int .i64 h.next, .int .i64 h.left, .int .u32 h.txn]
def HeadV.none : HeadV := ⟨0, 0, 0, 0⟩
def storeC (p mb : Nat) (h : HeadV) (d : Bool) : Array Value := #[.pointer (some ⟨p, 0, .none⟩), .map (some mb), .int .i64 h.sec, .int .i64 h.next, .int .i64 h.left, .int .u32 h.txn, .bool d]

theorem down_nil (w : World) : Calls Tryz.prog 25 #[.pointer none] w fun e w' => e = .returned (.bool true) ∧ w = w' := by
  go_enter Tryz.func25, Tryz.ntmps25
  go_wp2
  go_ret
  exact ⟨rfl, rfl⟩
theorem down_any (s p mb : Nat) (h : HeadV) (d : Bool) (w : World) (hb : Blk w s 115 (storeC p mb h d)) : Calls Tryz.prog 25 #[.pointer (some ⟨s, 0, none⟩)] w fun e w' => e = .returned (.bool d) ∧ w = w' := by
  have c0 := hb.cell 0
  have c6 := hb.cell 6
  simp [storeC] at c0 c6
  go_enter Tryz.func25, Tryz.ntmps25
  go_wp2
  go_ret
  exact ⟨rfl, rfl⟩

/-- Has a head room for so many bytes? -/
def takesB (h : HeadV) (room : Int) : Bool := decide (h.txn ≤ 4294901759) && decide (room ≤ h.left)
theorem takes_any (h : HeadV) (room : Int) (w : World) : Calls Tryz.prog 101 #[h.v, .int .i64 room] w fun e w' => e = .returned (.bool (takesB h room)) ∧ Below w.heap.size w w' := by
  obtain ⟨a, b, c, t⟩ := h
  unfold takesB HeadV.v
  by_cases h1 : t ≤ 4294901759
  · go_enter Tryz.func101, Tryz.ntmps101
    go_wp2
    go_ret
    exact ⟨by simp [h1], (Below.refl _ _).alloc (Nat.le_refl _) _⟩
  · have h2 : decide (t ≤ 4294901759) = false := decide_eq_false h1
    go_enter Tryz.func101, Tryz.ntmps101
    go_wp2
    go_ret
    exact ⟨by simp only [h2, Bool.false_and]; rfl, (Below.refl _ _).alloc (Nat.le_refl _) _⟩

/-- A change's record: its kind, its blob. -/
def Ch.rk (f : Ch) : Nat := if f.del then 2 else 1
def Ch.rA (f : Ch) : Option Addr := if f.del then none else f.A
def Ch.rN (f : Ch) : Nat := if f.del then 0 else f.n
def Ch.rC (f : Ch) : Nat := if f.del then 0 else f.cap
def Ch.rB (f : Ch) : List UInt8 := if f.del then [] else f.blob
def Ch.v (f : Ch) : Value := .agg #[.bool f.del, .string f.s, .slice f.A f.n f.cap]
def recV (f : Ch) (t : Int) : Value := .agg #[.int .i64 (f.rk : Int), .int .u32 t, .string f.s, .slice f.rA f.rN f.rC, .int .i64 0]

set_option maxHeartbeats 1000000 in
theorem chRec_any (f : Ch) (t : Int) (w : World) : Calls Tryz.prog 105 #[f.v, .int .u32 t] w fun e w' => e = .returned (recV f t) ∧ Below w.heap.size w w' := by
  obtain ⟨d, s, A, n, cap, xs⟩ := f
  unfold Ch.v recV Ch.rk Ch.rA Ch.rN Ch.rC
  have hb : Below w.heap.size w ((w.alloc (.cells #[.bool d, .string s, .slice A n cap] 35)).alloc (.cells #[.int .i64 0, .int .u32 0, .string ⟨#[]⟩, .slice none 0 0, .int .i64 0] 105)) :=
    ((Below.refl _ _).alloc (Nat.le_refl _) _).alloc (by simp) _
  cases d
  · go_enter Tryz.func105, Tryz.ntmps105
    go_wp2
    exact bodyPost_ret (v := .agg #[.int .i64 1, .int .u32 t, .string s, .slice A n cap, .int .i64 0]) (by simp [results, Tryz.results105, go_sem]) rfl ⟨rfl, ((Below.refl _ _).alloc (Nat.le_refl _) _).alloc (by simp) _⟩
  · go_enter Tryz.func105, Tryz.ntmps105
    go_wp2
    exact bodyPost_ret (v := .agg #[.int .i64 2, .int .u32 t, .string s, .slice none 0 0, .int .i64 0]) (by simp [results, Tryz.results105, go_sem]) rfl ⟨rfl, ((Below.refl _ _).alloc (Nat.le_refl _) _).alloc (by simp) _⟩

/-- A commit's room. -/
def Ch.sz (f : Ch) : Nat := f.s.size + f.rN + 16
def roomL (l : List Ch) : Nat := 16 + (l.map Ch.sz).sum
theorem roomL_snoc (l : List Ch) (f : Ch) : roomL (l ++ [f]) = roomL l + f.sz := by simp [roomL]; omega
/-- Changes that are none too long. -/
def Fair (l : List Ch) : Prop := ∀ f ∈ l, f.s.size ≤ 64 ∧ f.rN ≤ 4096
theorem roomL_le : ∀ l : List Ch, Fair l → roomL l ≤ 16 + l.length * 4176
  | [], _ => by simp [roomL]
  | f :: l, h => by
    have h1 := roomL_le l (fun g hg => h g (List.mem_cons_of_mem _ hg))
    have h2 := h f List.mem_cons_self
    simp [roomL, Ch.sz] at h1 ⊢
    omega

theorem Chs.at_ {w : World} {S : Nat → Prop} {A : Option Addr} {n cap : Nat} {l : List Ch} (h : Chs w S A n cap l) {i : Nat} (hi : i < n) : ∃ b o f, A = some ⟨b, o, none⟩ ∧ b < w.heap.size ∧ ¬ S b ∧ l[i]? = some f ∧ ∀ j, j < 3 → w.cell? ⟨b, o + i * 3 + j, none⟩ = f.cells[j]? :=
  RowSl.at_ (cells := Ch.cells) (k := 3) ⟨h.1, h.2.1, h.2.2.1, h.2.2.2.1⟩ hi
theorem Chs.only {w w' : World} {S T : Nat → Prop} {A : Option Addr} {n cap : Nat} {l : List Ch} (h : Chs w S A n cap l) (k : Only T w w') (hT : ∀ i, i < w.heap.size → T i → S i) : Chs w' S A n cap l := by
  have h1 := RowSl.only (cells := Ch.cells) (k := 3) ⟨h.1, h.2.1, h.2.2.1, h.2.2.2.1⟩ k hT
  exact ⟨h1.1, h1.2.1, h1.2.2.1, h1.2.2.2, fun f hf => ⟨(h.2.2.2.2 f hf).1.only k hT, (h.2.2.2.2 f hf).2⟩⟩
theorem Chs.mono {w : World} {S T : Nat → Prop} {A : Option Addr} {n cap : Nat} {l : List Ch} (h : Chs w S A n cap l) (hT : ∀ i, i < w.heap.size → T i → S i) : Chs w T A n cap l := by
  have h1 := RowSl.mono (cells := Ch.cells) (k := 3) ⟨h.1, h.2.1, h.2.2.1, h.2.2.2.1⟩ hT
  exact ⟨h1.1, h1.2.1, h1.2.2.1, h1.2.2.2, fun f hf => ⟨(h.2.2.2.2 f hf).1.mono hT, (h.2.2.2.2 f hf).2⟩⟩
theorem Chs.below {w w' : World} {S : Nat → Prop} {A : Option Addr} {n cap : Nat} {l : List Ch} (h : Chs w S A n cap l) (k : Below w.heap.size w w') : Chs w' S A n cap l := h.only (Only.of_below (S := Empty) k) (fun _ _ h => h.elim)
theorem Chs.nil_ (w : World) (S : Nat → Prop) (A : Option Addr) (cap : Nat) (h : cap ≤ maxLen) : Chs w S A 0 cap [] := ⟨rfl, Nat.zero_le _, h, fun h => absurd h (by omega), fun f hf => by cases hf⟩

theorem take_snoc {α : Type} (l : List α) (i : Nat) (f : α) (h : l[i]? = some f) : l.take (i + 1) = l.take i ++ [f] := by
  rw [List.take_add_one, h]
  rfl

set_option maxHeartbeats 2000000 in
theorem roomOf_any (A : Option Addr) (n cap : Nat) (l : List Ch) (w : World) (hC : Chs w Empty A n cap l) (hF : Fair l) (hn : n ≤ 1024) :
    Calls Tryz.prog 57 #[.slice A n cap] w fun e w' => e = .returned (.int .i64 (roomL l : Int)) ∧ Below w.heap.size w w' := by
  have HC := Lib.hid hC
  have HF := Lib.hid hF
  have hcap : n ≤ cap := hC.2.1
  have hcap2 : cap ≤ 9223372036854775807 := by have := hC.2.2.1; unfold maxLen at this; omega
  clear hC hF
  go_enter Tryz.func57, Tryz.ntmps57
  go_wp2_with fail
  refine (rcSize_any 3 0 0 ⟨#[]⟩ none 0 0 _ (by decide) (by decide)).mono ?_
  rintro e1 w1 ⟨rfl, hb1⟩
  have Hb1 := Lib.hid hb1
  clear hb1
  go_wp2_with fail
  go_loopw [3, 10] (fun r v wr => ∃ i : Nat, i ≤ n ∧ v = .int .i64 (i : Int) ∧ r = .int .i64 (roomL (l.take i) : Int) ∧ Hid (Below w.heap.size w wr)) (fun _ v _ => n - (intOf v).toNat)
  case atStart => exact ⟨0, Nat.zero_le _, rfl, by simp [roomL], Hb1⟩
  case round =>
    obtain ⟨i, hi, rfl, rfl, HB⟩ := hrel
    by_cases hlt : i < n
    · obtain ⟨b, o, f, rfl, hb, -, hf, hc⟩ := (HC.out.only (Only.of_below (S := Empty) HB.out) (fun _ _ h => h)).at_ hlt
      have hfair := HF.out f (List.mem_of_getElem? hf)
      have hsum := roomL_snoc (l.take i) f
      rw [← take_snoc l i f hf] at hsum
      have hle := roomL_le (l.take i) (fun g hg => HF.out g (List.mem_of_mem_take hg))
      rw [List.length_take] at hle
      have Hrec := Lib.hid (chRec_any f 0)
      have hsz : f.sz = f.s.size + f.rN + 16 := rfl
      have hk : (f.rk : Int) = 1 ∨ (f.rk : Int) = 2 := by unfold Ch.rk; split <;> simp
      have c0 := hc 0 (by omega)
      have c1 := hc 1 (by omega)
      have c2 := hc 2 (by omega)
      simp [Ch.cells] at c0 c1 c2
      clear hc hf
      go_wp2_with fail
      refine (Hrec.out _).mono ?_
      unfold recV
      rintro e2 w2 ⟨rfl, hb2⟩
      have Hb2 := Lib.hid ((HB.out.alloc HB.out.size _).trans (hb2.mono (by have := HB.out.size; simp; omega)))
      clear hb2
      go_wp2_with fail
      refine (rcSize_any (f.rk : Int) 0 0 f.s f.rA f.rN f.rC _ (by omega) (by omega)).mono ?_
      rintro e3 w3 ⟨rfl, hb3⟩
      have Hb3 := Lib.hid (Hb2.out.trans (hb3.mono Hb2.out.size))
      clear hb3
      go_wp2_with fail
      go_roundw
      case rel => exact ⟨i + 1, by omega, by simp, by rw [hsum, hsz]; congr 1, Hb3⟩
      case measure => simp [intOf]; omega
    · have hin : i = n := by omega
      subst hin
      have ht : l.take i = l := List.take_of_length_le (by have := HC.out.1; omega)
      rw [ht]
      go_wp2_with fail
      go_ret
      exact ⟨rfl, HB.out⟩

end Go.Proofs.YtmdnhpnaikfpjaaGreatDoor
