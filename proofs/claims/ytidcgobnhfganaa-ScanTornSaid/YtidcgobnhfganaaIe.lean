/- Slices of records, and of changes, that come in. -/
import Derived.Test.YtidcgobnhfganaaOp
import Derived.Test.YtidcgobnhfganaaIa
namespace Go.Proofs.Ytidcgobnhfganaa
open Go.ChangeShapes Go.WideShapes Go.ChangeAt Go.RowKit Go.Joins

/-- Records that lie side by side: the slice value reads as them (their places count for nothing). -/
def Recs (w : World) (S : Nat → Prop) (A : Option Addr) (n cap : Nat) (l : List Fd) : Prop :=
  l.length = n ∧ n ≤ cap ∧ cap ≤ maxLen ∧ (0 < n → ∃ b o, A = some ⟨b, o, none⟩ ∧ b < w.heap.size ∧ ¬ S b ∧ ∀ i f, l[i]? = some f → ∀ j, j < 5 → w.cell? ⟨b, o + i * 5 + j, none⟩ = f.cells[j + 1]?) ∧ Blobs w S l ∧ ∀ f ∈ l, f.t ≤ 4294967295

/-- A change as it lies in memory. -/
structure Ch where
  del : Bool
  s : ByteArray
  A : Option Addr
  n : Nat
  cap : Nat
  blob : List UInt8
def Ch.cells (f : Ch) : List Value := [.bool f.del, .string f.s, .slice f.A f.n f.cap]
def Chs (w : World) (S : Nat → Prop) (A : Option Addr) (n cap : Nat) (l : List Ch) : Prop :=
  l.length = n ∧ n ≤ cap ∧ cap ≤ maxLen ∧ (0 < n → ∃ b o, A = some ⟨b, o, none⟩ ∧ b < w.heap.size ∧ ¬ S b ∧ ∀ i f, l[i]? = some f → ∀ j, j < 3 → w.cell? ⟨b, o + i * 3 + j, none⟩ = f.cells[j]?) ∧
    ∀ f ∈ l, ByteSl w S f.A f.n f.cap f.blob ∧ (f.A = none → f.n = 0 ∧ f.cap = 0)

section
variable {H : Type} {enc : TypeId × Value → H} {W : World} {base : Nat}

theorem open_recs {v : Value} {d : DataW H} {p : List MemPlace} (hv : Value.okWide Try.prog W .any base 22 v) (h : DataW.Trod enc Try.prog W 0 (fun _ => true) true 22 v d p) :
    ∃ (A : Option Addr) (n cap : Nat) (l : List Fd), v = .slice A n cap ∧ Recs W (fun q => W.heap.size ≤ q) A n cap l := by
  obtain ⟨A, n, cap, l, rfl, hl, hn, hm, hA, hP⟩ := open_rows (enc := enc) (⟨0, 0, 0, ⟨#[]⟩, none, 0, 0, 0, []⟩ : Fd) 22 28 5 Try.underlying22 (by kernel_rfl) (by decide)
    (fun b off f => (∀ j, j < 5 → W.cell? ⟨b, off + j, none⟩ = f.cells[j + 1]?) ∧ (ByteSl W (fun q => W.heap.size ≤ q) f.A f.n f.cap f.blob ∧ (f.A = none → f.n = 0 ∧ f.cap = 0)) ∧ f.t ≤ 4294967295)
    (fun b off fuel cs x hc ht => by
      obtain ⟨ys, m, _, _, _, hyl, hg⟩ := DataW.trod_struct Try.underlying28 ht
      obtain ⟨_, hl, hat⟩ := World.cells?_some hc
      match cs, hl with
      | [c0, c1, c2, c3, c4], _ =>
        match ys, hyl with
        | [y0, y1, y2, y3, y4], _ =>
          have g0 : DataW.trod enc Try.prog W 0 (fun _ => true) true m 3 [c0] = some y0 := hg 0 _ rfl
          have g1 : DataW.trod enc Try.prog W 0 (fun _ => true) true m 26 [c1] = some y1 := hg 1 _ rfl
          have g2 : DataW.trod enc Try.prog W 0 (fun _ => true) true m 9 [c2] = some y2 := hg 2 _ rfl
          have g3 : DataW.trod enc Try.prog W 0 (fun _ => true) true m 24 [c3] = some y3 := hg 3 _ rfl
          have g4 : DataW.trod enc Try.prog W 0 (fun _ => true) true m 3 [c4] = some y4 := hg 4 _ rfl
          obtain ⟨k, e0, _, _⟩ := DataW.trod_int Try.underlying3 g0
          obtain ⟨t, e1, _, w1⟩ := DataW.trod_int Try.underlying26 g1
          obtain ⟨s, e2, _, _⟩ := DataW.trod_string Try.underlying9 g2
          obtain ⟨A, n, cap, xs, rfl, hB, hA⟩ := bytes_cell g3
          obtain ⟨c, e4, _, _⟩ := DataW.trod_int Try.underlying3 g4
          simp at e0 e1 e2 e4
          subst e0 e1 e2 e4
          have hb := bd_u32i w1
          obtain ⟨t', rfl⟩ := Int.eq_ofNat_of_zero_le hb.1
          refine ⟨⟨0, k, t', s, A, n, cap, c, xs⟩, fun j hj => ?_, ⟨hB, hA⟩, by show t' ≤ _; omega⟩
          have h1 := hat j hj
          rw [add_off] at h1
          rw [h1]
          rfl)
    hv h
  have hall : ∀ f ∈ l, (ByteSl W (fun q => W.heap.size ≤ q) f.A f.n f.cap f.blob ∧ (f.A = none → f.n = 0 ∧ f.cap = 0)) ∧ f.t ≤ 4294967295 := fun f hf => by
    obtain ⟨i, hi, he⟩ := List.mem_iff_getElem.1 hf
    obtain ⟨b, o, _, _, hP2⟩ := hP (by omega)
    exact (hP2 i f (by rw [List.getElem?_eq_getElem hi, he])).2
  refine ⟨A, n, cap, l, rfl, hl, hn, hm, fun h0 => ?_, fun f hf => (hall f hf).1, fun f hf => (hall f hf).2⟩
  obtain ⟨b, o, e, hb, hP2⟩ := hP h0
  exact ⟨b, o, e, hb, by omega, fun i f hf => (hP2 i f hf).1⟩

theorem open_changes {v : Value} {d : DataW H} {p : List MemPlace} (hv : Value.okWide Try.prog W .any base 38 v) (h : DataW.Trod enc Try.prog W 0 (fun _ => true) true 38 v d p) :
    ∃ (A : Option Addr) (n cap : Nat) (l : List Ch), v = .slice A n cap ∧ Chs W (fun q => W.heap.size ≤ q) A n cap l := by
  obtain ⟨A, n, cap, l, rfl, hl, hn, hm, hA, hP⟩ := open_rows (enc := enc) (⟨false, ⟨#[]⟩, none, 0, 0, []⟩ : Ch) 38 41 3 Try.underlying38 (by kernel_rfl) (by decide)
    (fun b off f => (∀ j, j < 3 → W.cell? ⟨b, off + j, none⟩ = f.cells[j]?) ∧ (ByteSl W (fun q => W.heap.size ≤ q) f.A f.n f.cap f.blob ∧ (f.A = none → f.n = 0 ∧ f.cap = 0)))
    (fun b off fuel cs x hc ht => by
      obtain ⟨ys, m, _, _, _, hyl, hg⟩ := DataW.trod_struct Try.underlying41 ht
      obtain ⟨_, hl, hat⟩ := World.cells?_some hc
      match cs, hl with
      | [c0, c1, c2], _ =>
        match ys, hyl with
        | [y0, y1, y2], _ =>
          have g0 : DataW.trod enc Try.prog W 0 (fun _ => true) true m 4 [c0] = some y0 := hg 0 _ rfl
          have g1 : DataW.trod enc Try.prog W 0 (fun _ => true) true m 9 [c1] = some y1 := hg 1 _ rfl
          have g2 : DataW.trod enc Try.prog W 0 (fun _ => true) true m 24 [c2] = some y2 := hg 2 _ rfl
          obtain ⟨k, e0, _⟩ := DataW.trod_bool Try.underlying4 g0
          obtain ⟨s, e1, _, _⟩ := DataW.trod_string Try.underlying9 g1
          obtain ⟨A, n, cap, xs, rfl, hB, hA⟩ := bytes_cell g2
          simp at e0 e1
          subst e0 e1
          refine ⟨⟨k, s, A, n, cap, xs⟩, fun j hj => ?_, hB, hA⟩
          have h1 := hat j hj
          rw [add_off] at h1
          rw [h1]
          rfl)
    hv h
  have hall : ∀ f ∈ l, (ByteSl W (fun q => W.heap.size ≤ q) f.A f.n f.cap f.blob ∧ (f.A = none → f.n = 0 ∧ f.cap = 0)) := fun f hf => by
    obtain ⟨i, hi, he⟩ := List.mem_iff_getElem.1 hf
    obtain ⟨b, o, _, _, hP2⟩ := hP (by omega)
    exact (hP2 i f (by rw [List.getElem?_eq_getElem hi, he])).2
  refine ⟨A, n, cap, l, rfl, hl, hn, hm, fun h0 => ?_, hall⟩
  obtain ⟨b, o, e, hb, hP2⟩ := hP h0
  exact ⟨b, o, e, hb, by omega, fun i f hf => (hP2 i f hf).1⟩
end

end Go.Proofs.Ytidcgobnhfganaa
