/- Found records as plain data, and as they lie in memory: rows of them that a call has made, rows of them that are read. -/
import Derived.Test.YtidcgobnhfganaaHi
namespace Go.Proofs.Ytidcgobnhfganaa
open Go.RowKit

/-- A found record as plain data. -/
structure FD where
  pl : Int
  k : Int
  t : Nat
  key : List UInt8
  blob : List UInt8
  c : Int

/-- A found record as it lies in memory, and what its blob reads as. -/
structure Fd where
  pl : Int
  k : Int
  t : Nat
  s : ByteArray
  A : Option Addr
  n : Nat
  cap : Nat
  c : Int
  blob : List UInt8

def Fd.d (f : Fd) : FD := ⟨f.pl, f.k, f.t, f.s.data.toList, f.blob, f.c⟩
def Fd.cells (f : Fd) : List Value := [.int .i64 f.pl, .int .i64 f.k, .int .u32 (f.t : Int), .string f.s, .slice f.A f.n f.cap, .int .i64 f.c]

theorem cells_at : ∀ (l : List Fd) (i j : Nat) (f : Fd), l[i]? = some f → j < 6 → (l.flatMap Fd.cells)[i * 6 + j]? = f.cells[j]?
  | [], i, j, f, h, _ => by simp at h
  | g :: l, 0, j, f, h, hj => by
    simp only [List.getElem?_cons_zero, Option.some.injEq] at h
    subst h
    rw [List.flatMap_cons, List.getElem?_append_left (by show 0 * 6 + j < 6; omega), Nat.zero_mul, Nat.zero_add]
  | g :: l, i + 1, j, f, h, hj => by
    have h6 : g.cells.length = 6 := rfl
    rw [List.flatMap_cons, List.getElem?_append_right (by rw [h6]; omega), h6, show (i + 1) * 6 + j - 6 = i * 6 + j by omega]
    exact cells_at l i j f (by simpa using h) hj

theorem cells_len : ∀ l : List Fd, (l.flatMap Fd.cells).length = l.length * 6
  | [] => rfl
  | g :: l => by
    have h6 : g.cells.length = 6 := rfl
    rw [List.flatMap_cons, List.length_append, cells_len l, List.length_cons, h6]
    omega

/-- Each record's blob reads as its bytes, in a block that isn't in S. -/
def Blobs (w : World) (S : Nat → Prop) (l : List Fd) : Prop := ∀ f ∈ l, ByteSl w S f.A f.n f.cap f.blob ∧ (f.A = none → f.n = 0 ∧ f.cap = 0)

section
variable {w w' : World} {S T : Nat → Prop} {l : List Fd}
theorem Blobs.nil_ (w : World) (S : Nat → Prop) : Blobs w S [] := fun f h => by cases h
theorem Blobs.only (h : Blobs w S l) (k : Only T w w') (hT : ∀ i, i < w.heap.size → T i → S i) : Blobs w' S l := fun f hf => ⟨(h f hf).1.only k hT, (h f hf).2⟩
theorem Blobs.mono (h : Blobs w S l) (hT : ∀ i, i < w.heap.size → T i → S i) : Blobs w T l := fun f hf => ⟨(h f hf).1.mono hT, (h f hf).2⟩
theorem Blobs.snoc (h : Blobs w S l) {f : Fd} (hf : ByteSl w S f.A f.n f.cap f.blob) (hn : f.A = none → f.n = 0 ∧ f.cap = 0) : Blobs w S (l ++ [f]) := fun g hg => by
  rcases List.mem_append.1 hg with hg | hg
  · exact h g hg
  · rw [List.mem_singleton] at hg
    subst hg
    exact ⟨hf, hn⟩
end

/-- The slice value reads as these found records; it and their blobs lie in blocks that aren't in S. -/
def Founds (w : World) (S : Nat → Prop) (A : Option Addr) (n cap : Nat) (l : List Fd) : Prop :=
  l.length = n ∧ n ≤ cap ∧ cap ≤ maxLen ∧ (0 < n → ∃ b o, A = some ⟨b, o, none⟩ ∧ b < w.heap.size ∧ ¬ S b ∧ ∀ i f, l[i]? = some f → ∀ j, j < 6 → w.cell? ⟨b, o + i * 6 + j, none⟩ = f.cells[j]?) ∧ Blobs w S l

section
variable {w w' : World} {S T : Nat → Prop} {A : Option Addr} {n cap : Nat} {l : List Fd}
theorem Founds.only (h : Founds w S A n cap l) (k : Only T w w') (hT : ∀ i, i < w.heap.size → T i → S i) : Founds w' S A n cap l :=
  ⟨h.1, h.2.1, h.2.2.1, fun hn => by
    obtain ⟨b, o, e, hb, hs, hc⟩ := h.2.2.2.1 hn
    exact ⟨b, o, e, Nat.lt_of_lt_of_le hb k.size, hs, fun i f hf j hj => (k.cell (p := ⟨b, o + i * 6 + j, none⟩) hb (fun ht => hs (hT _ hb ht))).trans (hc i f hf j hj)⟩, h.2.2.2.2.only k hT⟩
theorem Founds.mono (h : Founds w S A n cap l) (hT : ∀ i, i < w.heap.size → T i → S i) : Founds w T A n cap l :=
  ⟨h.1, h.2.1, h.2.2.1, fun hn => by
    obtain ⟨b, o, e, hb, hs, hc⟩ := h.2.2.2.1 hn
    exact ⟨b, o, e, hb, fun ht => hs (hT _ hb ht), hc⟩, h.2.2.2.2.mono hT⟩

/-- What a call has made so far reads as what it laid. -/
theorem Founds.of_own {base : Nat} {v : Value} (h : w.ownsRow base 31 6 v l.length (l.flatMap Fd.cells)) (hb : Blobs w S l) (hS : ∀ k, base ≤ k → k < w.heap.size → v.ownBlock = some k → ¬ S k) :
    ∃ A cap, v = .slice A l.length cap ∧ Founds w S A l.length cap l := by
  rcases h.2 with ⟨rfl, h0⟩ | ⟨g, cap, cur, rfl, hg, hh, hnc, hm, hs, ht⟩
  · exact ⟨none, 0, by rw [h0], rfl, by omega, by simp [maxLen], fun hn => absurd hn (by omega), hb⟩
  · have hlt : g < w.heap.size := (Array.getElem?_eq_some_iff.1 hh).1
    refine ⟨_, cap, rfl, rfl, hnc, hm, fun _ => ⟨g, 0, rfl, hlt, hS g hg hlt rfl, fun i f hf j hj => ?_⟩, hb⟩
    have h6 : f.cells.length = 6 := rfl
    have hc := h.cells (g := g) rfl (i * 6 + j) (f.cells[j]'(by omega)) (by rw [cells_at l i j f hf hj]; exact List.getElem?_eq_getElem (by omega))
    have ha : (⟨g, 0, none⟩ : Addr).add (i * 6 + j) = ⟨g, 0 + i * 6 + j, none⟩ := by unfold Addr.add; split <;> simp_all
    rw [ha] at hc
    rw [hc]
    exact (List.getElem?_eq_getElem (by omega)).symm
end

theorem Try.infoFound : (Try.prog.info? 31).map (fun i => (i.zero, i.size, i.bytes)) = some (some (.agg #[.int .i64 0, .int .i64 0, .int .u32 0, .string ⟨#[]⟩, .slice none 0 0, .int .i64 0]), 6, 72) := by kernel_rfl

/-- append of one found record, which lies in a block of its own, onto a row of the call's own. -/
theorem wpList_append_found {ops : Array Oper} {rest : List Oper} {o : Oper} {a : Act} {w : World} {Q : Exit → Act → World → Prop} (hgd : o.guard = none) (s x : Operand)
    (hq : o.op = .call { callee := .builtin .append, args := #[s, x], argTypes := #[25, 25] })
    (base : Nat) (v : Value) (hs : a.eval s = v) (l : List Fd) (hown : w.ownsRow base 31 6 v l.length (l.flatMap Fd.cells)) (f : Fd) (g : Nat)
    (hx : a.eval x = .slice (some ⟨g, 0, none⟩) 1 1) (hg : Blk w g 31 f.cells.toArray) (hm : l.length + 1 ≤ 1048576) (hbase : base ≤ w.heap.size)
    (h : ∀ v' w', w'.ownsRow base 31 6 v' (l ++ [f]).length ((l ++ [f]).flatMap Fd.cells) → w.grownBy w' v.ownBlock → (v'.ownBlock = v.ownBlock ∨ v'.ownBlock = some w.heap.size) → wpList Try.prog ops Q rest (a.put o.dst v') w') : wpList Try.prog ops Q (o :: rest) a w := by
  obtain ⟨i0, hi, hz0, hz1, hz2⟩ := info_parts Try.infoFound
  refine wpList_append_own_at _ hgd s x 25 hq base 31 i0 _ 6 72 Try.underlying25 hi hz0 hz1 hz2 (by simp [Value.cells]) (by decide) v l.length (l.flatMap Fd.cells) hs hown ⟨g, 0, none⟩ 1 1 f.cells hx rfl ?_ ?_ (by unfold maxLen; omega) (by omega) hbase ?_
  · intro j y hj
    have ha : (⟨g, 0, none⟩ : Addr).add j = ⟨g, j, none⟩ := by unfold Addr.add; split <;> simp_all
    rw [ha, hg.cell]
    simpa using hj
  · intro y hy
    simp only [Fd.cells, List.mem_cons, List.not_mem_nil, or_false] at hy
    rcases hy with rfl | rfl | rfl | rfl | rfl | rfl <;> rfl
  · intro v' w' h1 h2 _ h4
    refine h v' w' ?_ h2 h4
    rw [List.length_append, List.flatMap_append]
    simpa using h1

/-- What was read of old records stays, and the new one is read, behind such an append. -/
theorem Blobs.append {w w' : World} {v v' : Value} {l : List Fd} {f : Fd} (h : Blobs w (fun q => v.ownBlock = some q) l) (hf : ByteSl w (fun q => v.ownBlock = some q) f.A f.n f.cap f.blob) (hn : f.A = none → f.n = 0 ∧ f.cap = 0)
    (hg : w.grownBy w' v.ownBlock) (hv : v'.ownBlock = v.ownBlock ∨ v'.ownBlock = some w.heap.size) : Blobs w' (fun q => v'.ownBlock = some q) (l ++ [f]) := by
  have h1 := h.snoc hf hn
  have h2 : Blobs w (fun q => v.ownBlock = some q ∨ v'.ownBlock = some q) (l ++ [f]) := h1.mono (fun i hi hT => by
    rcases hT with hT | hT
    · exact hT
    · rcases hv with e | e
      · rw [← e]; exact hT
      · rw [e] at hT
        cases hT
        omega)
  exact (h2.only (Only.of_grown (S := fun q => v.ownBlock = some q) hg (fun q e _ => e)) (fun i _ h => Or.inl h)).mono (fun i _ h => Or.inr h)

end Go.Proofs.Ytidcgobnhfganaa
