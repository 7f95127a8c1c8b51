/- Rows of sectors that a call makes: a literal's block, a row that has grown. -/
import Derived.Test.YtkblfmmhocogeaaJa
namespace Go.Proofs.Ytkblfmmhocogeaa
open Go.RowKit

theorem secs_at : ∀ (l : List Sc) (i j : Nat) (f : Sc), l[i]? = some f → j < 3 → (l.flatMap Sc.cells)[i * 3 + j]? = f.cells[j]?
  | [], i, j, f, h, _ => by simp at h
  | g :: l, 0, j, f, h, hj => by
    simp at h
    subst h
    rw [List.flatMap_cons, Nat.zero_mul, Nat.zero_add, List.getElem?_append_left (by rw [Sc.cells_len]; exact hj)]
  | g :: l, i + 1, j, f, h, hj => by
    simp at h
    rw [List.flatMap_cons, List.getElem?_append_right (by rw [Sc.cells_len]; omega), Sc.cells_len, show (i + 1) * 3 + j - 3 = i * 3 + j by omega]
    exact secs_at l i j f h hj
theorem secs_len : ∀ l : List Sc, (l.flatMap Sc.cells).length = l.length * 3
  | [] => rfl
  | g :: l => by
    rw [List.flatMap_cons, List.length_append, secs_len l, List.length_cons, Sc.cells_len]
    omega

theorem Secs.of_blk {w : World} {S : Nat → Prop} {g n cap : Nat} {cs : Array Value} {l : List Sc} (h : Blk w g 33 cs) (hn : l.length = n) (hc : n ≤ cap) (hm : cap ≤ maxLen) (hl : ∀ j, j < n * 3 → cs[j]? = (l.flatMap Sc.cells)[j]?) (hS : ¬ S g) :
    Secs w S (some ⟨g, 0, none⟩) n cap l :=
  ⟨hn, hc, hm, fun _ => ⟨g, 0, rfl, h.lt, hS, fun i f hf j hj => by
    have hi : i < l.length := (List.getElem?_eq_some_iff.1 hf).1
    rw [h.cell, Nat.zero_add, hl _ (by omega), secs_at l i j f hf hj]⟩⟩

/-- A row that the call has made reads as what it laid. -/
theorem Secs.of_own {w : World} {S : Nat → Prop} {base n : Nat} {v : Value} {l : List Sc} (h : w.ownsRow base 33 3 v n (l.flatMap Sc.cells)) (hn : l.length = n) (hS : ∀ k, base ≤ k → k < w.heap.size → ¬ S k) :
    ∃ A cap, v = .slice A n cap ∧ Secs w S A n cap l ∧ (0 < n → ∃ g, A = some ⟨g, 0, none⟩ ∧ base ≤ g ∧ ∃ cur, Blk w g 33 cur ∧ ∀ j, j < n * 3 → cur[j]? = (l.flatMap Sc.cells)[j]?) := by
  rcases h.2 with ⟨rfl, h0⟩ | ⟨g, cap, cur, rfl, hg, hh, hnc, hm, hs, ht⟩
  · subst h0
    exact ⟨none, 0, rfl, ⟨hn, Nat.le_refl _, by simp [maxLen], fun h0 => absurd h0 (by omega)⟩, fun h0 => absurd h0 (by omega)⟩
  · have hlt : g < w.heap.size := (Array.getElem?_eq_some_iff.1 hh).1
    have hb : Blk w g 33 cur := hh
    have hat : ∀ j, j < n * 3 → cur[j]? = (l.flatMap Sc.cells)[j]? := fun j hj => by
      have hl := secs_len l
      have hj2 : j < (l.flatMap Sc.cells).length := by rw [hl, hn]; exact hj
      have hc := h.cells (g := g) rfl j ((l.flatMap Sc.cells)[j]'hj2) (List.getElem?_eq_getElem hj2)
      have ha : (⟨g, 0, none⟩ : Addr).add j = ⟨g, j, none⟩ := by unfold Addr.add; split <;> simp_all
      rw [ha, hb.cell] at hc
      rw [hc]
      exact (List.getElem?_eq_getElem hj2).symm
    exact ⟨_, cap, rfl, Secs.of_blk hb hn hnc hm hat (hS g hg hlt), fun _ => ⟨g, rfl, hg, cur, hb, hat⟩⟩

theorem Try.infoSector : (Try.prog.info? 33).map (fun i => (i.zero, i.size, i.bytes)) = some (some (.agg #[.int .i64 0, .int .u32 0, .int .i64 0]), 3, 24) := by kernel_rfl

theorem Secs.news {w : World} {S : Nat → Prop} {ad : Addr} {m c : Nat} {l : List Sc} (h : Secs w S (some ad) m c l) : ∀ j u, (l.flatMap Sc.cells)[j]? = some u → w.cell? (ad.add j) = some u := by
  intro j u hj
  have hl := secs_len l
  have hlt := (List.getElem?_eq_some_iff.1 hj).1
  rw [hl, h.1] at hlt
  obtain ⟨b, o, e, _, _, hc⟩ := h.2.2.2 (by omega)
  cases e
  have hi : j / 3 < l.length := by rw [h.1]; omega
  have h1 := hc (j / 3) (l[j / 3]'hi) (List.getElem?_eq_getElem hi) (j % 3) (by omega)
  have h2 := secs_at l (j / 3) (j % 3) (l[j / 3]'hi) (List.getElem?_eq_getElem hi) (by omega)
  rw [show j / 3 * 3 + j % 3 = j by omega] at h2
  rw [add_off, show o + j = o + j / 3 * 3 + j % 3 by omega, h1, ← h2, hj]
theorem secs_one (l : List Sc) : ∀ u ∈ l.flatMap Sc.cells, u.oneCell' = true := by
  intro u hu
  obtain ⟨f, _, hf⟩ := List.mem_flatMap.1 hu
  simp only [Sc.cells, List.mem_cons, List.not_mem_nil, or_false] at hf
  rcases hf with rfl | rfl | rfl <;> rfl

/-- append of sectors that lie somewhere (a nil slice, too) onto a row of the call's own. -/
theorem wpList_append_secs {ops : Array Oper} {rest : List Oper} {q : Oper} {u : Act} {w : World} {Q : Exit → Act → World → Prop} (hgd : q.guard = none) (s x : Operand)
    (hq : q.op = .call { callee := .builtin .append, args := #[s, x], argTypes := #[22, 22] })
    (base : Nat) (v : Value) (hs : u.eval s = v) (k : Nat) (zs : List Sc) (hown : w.ownsRow base 33 3 v k (zs.flatMap Sc.cells)) (A : Option Addr) (m c : Nat) (l : List Sc) (S : Nat → Prop)
    (hx : u.eval x = .slice A m c) (hB : Secs w S A m c l) (hn : A = none → m = 0 ∧ c = 0) (hm : k + m ≤ 1048576) (hbase : base ≤ w.heap.size)
    (h : ∀ v' w', w'.ownsRow base 33 3 v' (k + m) ((zs ++ l).flatMap Sc.cells) → w.grownBy w' v.ownBlock → wpList Try.prog ops Q rest (u.put q.dst v') w') : wpList Try.prog ops Q (q :: rest) u w := by
  obtain ⟨i0, hi, hz0, hz1, hz2⟩ := info_parts Try.infoSector
  rcases A with _ | ad
  · obtain ⟨rfl, rfl⟩ := hn rfl
    have hys : l = [] := List.eq_nil_of_length_eq_zero hB.1
    subst hys
    exact wpList_append_own_none hgd s x 22 hq base 33 i0 3 Try.underlying22 hi v k (zs.flatMap Sc.cells) hs hown hx (h v w (by simpa using hown) (World.grownBy.refl w _))
  · refine wpList_append_own_at _ hgd s x 22 hq base 33 i0 _ 3 24 Try.underlying22 hi hz0 hz1 hz2 (by simp [Value.cells]) (by decide) v k (zs.flatMap Sc.cells) hs hown ad m c (l.flatMap Sc.cells) hx (by rw [secs_len, hB.1]) hB.news (secs_one l) (by unfold maxLen; omega) (by omega) hbase ?_
    intro v' w' h1 h2 _ _
    exact h v' w' (by rw [List.flatMap_append]; exact h1) h2

/-- A row that was just made, with no sectors. -/
theorem own_secs (w : World) (base : Nat) (h : base ≤ w.heap.size) : (w.alloc (.cells #[] 33)).ownsRow base 33 3 (.slice (some ⟨w.heap.size, 0, none⟩) 0 0) 0 (([] : List Sc).flatMap Sc.cells) :=
  World.ownsRow_made w #[] 0 h (by decide) rfl

end Go.Proofs.Ytkblfmmhocogeaa
