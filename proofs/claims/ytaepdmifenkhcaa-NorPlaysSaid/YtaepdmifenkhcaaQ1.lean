/- NorPlays: a geometry that may not be; too much. -/
import Derived.Test.YtaepdmifenkhcaaP7
import Derived.Maps.AppendAt
import Derived.Laws.AppendOwnNone
namespace Go.Proofs.Ytaepdmifenkhcaa
open Go.RowKit

/-- append of bytes that came in onto a row of the call's own. -/
theorem wpList_append_bytes {ops : Array Oper} {rest : List Oper} {q : Oper} {u : Act} {w : World} {Q : Exit → Act → World → Prop} (hgd : q.guard = none) (s x : Operand)
    (hq : q.op = .call { callee := .builtin .append, args := #[s, x], argTypes := #[34, 34] })
    (base : Nat) (v : Value) (hs : u.eval s = v) (hown : w.ownsRow base 5 1 v 0 []) (A : Option Addr) (m c : Nat) (ys : List UInt8) (S : Nat → Prop)
    (hx : u.eval x = .slice A m c) (hB : ByteSl w S A m c ys) (hn : A = none → m = 0 ∧ c = 0) (hm : m ≤ 300) (hbase : base ≤ w.heap.size)
    (h : ∀ v' w', w'.ownsRow base 5 1 v' m (ys.map B8) → w.grownBy w' v.ownBlock → wpList Try.prog ops Q rest (u.put q.dst v') w') : wpList Try.prog ops Q (q :: rest) u w := by
  obtain ⟨i0, hi, hz0, hz1, hz2⟩ := info_parts Try.infoU8
  rcases A with _ | ad
  · obtain ⟨rfl, rfl⟩ := hn rfl
    have hys : ys = [] := List.eq_nil_of_length_eq_zero hB.1
    subst hys
    exact wpList_append_own_none hgd s x 34 hq base 5 i0 1 Try.underlying34 hi v 0 [] hs hown hx (h v w (by simpa using hown) (World.grownBy.refl w _))
  · refine wpList_append_own_at _ hgd s x 34 hq base 5 i0 (.int .u8 0) 1 1 Try.underlying34 hi hz0 hz1 hz2 rfl (by decide) v 0 [] hs hown ad m c (ys.map B8) hx (by simp [hB.1]) ?_ ?_ (by unfold maxLen; omega) (by omega) hbase ?_
    · intro j y hj
      rw [List.getElem?_map] at hj
      cases hj2 : ys[j]? with
      | none => rw [hj2] at hj; cases hj
      | some z =>
        have hjm : j < m := by have := (List.getElem?_eq_some_iff.1 hj2).1; have := hB.1; omega
        obtain ⟨ad', he, _, _, hc⟩ := hB.2.2.2 (by omega)
        cases he
        rw [hj2] at hj
        rw [hc j z hj2]
        simpa using hj
    · intro y hy
      obtain ⟨z, _, rfl⟩ := List.mem_map.1 hy
      rfl
    · intro v' w' h1 h2 _ _
      exact h v' w' (by simpa using h1) h2

def gBox (S Z L : Int) : Array Value := #[.int .i64 S, .int .i64 Z, .int .i64 L]

theorem gbox_start (S Z L : Int) (w : World) : Blk (w.alloc (.cells #[.int .i64 S, .int .i64 Z, .int .i64 L] 23)) w.heap.size 23 (gBox S Z L) ∧ Below w.heap.size w (w.alloc (.cells #[.int .i64 S, .int .i64 Z, .int .i64 L] 23)) :=
  ⟨Blk.new _ _ _, (Below.refl _ _).alloc (Nat.le_refl _) _⟩

/-- The law's box of the geometry, and nothing of the input turned. -/
def GB (w W : World) (S Z L : Int) : Prop := Blk W w.heap.size 23 (gBox S Z L) ∧ Below w.heap.size w W

theorem GB.below {w W W' : World} {S Z L : Int} (h : GB w W S Z L) (hb : Below W.heap.size W W') : GB w W' S Z L :=
  ⟨h.1.of (hb.block _ h.1.lt), h.2.trans (hb.mono h.2.size)⟩
theorem GB.cells {w W : World} {S Z L : Int} (h : GB w W S Z L) : W.cell? ⟨w.heap.size, 0, none⟩ = some (.int .i64 S) ∧ W.cell? ⟨w.heap.size, 1, none⟩ = some (.int .i64 Z) ∧ W.cell? ⟨w.heap.size, 2, none⟩ = some (.int .i64 L) :=
  ⟨h.1.cell 0, h.1.cell 1, h.1.cell 2⟩

set_option maxRecDepth 100000 in
set_option maxHeartbeats 4000000 in
theorem norPlays_no (S Z L : Int) (V : Value) (w : World) (hg : ¬ GeoOk S Z L) :
    Calls Try.prog 3 #[.agg #[.int .i64 S, .int .i64 Z, .int .i64 L], V] w fun e w' => e = .returned (.bool true) ∧ Below w.heap.size w w' := by
  have h0 : GB w _ S Z L := gbox_start S Z L w
  go_enter Try.func3, Try.ntmps3
  go_wp2_with fail
  refine (fixed_any _).mono ?_
  rintro e1 w1 ⟨rfl, hb1⟩
  have h1 := h0.below hb1
  clear h0 hb1
  obtain ⟨c0, c1, c2⟩ := h1.cells
  go_wp2_with fail
  refine (new_no S Z L w1 hg).mono ?_
  rintro e1 w2 ⟨rfl, hb2⟩
  have h2 := h1.below hb2
  clear h1 hb2 c0 c1 c2
  obtain ⟨c0, c1, c2⟩ := h2.cells
  go_wp2_with fail
  refine (right_no S Z L w2 hg).mono ?_
  rintro e1 w3 ⟨rfl, rfl⟩
  have h3 := h2.below (W' := w2.alloc (.cells #[.int .i64 S, .int .i64 Z, .int .i64 L] 23)) ((Below.refl _ _).alloc (Nat.le_refl _) _)
  clear h2 c0 c1 c2 hg
  go_wp2
  go_ret
  exact ⟨rfl, h3.2⟩
end Go.Proofs.Ytaepdmifenkhcaa
