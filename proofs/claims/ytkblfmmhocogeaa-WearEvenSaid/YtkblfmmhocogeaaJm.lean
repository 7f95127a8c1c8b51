/- append of sectors, as one step of a region that draws its order. -/
import Derived.Test.YtkblfmmhocogeaaJk
import Derived.Test.YtkblfmmhocogeaaTk
import Derived.Deep.RegionLaw
namespace Go.Proofs.Ytkblfmmhocogeaa
open Go.RowKit

theorem step_append_secs {ops : Array Oper} {o : Oper} {a : Act} {w : World} {K : Act → World → Prop} {Q : Exit → Act → World → Prop} {E : Prop} (hgd : o.guard = none) (s x : Operand)
    (hq : o.op = .call { callee := .builtin .append, args := #[s, x], argTypes := #[22, 22] })
    (base : Nat) (v : Value) (hs : a.eval s = v) (k : Nat) (zs : List Sc) (hown : w.ownsRow base 33 3 v k (zs.flatMap Sc.cells)) (A : Option Addr) (m c : Nat) (l : List Sc) (S : Nat → Prop)
    (hx : a.eval x = .slice A m c) (hB : Secs w S A m c l) (hn : A = none → m = 0 ∧ c = 0) (hm : k + m ≤ 1048576) (hbase : base ≤ w.heap.size)
    (h : ∀ v' w', w'.ownsRow base 33 3 v' (k + m) ((zs ++ l).flatMap Sc.cells) → w.grownBy w' v.ownBlock → K (a.put o.dst v') w') :
    if Region.wanted o (yielded ops a.tmps) = true then Oper.wp Try.prog o a w K Q else E := by
  have hw : Region.wanted o (yielded ops a.tmps) = true := by simp [Region.wanted, hgd]
  rw [if_pos hw]
  obtain ⟨i0, hi, hz0, hz1, hz2⟩ := info_parts Try.infoSector
  rcases A with _ | ad
  · obtain ⟨rfl, rfl⟩ := hn rfl
    have hys : l = [] := List.eq_nil_of_length_eq_zero hB.1
    subst hys
    have hr := run_append_owned_none (P := Try.prog) (w := w) base 22 o.type 33 i0 3 Try.underlying22 hi v k (zs.flatMap Sc.cells) hown
    unfold Oper.wp execOp
    simp only [hq, resolve, invoke, builtin, Sem.run_bind, Sem.run_pure, Result.andThen_ok, List.map_toArray, List.map_cons, List.map_nil, hs, hx, hr]
    exact h v w (by simpa using hown) (World.grownBy.refl w _)
  · obtain ⟨v', w', hr, h2, h3, _, _⟩ := run_append_own_at (P := Try.prog) w base 22 o.type 33 i0 _ 3 24 Try.underlying22 hi hz0 hz1 hz2 (by simp [Value.cells]) (by decide) v k (zs.flatMap Sc.cells) hown ad m c (l.flatMap Sc.cells) (by rw [secs_len, hB.1]) hB.news (secs_one l) (by unfold maxLen; omega) (by omega) hbase
    unfold Oper.wp execOp
    simp only [hq, resolve, invoke, builtin, Sem.run_bind, Sem.run_pure, Result.andThen_ok, List.map_toArray, List.map_cons, List.map_nil, hs, hx, hr]
    exact h v' w' (by rw [List.flatMap_append]; exact h2) h3

/-- What grew by a row that begins at base or behind: all that was there ahead of base is as it was. -/
theorem Only.row {w0 w w' : World} {row : Option Nat} (h : Only Empty w0 w) (hg : w.grownBy w' row) (hr : ∀ q, row = some q → w0.heap.size ≤ q) : Only Empty w0 w' :=
  h.trans' (Only.of_grown (S := fun q => w0.heap.size ≤ q) hg (fun q hq _ => hr q hq)) (fun i h1 h2 => by have : w0.heap.size ≤ i := h2; omega)

/-- A row of one sector, of two: the call's own rows with one more behind. -/
theorem one_sec (w : World) (S : Nat → Prop) (s : Sc) (hS : ¬ S w.heap.size) : Secs (w.alloc (.cells #[.int .i64 s.st, .int .u32 s.q, .int .i64 s.er] 33)) S (some ⟨w.heap.size, 0, none⟩) 1 1 [s] :=
  Secs.of_blk (Blk.new w 33 _) rfl (by omega) (by simp [maxLen]) (fun j _ => by simp [Sc.cells]) hS

end Go.Proofs.Ytkblfmmhocogeaa
