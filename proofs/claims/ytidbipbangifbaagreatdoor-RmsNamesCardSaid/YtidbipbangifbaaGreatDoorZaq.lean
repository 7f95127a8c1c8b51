/- Append of bytes, and of a string, as one step of a region that draws its order; append of a string for the plain walk. -/
import Derived.Test.YtidbipbangifbaaGreatDoorZab
import Derived.Lib.AppendStr
import Derived.Deep.RegionHeld3
import Derived.Deep.RegionLaw
namespace Go.Proofs.YtidbipbangifbaaGreatDoor
set_option maxRecDepth 100000
open Go.RowKit

/-- A call's answer that are bytes of a row made since base. -/
def Ret8 (base k : Nat) (zs : List UInt8) (e : Ending) (w : World) : Prop := ∃ u, e = .returned u ∧ w.ownsRow base 5 1 u k (zs.map B8)

/-- append of bytes that lie somewhere (a nil slice, too) onto a row of the call's own: what it runs to. -/
theorem run_append_bytes {w : World} (ty : TypeId) (base : Nat) (v : Value) (k : Nat) (zs : List UInt8) (hown : w.ownsRow base 5 1 v k (zs.map B8)) (A : Option Addr) (m c : Nat) (ys : List UInt8) (S : Nat → Prop)
    (hB : ByteSl w S A m c ys) (hn : A = none → m = 0 ∧ c = 0) (hm : k + m ≤ 16777216) (hbase : base ≤ w.heap.size) :
    ∃ v' w', (Builtin.append_ #[22, 22] ty #[v, .slice A m c]).run Tryz.prog w = .ok v' w' ∧ w'.ownsRow base 5 1 v' (k + m) ((zs ++ ys).map B8) ∧ w.grownBy w' v.ownBlock ∧ (v' = .slice none 0 0 → v = .slice none 0 0) := by
  obtain ⟨i0, hi, hz0, hz1, hz2⟩ := info_parts Tryz.infoU8
  rcases A with _ | ad
  · obtain ⟨rfl, rfl⟩ := hn rfl
    have hys : ys = [] := List.eq_nil_of_length_eq_zero hB.1
    subst hys
    exact ⟨v, w, run_append_owned_none (P := Tryz.prog) (w := w) base 22 ty 5 i0 1 Tryz.underlying22 hi v k (zs.map B8) hown, by simpa using hown, World.grownBy.refl w _, id⟩
  · obtain ⟨v', w', hr, h2, h3, h4, _⟩ := run_append_own_at (P := Tryz.prog) w base 22 ty 5 i0 (.int .u8 0) 1 1 Tryz.underlying22 hi hz0 hz1 hz2 rfl (by decide) v k (zs.map B8) hown ad m c (ys.map B8) (by simp [hB.1])
      (fun j y hj => by
        rw [List.getElem?_map] at hj
        cases hj2 : ys[j]? with
        | none => rw [hj2] at hj; cases hj
        | some z =>
          have hjm : j < m := by have := (List.getElem?_eq_some_iff.1 hj2).1; have := hB.1; omega
          obtain ⟨ad', he, _, _, hc⟩ := hB.2.2.2 (by omega)
          cases he
          rw [hj2] at hj
          rw [hc j z hj2]
          simpa using hj)
      (fun y hy => by obtain ⟨z, _, rfl⟩ := List.mem_map.1 hy; rfl) (by unfold maxLen; omega) (by omega) hbase
    exact ⟨v', w', hr, by simpa using h2, h3, fun e => (h4.1 e).1⟩

theorem strCells_map (s : ByteArray) : Lib.strCells s = s.data.toList.map B8 := by
  unfold Lib.strCells
  rfl

section
variable {ops : Array Oper} {o : Oper} {a : Act} {w : World} {K : Act → World → Prop} {Q : Exit → Act → World → Prop} {E : Prop}

theorem step_append_bytes (hgd : o.guard = none) (s x : Operand) (hq : o.op = .call { callee := .builtin .append, args := #[s, x], argTypes := #[22, 22] })
    (base : Nat) (v : Value) (hs : a.eval s = v) (k : Nat) (zs : List UInt8) (hown : w.ownsRow base 5 1 v k (zs.map B8)) (A : Option Addr) (m c : Nat) (ys : List UInt8) (S : Nat → Prop)
    (hx : a.eval x = .slice A m c) (hB : ByteSl w S A m c ys) (hn : A = none → m = 0 ∧ c = 0) (hm : k + m ≤ 16777216) (hbase : base ≤ w.heap.size)
    (h : ∀ v' w', w'.ownsRow base 5 1 v' (k + m) ((zs ++ ys).map B8) → w.grownBy w' v.ownBlock → (v' = .slice none 0 0 → v = .slice none 0 0) → K (a.put o.dst v') w') :
    if Region.wanted o (yielded ops a.tmps) = true then Oper.wp Tryz.prog o a w K Q else E := by
  have hw : Region.wanted o (yielded ops a.tmps) = true := by simp [Region.wanted, hgd]
  rw [if_pos hw]
  obtain ⟨v', w', hr, h2, h3, h4⟩ := run_append_bytes o.type base v k zs hown A m c ys S hB hn hm hbase
  unfold Oper.wp execOp
  simp only [hq, resolve, invoke, builtin, Sem.run_bind, Sem.run_pure, Result.andThen_ok, List.map_toArray, List.map_cons, List.map_nil, hs, hx, hr]
  exact h v' w' h2 h3 h4

/-- append of a string's bytes onto a row of the call's own. -/
theorem step_append_str (hgd : o.guard = none) (s x : Operand) (hq : o.op = .call { callee := .builtin .append, args := #[s, x], argTypes := #[22, 9] })
    (base : Nat) (v : Value) (hs : a.eval s = v) (k : Nat) (zs : List UInt8) (hown : w.ownsRow base 5 1 v k (zs.map B8)) (t : ByteArray)
    (hx : a.eval x = .string t) (hm : k + t.size ≤ 16777216) (hbase : base ≤ w.heap.size)
    (h : ∀ v' w', w'.ownsRow base 5 1 v' (k + t.size) ((zs ++ t.data.toList).map B8) → w.grownBy w' v.ownBlock → (v' = .slice none 0 0 → v = .slice none 0 0) → K (a.put o.dst v') w') :
    if Region.wanted o (yielded ops a.tmps) = true then Oper.wp Tryz.prog o a w K Q else E := by
  have hw : Region.wanted o (yielded ops a.tmps) = true := by simp [Region.wanted, hgd]
  rw [if_pos hw]
  obtain ⟨i0, hi, hz0, hz1, hz2⟩ := info_parts Tryz.infoU8
  obtain ⟨v', w', hr, h2, h3, h4⟩ := Lib.run_append_own_string (P := Tryz.prog) (w := w) base 22 9 o.type 5 i0 Tryz.underlying22 Tryz.underlying9 hi hz0 hz1 hz2 v k (zs.map B8) hown t (by unfold maxLen; omega) (by omega) hbase
  unfold Oper.wp execOp
  simp only [hq, resolve, invoke, builtin, Sem.run_bind, Sem.run_pure, Result.andThen_ok, List.map_toArray, List.map_cons, List.map_nil, hs, hx, hr]
  refine h v' w' ?_ h3 (fun e => (h4.1 e).1)
  rw [List.map_append, ← strCells_map]
  exact h2
end

theorem wpList_append_str {ops : Array Oper} {rest : List Oper} {o : Oper} {a : Act} {w : World} {Q : Exit → Act → World → Prop} (hgd : o.guard = none) (s x : Operand)
    (hq : o.op = .call { callee := .builtin .append, args := #[s, x], argTypes := #[22, 9] })
    (base : Nat) (v : Value) (hs : a.eval s = v) (k : Nat) (zs : List UInt8) (hown : w.ownsRow base 5 1 v k (zs.map B8)) (t : ByteArray)
    (hx : a.eval x = .string t) (hm : k + t.size ≤ 16777216) (hbase : base ≤ w.heap.size)
    (h : ∀ v' w', w'.ownsRow base 5 1 v' (k + t.size) ((zs ++ t.data.toList).map B8) → w.grownBy w' v.ownBlock → (v' = .slice none 0 0 → v = .slice none 0 0) → wpList Tryz.prog ops Q rest (a.put o.dst v') w') : wpList Tryz.prog ops Q (o :: rest) a w := by
  obtain ⟨i0, hi, hz0, hz1, hz2⟩ := info_parts Tryz.infoU8
  refine Lib.wpList_append_own_string (w := w) hgd s x 22 9 hq base 5 i0 Tryz.underlying22 Tryz.underlying9 hi hz0 hz1 hz2 v k (zs.map B8) hs hown t hx (by unfold maxLen; omega) (by omega) hbase ?_
  intro v' w' h2 h3 h4
  refine h v' w' ?_ h3 (fun e => (h4.1 e).1)
  rw [List.map_append, ← strCells_map]
  exact h2

end Go.Proofs.YtidbipbangifbaaGreatDoor
