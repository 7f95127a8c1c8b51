/- Append of bytes, and of a string, as one step of a region that draws its order; append of a string for the plain walk. -/
import Derived.Test.YtnhfmcijadficaaGreatDoorZaa
import Derived.Lib.AppendStr
import Derived.Deep.RegionHeld3
import Derived.Deep.RegionLaw
import Derived.Test.YtnhfmcijadficaaGreatDoorZaj
namespace Go.Proofs.YtnhfmcijadficaaGreatDoor
set_option maxRecDepth 100000
open Go.RowKit

/-- A call's answer that are bytes of a row made since base. -/
def Ret8 (base k : Nat) (zs : List UInt8) (e : Ending) (w : World) : Prop := ∃ u, e = .returned u ∧ w.ownsRow base 5 1 u k (zs.map B8)

/-- append of bytes that lie somewhere (a nil slice, too) onto a row of the call's own: what it runs to. -/
theorem run_append_bytes {w : World} (ty : TypeId) (base : Nat) (v : Value) (k : Nat) (zs : List UInt8) (hown : w.ownsRow base 5 1 v k (zs.map B8)) (A : Option Addr) (m c : Nat) (ys : List UInt8) (S : Nat → Prop)
    (hB : ByteSl w S A m c ys) (hn : A = none → m = 0 ∧ c = 0) (hm : k + m ≤ 16777216) (hbase : base ≤ w.heap.size) :
    ∃ v' w', (Builtin.append_ #[22, 22] ty #[v, .slice A m c]).run Tryz.prog w = .ok v' w' ∧ w'.ownsRow base 5 1 v' (k + m) ((zs ++ ys).map B8) ∧ w.grownBy w' v.ownBlock ∧ (v' = .slice none 0 0 → v = .slice none 0 0) := by
  obtain ⟨i0, hi, hz0, hz1, hz2⟩ := info_parts Tryz.infoU8
  rcases A with _ | ad
  · obtain ⟨rfl, rfl⟩ := hn rfl
    have hys : ys = [] := List.eq_nil_of_length_eq_zero hB.1
    subst hys
    exact ⟨v, w, run_append_owned_none (P := Tryz.prog) (w := w) base 22 ty 5 i0 1 Tryz.underlying22 hi v k (zs.map B8) hown, by simpa using hown, World.grownBy.refl w _, id⟩
  · obtain ⟨v', w', hr, h2, h3, h4, _⟩ := run_append_own_at (P := Tryz.prog) w base 22 ty 5 i0 (.int .u8 0) 1 1 Tryz.underlying22 hi hz0 hz1 hz2 rfl (by decide) v k (zs.map B8) hown ad m c (ys.map B8) (by simp [hB.1])
      (fun j y hj => by
        rw [List.getElem?_map] at hj
        cases hj2 : ys[j]? with
        | none => rw [hj2] at hj; cases hj
        | some z =>
          have hjm : j < m := by have := (List.getElem?_eq_some_iff.1 hj2).1; have := hB.1; omega
          obtain ⟨ad', he, _, _, hc⟩ := hB.2.2.2 (by omega)
          cases he
          rw [hj2] at hj
          rw [hc j z hj2]
          simpa using hj)
      (fun y hy => by obtain ⟨z, _, rfl⟩ := List.mem_map.1 hy; rfl) (by unfold maxLen; omega) (by omega) hbase
    exact ⟨v', w', hr, by simpa using h2, h3, fun e => (h4.1 e).1⟩

theorem strCells_map (s : ByteArray) : Lib.strCells s = s.data.toList.map B8 := by
  unfold Lib.strCells
  rfl

section
variable {ops : Array Oper} {o : Oper} {a : Act} {w : World} {K : Act → World → Prop} {Q : Exit → Act → World → Prop} {E : Prop}

theorem step_append_bytes (hgd : o.guard = none) (s x : Operand) (hq : o.op = .call { callee := .builtin .append, args := #[s, x], argTypes := #[22, 22] })
    (base : Nat) (v : Value) (hs : a.eval s = v) (k : Nat) (zs : List UInt8) (hown : w.ownsRow base 5 1 v k (zs.map B8)) (A : Option Addr) (m c : Nat) (ys : List UInt8) (S : Nat → Prop)
    (hx : a.eval x = .slice A m c) (hB : ByteSl w S A m c ys) (hn : A = none → m = 0 ∧ c = 0) (hm : k + m ≤ 16777216) (hbase : base ≤ w.heap.size)
    (h : ∀ v' w', w'.ownsRow base 5 1 v' (k + m) ((zs ++ ys).map B8) → w.grownBy w' v.ownBlock → (v' = .slice none 0 0 → v = .slice none 0 0) → K (a.put o.dst v') w') :
    if Region.wanted o (yielded ops a.tmps) = true then Oper.wp Tryz.prog o a w K Q else E := by
  have hw : Region.wanted o (yielded ops a.tmps) = true := by simp [Region.wanted, hgd]
  rw [if_pos hw]
  obtain ⟨v', w', hr, h2, h3, h4⟩ := run_append_bytes o.type base v k zs hown A m c ys S hB hn hm hbase
  unfold Oper.wp execOp
  simp only [hq, resolve, invoke, builtin, Sem.run_bind, Sem.run_pure, Result.andThen_ok, List.map_toArray, List.map_cons, List.map_nil, hs, hx, hr]
  exact h v' w' h2 h3 h4

/-- append of a string's bytes onto a row of the call's own. -/
theorem step_append_str (hgd : o.guard = none) (s x : Operand) (hq : o.op = .call { callee := .builtin .append, args := #[s, x], argTypes := #[22, 9] })
    (base : Nat) (v : Value) (hs : a.eval s = v) (k : Nat) (zs : List UInt8) (hown : w.ownsRow base 5 1 v k (zs.map B8)) (t : ByteArray)
    (hx : a.eval x = .string t) (hm : k + t.size ≤ 16777216) (hbase : base ≤ w.heap.size)
    (h : ∀ v' w', w'.ownsRow base 5 1 v' (k + t.size) ((zs ++ t.data.toList).map B8) → w.grownBy w' v.ownBlock → (v' = .slice none 0 0 → v = .slice none 0 0) → K (a.put o.dst v') w') :
    if Region.wanted o (yielded ops a.tmps) = true then Oper.wp Tryz.prog o a w K Q else E := by
  have hw : Region.wanted o (yielded ops a.tmps) = true := by simp [Region.wanted, hgd]
  rw [if_pos hw]
  obtain ⟨i0, hi, hz0, hz1, hz2⟩ := info_parts Tryz.infoU8
  obtain ⟨v', w', hr, h2, h3, h4⟩ := Lib.run_append_own_string (P := Tryz.prog) (w := w) base 22 9 o.type 5 i0 Tryz.underlying22 Tryz.underlying9 hi hz0 hz1 hz2 v k (zs.map B8) hown t (by unfold maxLen; omega) (by omega) hbase
  unfold Oper.wp execOp
  simp only [hq, resolve, invoke, builtin, Sem.run_bind, Sem.run_pure, Result.andThen_ok, List.map_toArray, List.map_cons, List.map_nil, hs, hx, hr]
  refine h v' w' ?_ h3 (fun e => (h4.1 e).1)
  rw [List.map_append, ← strCells_map]
  exact h2
end

theorem wpList_append_str {ops : Array Oper} {rest : List Oper} {o : Oper} {a : Act} {w : World} {Q : Exit → Act → World → Prop} (hgd : o.guard = none) (s x : Operand)
    (hq : o.op = .call { callee := .builtin .append, args := #[s, x], argTypes := #[22, 9] })
    (base : Nat) (v : Value) (hs : a.eval s = v) (k : Nat) (zs : List UInt8) (hown : w.ownsRow base 5 1 v k (zs.map B8)) (t : ByteArray)
    (hx : a.eval x = .string t) (hm : k + t.size ≤ 16777216) (hbase : base ≤ w.heap.size)
    (h : ∀ v' w', w'.ownsRow base 5 1 v' (k + t.size) ((zs ++ t.data.toList).map B8) → w.grownBy w' v.ownBlock → (v' = .slice none 0 0 → v = .slice none 0 0) → wpList Tryz.prog ops Q rest (a.put o.dst v') w') : wpList Tryz.prog ops Q (o :: rest) a w := by
  obtain ⟨i0, hi, hz0, hz1, hz2⟩ := info_parts Tryz.infoU8
  refine Lib.wpList_append_own_string (w := w) hgd s x 22 9 hq base 5 i0 Tryz.underlying22 Tryz.underlying9 hi hz0 hz1 hz2 v k (zs.map B8) hs hown t hx (by unfold maxLen; omega) (by omega) hbase ?_
  intro v' w' h2 h3 h4
  refine h v' w' ?_ h3 (fun e => (h4.1 e).1)
  rw [List.map_append, ← strCells_map]
  exact h2

end Go.Proofs.YtnhfmcijadficaaGreatDoor

/- The walks over the reader's methods: number, head, bytes. -/
namespace Go.Proofs.YtnhfmcijadficaaGreatDoor
set_option maxRecDepth 100000
open Go.RowKit

/-- A reader that stands at a place of its bytes. -/
def Rd (w : World) (g : Nat) (A : Option Addr) (n cap a : Nat) : Prop := Blk w g 254 #[.slice A n cap, .int .i64 (a : Int)]

set_option maxHeartbeats 1000000 in
theorem number_any (g : Nat) (A : Option Addr) (n cap a k : Nat) (xs : List UInt8) (w : World) (hR : Rd w g A n cap a) (hB : ByteSl w Empty A n cap xs) (h1 : 1 ≤ k) (h2 : k ≤ 8) (hm : n ≤ 1048576) (ha : a + k ≤ n) :
    Calls Tryz.prog 175 #[.pointer (some ⟨g, 0, none⟩), .int .i64 (k : Int)] w fun e w' => e = .returned (.int .u64 (getV ((xs.drop a).take k) : Int)) ∧ Rd w' g A n cap (a + k) ∧ Only (· = g) w w' := by
  unfold Rd at hR
  have hlt := hR.lt
  have hget := fun m => get_yes A n cap a k xs (w.drewN m) (hB.only ((Only.refl Empty w).drewN m) (fun _ _ h => h)) h1 h2 hm ha
  have Hget := Lib.hid hget
  have c0 := hR.cell 0
  have c1 := hR.cell 1
  have f1 := hR.frozen 1
  simp at c0 c1
  have HR := Lib.hid hR
  obtain ⟨v, hv⟩ : ∃ v, v = getV ((xs.drop a).take k) := ⟨_, rfl⟩
  rw [← hv] at Hget ⊢
  clear hget hR hB hv
  go_enter Tryz.func175, Tryz.ntmps175
  go_wp2
  go_quiet ((go_at_call 168; exact Calls.quiet_of_same ((Hget.out _).mono fun _ _ ⟨h1, h2⟩ => ⟨h1, h2.symm⟩)))
  go_wp2
  go_ret
  have e : (#[.slice A n cap, .int .i64 (a : Int)] : Array Value).setIfInBounds 1 (.int .i64 ((a : Int) + (k : Int))) = #[.slice A n cap, .int .i64 ((a + k : Nat) : Int)] := by simp
  have h := (HR.out.drewN nq).set_ 1 (.int .i64 ((a : Int) + (k : Int)))
  rw [e] at h
  exact ⟨rfl, h, ((Only.refl (· = g) w).drewN nq).setCell (p := ⟨g, 1, none⟩) (Or.inl rfl) _⟩

/-- What a header's bytes tell, number by number. -/
def nK (xs : List UInt8) : Nat := getV ((xs.drop 0).take 1)
def nT (xs : List UInt8) : Nat := getV ((xs.drop 1).take 4)
def nA (xs : List UInt8) : Nat := getV ((xs.drop 5).take 1)
def nB (xs : List UInt8) : Nat := getV ((xs.drop 6).take 2)
def nC (xs : List UInt8) : Nat := getV ((xs.drop 8).take 1)
def nS (xs : List UInt8) : Nat := getV ((xs.drop 9).take 2)
theorem getV_le (xs : List UInt8) (k m : Nat) (h : xs.length ≤ k) (hm : 256 ^ k = m + 1) : getV xs ≤ m := by
  have h1 := getV_lt xs
  have h2 : 256 ^ xs.length ≤ 256 ^ k := Nat.pow_le_pow_right (by decide) h
  omega
theorem nK_le (xs : List UInt8) : nK xs ≤ 255 := getV_le _ 1 _ (by simp; omega) rfl
theorem nT_le (xs : List UInt8) : nT xs ≤ 4294967295 := getV_le _ 4 _ (by simp; omega) rfl
theorem nA_le (xs : List UInt8) : nA xs ≤ 255 := getV_le _ 1 _ (by simp; omega) rfl
theorem nB_le (xs : List UInt8) : nB xs ≤ 65535 := getV_le _ 2 _ (by simp; omega) rfl
theorem nC_le (xs : List UInt8) : nC xs ≤ 255 := getV_le _ 1 _ (by simp; omega) rfl
theorem nS_le (xs : List UInt8) : nS xs ≤ 65535 := getV_le _ 2 _ (by simp; omega) rfl

/-- What a reader's header is worth. -/
def headV (xs : List UInt8) : Value := .agg #[.int .i64 (nK xs : Int), .int .u32 (nT xs : Int), .int .i64 (nA xs : Int), .int .i64 (nB xs : Int), .int .i64 (nC xs : Int)]

set_option maxHeartbeats 2000000 in
theorem head_any (g : Nat) (A : Option Addr) (n cap : Nat) (xs : List UInt8) (w : World) (hR : Rd w g A n cap 0) (hBy : ByteSl w (· = g) A n cap xs) (hm : n ≤ 1048576) (ha : 9 ≤ n) :
    Calls Tryz.prog 200 #[.pointer (some ⟨g, 0, none⟩)] w fun e w' => e = .returned (headV xs) ∧ Rd w' g A n cap 9 ∧ Only (· = g) w w' := by
  unfold headV
  have hlt : g < w.heap.size := hR.lt
  obtain ⟨v1, e1, b1⟩ : ∃ v, v = nK xs ∧ v ≤ 255 := ⟨_, rfl, nK_le xs⟩
  obtain ⟨v2, e2, b2⟩ : ∃ v, v = nT xs ∧ v ≤ 4294967295 := ⟨_, rfl, nT_le xs⟩
  obtain ⟨v3, e3, b3⟩ : ∃ v, v = nA xs ∧ v ≤ 255 := ⟨_, rfl, nA_le xs⟩
  obtain ⟨v4, e4, b4⟩ : ∃ v, v = nB xs ∧ v ≤ 65535 := ⟨_, rfl, nB_le xs⟩
  obtain ⟨v5, e5, b5⟩ : ∃ v, v = nC xs ∧ v ≤ 255 := ⟨_, rfl, nC_le xs⟩
  rw [← e1, ← e2, ← e3, ← e4, ← e5]
  have N1 : Hid (∀ W, Rd W g A n cap 0 → ByteSl W (· = g) A n cap xs → Calls Tryz.prog 175 #[.pointer (some ⟨g, 0, none⟩), .int .i64 1] W fun e W' => e = .returned (.int .u64 (v1 : Int)) ∧ Rd W' g A n cap 1 ∧ Only (· = g) W W') := Lib.hid fun W hR hB => by
    rw [e1]; exact number_any g A n cap 0 1 xs W hR (hB.mono (fun _ _ h => h.elim)) (by omega) (by omega) hm (by omega)
  have N2 : Hid (∀ W, Rd W g A n cap 1 → ByteSl W (· = g) A n cap xs → Calls Tryz.prog 175 #[.pointer (some ⟨g, 0, none⟩), .int .i64 4] W fun e W' => e = .returned (.int .u64 (v2 : Int)) ∧ Rd W' g A n cap 5 ∧ Only (· = g) W W') := Lib.hid fun W hR hB => by
    rw [e2]; exact number_any g A n cap 1 4 xs W hR (hB.mono (fun _ _ h => h.elim)) (by omega) (by omega) hm (by omega)
  have N3 : Hid (∀ W, Rd W g A n cap 5 → ByteSl W (· = g) A n cap xs → Calls Tryz.prog 175 #[.pointer (some ⟨g, 0, none⟩), .int .i64 1] W fun e W' => e = .returned (.int .u64 (v3 : Int)) ∧ Rd W' g A n cap 6 ∧ Only (· = g) W W') := Lib.hid fun W hR hB => by
    rw [e3]; exact number_any g A n cap 5 1 xs W hR (hB.mono (fun _ _ h => h.elim)) (by omega) (by omega) hm (by omega)
  have N4 : Hid (∀ W, Rd W g A n cap 6 → ByteSl W (· = g) A n cap xs → Calls Tryz.prog 175 #[.pointer (some ⟨g, 0, none⟩), .int .i64 2] W fun e W' => e = .returned (.int .u64 (v4 : Int)) ∧ Rd W' g A n cap 8 ∧ Only (· = g) W W') := Lib.hid fun W hR hB => by
    rw [e4]; exact number_any g A n cap 6 2 xs W hR (hB.mono (fun _ _ h => h.elim)) (by omega) (by omega) hm (by omega)
  have N5 : Hid (∀ W, Rd W g A n cap 8 → ByteSl W (· = g) A n cap xs → Calls Tryz.prog 175 #[.pointer (some ⟨g, 0, none⟩), .int .i64 1] W fun e W' => e = .returned (.int .u64 (v5 : Int)) ∧ Rd W' g A n cap 9 ∧ Only (· = g) W W') := Lib.hid fun W hR hB => by
    rw [e5]; exact number_any g A n cap 8 1 xs W hR (hB.mono (fun _ _ h => h.elim)) (by omega) (by omega) hm (by omega)
  have HR := Lib.hid hR
  have HBy := Lib.hid hBy
  clear e1 e2 e3 e4 e5 hR hBy
  obtain ⟨z, hz⟩ : ∃ z : Array Value, z = #[.int .i64 0, .int .u32 0, .int .i64 0, .int .i64 0, .int .i64 0] := ⟨_, rfl⟩
  have HO0 := Lib.hid (((Only.refl (· = g) w).alloc (.cells #[.int .i64 0, .int .u32 0, .int .i64 0, .int .i64 0, .int .i64 0] 199)).alloc (.cells #[.int .i64 0, .int .u32 0, .int .i64 0, .int .i64 0, .int .i64 0] 199))
  have HR0 := Lib.hid (show Rd _ g A n cap 0 from (HR.out.alloc (.cells #[.int .i64 0, .int .u32 0, .int .i64 0, .int .i64 0, .int .i64 0] 199)).alloc (.cells #[.int .i64 0, .int .u32 0, .int .i64 0, .int .i64 0, .int .i64 0] 199))
  have HB0 := Lib.hid (HBy.out.only HO0.out (fun _ _ h => h))
  clear hz z
  go_enter Tryz.func200, Tryz.ntmps200
  go_wp2_with fail
  refine (N1.out _ HR0.out HB0.out).mono ?_
  rintro x1 w1 ⟨rfl, hR1, hO1⟩
  have hk1 : Blk w1 (w.heap.size + 1) 199 #[.int .i64 0, .int .u32 0, .int .i64 0, .int .i64 0, .int .i64 0] := hO1.blk (by have h := Blk.new (w.alloc (.cells #[.int .i64 0, .int .u32 0, .int .i64 0, .int .i64 0, .int .i64 0] 199)) 199 #[.int .i64 0, .int .u32 0, .int .i64 0, .int .i64 0, .int .i64 0]; simpa using h) (by omega)
  have hj1 : Blk w1 w.heap.size 199 #[.int .i64 0, .int .u32 0, .int .i64 0, .int .i64 0, .int .i64 0] := hO1.blk ((Blk.new w 199 #[.int .i64 0, .int .u32 0, .int .i64 0, .int .i64 0, .int .i64 0]).alloc _) (by omega)
  have O1 := Lib.hid (HO0.out.trans hO1)
  have c1 := hk1.cell 0
  have f1 := hk1.frozen 0
  simp at c1
  have K1 := Lib.hid (show Blk (w1.setCell ⟨w.heap.size + 1, 0, none⟩ (.int .i64 (v1 : Int))) (w.heap.size + 1) 199 #[.int .i64 (v1 : Int), .int .u32 0, .int .i64 0, .int .i64 0, .int .i64 0] from hk1.set_ 0 (.int .i64 (v1 : Int)))
  have J1 := Lib.hid (show Blk (w1.setCell ⟨w.heap.size + 1, 0, none⟩ (.int .i64 (v1 : Int))) w.heap.size 199 #[.int .i64 0, .int .u32 0, .int .i64 0, .int .i64 0, .int .i64 0] from hj1.far (p := ⟨w.heap.size + 1, 0, none⟩) (by simp) _)
  have R1 := Lib.hid (show Rd (w1.setCell ⟨w.heap.size + 1, 0, none⟩ (.int .i64 (v1 : Int))) g A n cap 1 from Blk.far hR1 (p := ⟨w.heap.size + 1, 0, none⟩) (by simp; omega) _)
  have P1 := Lib.hid (O1.out.setCell (p := ⟨w.heap.size + 1, 0, none⟩) (Or.inr (by simp)) (.int .i64 (v1 : Int)))
  clear hk1 hj1 hR1 hO1
  go_wp2_with fail
  refine (N2.out _ R1.out (HBy.out.only P1.out (fun _ _ h => h))).mono ?_
  rintro x1 w2 ⟨rfl, hR2, hO2⟩
  have hk2 := hO2.blk K1.out (by omega)
  have hj2 := hO2.blk J1.out (by omega)
  have O2 := Lib.hid (P1.out.trans hO2)
  clear c1 f1
  have c2 := hk2.cell 1
  have f2 := hk2.frozen 1
  simp at c2
  have K2 := Lib.hid (show Blk (w2.setCell ⟨w.heap.size + 1, 1, none⟩ (.int .u32 (v2 : Int))) (w.heap.size + 1) 199 #[.int .i64 (v1 : Int), .int .u32 (v2 : Int), .int .i64 0, .int .i64 0, .int .i64 0] from hk2.set_ 1 (.int .u32 (v2 : Int)))
  have J2 := Lib.hid (show Blk (w2.setCell ⟨w.heap.size + 1, 1, none⟩ (.int .u32 (v2 : Int))) w.heap.size 199 #[.int .i64 0, .int .u32 0, .int .i64 0, .int .i64 0, .int .i64 0] from hj2.far (p := ⟨w.heap.size + 1, 1, none⟩) (by simp) _)
  have R2 := Lib.hid (show Rd (w2.setCell ⟨w.heap.size + 1, 1, none⟩ (.int .u32 (v2 : Int))) g A n cap 5 from Blk.far hR2 (p := ⟨w.heap.size + 1, 1, none⟩) (by simp; omega) _)
  have P2 := Lib.hid (O2.out.setCell (p := ⟨w.heap.size + 1, 1, none⟩) (Or.inr (by simp)) (.int .u32 (v2 : Int)))
  clear hk2 hj2 hR2 hO2
  go_wp2_with fail
  refine (N3.out _ R2.out (HBy.out.only P2.out (fun _ _ h => h))).mono ?_
  rintro x1 w3 ⟨rfl, hR3, hO3⟩
  have hk3 := hO3.blk K2.out (by omega)
  have hj3 := hO3.blk J2.out (by omega)
  have O3 := Lib.hid (P2.out.trans hO3)
  clear c2 f2
  have c3 := hk3.cell 2
  have f3 := hk3.frozen 2
  simp at c3
  have K3 := Lib.hid (show Blk (w3.setCell ⟨w.heap.size + 1, 2, none⟩ (.int .i64 (v3 : Int))) (w.heap.size + 1) 199 #[.int .i64 (v1 : Int), .int .u32 (v2 : Int), .int .i64 (v3 : Int), .int .i64 0, .int .i64 0] from hk3.set_ 2 (.int .i64 (v3 : Int)))
  have J3 := Lib.hid (show Blk (w3.setCell ⟨w.heap.size + 1, 2, none⟩ (.int .i64 (v3 : Int))) w.heap.size 199 #[.int .i64 0, .int .u32 0, .int .i64 0, .int .i64 0, .int .i64 0] from hj3.far (p := ⟨w.heap.size + 1, 2, none⟩) (by simp) _)
  have R3 := Lib.hid (show Rd (w3.setCell ⟨w.heap.size + 1, 2, none⟩ (.int .i64 (v3 : Int))) g A n cap 6 from Blk.far hR3 (p := ⟨w.heap.size + 1, 2, none⟩) (by simp; omega) _)
  have P3 := Lib.hid (O3.out.setCell (p := ⟨w.heap.size + 1, 2, none⟩) (Or.inr (by simp)) (.int .i64 (v3 : Int)))
  clear hk3 hj3 hR3 hO3
  go_wp2_with fail
  refine (N4.out _ R3.out (HBy.out.only P3.out (fun _ _ h => h))).mono ?_
  rintro x1 w4 ⟨rfl, hR4, hO4⟩
  have hk4 := hO4.blk K3.out (by omega)
  have hj4 := hO4.blk J3.out (by omega)
  have O4 := Lib.hid (P3.out.trans hO4)
  clear c3 f3
  have c4 := hk4.cell 3
  have f4 := hk4.frozen 3
  simp at c4
  have K4 := Lib.hid (show Blk (w4.setCell ⟨w.heap.size + 1, 3, none⟩ (.int .i64 (v4 : Int))) (w.heap.size + 1) 199 #[.int .i64 (v1 : Int), .int .u32 (v2 : Int), .int .i64 (v3 : Int), .int .i64 (v4 : Int), .int .i64 0] from hk4.set_ 3 (.int .i64 (v4 : Int)))
  have J4 := Lib.hid (show Blk (w4.setCell ⟨w.heap.size + 1, 3, none⟩ (.int .i64 (v4 : Int))) w.heap.size 199 #[.int .i64 0, .int .u32 0, .int .i64 0, .int .i64 0, .int .i64 0] from hj4.far (p := ⟨w.heap.size + 1, 3, none⟩) (by simp) _)
  have R4 := Lib.hid (show Rd (w4.setCell ⟨w.heap.size + 1, 3, none⟩ (.int .i64 (v4 : Int))) g A n cap 8 from Blk.far hR4 (p := ⟨w.heap.size + 1, 3, none⟩) (by simp; omega) _)
  have P4 := Lib.hid (O4.out.setCell (p := ⟨w.heap.size + 1, 3, none⟩) (Or.inr (by simp)) (.int .i64 (v4 : Int)))
  clear hk4 hj4 hR4 hO4
  go_wp2_with fail
  refine (N5.out _ R4.out (HBy.out.only P4.out (fun _ _ h => h))).mono ?_
  rintro x1 w5 ⟨rfl, hR5, hO5⟩
  have hk5 := hO5.blk K4.out (by omega)
  have hj5 := hO5.blk J4.out (by omega)
  have O5 := Lib.hid (P4.out.trans hO5)
  clear c4 f4
  have c50 := hk5.cell 0
  have j50 := hj5.cell 0
  have g50 := hj5.frozen 0
  have c51 := hk5.cell 1
  have j51 := hj5.cell 1
  have g51 := hj5.frozen 1
  have c52 := hk5.cell 2
  have j52 := hj5.cell 2
  have g52 := hj5.frozen 2
  have c53 := hk5.cell 3
  have j53 := hj5.cell 3
  have g53 := hj5.frozen 3
  have c54 := hk5.cell 4
  have j54 := hj5.cell 4
  have g54 := hj5.frozen 4
  have f5 := hk5.frozen 4
  simp at c50 j50 c51 j51 c52 j52 c53 j53 c54 j54
  have K5 := Lib.hid (show Blk (w5.setCell ⟨w.heap.size + 1, 4, none⟩ (.int .i64 (v5 : Int))) (w.heap.size + 1) 199 #[.int .i64 (v1 : Int), .int .u32 (v2 : Int), .int .i64 (v3 : Int), .int .i64 (v4 : Int), .int .i64 (v5 : Int)] from hk5.set_ 4 (.int .i64 (v5 : Int)))
  have J5 := Lib.hid (show Blk (w5.setCell ⟨w.heap.size + 1, 4, none⟩ (.int .i64 (v5 : Int))) w.heap.size 199 #[.int .i64 0, .int .u32 0, .int .i64 0, .int .i64 0, .int .i64 0] from hj5.far (p := ⟨w.heap.size + 1, 4, none⟩) (by simp) _)
  have R5 := Lib.hid (show Rd (w5.setCell ⟨w.heap.size + 1, 4, none⟩ (.int .i64 (v5 : Int))) g A n cap 9 from Blk.far hR5 (p := ⟨w.heap.size + 1, 4, none⟩) (by simp; omega) _)
  have P5 := Lib.hid (O5.out.setCell (p := ⟨w.heap.size + 1, 4, none⟩) (Or.inr (by simp)) (.int .i64 (v5 : Int)))
  clear hk5 hj5 hR5 hO5
  go_wp2_with fail
  refine bodyPost_ret (v := .agg #[.int .i64 (v1 : Int), .int .u32 (v2 : Int), .int .i64 (v3 : Int), .int .i64 (v4 : Int), .int .i64 (v5 : Int)]) (by simp [results, Tryz.results200, go_sem, j50, j51, j52, j53, j54]) rfl ⟨rfl, ?_, ?_⟩
  · have r := R5.out
    unfold Rd at r ⊢
    exact ((((r.far (p := ⟨w.heap.size, 0, none⟩) (by simp; omega) _).far (p := ⟨w.heap.size, 1, none⟩) (by simp; omega) _).far (p := ⟨w.heap.size, 2, none⟩) (by simp; omega) _).far (p := ⟨w.heap.size, 3, none⟩) (by simp; omega) _).far (p := ⟨w.heap.size, 4, none⟩) (by simp; omega) _
  · exact ((((P5.out.setCell (p := ⟨w.heap.size, 0, none⟩) (Or.inr (by simp)) _).setCell (p := ⟨w.heap.size, 1, none⟩) (Or.inr (by simp)) _).setCell (p := ⟨w.heap.size, 2, none⟩) (Or.inr (by simp)) _).setCell (p := ⟨w.heap.size, 3, none⟩) (Or.inr (by simp)) _).setCell (p := ⟨w.heap.size, 4, none⟩) (Or.inr (by simp)) _

/-- A row of no bytes at all. -/
theorem own_nil (w : World) (base : Nat) : w.ownsRow base 5 1 (.slice none 0 0) 0 (([] : List UInt8).map B8) := ⟨rfl, Or.inl ⟨rfl, rfl⟩⟩

theorem ByteSl.drop_ {w : World} {S : Nat → Prop} {ad : Addr} {n cap : Nat} {xs : List UInt8} (h : ByteSl w S (some ad) n cap xs) (a k : Nat) (hk : a + k ≤ n) : ByteSl w S (some (ad.add a)) k (cap - a) ((xs.drop a).take k) := by
  refine ⟨by rw [List.length_take, List.length_drop, h.1]; omega, by have := h.2.1; omega, by have := h.2.2.1; omega, fun h0 => ?_⟩
  obtain ⟨ad', e, hb, hs, hc⟩ := h.2.2.2 (by omega)
  cases e
  refine ⟨_, rfl, by rw [addr_add_block]; exact hb, by rw [addr_add_block]; exact hs, fun j x hx => ?_⟩
  rw [List.getElem?_take] at hx
  by_cases hj : j < k
  · rw [if_pos hj, List.getElem?_drop] at hx
    rw [add_add]
    exact hc (a + j) x hx
  · rw [if_neg hj] at hx
    cases hx

set_option maxHeartbeats 1000000 in
theorem rbytes_any (g : Nat) (ad : Addr) (n cap a k : Nat) (xs : List UInt8) (w : World) (hR : Rd w g (some ad) n cap a) (hB : ByteSl w (· = g) (some ad) n cap xs) (hm : n ≤ 1048576) (ha : a + k < n) :
    Calls Tryz.prog 201 #[.pointer (some ⟨g, 0, none⟩), .int .i64 (k : Int)] w fun e w' => Ret8 w.heap.size k ((xs.drop a).take k) e w' ∧ Rd w' g (some ad) n cap (a + k) ∧ Only (· = g) w w' := by
  unfold Rd at hR
  have hlt := hR.lt
  have c0 := hR.cell 0
  have c1 := hR.cell 1
  have f1 := hR.frozen 1
  simp at c0 c1
  have hcap := hB.2.1
  have hcap2 := hB.2.2.1
  unfold maxLen at hcap2
  have HR := Lib.hid hR
  have HB := Lib.hid hB
  clear hR hB
  go_enter Tryz.func201, Tryz.ntmps201
  go_wp2
  have q1 : ((a : Int)) ≤ (a : Int) + (k : Int) := by omega
  have q2 : ((a : Int) + (k : Int)) ≤ (cap : Int) := by omega
  have q3 : (0 : Int) ≤ (a : Int) := by omega
  have q4 : ((a : Int) + (k : Int)) ≤ (n : Int) := by omega
  have e : (#[.slice (some ad) n cap, .int .i64 (a : Int)] : Array Value).setIfInBounds 1 (.int .i64 ((a : Int) + (k : Int))) = #[.slice (some ad) n cap, .int .i64 ((a : Int) + (k : Int))] := by simp
  have hk := HR.out.set_ 1 (.int .i64 ((a : Int) + (k : Int)))
  rw [e] at hk
  have d0 := hk.cell 0
  have d1 := hk.cell 1
  simp at d0 d1
  generalize hw2 : w.setCell ⟨g, 1, none⟩ (.int .i64 ((a : Int) + (k : Int))) = w2 at hk d0 d1 ⊢
  clear c0 c1 f1 e hk
  have hca : ¬ cap = a := by omega
  have hta : ((a : Int) + (k : Int)).toNat = a + k := by omega
  have HR2 : Hid (Rd w2 g (some ad) n cap (a + k)) := Lib.hid (by
    have h := HR.out.set_ 1 (.int .i64 ((a : Int) + (k : Int)))
    rw [hw2] at h
    unfold Rd
    simpa using h)
  have HO2 : Hid (Only (· = g) w w2) := Lib.hid (by rw [← hw2]; exact (Only.refl (· = g) w).setCell (p := ⟨g, 1, none⟩) (Or.inl rfl) _)
  have HB2 := Lib.hid ((HB.out.only HO2.out (fun _ _ h => h)).drop_ a k (by omega))
  have Hbase : Hid (w.heap.size ≤ w2.drew.heap.size) := Lib.hid HO2.out.size
  have HB3 : Hid (ByteSl w2.drew (· = g) (some (ad.add a)) k (cap - a) ((xs.drop a).take k)) := Lib.hid (HB2.out.only ((Only.refl (· = g) w2).drew) (fun _ _ h => h))
  have Hk : Hid (0 + k ≤ 16777216) := Lib.hid (by omega)
  clear hw2 hcap2 hm ha
  have hs0 : w2.drew.cell? ⟨g, 0, none⟩ = some (.slice (some ad) n cap) ∧ w2.drew.cell? ⟨g, 1, none⟩ = some (.int .i64 ((a : Int) + (k : Int))) := ⟨d0, d1⟩
  have HN : Hid (some (ad.add a) = none → k = 0 ∧ cap - a = 0) := Lib.hid (fun h => by cases h)
  have HG : Hid (∀ W, w2.drew.grownBy W (Value.ownBlock (.slice none 0 0)) → Only Empty w2.drew W) := Lib.hid (fun W h => Only.of_grown (S := Empty) h (fun q hq => by simp [Value.ownBlock] at hq))
  have HS : Hid (∀ W, Only Empty w2.drew W → W.cell? ⟨g, 0, none⟩ = some (.slice (some ad) n cap) ∧ W.cell? ⟨g, 1, none⟩ = some (.int .i64 ((a : Int) + (k : Int)))) := Lib.hid (fun W h =>
    ⟨(h.cell (p := ⟨g, 0, none⟩) (cell_lt hs0.1) (fun h => h)).trans hs0.1, (h.cell (p := ⟨g, 1, none⟩) (cell_lt hs0.2) (fun h => h)).trans hs0.2⟩)
  go_region_held3 (fun W => W.cell? ⟨g, 0, none⟩ = some (.slice (some ad) n cap) ∧ W.cell? ⟨g, 1, none⟩ = some (.int .i64 ((a : Int) + (k : Int)))) (first | exact hs0 | exact hs5)
    ((refine step_append_bytes rfl (.const (.slice none 0 0)) (.tmp 27) rfl w.heap.size (.slice none 0 0) rfl 0 [] (own_nil _ _) (some (ad.add a)) k (cap - a) ((xs.drop a).take k) (· = g) rfl HB3.out HN.out Hk.out Hbase.out ?_; intro v5 w5 hown5 hg5 hnn5; have hg6 := HG.out w5 hg5; have hs5 := HS.out w5 hg6))
  go_wp2
  go_ret
  refine ⟨⟨_, rfl, ?_⟩, hg6.blk ?_ (fun h => h), HO2.out.trans ?_⟩
  · rw [Nat.zero_add, List.nil_append] at hown5
    exact hown5
  · exact HR2.out.drew
  · exact (Only.refl (· = g) w2).drew.trans (hg6.mono (fun _ _ h => h.elim))

end Go.Proofs.YtnhfmcijadficaaGreatDoor

/- The walk over the reader's record. -/
namespace Go.Proofs.YtnhfmcijadficaaGreatDoor
set_option maxRecDepth 100000
open Go.RowKit

/-- A record as a value, whose blob is a row made since base. -/
def RecIs (base : Nat) (k t c : Int) (key blob : List UInt8) (v : Value) (w : World) : Prop :=
  ∃ A n cap, v = .agg #[.int .i64 k, .int .u32 t, .string (strB key), .slice A n cap, .int .i64 c] ∧ blob.length = n ∧ w.ownsRow base 5 1 (.slice A n cap) n (blob.map B8)
def RetRec (base : Nat) (k t c : Int) (key blob : List UInt8) (e : Ending) (w : World) : Prop := ∃ v, e = .returned v ∧ RecIs base k t c key blob v w

theorem ret8_slice {base k : Nat} {zs : List UInt8} {e : Ending} {w : World} (h : Ret8 base k zs e w) : ∃ A cap, e = .returned (.slice A k cap) ∧ w.ownsRow base 5 1 (.slice A k cap) k (zs.map B8) ∧ ByteSl w Empty A k cap zs := by
  obtain ⟨u, rfl, ho⟩ := h
  obtain ⟨A, cap, rfl, hb, -⟩ := ByteSl.of_own (S := Empty) ho (fun _ _ _ h => h)
  exact ⟨A, cap, rfl, ho, hb⟩

set_option maxHeartbeats 2000000 in
theorem record_any (g : Nat) (ad : Addr) (n cap : Nat) (k t c : Int) (a b : Nat) (xs : List UInt8) (w : World) (hR : Rd w g (some ad) n cap 11) (hB : ByteSl w (· = g) (some ad) n cap xs) (hm : n ≤ 1048576) (ha : 11 + a + b < n) :
    Calls Tryz.prog 176 #[.pointer (some ⟨g, 0, none⟩), .agg #[.int .i64 k, .int .u32 t, .int .i64 (a : Int), .int .i64 (b : Int), .int .i64 c]] w fun e w' =>
      RetRec w.heap.size k t c ((xs.drop 11).take a) ((xs.drop (11 + a)).take b) e w' ∧ Only (· = g) w w' := by
  have hlt : g < w.heap.size := hR.lt
  have HR := Lib.hid hR
  have HBy := Lib.hid hB
  have N1 : Hid (∀ W, Rd W g (some ad) n cap 11 → ByteSl W (· = g) (some ad) n cap xs → Calls Tryz.prog 201 #[.pointer (some ⟨g, 0, none⟩), .int .i64 (a : Int)] W fun e W' => Ret8 W.heap.size a ((xs.drop 11).take a) e W' ∧ Rd W' g (some ad) n cap (11 + a) ∧ Only (· = g) W W') := Lib.hid fun W hR hB =>
    rbytes_any g ad n cap 11 a xs W hR hB hm (by omega)
  have N2 : Hid (∀ W, Rd W g (some ad) n cap (11 + a) → ByteSl W (· = g) (some ad) n cap xs → Calls Tryz.prog 201 #[.pointer (some ⟨g, 0, none⟩), .int .i64 (b : Int)] W fun e W' => Ret8 W.heap.size b ((xs.drop (11 + a)).take b) e W' ∧ Rd W' g (some ad) n cap (11 + a + b) ∧ Only (· = g) W W') := Lib.hid fun W hR hB =>
    rbytes_any g ad n cap (11 + a) b xs W hR hB hm (by omega)
  have hO0 := ((Only.refl (· = g) w).alloc (.cells #[.int .i64 k, .int .u32 t, .int .i64 (a : Int), .int .i64 (b : Int), .int .i64 c] 199)).alloc (.cells #[.int .i64 0, .int .u32 0, .string ⟨#[]⟩, .slice none 0 0, .int .i64 0] 161)
  have hR0 : Rd _ g (some ad) n cap 11 := (HR.out.alloc (.cells #[.int .i64 k, .int .u32 t, .int .i64 (a : Int), .int .i64 (b : Int), .int .i64 c] 199)).alloc (.cells #[.int .i64 0, .int .u32 0, .string ⟨#[]⟩, .slice none 0 0, .int .i64 0] 161)
  have HO0 := Lib.hid hO0
  have HR0 := Lib.hid hR0
  have HB0 := Lib.hid (HBy.out.only HO0.out (fun _ _ h => h))
  have hlen : ((xs.drop 11).take a).length = a := by have := hB.1; simp; omega
  have hlen2 : ((xs.drop (11 + a)).take b).length = b := by have := hB.1; simp; omega
  have Hlen := Lib.hid hlen
  have Hlen2 := Lib.hid hlen2
  clear hR hB hO0 hR0 hlen hlen2
  go_enter Tryz.func176, Tryz.ntmps176
  go_wp2_with fail
  refine (N1.out _ HR0.out HB0.out).mono ?_
  rintro x1 w1 ⟨h8, hR1, hO1⟩
  obtain ⟨A1, cap1, rfl, hown1, hBk⟩ := ret8_slice h8
  have hcv := conv_bytes hBk
  have hbox : Blk w1 w.heap.size 199 #[.int .i64 k, .int .u32 t, .int .i64 (a : Int), .int .i64 (b : Int), .int .i64 c] := hO1.blk ((Blk.new w 199 #[.int .i64 k, .int .u32 t, .int .i64 (a : Int), .int .i64 (b : Int), .int .i64 c]).alloc _) (by omega)
  have hres : Blk w1 (w.heap.size + 1) 161 #[.int .i64 0, .int .u32 0, .string ⟨#[]⟩, .slice none 0 0, .int .i64 0] := hO1.blk (by have h := Blk.new (w.alloc (.cells #[.int .i64 k, .int .u32 t, .int .i64 (a : Int), .int .i64 (b : Int), .int .i64 c] 199)) 161 #[.int .i64 0, .int .u32 0, .string ⟨#[]⟩, .slice none 0 0, .int .i64 0]; simpa using h) (by omega)
  have Hbox := Lib.hid hbox
  have Hres := Lib.hid hres
  have HR1 := Lib.hid hR1
  have HO1 := Lib.hid (HO0.out.trans hO1)
  have HB1 := Lib.hid (HBy.out.only HO1.out (fun _ _ h => h))
  clear hbox hres hR1 hO1 h8 hown1 hBk
  go_wp2_with fail
  clear hcv
  have HS : Hid (∀ W, Only (fun q => q = g ∨ q = w.heap.size + 1) w1 W → W.cell? ⟨w.heap.size, 0, none⟩ = some (.int .i64 k) ∧ W.cell? ⟨w.heap.size, 1, none⟩ = some (.int .u32 t) ∧ W.cell? ⟨w.heap.size, 3, none⟩ = some (.int .i64 (b : Int)) ∧ W.cell? ⟨w.heap.size, 4, none⟩ = some (.int .i64 c)) := Lib.hid (fun W h => by
    have hb := h.blk Hbox.out (by omega)
    exact ⟨hb.cell 0, hb.cell 1, hb.cell 3, hb.cell 4⟩)
  have hD : Only (fun q => q = g ∨ q = w.heap.size + 1) w1 w1.drew := (Only.refl _ _).drew
  have hs1 := HS.out _ hD
  have HRd : Hid (Rd w1.drew g (some ad) n cap (11 + a)) := Lib.hid (Blk.drew HR1.out)
  have HBd : Hid (ByteSl w1.drew (· = g) (some ad) n cap xs) := Lib.hid (HB1.out.only ((Only.refl (· = g) w1).drew) (fun _ _ h => h))
  have HRes : Hid (∀ W, Only (· = g) w1.drew W → Blk W (w.heap.size + 1) 161 #[.int .i64 0, .int .u32 0, .string ⟨#[]⟩, .slice none 0 0, .int .i64 0]) := Lib.hid (fun W h => h.blk Hres.out.drew (by omega))
  have HD := Lib.hid hD
  clear hD
  go_region_held3 (fun W => W.cell? ⟨w.heap.size, 0, none⟩ = some (.int .i64 k) ∧ W.cell? ⟨w.heap.size, 1, none⟩ = some (.int .u32 t) ∧ W.cell? ⟨w.heap.size, 3, none⟩ = some (.int .i64 (b : Int)) ∧ W.cell? ⟨w.heap.size, 4, none⟩ = some (.int .i64 c)) (first | with_reducible exact hs1 | with_reducible exact hs10 | ((with_reducible refine HS.out _ ?_); exact (((((hT10.setCell (p := ⟨w.heap.size + 1, 0, none⟩) (Or.inl (Or.inr rfl)) _).setCell (p := ⟨w.heap.size + 1, 1, none⟩) (Or.inl (Or.inr rfl)) _).setCell (p := ⟨w.heap.size + 1, 2, none⟩) (Or.inl (Or.inr rfl)) _).setCell (p := ⟨w.heap.size + 1, 3, none⟩) (Or.inl (Or.inr rfl)) _).setCell (p := ⟨w.heap.size + 1, 4, none⟩) (Or.inl (Or.inr rfl)) _)))
    ((go_at_call 201; (with_reducible refine (N2.out _ HRd.out HBd.out).mono ?_); rintro e10 w10 ⟨h10, hR10, hO10⟩; obtain ⟨A2, cap2, rfl, hown2, hB2⟩ := ret8_slice h10; have hT10 := HD.out.trans (hO10.mono (fun _ _ h => Or.inl h)); have hs10 := HS.out _ hT10; have hr10 := HRes.out _ hO10; have c0 := hr10.cell 0; have c1 := hr10.cell 1; have c2 := hr10.cell 2; have c3 := hr10.cell 3; have c4 := hr10.cell 4; have f0 := hr10.frozen 0; have f1 := hr10.frozen 1; have f2 := hr10.frozen 2; have f3 := hr10.frozen 3; have f4 := hr10.frozen 4; simp at c0 c1 c2 c3 c4))
  go_wp2
  have hz1 : w.heap.size + 1 < w1.heap.size := Hres.out.lt
  have hT : Only (· = w.heap.size + 1) w10 (((((w10.setCell ⟨w.heap.size + 1, 0, none⟩ (.int .i64 k)).setCell ⟨w.heap.size + 1, 1, none⟩ (.int .u32 t)).setCell ⟨w.heap.size + 1, 2, none⟩ (.string (strB ((xs.drop 11).take a)))).setCell ⟨w.heap.size + 1, 3, none⟩ (.slice A2 b cap2)).setCell ⟨w.heap.size + 1, 4, none⟩ (.int .i64 c)) :=
    (((((Only.refl (· = w.heap.size + 1) w10).setCell (p := ⟨w.heap.size + 1, 0, none⟩) (Or.inl rfl) _).setCell (p := ⟨w.heap.size + 1, 1, none⟩) (Or.inl rfl) _).setCell (p := ⟨w.heap.size + 1, 2, none⟩) (Or.inl rfl) _).setCell (p := ⟨w.heap.size + 1, 3, none⟩) (Or.inl rfl) _).setCell (p := ⟨w.heap.size + 1, 4, none⟩) (Or.inl rfl) _
  refine bodyPost_ret (v := .agg #[.int .i64 k, .int .u32 t, .string (strB ((xs.drop 11).take a)), .slice A2 b cap2, .int .i64 c]) (by simp [results, Tryz.results176, go_sem, c0, c1, c2, c3, c4]) rfl ⟨?_, ?_⟩
  · have h1 : w1.drew.heap.size = w1.heap.size := rfl
    exact ⟨_, rfl, A2, b, cap2, rfl, Hlen2.out, own_base (own_only hown2 hT (fun q h2 _ => by omega)) (by omega)⟩
  · refine (HO1.out.drew.trans hO10).trans' hT (fun q h1 h2 => ?_)
    omega

end Go.Proofs.YtnhfmcijadficaaGreatDoor
