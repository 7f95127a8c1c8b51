/- A world of hier in memory; the walks over Super, Has; the iterator over a class's line. -/
import Derived.RangeFuncNested
import Derived.RangeFuncFrom
import Derived.RangeFuncBound
import Derived.RangeFuncCalls
import Derived.RangeFuncLeaves
import Derived.Shelf.Abstract
import Derived.Shelf.RegionOpen
import Derived.OwnWalkIn
import Derived.TacticsInMore
import Derived.LoopNIn
import Derived.LoopIn
import Derived.Test.YtdkkpcbebhgbiaaGreatDoorZau
import Derived.Deep.QuietTactic
import Derived.BigQuiet
namespace Go.Proofs.YtdkkpcbebhgbiaaGreatDoor
open Go.RowKit Go.Shelf
attribute [local go_sem] Oper.semAt_some

/-- A world of units, of which no two have one name, as it lies. -/
structure WAt (w : World) (p : Nat) (L : List UnD) : Prop where
  nodup : (L.map (·.name)).Nodup
  small : ∀ u ∈ L, u.name.length ≤ 1000000 ∧ u.super.length ≤ 1000000
  few : L.length ≤ 1000000
  maps : ∃ b1 b2 b3 n2 n3, Blk w p 144 #[.map (some b1), .map (some b2), .map (some b3)] ∧
    MapK Tryz.prog 9 strKV clsV w b1 L.length (fun c => (findU L c).map (·.super)) ∧
    MapK Tryz.prog 153 memKV memV w b2 n2 (fun q => (findU L q.1).bind fun u => (lastF u q.2.1 q.2.2).map fun st => (q.1, st)) ∧
    MapK Tryz.prog 153 memKV memV w b3 n3 (fun q => (findU L q.1).bind fun u => (lastM u q.2.1 q.2.2).map fun st => (q.1, st))
section
variable {w w' : World} {p : Nat} {L : List UnD}
theorem WAt.lt (h : WAt w p L) : p < w.heap.size := by
  obtain ⟨_, _, _, _, _, hb, _⟩ := h.maps
  exact hb.lt
theorem WAt.below (h : WAt w p L) (q : Below w.heap.size w w') : WAt w' p L := by
  obtain ⟨b1, b2, b3, n2, n3, hb, h1, h2, h3⟩ := h.maps
  exact ⟨h.nodup, h.small, h.few, b1, b2, b3, n2, n3, hb.of (q.block p hb.lt), h1.below q, h2.below q, h3.below q⟩
end

theorem Tryz.zeroCls (w : World) : (zeroValue 139).run Tryz.prog w = .ok (clsV []) w := by kernel_rfl
theorem Tryz.zeroMem (w : World) : (zeroValue 146).run Tryz.prog w = .ok (memV ([], false)) w := by kernel_rfl

/-- What Super answers. -/
def supV (r : Option UnD) : Value := match r with
  | none => .tuple #[.string (strB []), .bool false]
  | some u => .tuple #[.string (strB u.super), .bool true]

theorem super_any (p : Nat) (L : List UnD) (c : Bs) (w : World) (hW : WAt w p L) (hc : c.length ≤ 1000000) :
    Calls Tryz.prog 47 #[.pointer (some ⟨p, 0, none⟩), .string (strB c)] w fun e w' => e = .returned (supV (findU L c)) ∧ Below w.heap.size w w' := by
  obtain ⟨b1, b2, b3, n2, n3, hb, h1, h2, h3⟩ := hW.maps
  have c0 : w.cell? ⟨p, 0, none⟩ = some (.map (some b1)) := hb.cell 0
  have HL := h1.look Tryz.strKeyed Tryz.underlying141 (Tryz.zeroCls w) strKV_inj (str_key c hc)
  clear h1 h2 h3 hb hW
  cases hf : findU L c with
  | none =>
    rw [hf] at HL
    simp only [Option.map_none, strKV, clsV] at HL
    clear hf
    go_enter Tryz.func47, Tryz.ntmps47
    go_wp2
    go_ret2
    exact ⟨rfl, ((Below.refl _ _).alloc (Nat.le_refl _) _)⟩
  | some u =>
    rw [hf] at HL
    simp only [Option.map_some, strKV, clsV] at HL
    clear hf
    go_enter Tryz.func47, Tryz.ntmps47
    go_wp2
    go_ret2
    exact ⟨rfl, ((Below.refl _ _).alloc (Nat.le_refl _) _)⟩

theorem has_any (p : Nat) (L : List UnD) (c : Bs) (w : World) (hW : WAt w p L) (hc : c.length ≤ 1000000) :
    Calls Tryz.prog 16 #[.pointer (some ⟨p, 0, none⟩), .string (strB c)] w fun e w' => e = .returned (.bool (findU L c).isSome) ∧ Below w.heap.size w w' := by
  have C1 := Lib.hid (super_any p L c w hW hc)
  clear hW
  cases hf : findU L c with
  | none =>
    rw [hf] at C1
    clear hf
    go_enter Tryz.func16, Tryz.ntmps16
    go_wp2_with fail
    refine C1.out.mono ?_
    rintro e w' ⟨rfl, hb⟩
    simp only [supV]
    go_wp2
    go_ret
    exact ⟨rfl, hb⟩
  | some u =>
    rw [hf] at C1
    clear hf
    go_enter Tryz.func16, Tryz.ntmps16
    go_wp2_with fail
    refine C1.out.mono ?_
    rintro e w' ⟨rfl, hb⟩
    simp only [supV]
    go_wp2
    go_ret
    exact ⟨rfl, hb⟩

/-! ### The iterator over a class's line -/
abbrev Nm := { s : Bs // s.length ≤ 1000000 }
def encN (x : Nm) : Array Value := #[.string (strB x.1)]
/-- The names of a class's line. -/
def namesL (L : List UnD) (n : Nat) (c : Bs) : List Bs := (lineU L n c).map (·.name)
/-- What a round that goes on keeps: whatever lay below n₀, and block B. -/
def KpB (n₀ B : Nat) (A C : World) : Prop := Below n₀ A C ∧ C.heap[B]? = A.heap[B]?
theorem kpB_t {n₀ B : Nat} {A C D : World} (h : KpB n₀ B A C) (k : KpB n₀ B C D) : KpB n₀ B A D := ⟨h.1.trans k.1, k.2.trans h.2⟩
theorem kpB_b {n₀ B : Nat} {w : World} (hn : n₀ ≤ w.heap.size) (hB : B < w.heap.size) (W : World) (l : Nat) (o o' : Obj) (hl : w.heap.size ≤ l) (h : W.heap[l]? = some o) (h1 : o.isCells = false) (h2 : o.isWalk = false) : KpB n₀ B W (W.putObj l o') :=
  ⟨belowK_b hn W l o o' hl h h1 h2, World.putObj_heap_other (fun e => by omega)⟩
theorem grown_of_below {W W' : World} (h : Below W.heap.size W W') : W.grownBy W' none := ⟨h.os, h.tape, h.output, h.size, fun k hk _ => h.block k hk⟩
theorem kpB_of_below {n₀ B : Nat} {W W' : World} (h : Below W.heap.size W W') (hn : n₀ ≤ W.heap.size) (hB : B < W.heap.size) : KpB n₀ B W W' := ⟨h.mono hn, h.block B hB⟩
theorem cell_of_block {W W' : World} {B : Nat} (h : W'.heap[B]? = W.heap[B]?) (o : Nat) : W'.cell? ⟨B, o, none⟩ = W.cell? ⟨B, o, none⟩ := by simp [World.cell?, h]

/-- Where the iterator stands at a round's head. -/
def RelL (L : List UnD) (c : Bs) (J : List Nm → World → Prop) (n₀ B1 : Nat) (W : World) (t i : Value) (wr : World) : Prop :=
  ∃ (pre : List Nm) (c' : Bs) (k : Nat), t = .string (strB c') ∧ i = .int .i64 (k : Int) ∧ k ≤ L.length ∧ pre.length = k ∧ namesL L L.length c = pre.map (·.1) ++ namesL L (L.length - k) c' ∧ c'.length ≤ 1000000 ∧ J pre wr ∧ KpB n₀ B1 W wr
theorem kpB_t_refl {n₀ B : Nat} {W : World} : KpB n₀ B W W := ⟨Below.refl _ _, rfl⟩

set_option maxRecDepth 100000 in
set_option maxHeartbeats 2000000 in
theorem line1_in (n : Nat) (hn : 1 ≤ n) (l B1 B2 n₀ p : Nat) (L : List UnD) (c : Bs) (hc : c.length ≤ 1000000) (J Jx : List Nm → World → Prop) (W w0 : World) (hw0 : WAt w0 p L) (hsz : w0.heap.size ≤ n₀) (h0W : Below n₀ w0 W) (hn0 : n₀ ≤ W.heap.size)
    (hJ : AbidesFrom W.heap.size J)
    (hY : ∀ pre x W1, J pre W1 → pre.length < L.length → YieldAt Fence.wide (n - 1) Tryz.prog l (encN x) W1 fun e W' =>
      (e = .returned (.bool true) ∧ J (pre ++ [x]) W' ∧ KpB n₀ B1 W1 W') ∨ (e = .returned (.bool false) ∧ Jx (pre ++ [x]) W'))
    (hB1 : W.cell? ⟨B1, 0, none⟩ = some (.pointer (some ⟨p, 0, none⟩))) (hB2 : W.cell? ⟨B2, 0, none⟩ = some (.string (strB c))) (h0 : J [] W) :
    CallsIn Fence.wide n Tryz.prog 129 #[.func (.yield l) #[] #[], .pointer (some ⟨B1, 0, none⟩), .pointer (some ⟨B2, 0, none⟩)] W fun e W' => (∃ v, e = .returned v) ∧
      ((∃ xs : List Nm, xs.map (·.1) = namesL L L.length c ∧ J xs W') ∨ (∃ pre : List Nm, pre.map (·.1) <+: namesL L L.length c ∧ Jx pre W')) := by
  have hWW : WAt W p L := hw0.below (h0W.mono hsz)
  have hlen : (L.length : Int) ≤ 1000000 := by have := hw0.few; omega
  obtain ⟨b1, b2, b3, n2, n3, hb, h1, h2, h3⟩ := hWW.maps
  have hcell : W.cell? ⟨p, 0, none⟩ = some (.map (some b1)) := hb.cell 0
  have hlenr := h1.len Tryz.underlying141 3
  have hb1 : B1 < W.heap.size := cell_lt hB1
  clear h1 h2 h3 hb hWW
  refine callsIn_of_wp Tryz.func129 rfl trivial ?_ rfl
  simp only [Tryz.ntmps129, List.size_toArray, List.length_cons, List.length_nil, Nat.reduceAdd, Nat.reduceSub, Array.replicate_succ, Array.replicate_zero, List.push_toArray, List.append_toArray, List.nil_append, List.cons_append]
  gi_wp2
  have HR : Hid (RelL L c J n₀ B1 W (.string (strB c)) (.int .i64 0) W) := Lib.hid ⟨[], c, 0, rfl, rfl, Nat.zero_le _, rfl, by simp [namesL], hc, h0, kpB_t_refl⟩
  clear hlenr hcell hB2
  gi_loopw [4, 15] (fun t i wr => RelL L c J n₀ B1 W t i wr) (fun _ i _ => L.length - (intOf i).toNat)
  case atStart => exact HR.out
  case round =>
    clear HR
    obtain ⟨pre, c', k, rfl, rfl, hk, hpl, hpre, hc', hJs, hkp⟩ := hrel
    have HPL := Lib.hid hpl
    have HPRE := Lib.hid hpre
    have hwr : WAt wr p L := hw0.below ((h0W.trans hkp.1).mono hsz)
    have hB1r : wr.cell? ⟨B1, 0, none⟩ = some (.pointer (some ⟨p, 0, none⟩)) := (cell_of_block hkp.2 0).trans hB1
    have hszr : W.heap.size ≤ wr.heap.size := hkp.1.size
    clear hpl hpre hB1
    by_cases hlt : k < L.length
    · have C1 := Lib.hid (super_any p L c' wr hwr hc')
      cases hf : findU L c' with
      | none =>
        rw [hf] at C1
        have HF := Lib.hid hf
        clear hf
        gi_wp2
        refine ⟨trivial, ?_⟩
        refine (callsIn_wide.2 C1.out).mono ?_
        rintro e w' ⟨rfl, hb⟩
        simp only [supV]
        gi_wp2
        refine ⟨fun _ h => (by cases h), ?_⟩
        gi_wp2
        refine bodyPost_ret (results_none rfl _ _ _) rfl ?_
        refine ⟨⟨_, rfl⟩, .inl ⟨pre, ?_, hJ _ _ _ none hJs (grown_of_below hb) (fun r e => by cases e)⟩⟩
        have e1 := HPRE.out
        rw [show namesL L (L.length - k) c' = [] by unfold namesL; rw [line_none HF.out]; rfl, List.append_nil] at e1
        exact e1.symm
      | some u =>
        rw [hf] at C1
        have HF := Lib.hid hf
        clear hf
        have hun := findU_name HF.out
        have hu2 : u.super.length ≤ 1000000 := (hw0.small u hun.2).2
        have HUN := Lib.hid hun
        clear hun
        gi_wp2
        refine ⟨trivial, ?_⟩
        refine (callsIn_wide.2 C1.out).mono ?_
        rintro e w1 ⟨rfl, hb⟩
        simp only [supV]
        have hJ1 : J pre w1 := hJ _ _ _ none hJs (grown_of_below hb) (fun r e => by cases e)
        have hk1 : KpB n₀ B1 W w1 := kpB_t hkp (kpB_of_below hb (by omega) (by omega))
        obtain ⟨fn, tmps, assign, body, hy, hR⟩ := hY pre ⟨c', hc'⟩ w1 hJ1 (by rw [HPL.out]; exact hlt)
        simp only [encN] at hy
        have hszr1 := hb.size
        clear hb
        have e1 : namesL L L.length c = (pre ++ [(⟨c', hc'⟩ : Nm)]).map (·.1) ++ namesL L (L.length - (k + 1)) u.super := by
          rw [HPRE.out, show L.length - k = (L.length - (k + 1)) + 1 by omega]
          unfold namesL
          rw [line_some HF.out]
          simp [HUN.out.1]
        have HE1 := Lib.hid e1
        clear e1
        gi_wp2
        refine hR.mono ?_
        rintro e W3 (⟨rfl, hJ3, hk3⟩ | ⟨rfl, hJx3⟩)
        · have HR : Hid (RelL L c J n₀ B1 W (.string (strB u.super)) (.int .i64 ((k : Int) + 1)) W3) := Lib.hid ⟨pre ++ [⟨c', hc'⟩], u.super, k + 1, rfl, by simp, hlt, by simp [HPL.out], HE1.out, hu2, hJ3, kpB_t hk1 hk3⟩
          gi_wp2
          go_roundw
          case rel => exact HR.out
          case measure => simp [intOf]; omega
        · gi_wp2
          refine bodyPost_ret (results_none rfl _ _ _) rfl ?_
          exact ⟨⟨_, rfl⟩, .inr ⟨pre ++ [⟨c', hc'⟩], ⟨_, HE1.out.symm⟩, hJx3⟩⟩
    · gi_wp2
      go_end0
      have e1 := HPRE.out
      rw [show L.length - k = 0 by omega] at e1
      exact ⟨⟨_, rfl⟩, .inl ⟨pre, by rw [e1]; simp [namesL, lineU], hJs⟩⟩

set_option maxHeartbeats 1000000 in
theorem line_in (n : Nat) (p : Nat) (c : Bs) (w : World) :
    CallsIn Fence.wide n Tryz.prog 64 #[.pointer (some ⟨p, 0, none⟩), .string (strB c)] w fun e w' => e = .returned (.func (.func 129) #[] #[.pointer (some ⟨w.heap.size, 0, none⟩), .pointer (some ⟨w.heap.size + 1, 0, none⟩)]) ∧ w' = (w.alloc (.cells #[.pointer (some ⟨p, 0, none⟩)] 24)).alloc (.cells #[.string (strB c)] 9) := by
  refine callsIn_of_wp Tryz.func64 rfl trivial ?_ rfl
  simp only [Tryz.ntmps64, List.size_toArray, List.length_cons, List.length_nil, Nat.reduceAdd, Nat.reduceSub, Array.replicate_succ, Array.replicate_zero, List.push_toArray, List.append_toArray, List.nil_append, List.cons_append]
  gi_wp2
  go_ret
  exact ⟨rfl, rfl⟩

/-- THE LINE OF A CLASS, as an iterator. -/
theorem line_stops (n : Nat) (hn : 1 ≤ n) (B1 B2 n₀ p : Nat) (L : List UnD) (c : Bs) (hc : c.length ≤ 1000000) (w w0 : World) (hw0 : WAt w0 p L) (hsz : w0.heap.size ≤ n₀) (h0W : Below n₀ w0 w) (hn0 : n₀ ≤ w.heap.size)
    (hB1 : w.cell? ⟨B1, 0, none⟩ = some (.pointer (some ⟨p, 0, none⟩))) (hB2 : w.cell? ⟨B2, 0, none⟩ = some (.string (strB c))) :
    SeqStopsK Fence.wide n Tryz.prog 129 #[.pointer (some ⟨B1, 0, none⟩), .pointer (some ⟨B2, 0, none⟩)] encN (KpB n₀ B1) (fun xs => xs.map (·.1) = namesL L L.length c) (fun pre => pre.map (·.1) <+: namesL L L.length c) L.length w :=
  fun l J Jx W hW hJ _ hY h0 => line1_in n hn l B1 B2 n₀ p L c hc J Jx W w0 hw0 hsz (h0W.trans (hW.mono hn0)) (Nat.le_trans hn0 hW.size) hJ hY ((hW.cell (p := ⟨B1, 0, none⟩) (cell_lt hB1)).trans hB1) ((hW.cell (p := ⟨B2, 0, none⟩) (cell_lt hB2)).trans hB2) h0

end Go.Proofs.YtdkkpcbebhgbiaaGreatDoor

/- The walks over Is, Common, first: ranges over a class's line. -/
namespace Go.Proofs.YtdkkpcbebhgbiaaGreatDoor
open Go.RowKit Go.Shelf
attribute [local go_sem] Oper.semAt_some

def isB (L : List UnD) (c of : Bs) : Bool := (namesL L L.length c).contains of
theorem cell_new_l (W : World) (v : Value) (t : TypeId) : (W.alloc (.cells #[v] t)).cell? ⟨W.heap.size, 0, none⟩ = some v ∧ (W.alloc (.cells #[v] t)).frozen? ⟨W.heap.size, 0, none⟩ = false :=
  ⟨(Blk.new W t #[v]).cell 0, (Blk.new W t #[v]).frozen 0⟩
theorem cell_alloc_l {W : World} {a : Addr} {v : Value} (o : Obj) (h : W.cell? a = some v) : (W.alloc o).cell? a = some v := cell_kept h (World.grownBy_alloc W o none) (fun r e => by cases e)
theorem frozen_alloc_l {W : World} {a : Addr} {v : Value} (o : Obj) (h : W.cell? a = some v) (hf : W.frozen? a = false) : (W.alloc o).frozen? a = false := (frozen_kept h (World.grownBy_alloc W o none) (fun r e => by cases e)).trans hf

theorem strB_beq {a b : Bs} (h : ((strB a).toList == (strB b).toList) = true) : a = b := by
  have := eq_of_beq h
  rwa [strB_toList, strB_toList] at this
theorem strB_bne {a b : Bs} (h : ((strB a).toList == (strB b).toList) = false) : a ≠ b := by
  rintro rfl
  simp at h

set_option maxRecDepth 100000 in
set_option maxHeartbeats 2000000 in
theorem is_in (n : Nat) (hn : 3 ≤ n) (p : Nat) (L : List UnD) (c of : Bs) (w : World) (hW : WAt w p L) (hc : c.length ≤ 1000000) :
    CallsIn Fence.wide n Tryz.prog 17 #[.pointer (some ⟨p, 0, none⟩), .string (strB c), .string (strB of)] w fun e w' => e = .returned (.bool (isB L c of)) ∧ Below w.heap.size w w' := by
  have h1 : 1 ≤ n := by omega
  refine callsIn_of_wp_marks Tryz.func17 rfl trivial ?_ rfl
  simp only [Tryz.ntmps17, List.size_toArray, List.length_cons, List.length_nil, Nat.reduceAdd, Nat.reduceSub, Array.replicate_succ, Array.replicate_zero, List.push_toArray, List.append_toArray, List.nil_append, List.cons_append]
  gi_wp2
  refine ⟨trivial, ?_⟩
  refine (line_in (n - 1) p c _).mono ?_
  rintro e w' ⟨rfl, rfl⟩
  gi_wp2
  have c0 := cell_new_l w (.string (strB of)) 9
  have c1 := cell_new_l (w.alloc (.cells #[.string (strB of)] 9)) (.bool false) 4
  have c2 := cell_new_l ((w.alloc (.cells #[.string (strB of)] 9)).alloc (.cells #[.bool false] 4)) (.pointer (some ⟨p, 0, none⟩)) 24
  have c3 := cell_new_l (((w.alloc (.cells #[.string (strB of)] 9)).alloc (.cells #[.bool false] 4)).alloc (.cells #[.pointer (some ⟨p, 0, none⟩)] 24)) (.string (strB c)) 9
  simp only [World.size_alloc] at c1 c2 c3
  have hB0 : Below w.heap.size w ((((w.alloc (.cells #[.string (strB of)] 9)).alloc (.cells #[.bool false] 4)).alloc (.cells #[.pointer (some ⟨p, 0, none⟩)] 24)).alloc (.cells #[.string (strB c)] 9)) := ((((Below.refl _ w).alloc (Nat.le_refl _) _).alloc (by simp) _).alloc (by simp <;> omega) _).alloc (by simp <;> omega) _
  refine wpIn_rangeFunc_ownF rfl h1 (gf := 129) (lb := #[.pointer (some ⟨w.heap.size + 1 + 1, 0, none⟩), .pointer (some ⟨w.heap.size + 1 + 1 + 1, 0, none⟩)]) rfl trivial (enters_of Tryz.func129 (by kernel_rfl) rfl)
    (line_stops (n - 1) (by omega) (w.heap.size + 1 + 1) (w.heap.size + 1 + 1 + 1) w.heap.size p L c hc _ w hW (Nat.le_refl _) hB0 (by simp <;> omega) (cell_alloc_l _ c2.1) c3.1) kpB_t (kpB_b (by simp <;> omega) (by simp <;> omega)) (Below.refl _ _) (fun _ => rfl)
    (fun pre W => ((∀ y ∈ pre, y.1 ≠ of) ∧ W.cell? ⟨w.heap.size, 0, none⟩ = some (.string (strB of)) ∧ W.cell? ⟨w.heap.size + 1, 0, none⟩ = some (.bool false) ∧ W.frozen? ⟨w.heap.size + 1, 0, none⟩ = false) ∧ Below w.heap.size w W)
    (fun c pre W => (c = .ret ∧ (∃ y ∈ pre, y.1 = of) ∧ W.cell? ⟨w.heap.size + 1, 0, none⟩ = some (.bool true)) ∧ Below w.heap.size w W)
    (OwnFrom.and (Own.from (fun s A B row hs hg hr => ⟨hs.1, cell_kept hs.2.1 hg hr, cell_kept hs.2.2.1 hg hr, (frozen_kept hs.2.2.1 hg hr).trans hs.2.2.2⟩) _) (ownFrom_below (Nat.le_refl _) (by simp <;> omega)))
    (fun c => OwnFrom.and (Own.from (fun s A B row hs hg hr => ⟨hs.1, hs.2.1, cell_kept hs.2.2 hg hr⟩) _) (ownFrom_below (Nat.le_refl _) (by simp <;> omega)))
    ⟨⟨by simp, cell_alloc_l _ (cell_alloc_l _ (cell_alloc_l _ c0.1)), cell_alloc_l _ (cell_alloc_l _ c1.1), frozen_alloc_l _ (cell_alloc_l _ c1.1) (frozen_alloc_l _ c1.1 c1.2)⟩, hB0⟩
    (fun x => { tmps := #[.pointer (some ⟨p, 0, none⟩), .string (strB c), .string (strB of), undef, undef, .pointer (some ⟨w.heap.size, 0, none⟩), .pointer (some ⟨w.heap.size + 1, 0, none⟩), .string (strB x.1), .pointer (some ⟨p, 0, none⟩), .string (strB c), .func (.func 129) #[] #[.pointer (some ⟨w.heap.size + 1 + 1, 0, none⟩), .pointer (some ⟨w.heap.size + 1 + 1 + 1, 0, none⟩)], .string (strB x.1), undef, undef, undef], defers := [] }) ?assign ?body ?done ?stop
  case assign =>
    intro l x W K hK
    simp only [encN]
    gi_wp2
    exact hK
  case body =>
    rintro l pre x W ⟨⟨hp, hcw, hcr, hfr⟩, hB⟩ _
    gi_wp2
    · rename_i hx
      have hx := strB_beq hx
      exact ⟨KeepsOthers.setCell _ _ _, ⟨rfl, ⟨x, List.mem_append.2 (.inr (by simp)), hx⟩, World.cell?_setCell_same' _ _ _ (by rw [hcr]; rfl)⟩, hB.setCell (p := ⟨w.heap.size + 1, 0, none⟩) (by simp) _⟩
    · rename_i hx
      have hx := strB_bne hx
      exact ⟨KeepsOthers.refl _, kpB_t_refl, ⟨fun y hy => (List.mem_append.1 hy).elim (hp y) (fun e => by simp at e; subst e; exact hx), hcw, hcr, hfr⟩, hB⟩
  case done =>
    rintro D ys W hD hys ⟨⟨hne, _, hcr, hfr⟩, hB⟩ hK
    gi_wp2
    have hK' := (KeepsOthers.setCell W ⟨w.heap.size + 1, 0, none⟩ (.bool false)).same D _ hK rfl
    refine ⟨by simp, .inl ⟨_, _, rfl, run_takeDeferred hK', ?_⟩⟩
    have hc5 := cell_kept (World.cell?_setCell_same' W ⟨w.heap.size + 1, 0, none⟩ (.bool false) (by rw [hcr]; rfl)) (grownBy_putObj' _ D (.deferred none)) (fun r e => by cases e; exact ⟨_, hK', rfl⟩)
    have hF : isB L c of = false := by
      unfold isB
      rw [← hys, List.contains_eq_mem, decide_eq_false_iff_not]
      intro hm
      obtain ⟨y, hy, e⟩ := List.mem_map.1 hm
      exact hne y hy e
    refine ⟨.bool false, ?_, by rw [hF], (hB.setCell (p := ⟨w.heap.size + 1, 0, none⟩) (by simp) _).trans (belowK_b (w := w) (Nat.le_refl _) _ D _ _ (by simp at hD; omega) hK' rfl rfl)⟩
    simp [results, Tryz.f17, go_sem, hc5]
  case stop =>
    rintro D c' pre W hD hpre ⟨⟨rfl, ⟨y, hy, hyo⟩, hcr⟩, hB⟩ hK
    gi_wp2
    refine ⟨by simp, .inl ⟨_, _, rfl, run_takeDeferred hK, ?_⟩⟩
    have hc5 := cell_kept hcr (grownBy_putObj' _ D (.deferred none)) (fun r e => by cases e; exact ⟨_, hK, rfl⟩)
    have hT : isB L c of = true := by
      unfold isB
      rw [List.contains_eq_mem, decide_eq_true_iff]
      exact hpre.subset (hyo ▸ List.mem_map_of_mem hy)
    refine ⟨.bool true, ?_, by rw [hT], hB.trans (belowK_b (w := w) (Nat.le_refl _) W D _ _ (by simp at hD; omega) hK rfl rfl)⟩
    simp [results, Tryz.f17, go_sem, hc5]

theorem is_any (p : Nat) (L : List UnD) (c of : Bs) (w : World) (hW : WAt w p L) (hc : c.length ≤ 1000000) :
    Calls Tryz.prog 17 #[.pointer (some ⟨p, 0, none⟩), .string (strB c), .string (strB of)] w fun e w' => e = .returned (.bool (isB L c of)) ∧ Below w.heap.size w w' :=
  callsIn_wide.1 (is_in 3 (Nat.le_refl _) p L c of w hW hc)

theorem blk_kept {W W' : World} {g : Nat} {t : TypeId} {cs : Array Value} {row : Option Nat} (h : Blk W g t cs) (hg : W.grownBy W' row) (hr : ∀ r, row = some r → ∃ o : Obj, W.heap[r]? = some o ∧ o.isCells = false) : Blk W' g t cs :=
  h.of (hg.block g h.lt (fun e => by
    obtain ⟨o, h1, h2⟩ := hr g e.symm
    have h3 : W.heap[g]? = some (.cells cs t (0, 0)) := h
    rw [h3] at h1
    cases h1
    cases h2))

/-- The first class of a line that another one is. -/
def commonF (L : List UnD) (b : Bs) : List Bs → Bs
  | [] => []
  | x :: r => if isB L b x then x else commonF L b r
def commonB (L : List UnD) (a b : Bs) : Bs := commonF L b (namesL L L.length a)
theorem commonF_none {L : List UnD} {b : Bs} : ∀ {l : List Bs}, (∀ x ∈ l, isB L b x = false) → commonF L b l = []
  | [], _ => rfl
  | x :: r, h => by unfold commonF; rw [if_neg (by rw [h x (by simp)]; simp), commonF_none (fun y hy => h y (List.mem_cons_of_mem _ hy))]
theorem commonF_some {L : List UnD} {b x : Bs} : ∀ {l r : List Bs}, (∀ y ∈ l, isB L b y = false) → isB L b x = true → commonF L b (l ++ x :: r) = x
  | [], r, _, hx => by simp [commonF, hx]
  | y :: l, r, h, hx => by
    show commonF L b (y :: (l ++ x :: r)) = x
    unfold commonF
    rw [if_neg (by rw [h y (by simp)]; simp)]
    exact commonF_some (fun z hz => h z (List.mem_cons_of_mem _ hz)) hx

set_option maxRecDepth 100000 in
set_option maxHeartbeats 4000000 in
theorem common_in (n : Nat) (hn : 8 ≤ n) (p : Nat) (L : List UnD) (c b : Bs) (w : World) (hW : WAt w p L) (hc : c.length ≤ 1000000) (hbl : b.length ≤ 1000000) :
    CallsIn Fence.wide n Tryz.prog 15 #[.pointer (some ⟨p, 0, none⟩), .string (strB c), .string (strB b)] w fun e w' => e = .returned (.string (strB (commonB L c b))) ∧ Below w.heap.size w w' := by
  have h1 : 1 ≤ n := by omega
  refine callsIn_of_wp_marks Tryz.func15 rfl trivial ?_ rfl
  simp only [Tryz.ntmps15, List.size_toArray, List.length_cons, List.length_nil, Nat.reduceAdd, Nat.reduceSub, Array.replicate_succ, Array.replicate_zero, List.push_toArray, List.append_toArray, List.nil_append, List.cons_append]
  gi_wp2
  refine ⟨trivial, ?_⟩
  refine (line_in (n - 1) p c _).mono ?_
  rintro e w' ⟨rfl, rfl⟩
  gi_wp2
  obtain ⟨W0, hW0⟩ : ∃ W0, ((((w.alloc (.cells #[.pointer (some ⟨p, 0, none⟩)] 24)).alloc (.cells #[.string (strB b)] 9)).alloc (.cells #[.string (strB [])] 9)).alloc (.cells #[.pointer (some ⟨p, 0, none⟩)] 24)).alloc (.cells #[.string (strB c)] 9) = W0 := ⟨_, rfl⟩
  have k0 : Blk W0 w.heap.size 24 #[.pointer (some ⟨p, 0, none⟩)] := by rw [← hW0]; exact ((((Blk.new w _ _).alloc _).alloc _).alloc _).alloc _
  have k1 : Blk W0 (w.heap.size + 1) 9 #[.string (strB b)] := by rw [← hW0]; have := ((((Blk.new (w.alloc (.cells #[.pointer (some ⟨p, 0, none⟩)] 24)) 9 #[.string (strB b)]).alloc (.cells #[.string (strB [])] 9)).alloc (.cells #[.pointer (some ⟨p, 0, none⟩)] 24)).alloc (.cells #[.string (strB c)] 9)); simpa only [World.size_alloc] using this
  have k2 : Blk W0 (w.heap.size + 1 + 1) 9 #[.string (strB [])] := by rw [← hW0]; have := ((Blk.new ((w.alloc (.cells #[.pointer (some ⟨p, 0, none⟩)] 24)).alloc (.cells #[.string (strB b)] 9)) 9 #[.string (strB [])]).alloc (.cells #[.pointer (some ⟨p, 0, none⟩)] 24)).alloc (.cells #[.string (strB c)] 9); simpa only [World.size_alloc] using this
  have k3 : Blk W0 (w.heap.size + 1 + 1 + 1) 24 #[.pointer (some ⟨p, 0, none⟩)] := by rw [← hW0]; have := (Blk.new (((w.alloc (.cells #[.pointer (some ⟨p, 0, none⟩)] 24)).alloc (.cells #[.string (strB b)] 9)).alloc (.cells #[.string (strB [])] 9)) 24 #[.pointer (some ⟨p, 0, none⟩)]).alloc (.cells #[.string (strB c)] 9); simpa only [World.size_alloc] using this
  have k4 : Blk W0 (w.heap.size + 1 + 1 + 1 + 1) 9 #[.string (strB c)] := by rw [← hW0]; have := (Blk.new ((((w.alloc (.cells #[.pointer (some ⟨p, 0, none⟩)] 24)).alloc (.cells #[.string (strB b)] 9)).alloc (.cells #[.string (strB [])] 9)).alloc (.cells #[.pointer (some ⟨p, 0, none⟩)] 24)) 9 #[.string (strB c)]); simpa only [World.size_alloc] using this
  have hB0 : Below w.heap.size w W0 := by rw [← hW0]; exact (((((Below.refl _ w).alloc (Nat.le_refl _) _).alloc (by simp <;> omega) _).alloc (by simp <;> omega) _).alloc (by simp <;> omega) _).alloc (by simp <;> omega) _
  have hsz0 : w.heap.size + 5 = W0.heap.size := by rw [← hW0]; simp
  have hWW : (((((w.alloc (.cells #[.pointer (some ⟨p, 0, none⟩)] 24)).alloc (.cells #[.string (strB b)] 9)).alloc (.cells #[.string ⟨#[]⟩] 9)).alloc (.cells #[.pointer (some ⟨p, 0, none⟩)] 24)).alloc (.cells #[.string (strB c)] 9)) = W0 := hW0
  rw [hWW]
  clear hWW hW0
  refine wpIn_rangeFunc_ownF rfl h1 (gf := 129) (lb := #[.pointer (some ⟨w.heap.size + 1 + 1 + 1, 0, none⟩), .pointer (some ⟨w.heap.size + 1 + 1 + 1 + 1, 0, none⟩)]) rfl trivial (enters_of Tryz.func129 (by kernel_rfl) rfl)
    (line_stops (n - 1) (by omega) (w.heap.size + 1 + 1 + 1) (w.heap.size + 1 + 1 + 1 + 1) w.heap.size p L c hc _ w hW (Nat.le_refl _) hB0 (by omega) (k3.cell 0) (k4.cell 0)) kpB_t (kpB_b (by omega) (by omega)) (Below.refl _ _) (fun _ => rfl)
    (fun pre W => ((∀ y ∈ pre, isB L b y.1 = false) ∧ Blk W w.heap.size 24 #[.pointer (some ⟨p, 0, none⟩)] ∧ Blk W (w.heap.size + 1) 9 #[.string (strB b)] ∧ Blk W (w.heap.size + 1 + 1) 9 #[.string (strB [])] ∧ w.heap.size + 5 ≤ W.heap.size) ∧ Below w.heap.size w W)
    (fun c pre W => (c = .ret ∧ (∃ l x, pre = l ++ [x] ∧ (∀ y ∈ l, isB L b y.1 = false) ∧ isB L b x.1 = true ∧ Blk W (w.heap.size + 1 + 1) 9 #[.string (strB x.1)])) ∧ Below w.heap.size w W)
    (OwnFrom.and (Own.from (fun s A B row hs hg hr => ⟨hs.1, blk_kept hs.2.1 hg hr, blk_kept hs.2.2.1 hg hr, blk_kept hs.2.2.2.1 hg hr, Nat.le_trans hs.2.2.2.2 hg.size⟩) _) (ownFrom_below (Nat.le_refl _) (by omega)))
    (fun c => OwnFrom.and (Own.from (fun s A B row hs hg hr => ⟨hs.1, by obtain ⟨l, x, h1, h2, h3, h4⟩ := hs.2; exact ⟨l, x, h1, h2, h3, blk_kept h4 hg hr⟩⟩) _) (ownFrom_below (Nat.le_refl _) (by omega)))
    ⟨⟨by simp, k0, k1, k2, by omega⟩, hB0⟩
    (fun x => { tmps := #[.pointer (some ⟨p, 0, none⟩), .string (strB c), .string (strB b), .pointer (some ⟨w.heap.size, 0, none⟩), undef, .pointer (some ⟨w.heap.size + 1, 0, none⟩), .pointer (some ⟨w.heap.size + 1 + 1, 0, none⟩), .string (strB x.1), .pointer (some ⟨p, 0, none⟩), .string (strB c), .func (.func 129) #[] #[.pointer (some ⟨w.heap.size + 1 + 1 + 1, 0, none⟩), .pointer (some ⟨w.heap.size + 1 + 1 + 1 + 1, 0, none⟩)], .string (strB x.1), undef, undef, undef, undef, undef], defers := [] }) ?assign ?body ?done ?stop
  case assign =>
    intro l x W K hK
    simp only [encN]
    gi_wp2
    exact hK
  case body =>
    rintro l pre x W ⟨⟨hp, b0, b1, b2, hszW⟩, hB⟩ _
    have d0 : W.cell? ⟨w.heap.size, 0, none⟩ = some (.pointer (some ⟨p, 0, none⟩)) := b0.cell 0
    have d1 : W.cell? ⟨w.heap.size + 1, 0, none⟩ = some (.string (strB b)) := b1.cell 0
    gi_wp2
    refine ⟨trivial, fun _ => (by omega), ?_⟩
    refine (CallsIn.inRound l (is_in (n - 1 - 1 - 1) (by omega) p L b x.1 _ (hW.below hB) hbl)).mono ?_
    rintro e w1 ⟨rfl, hb1⟩
    have e2 : Blk w1 (w.heap.size + 1 + 1) 9 #[.string (strB [])] := b2.of (hb1.block _ (by omega))
    have d2 : w1.cell? ⟨w.heap.size + 1 + 1, 0, none⟩ = some (.string (strB [])) := e2.cell 0
    have f2 : w1.frozen? ⟨w.heap.size + 1 + 1, 0, none⟩ = false := e2.frozen 0
    have hko : KeepsOthers W w1 := KeepsOthers.of_grownBy (grown_of_below hb1) (fun j o e => by cases e)
    cases hT : isB L b x.1 with
    | true =>
      gi_wp2
      exact ⟨hko.trans (KeepsOthers.setCell _ _ _), ⟨rfl, pre, x, rfl, hp, hT, e2.set_ 0 _⟩, (hB.trans (hb1.mono hB.size)).setCell (p := ⟨w.heap.size + 1 + 1, 0, none⟩) (by simp <;> omega) _⟩
    | false =>
      gi_wp2
      exact ⟨hko, kpB_of_below hb1 hB.size (by omega), ⟨fun y hy => (List.mem_append.1 hy).elim (hp y) (fun e => by simp at e; subst e; exact hT), b0.of (hb1.block _ (by omega)), b1.of (hb1.block _ (by omega)), e2, Nat.le_trans hszW hb1.size⟩, hB.trans (hb1.mono hB.size)⟩
  case done =>
    rintro D ys W hD hys ⟨⟨hne, _, _, b2, hszW⟩, hB⟩ hK
    have d2 : W.cell? ⟨w.heap.size + 1 + 1, 0, none⟩ = some (.string (strB [])) := b2.cell 0
    have f2 : W.frozen? ⟨w.heap.size + 1 + 1, 0, none⟩ = false := b2.frozen 0
    gi_wp2
    have hK' := (KeepsOthers.setCell W ⟨w.heap.size + 1 + 1, 0, none⟩ (.string (strB []))).same D _ hK rfl
    refine ⟨by simp, .inl ⟨_, _, rfl, run_takeDeferred hK', ?_⟩⟩
    have hc5 := cell_kept (World.cell?_setCell_same' W ⟨w.heap.size + 1 + 1, 0, none⟩ (.string (strB [])) (by rw [d2]; rfl)) (grownBy_putObj' _ D (.deferred none)) (fun r e => by cases e; exact ⟨_, hK', rfl⟩)
    have hF : commonB L c b = [] := by
      unfold commonB
      rw [← hys]
      refine commonF_none (fun x hx => ?_)
      obtain ⟨y, hy, rfl⟩ := List.mem_map.1 hx
      exact hne y hy
    refine ⟨.string (strB []), ?_, by rw [hF], (hB.setCell (p := ⟨w.heap.size + 1 + 1, 0, none⟩) (by simp <;> omega) _).trans (belowK_b (w := w) (Nat.le_refl _) _ D _ _ (by omega) hK' rfl rfl)⟩
    have hc6 := hc5
    simp only [strB] at hc6 ⊢
    simp [results, Tryz.f15, go_sem, hc6]
  case stop =>
    rintro D c' pre W hD hpre ⟨⟨rfl, ⟨l, x, rfl, hl, hx, b2⟩⟩, hB⟩ hK
    have d2 : W.cell? ⟨w.heap.size + 1 + 1, 0, none⟩ = some (.string (strB x.1)) := b2.cell 0
    gi_wp2
    refine ⟨by simp, .inl ⟨_, _, rfl, run_takeDeferred hK, ?_⟩⟩
    have hc5 := cell_kept d2 (grownBy_putObj' _ D (.deferred none)) (fun r e => by cases e; exact ⟨_, hK, rfl⟩)
    have hT : commonB L c b = x.1 := by
      obtain ⟨r, hr⟩ := hpre
      unfold commonB
      rw [← hr, List.map_append, List.map_singleton, List.append_assoc]
      refine commonF_some (fun y hy => ?_) hx
      obtain ⟨z, hz, rfl⟩ := List.mem_map.1 hy
      exact hl z hz
    refine ⟨.string (strB x.1), ?_, by rw [hT], hB.trans (belowK_b (w := w) (Nat.le_refl _) W D _ _ (by omega) hK rfl rfl)⟩
    simp [results, Tryz.f15, go_sem, hc5]
theorem common_any (p : Nat) (L : List UnD) (c b : Bs) (w : World) (hW : WAt w p L) (hc : c.length ≤ 1000000) (hb : b.length ≤ 1000000) :
    Calls Tryz.prog 15 #[.pointer (some ⟨p, 0, none⟩), .string (strB c), .string (strB b)] w fun e w' => e = .returned (.string (strB (commonB L c b))) ∧ Below w.heap.size w w' :=
  callsIn_wide.1 (common_in 8 (Nat.le_refl _) p L c b w hW hc hb)

end Go.Proofs.YtdkkpcbebhgbiaaGreatDoor

/- The walk over hier's first: the first class of a line that has a member. -/
namespace Go.Proofs.YtdkkpcbebhgbiaaGreatDoor
open Go.RowKit Go.Shelf
attribute [local go_sem] Oper.semAt_some

def firstK (G : Key3 → Option (Bs × Bool)) (n d : Bs) : List Bs → Option (Bs × Bool)
  | [] => none
  | x :: r => match G (x, n, d) with
    | some m => some m
    | none => firstK G n d r
theorem firstK_none {G : Key3 → Option (Bs × Bool)} {n d : Bs} : ∀ {l : List Bs}, (∀ x ∈ l, G (x, n, d) = none) → firstK G n d l = none
  | [], _ => rfl
  | x :: r, h => by unfold firstK; rw [h x (by simp)]; exact firstK_none (fun y hy => h y (List.mem_cons_of_mem _ hy))
theorem firstK_some {G : Key3 → Option (Bs × Bool)} {n d x : Bs} {m : Bs × Bool} : ∀ {l r : List Bs}, (∀ y ∈ l, G (y, n, d) = none) → G (x, n, d) = some m → firstK G n d (l ++ x :: r) = some m
  | [], r, _, hx => by simp [firstK, hx]
  | y :: l, r, h, hx => by
    show firstK G n d (y :: (l ++ x :: r)) = some m
    unfold firstK
    rw [h y (by simp)]
    exact firstK_some (fun z hz => h z (List.mem_cons_of_mem _ hz)) hx
/-- What first answers. -/
def memR (r : Option (Bs × Bool)) : Value := match r with
  | none => .tuple #[.agg #[.string (strB []), .bool false], .bool false]
  | some m => .tuple #[.agg #[.string (strB m.1), .bool m.2], .bool true]

set_option maxRecDepth 100000 in
set_option maxHeartbeats 4000000 in
theorem first_in (n : Nat) (hn : 8 ≤ n) (p : Nat) (L : List UnD) (c nm d : Bs) (b nb : Nat) (G : Key3 → Option (Bs × Bool)) (w : World) (hW : WAt w p L) (hM : MapK Tryz.prog 153 memKV memV w b nb G) (hc : c.length ≤ 1000000) (hnm : nm.length ≤ 1000000) (hd : d.length ≤ 1000000) :
    CallsIn Fence.wide n Tryz.prog 162 #[.pointer (some ⟨p, 0, none⟩), .map (some b), .agg #[.string (strB c), .string (strB nm), .string (strB d)]] w fun e w' => e = .returned (memR (firstK G nm d (namesL L L.length c))) ∧ Below w.heap.size w w' := by
  have h1 : 1 ≤ n := by omega
  refine callsIn_of_wp_marks Tryz.func162 rfl trivial ?_ rfl
  simp only [Tryz.ntmps162, List.size_toArray, List.length_cons, List.length_nil, Nat.reduceAdd, Nat.reduceSub, Array.replicate_succ, Array.replicate_zero, List.push_toArray, List.append_toArray, List.nil_append, List.cons_append]
  gi_wp2
  refine ⟨trivial, ?_⟩
  refine (line_in (n - 1) p c _).mono ?_
  rintro e w' ⟨rfl, rfl⟩
  gi_wp2
  obtain ⟨W0, hW0⟩ : ∃ W0, (((((w.alloc (.cells #[.map (some b)] 142)).alloc (.cells #[.string (strB c), .string (strB nm), .string (strB d)] 153)).alloc (.cells #[.string (strB []), .bool false] 146)).alloc (.cells #[.bool false] 4)).alloc (.cells #[.pointer (some ⟨p, 0, none⟩)] 24)).alloc (.cells #[.string (strB c)] 9) = W0 := ⟨_, rfl⟩
  have hWW : (((((w.alloc (.cells #[.map (some b)] 142)).alloc (.cells #[.string (strB c), .string (strB nm), .string (strB d)] 153)).alloc (.cells #[.string ⟨#[]⟩, .bool false] 146)).alloc (.cells #[.bool false] 4)).alloc (.cells #[.pointer (some ⟨p, 0, none⟩)] 24)).alloc (.cells #[.string (strB c)] 9) = W0 := hW0
  rw [hWW]
  have k0 : Blk W0 w.heap.size 142 #[.map (some b)] := by rw [← hW0]; exact (((((Blk.new w _ _).alloc _).alloc _).alloc _).alloc _).alloc _
  have k1 : Blk W0 (w.heap.size + 1) 153 #[.string (strB c), .string (strB nm), .string (strB d)] := by rw [← hW0]; have := ((((Blk.new (w.alloc (.cells #[.map (some b)] 142)) 153 #[.string (strB c), .string (strB nm), .string (strB d)]).alloc (.cells #[.string (strB []), .bool false] 146)).alloc (.cells #[.bool false] 4)).alloc (.cells #[.pointer (some ⟨p, 0, none⟩)] 24)).alloc (.cells #[.string (strB c)] 9); simpa only [World.size_alloc] using this
  have k2 : Blk W0 (w.heap.size + 1 + 1) 146 #[.string (strB []), .bool false] := by rw [← hW0]; have := (((Blk.new ((w.alloc (.cells #[.map (some b)] 142)).alloc (.cells #[.string (strB c), .string (strB nm), .string (strB d)] 153)) 146 #[.string (strB []), .bool false]).alloc (.cells #[.bool false] 4)).alloc (.cells #[.pointer (some ⟨p, 0, none⟩)] 24)).alloc (.cells #[.string (strB c)] 9); simpa only [World.size_alloc] using this
  have k3 : Blk W0 (w.heap.size + 1 + 1 + 1) 4 #[.bool false] := by rw [← hW0]; have := ((Blk.new (((w.alloc (.cells #[.map (some b)] 142)).alloc (.cells #[.string (strB c), .string (strB nm), .string (strB d)] 153)).alloc (.cells #[.string (strB []), .bool false] 146)) 4 #[.bool false]).alloc (.cells #[.pointer (some ⟨p, 0, none⟩)] 24)).alloc (.cells #[.string (strB c)] 9); simpa only [World.size_alloc] using this
  have k4 : Blk W0 (w.heap.size + 1 + 1 + 1 + 1) 24 #[.pointer (some ⟨p, 0, none⟩)] := by rw [← hW0]; have := (Blk.new ((((w.alloc (.cells #[.map (some b)] 142)).alloc (.cells #[.string (strB c), .string (strB nm), .string (strB d)] 153)).alloc (.cells #[.string (strB []), .bool false] 146)).alloc (.cells #[.bool false] 4)) 24 #[.pointer (some ⟨p, 0, none⟩)]).alloc (.cells #[.string (strB c)] 9); simpa only [World.size_alloc] using this
  have k5 : Blk W0 (w.heap.size + 1 + 1 + 1 + 1 + 1) 9 #[.string (strB c)] := by rw [← hW0]; have := (Blk.new (((((w.alloc (.cells #[.map (some b)] 142)).alloc (.cells #[.string (strB c), .string (strB nm), .string (strB d)] 153)).alloc (.cells #[.string (strB []), .bool false] 146)).alloc (.cells #[.bool false] 4)).alloc (.cells #[.pointer (some ⟨p, 0, none⟩)] 24)) 9 #[.string (strB c)]); simpa only [World.size_alloc] using this
  have hB0 : Below w.heap.size w W0 := by rw [← hW0]; exact ((((((Below.refl _ w).alloc (Nat.le_refl _) _).alloc (by simp <;> omega) _).alloc (by simp <;> omega) _).alloc (by simp <;> omega) _).alloc (by simp <;> omega) _).alloc (by simp <;> omega) _
  have hsz0 : w.heap.size + 6 = W0.heap.size := by rw [← hW0]; simp
  clear hWW hW0
  refine wpIn_rangeFunc_ownF rfl h1 (gf := 129) (lb := #[.pointer (some ⟨w.heap.size + 1 + 1 + 1 + 1, 0, none⟩), .pointer (some ⟨w.heap.size + 1 + 1 + 1 + 1 + 1, 0, none⟩)]) rfl trivial (enters_of Tryz.func129 (by kernel_rfl) rfl)
    (line_stops (n - 1) (by omega) (w.heap.size + 1 + 1 + 1 + 1) (w.heap.size + 1 + 1 + 1 + 1 + 1) w.heap.size p L c hc _ w hW (Nat.le_refl _) hB0 (by omega) (k4.cell 0) (k5.cell 0)) kpB_t (kpB_b (by omega) (by omega)) (Below.refl _ _) (fun _ => rfl)
    (fun pre W => ((∀ y ∈ pre, G (y.1, nm, d) = none) ∧ Blk W w.heap.size 142 #[.map (some b)] ∧ (∃ z : Bs, Blk W (w.heap.size + 1) 153 #[.string (strB z), .string (strB nm), .string (strB d)]) ∧ Blk W (w.heap.size + 1 + 1) 146 #[.string (strB []), .bool false] ∧ Blk W (w.heap.size + 1 + 1 + 1) 4 #[.bool false] ∧ w.heap.size + 6 ≤ W.heap.size) ∧ Below w.heap.size w W)
    (fun c pre W => (c = .ret ∧ (∃ l x m, pre = l ++ [x] ∧ (∀ y ∈ l, G (y.1, nm, d) = none) ∧ G (x.1, nm, d) = some m ∧ Blk W (w.heap.size + 1 + 1) 146 #[.string (strB m.1), .bool m.2] ∧ Blk W (w.heap.size + 1 + 1 + 1) 4 #[.bool true])) ∧ Below w.heap.size w W)
    (OwnFrom.and (Own.from (fun s A B row hs hg hr => ⟨hs.1, blk_kept hs.2.1 hg hr, (by obtain ⟨z, hz⟩ := hs.2.2.1; exact ⟨z, blk_kept hz hg hr⟩), blk_kept hs.2.2.2.1 hg hr, blk_kept hs.2.2.2.2.1 hg hr, Nat.le_trans hs.2.2.2.2.2 hg.size⟩) _) (ownFrom_below (Nat.le_refl _) (by omega)))
    (fun c => OwnFrom.and (Own.from (fun s A B row hs hg hr => ⟨hs.1, by obtain ⟨l, x, m, h1, h2, h3, h4, h5⟩ := hs.2; exact ⟨l, x, m, h1, h2, h3, blk_kept h4 hg hr, blk_kept h5 hg hr⟩⟩) _) (ownFrom_below (Nat.le_refl _) (by omega)))
    ⟨⟨by simp, k0, ⟨_, k1⟩, k2, k3, by omega⟩, hB0⟩
    (fun x => { tmps := #[.pointer (some ⟨p, 0, none⟩), .map (some b), .agg #[.string (strB c), .string (strB nm), .string (strB d)], undef, .pointer (some ⟨w.heap.size, 0, none⟩), .pointer (some ⟨w.heap.size + 1, 0, none⟩), .pointer (some ⟨w.heap.size + 1 + 1, 0, none⟩), .pointer (some ⟨w.heap.size + 1 + 1 + 1, 0, none⟩), .string (strB x.1), undef, undef, .pointer (some ⟨p, 0, none⟩), .pointer (some ⟨w.heap.size + 1, 0, none⟩), .string (strB c), .func (.func 129) #[] #[.pointer (some ⟨w.heap.size + 1 + 1 + 1 + 1, 0, none⟩), .pointer (some ⟨w.heap.size + 1 + 1 + 1 + 1 + 1, 0, none⟩)], .string (strB x.1), undef, undef, undef, undef, undef, undef, undef, undef, undef, undef, undef], defers := [] }) ?assign ?body ?done ?stop
  case assign =>
    intro l x W K hK
    simp only [encN]
    gi_wp2
    exact hK
  case body =>
    rintro l pre x W ⟨⟨hp, b0, ⟨z, b1⟩, b2, b3, hszW⟩, hB⟩ _
    have b1' : Blk (W.setCell ⟨w.heap.size + 1, 0, none⟩ (.string (strB x.1))) (w.heap.size + 1) 153 #[.string (strB x.1), .string (strB nm), .string (strB d)] := b1.set_ 0 _
    have f1 : W.frozen? ⟨w.heap.size + 1, 0, none⟩ = false := b1.frozen 0
    have g0 : W.cell? ⟨w.heap.size + 1, 0, none⟩ = some (.string (strB z)) := b1.cell 0
    have d0 : (W.setCell ⟨w.heap.size + 1, 0, none⟩ (.string (strB x.1))).cell? ⟨w.heap.size, 0, none⟩ = some (.map (some b)) := (b0.far (p := ⟨w.heap.size + 1, 0, none⟩) (by simp) _).cell 0
    have g1 : (W.setCell ⟨w.heap.size + 1, 0, none⟩ (.string (strB x.1))).cell? ⟨w.heap.size + 1, 0, none⟩ = some (.string (strB x.1)) := b1'.cell 0
    have g2 : (W.setCell ⟨w.heap.size + 1, 0, none⟩ (.string (strB x.1))).cell? ⟨w.heap.size + 1, 1, none⟩ = some (.string (strB nm)) := b1'.cell 1
    have g3 : (W.setCell ⟨w.heap.size + 1, 0, none⟩ (.string (strB x.1))).cell? ⟨w.heap.size + 1, 2, none⟩ = some (.string (strB d)) := b1'.cell 2
    have b2' : Blk (W.setCell ⟨w.heap.size + 1, 0, none⟩ (.string (strB x.1))) (w.heap.size + 1 + 1) 146 #[.string (strB []), .bool false] := b2.far (by simp <;> omega) _
    have b3' : Blk (W.setCell ⟨w.heap.size + 1, 0, none⟩ (.string (strB x.1))) (w.heap.size + 1 + 1 + 1) 4 #[.bool false] := b3.far (by simp <;> omega) _
    have b0' : Blk (W.setCell ⟨w.heap.size + 1, 0, none⟩ (.string (strB x.1))) w.heap.size 142 #[.map (some b)] := b0.far (by simp) _
    have hB' : Below w.heap.size w (W.setCell ⟨w.heap.size + 1, 0, none⟩ (.string (strB x.1))) := hB.setCell (p := ⟨w.heap.size + 1, 0, none⟩) (by simp) _
    have hko : KeepsOthers W (W.setCell ⟨w.heap.size + 1, 0, none⟩ (.string (strB x.1))) := KeepsOthers.setCell _ _ _
    have hsz1 : (W.setCell ⟨w.heap.size + 1, 0, none⟩ (.string (strB x.1))).heap.size = W.heap.size := by simp
    obtain ⟨kl, hkl⟩ := mem_key (x.1, nm, d) x.2 hnm hd
    have HL := (hM.below hB').look Tryz.memKeyed Tryz.underlying142 (Tryz.zeroMem _) memKV_inj hkl
    have hkp : KpB w.heap.size (w.heap.size + 1 + 1 + 1 + 1) W (W.setCell ⟨w.heap.size + 1, 0, none⟩ (.string (strB x.1))) := ⟨(Below.refl _ _).setCell (p := ⟨w.heap.size + 1, 0, none⟩) (by simp) _, Below.heap_setCell _ _ _ _ (by simp <;> omega)⟩
    have h20 : (W.setCell ⟨w.heap.size + 1, 0, none⟩ (.string (strB x.1))).cell? ⟨w.heap.size + 1 + 1, 0, none⟩ = some (.string (strB [])) := b2'.cell 0
    have h21 : (W.setCell ⟨w.heap.size + 1, 0, none⟩ (.string (strB x.1))).cell? ⟨w.heap.size + 1 + 1, 1, none⟩ = some (.bool false) := b2'.cell 1
    have h30 : (W.setCell ⟨w.heap.size + 1, 0, none⟩ (.string (strB x.1))).cell? ⟨w.heap.size + 1 + 1 + 1, 0, none⟩ = some (.bool false) := b3'.cell 0
    have q20 : W.frozen? ⟨w.heap.size + 1 + 1, 0, none⟩ = false := b2.frozen 0
    have q21 : W.frozen? ⟨w.heap.size + 1 + 1, 1, none⟩ = false := b2.frozen 1
    have q30 : W.frozen? ⟨w.heap.size + 1 + 1 + 1, 0, none⟩ = false := b3.frozen 0
    have l0 : w.heap.size < W.heap.size := by omega
    have l2 : w.heap.size + 1 + 1 < W.heap.size := by omega
    have l3 : w.heap.size + 1 + 1 + 1 < W.heap.size := by omega
    clear hkl
    cases hG : G (x.1, nm, d) with
    | none =>
      rw [hG] at HL
      simp only [memKV, memV] at HL
      have HG := Lib.hid hG
      clear hG
      gi_wp2
      exact ⟨hko.trans (KeepsOthers.alloc _ _), kpB_t hkp (kpB_of_below ((Below.refl _ _).alloc (Nat.le_refl _) _) (by rw [hsz1]; omega) (by rw [hsz1]; omega)), ⟨fun y hy => (List.mem_append.1 hy).elim (hp y) (fun e => by simp at e; subst e; exact HG.out), b0'.alloc _, ⟨_, b1'.alloc _⟩, b2'.alloc _, b3'.alloc _, by simp; omega⟩, hB'.alloc (by rw [hsz1]; omega) _⟩
    | some m =>
      rw [hG] at HL
      simp only [memKV, memV] at HL
      have HG := Lib.hid hG
      clear hG
      gi_wp2
      exact ⟨hko.trans ((((KeepsOthers.setCell _ _ _).trans (KeepsOthers.setCell _ _ _)).trans (KeepsOthers.setCell _ _ _)).trans (KeepsOthers.alloc _ _)), ⟨rfl, pre, x, m, rfl, hp, HG.out, (((b2'.set_ 0 _).set_ 1 _).far (by simp <;> omega) _).alloc _, (((b3'.far (by simp <;> omega) _).far (by simp <;> omega) _).set_ 0 _).alloc _⟩,
        (((hB'.setCell (p := ⟨w.heap.size + 1 + 1, 0, none⟩) (by simp <;> omega) _).setCell (p := ⟨w.heap.size + 1 + 1, 1, none⟩) (by simp <;> omega) _).setCell (p := ⟨w.heap.size + 1 + 1 + 1, 0, none⟩) (by simp <;> omega) _).alloc (by simp <;> omega) _⟩
  case done =>
    rintro D ys W hD hys ⟨⟨hne, _, _, b2, b3, hszW⟩, hB⟩ hK
    have h20 : W.cell? ⟨w.heap.size + 1 + 1, 0, none⟩ = some (.string (strB [])) := b2.cell 0
    have h21 : W.cell? ⟨w.heap.size + 1 + 1, 1, none⟩ = some (.bool false) := b2.cell 1
    have h30 : W.cell? ⟨w.heap.size + 1 + 1 + 1, 0, none⟩ = some (.bool false) := b3.cell 0
    have q20 : W.frozen? ⟨w.heap.size + 1 + 1, 0, none⟩ = false := b2.frozen 0
    have q21 : W.frozen? ⟨w.heap.size + 1 + 1, 1, none⟩ = false := b2.frozen 1
    have q30 : W.frozen? ⟨w.heap.size + 1 + 1 + 1, 0, none⟩ = false := b3.frozen 0
    gi_wp2
    obtain ⟨W1, hW1⟩ : ∃ W1, (((W.setCell ⟨w.heap.size + 1 + 1, 0, none⟩ (.string (strB []))).setCell ⟨w.heap.size + 1 + 1, 1, none⟩ (.bool false)).setCell ⟨w.heap.size + 1 + 1 + 1, 0, none⟩ (.bool false)) = W1 := ⟨_, rfl⟩
    have hWW1 : (((W.setCell ⟨w.heap.size + 1 + 1, 0, none⟩ (.string ⟨#[]⟩)).setCell ⟨w.heap.size + 1 + 1, 1, none⟩ (.bool false)).setCell ⟨w.heap.size + 1 + 1 + 1, 0, none⟩ (.bool false)) = W1 := hW1
    rw [hWW1]
    have hK' : W1.heap[D]? = some (.deferred (some [])) := by
      rw [← hW1]
      exact (((KeepsOthers.setCell W ⟨w.heap.size + 1 + 1, 0, none⟩ (.string (strB []))).trans (KeepsOthers.setCell _ ⟨w.heap.size + 1 + 1, 1, none⟩ (.bool false))).trans (KeepsOthers.setCell _ ⟨w.heap.size + 1 + 1 + 1, 0, none⟩ (.bool false))).same D _ hK rfl
    have b2'' : Blk W1 (w.heap.size + 1 + 1) 146 #[.string (strB []), .bool false] := by rw [← hW1]; exact ((b2.set_ 0 _).set_ 1 _).far (by simp <;> omega) _
    have b3'' : Blk W1 (w.heap.size + 1 + 1 + 1) 4 #[.bool false] := by rw [← hW1]; exact ((b3.far (by simp <;> omega) _).far (by simp <;> omega) _).set_ 0 _
    have hB'' : Below w.heap.size w W1 := by rw [← hW1]; exact ((hB.setCell (p := ⟨w.heap.size + 1 + 1, 0, none⟩) (by simp <;> omega) _).setCell (p := ⟨w.heap.size + 1 + 1, 1, none⟩) (by simp <;> omega) _).setCell (p := ⟨w.heap.size + 1 + 1 + 1, 0, none⟩) (by simp <;> omega) _
    refine ⟨by simp, .inl ⟨_, _, rfl, run_takeDeferred hK', ?_⟩⟩
    have e2 := blk_kept b2'' (grownBy_putObj' _ D (.deferred none)) (fun r e => by cases e; exact ⟨_, hK', rfl⟩)
    have e3 := blk_kept b3'' (grownBy_putObj' _ D (.deferred none)) (fun r e => by cases e; exact ⟨_, hK', rfl⟩)
    have s0 : (W1.putObj D (.deferred none)).cell? ⟨w.heap.size + 1 + 1, 0, none⟩ = some (.string (strB [])) := e2.cell 0
    have s1 : (W1.putObj D (.deferred none)).cell? ⟨w.heap.size + 1 + 1, 1, none⟩ = some (.bool false) := e2.cell 1
    have s2 : (W1.putObj D (.deferred none)).cell? ⟨w.heap.size + 1 + 1 + 1, 0, none⟩ = some (.bool false) := e3.cell 0
    have hF : firstK G nm d (namesL L L.length c) = none := by
      rw [← hys]
      refine firstK_none (fun x hx => ?_)
      obtain ⟨y, hy, rfl⟩ := List.mem_map.1 hx
      exact hne y hy
    refine ⟨.tuple #[.agg #[.string (strB []), .bool false], .bool false], ?_, by rw [hF]; rfl, hB''.trans (belowK_b (w := w) (Nat.le_refl _) _ D _ _ (by omega) hK' rfl rfl)⟩
    simp [results, Tryz.f162, go_sem, s0, s1, s2]
  case stop =>
    rintro D c' pre W hD hpre ⟨⟨rfl, ⟨l, x, m, rfl, hl, hx, b2, b3⟩⟩, hB⟩ hK
    gi_wp2
    refine ⟨by simp, .inl ⟨_, _, rfl, run_takeDeferred hK, ?_⟩⟩
    have e2 := blk_kept b2 (grownBy_putObj' _ D (.deferred none)) (fun r e => by cases e; exact ⟨_, hK, rfl⟩)
    have e3 := blk_kept b3 (grownBy_putObj' _ D (.deferred none)) (fun r e => by cases e; exact ⟨_, hK, rfl⟩)
    have s0 : (W.putObj D (.deferred none)).cell? ⟨w.heap.size + 1 + 1, 0, none⟩ = some (.string (strB m.1)) := e2.cell 0
    have s1 : (W.putObj D (.deferred none)).cell? ⟨w.heap.size + 1 + 1, 1, none⟩ = some (.bool m.2) := e2.cell 1
    have s2 : (W.putObj D (.deferred none)).cell? ⟨w.heap.size + 1 + 1 + 1, 0, none⟩ = some (.bool true) := e3.cell 0
    have hT : firstK G nm d (namesL L L.length c) = some m := by
      obtain ⟨r, hr⟩ := hpre
      rw [← hr, List.map_append, List.map_singleton, List.append_assoc]
      refine firstK_some (fun y hy => ?_) hx
      obtain ⟨z, hz, rfl⟩ := List.mem_map.1 hy
      exact hl z hz
    refine ⟨.tuple #[.agg #[.string (strB m.1), .bool m.2], .bool true], ?_, by rw [hT]; rfl, hB.trans (belowK_b (w := w) (Nat.le_refl _) W D _ _ (by omega) hK rfl rfl)⟩
    simp [results, Tryz.f162, go_sem, s0, s1, s2]
theorem hfirst_any (p : Nat) (L : List UnD) (c nm d : Bs) (b nb : Nat) (G : Key3 → Option (Bs × Bool)) (w : World) (hW : WAt w p L) (hM : MapK Tryz.prog 153 memKV memV w b nb G) (hc : c.length ≤ 1000000) (hnm : nm.length ≤ 1000000) (hd : d.length ≤ 1000000) :
    Calls Tryz.prog 162 #[.pointer (some ⟨p, 0, none⟩), .map (some b), .agg #[.string (strB c), .string (strB nm), .string (strB d)]] w fun e w' => e = .returned (memR (firstK G nm d (namesL L L.length c))) ∧ Below w.heap.size w w' :=
  callsIn_wide.1 (first_in 8 (Nat.le_refl _) p L c nm d b nb G w hW hM hc hnm hd)

end Go.Proofs.YtdkkpcbebhgbiaaGreatDoor

/- The walks over hier's Method, Field, Native, followsOn, isThere, isLaid, asm.IsName. -/
namespace Go.Proofs.YtdkkpcbebhgbiaaGreatDoor
set_option maxRecDepth 100000
open Go.RowKit

section
variable {L : List UnD}
theorem firstK_line {f : UnD → Bs → Bs → Option Bool} (n d : Bs) : ∀ {l : List UnD}, (∀ v ∈ l, findU L v.name = some v) → firstK (fun q => (findU L q.1).bind fun u => (f u q.2.1 q.2.2).map fun st => (q.1, st)) n d (l.map (·.name)) = firstG (fun v => f v n d) l
  | [], _ => rfl
  | v :: r, h => by
    rw [List.map_cons]
    unfold firstK firstG
    simp only [h v List.mem_cons_self, Option.bind_some]
    cases hf : f v n d with
    | some st => rfl
    | none =>
      simp only [Option.map_none]
      exact firstK_line n d (fun u hu => h u (List.mem_cons_of_mem _ hu))
end
/-- Where a class's method stands. -/
def mthF (L : List UnD) (c n d : Bs) : Option (Bs × Bool) := firstG (fun v => lastM v n d) (lineU L L.length c)
def fldF (L : List UnD) (c n d : Bs) : Option (Bs × Bool) := firstG (fun v => lastF v n d) (lineU L L.length c)


theorem hmethod_any (p : Nat) (L : List UnD) (c n d : Bs) (w : World) (hW : WAt w p L) (hc : c.length ≤ 1000000) (hn : n.length ≤ 1000000) (hd : d.length ≤ 1000000) :
    Calls Tryz.prog 104 #[.pointer (some ⟨p, 0, none⟩), .string (strB c), .string (strB n), .string (strB d)] w fun e w' => e = .returned (memR (mthF L c n d)) ∧ Below w.heap.size w w' := by
  obtain ⟨b1, b2, b3, n2, n3, hb, h1, h2, h3⟩ := hW.maps
  have e0 : mthF L c n d = firstK (fun q => (findU L q.1).bind fun u => (lastM u q.2.1 q.2.2).map fun st => (q.1, st)) n d (namesL L L.length c) := (firstK_line n d (fun v hv => (line_mem hv).2)).symm
  have c1 : w.cell? ⟨p, 2, none⟩ = some (.map (some b3)) := hb.cell 2
  have hp := hb.lt
  have C1 := Lib.hid (hfirst_any p L c n d b3 n3 _ (w.alloc (.cells #[.string (strB []), .bool false] 146)) (hW.below ((Below.refl _ _).alloc (Nat.le_refl _) _)) (h3.below ((Below.refl _ _).alloc (Nat.le_refl _) _)) hc hn hd)
  have k0 : Blk (w.alloc (.cells #[.string (strB []), .bool false] 146)) w.heap.size 146 #[.string (strB []), .bool false] := Blk.new w _ _
  rw [← e0] at C1
  clear e0 h1 h2 h3 hb hW
  cases hr : mthF L c n d with
  | none =>
    rw [hr] at C1
    clear hr
    go_enter Tryz.func104, Tryz.ntmps104
    go_wp2_with fail
    refine C1.out.mono ?_
    rintro e w1 ⟨rfl, hb⟩
    have k1 := k0.of (hb.block _ (by simp))
    have s0 : w1.cell? ⟨w.heap.size, 0, none⟩ = some (.string (strB [])) := k1.cell 0
    have s1 : w1.cell? ⟨w.heap.size, 1, none⟩ = some (.bool false) := k1.cell 1
    have q0 : w1.frozen? ⟨w.heap.size, 0, none⟩ = false := k1.frozen 0
    have q1 : w1.frozen? ⟨w.heap.size, 1, none⟩ = false := k1.frozen 1
    have k2 := (k1.set_ 0 (.string (strB []))).set_ 1 (.bool false)
    have t0 : ((w1.setCell ⟨w.heap.size, 0, none⟩ (.string (strB []))).setCell ⟨w.heap.size, 1, none⟩ (.bool false)).cell? ⟨w.heap.size, 0, none⟩ = some (.string (strB [])) := k2.cell 0
    have t1 : ((w1.setCell ⟨w.heap.size, 0, none⟩ (.string (strB []))).setCell ⟨w.heap.size, 1, none⟩ (.bool false)).cell? ⟨w.heap.size, 1, none⟩ = some (.bool false) := k2.cell 1
    simp only [memR]
    go_wp2
    refine bodyPost_ret (v := .tuple #[.agg #[.string (strB []), .bool false], .bool false]) (by simp [results, Tryz.f104, go_sem, t0, t1]) rfl ⟨rfl, ?_⟩
    exact (((Below.refl _ _).alloc (Nat.le_refl _) _).trans (hb.mono (by simp))).setCell (p := ⟨w.heap.size, 0, none⟩) (Nat.le_refl _) _ |>.setCell (p := ⟨w.heap.size, 1, none⟩) (Nat.le_refl _) _
  | some m =>
    rw [hr] at C1
    clear hr
    go_enter Tryz.func104, Tryz.ntmps104
    go_wp2_with fail
    refine C1.out.mono ?_
    rintro e w1 ⟨rfl, hb⟩
    have k1 := k0.of (hb.block _ (by simp))
    have s0 : w1.cell? ⟨w.heap.size, 0, none⟩ = some (.string (strB [])) := k1.cell 0
    have s1 : w1.cell? ⟨w.heap.size, 1, none⟩ = some (.bool false) := k1.cell 1
    have q0 : w1.frozen? ⟨w.heap.size, 0, none⟩ = false := k1.frozen 0
    have q1 : w1.frozen? ⟨w.heap.size, 1, none⟩ = false := k1.frozen 1
    have k2 := (k1.set_ 0 (.string (strB m.1))).set_ 1 (.bool m.2)
    have t0 : ((w1.setCell ⟨w.heap.size, 0, none⟩ (.string (strB m.1))).setCell ⟨w.heap.size, 1, none⟩ (.bool m.2)).cell? ⟨w.heap.size, 0, none⟩ = some (.string (strB m.1)) := k2.cell 0
    have t1 : ((w1.setCell ⟨w.heap.size, 0, none⟩ (.string (strB m.1))).setCell ⟨w.heap.size, 1, none⟩ (.bool m.2)).cell? ⟨w.heap.size, 1, none⟩ = some (.bool m.2) := k2.cell 1
    simp only [memR]
    go_wp2
    refine bodyPost_ret (v := .tuple #[.agg #[.string (strB m.1), .bool m.2], .bool true]) (by simp [results, Tryz.f104, go_sem, t0, t1]) rfl ⟨rfl, ?_⟩
    exact (((Below.refl _ _).alloc (Nat.le_refl _) _).trans (hb.mono (by simp))).setCell (p := ⟨w.heap.size, 0, none⟩) (Nat.le_refl _) _ |>.setCell (p := ⟨w.heap.size, 1, none⟩) (Nat.le_refl _) _

def nativeB (L : List UnD) (c n d : Bs) : Bool := match mthF L c n d with
  | none => false
  | some m => m.1 == cSys
theorem native_any (p : Nat) (L : List UnD) (c n d : Bs) (w : World) (hW : WAt w p L) (hc : c.length ≤ 1000000) (hn : n.length ≤ 1000000) (hd : d.length ≤ 1000000) :
    Calls Tryz.prog 48 #[.pointer (some ⟨p, 0, none⟩), .string (strB c), .string (strB n), .string (strB d)] w fun e w' => e = .returned (.bool (nativeB L c n d)) ∧ Below w.heap.size w w' := by
  have C1 := Lib.hid (hmethod_any p L c n d w hW hc hn hd)
  unfold nativeB
  clear hW
  cases hr : mthF L c n d with
  | none =>
    rw [hr] at C1
    clear hr
    go_enter Tryz.func48, Tryz.ntmps48
    go_wp2_with fail
    refine C1.out.mono ?_
    rintro e w1 ⟨rfl, hb⟩
    simp only [memR]
    go_wp2
    go_ret
    exact ⟨rfl, hb.alloc hb.size _⟩
  | some m =>
    rw [hr] at C1
    clear hr
    go_enter Tryz.func48, Tryz.ntmps48
    go_wp2_with fail
    refine C1.out.mono ?_
    rintro e w1 ⟨rfl, hb⟩
    simp only [memR]
    go_wp2
    go_ret
    exact ⟨ret_bool (by show ((strB m.1).toList == _) = _; rw [strB_toList]; rfl), hb.alloc hb.size _⟩

theorem contains_any (xs : Bs) (w : World) (hl : xs.length ≤ 1000000) : Calls Tryz.prog 209 #[.string (strB xs), .string ⟨#[47]⟩] w fun e w' => e = .returned (.bool (xs.contains 47)) ∧ w = w' := by
  have C1 := Lib.hid (index_any 47 xs w)
  have hi : idxI 47 xs ≤ 1000000 ∧ -1 ≤ idxI 47 xs := by
    unfold idxI
    cases h : xs.idxOf? 47 with
    | none => simp
    | some i => have := split_some xs i h; simp; omega
  obtain ⟨hi1, hi2⟩ := hi
  have hc : xs.contains 47 = decide (0 ≤ idxI 47 xs) := by
    unfold idxI
    cases h : xs.idxOf? 47 with
    | none => simp [List.idxOf?_eq_none_iff] at h; simp [h]
    | some i =>
      have h1 : (xs.idxOf? 47).isSome := by rw [h]; rfl
      rw [List.isSome_idxOf?] at h1
      simp [h1]
  rw [hc]
  clear hc
  go_enter Tryz.func209, Tryz.ntmps209
  go_wp2_with fail
  refine C1.out.mono ?_
  rintro e w' ⟨rfl, rfl⟩
  go_wp2
  go_ret
  exact ⟨rfl, rfl⟩
theorem aIsName_any (xs : Bs) (w : World) (hl : xs.length ≤ 1000000) : Calls Tryz.prog 168 #[.string (strB xs)] w fun e w' => e = .returned (.bool (isNameB xs)) ∧ Below w.heap.size w w' := by
  have C1 := Lib.hid (isClass_any xs w (by omega))
  have C2 := fun w => contains_any xs w hl
  have HC2 := Lib.hid C2
  clear C2
  unfold isNameB
  cases h1 : classB xs with
  | false =>
    rw [h1] at C1
    rw [Bool.false_and]
    clear h1
    go_enter Tryz.func168, Tryz.ntmps168
    go_wp2_with fail
    refine C1.out.mono ?_
    rintro e w' ⟨rfl, hb⟩
    go_wp2
    go_ret
    exact ⟨rfl, hb⟩
  | true =>
    rw [h1] at C1
    rw [Bool.true_and]
    clear h1
    go_enter Tryz.func168, Tryz.ntmps168
    go_wp2_with fail
    refine C1.out.mono ?_
    rintro e w' ⟨rfl, hb⟩
    go_wp2_with fail
    refine (HC2.out _).mono ?_
    rintro e w2 ⟨rfl, rfl⟩
    go_wp2
    go_ret
    exact ⟨by simp, hb⟩

end Go.Proofs.YtdkkpcbebhgbiaaGreatDoor

/- The walks over hier's isThere, isOf, items, Goes. -/
namespace Go.Proofs.YtdkkpcbebhgbiaaGreatDoor
set_option maxRecDepth 100000
open Go.RowKit

def strLen : Value → Nat
  | .string s => s.size
  | _ => 0
theorem classOf_len {xs c : Bs} (h : classOfF xs = some c) : c.length ≤ xs.length := by
  cases xs with
  | nil => cases h
  | cons x t =>
    change (if x = 76 ∧ t.getLast? = some 59 then some t.dropLast else none) = some c at h
    by_cases hq : x = 76 ∧ t.getLast? = some 59
    · rw [if_pos hq] at h
      simp at h
      subst h
      simp
      omega
    · rw [if_neg hq] at h
      cases h
/-- Where isThere stands at a round's head. -/
def RelI (t : Bs) (v : Value) : Prop := ∃ xs : Bs, v = .string (strB xs) ∧ xs.dropWhile (· == 91) = t.dropWhile (· == 91) ∧ xs.length ≤ t.length
set_option maxHeartbeats 1000000 in
theorem isThere_any (p : Nat) (L : List UnD) (t : Bs) (w : World) (hW : WAt w p L) (ht : t.length ≤ 1000000) :
    Calls Tryz.prog 58 #[.pointer (some ⟨p, 0, none⟩), .string (strB t)] w fun e w' => e = .returned (.bool (thereU L t)) ∧ Below w.heap.size w w' := by
  have HH := Lib.hid (fun c h => has_any p L c w hW h)
  clear hW
  have HR : Hid (RelI t (.string (strB t))) := Lib.hid ⟨t, rfl, rfl, Nat.le_refl _⟩
  go_enter Tryz.func58, Tryz.ntmps58
  go_wp2
  go_loop [1] (fun v => RelI t v) (fun v => strLen v)
  case atStart => exact HR.out
  case round =>
    clear HR
    obtain ⟨xs, rfl, hd, hl⟩ := hrel
    have HD := Lib.hid hd
    clear hd
    have C1 := Lib.hid (elem_any xs w)
    unfold elemV at C1
    cases hx : hdB 91 xs with
    | true =>
      rw [if_pos hx] at C1
      have HX := Lib.hid hx
      clear hx
      go_wp2_with fail
      refine C1.out.mono ?_
      rintro e w' ⟨rfl, rfl⟩
      have HR : Hid (RelI t (.string (strB xs.tail)) ∧ xs.tail.length < xs.length) := Lib.hid (by
        have hx := HX.out
        cases xs with
        | nil => cases hx
        | cons x r =>
          obtain rfl : x = 91 := by simpa [hdB] using hx
          exact ⟨⟨r, rfl, by rw [← HD.out]; simp, by simp at hl; omega⟩, by simp⟩)
      go_wp2
      go_round
      case rel => exact HR.out.1
      case measure =>
        have := HR.out.2
        simp only [strLen, strB_size]
        omega
    | false =>
      rw [if_neg (by rw [hx]; simp)] at C1
      have e1 : t.dropWhile (· == 91) = xs := by
        rw [← HD.out]
        cases xs with
        | nil => rfl
        | cons x r =>
          simp [hdB] at hx
          simp [List.dropWhile_cons, hx]
      have HT : Hid (thereU L t = match classOfF xs with | none => true | some c => (findU L c).isSome) := Lib.hid (by unfold thereU; rw [e1]; rfl)
      clear hx e1
      have C2 := Lib.hid (classOf_any xs w (by omega))
      cases hc : classOfF xs with
      | none =>
        rw [hc] at C2
        have HC := Lib.hid hc
        clear hc
        go_wp2_with fail
        refine C1.out.mono ?_
        rintro e w' ⟨rfl, rfl⟩
        go_wp2_with fail
        refine C2.out.mono ?_
        rintro e w' ⟨rfl, rfl⟩
        simp only [coV]
        go_wp2
        go_ret
        exact ⟨ret_bool (by rw [HT.out, HC.out]), Below.refl _ _⟩
      | some c =>
        rw [hc] at C2
        have hcl := classOf_len hc
        have HC := Lib.hid hc
        clear hc
        have C3 := Lib.hid (HH.out c (by omega))
        go_wp2_with fail
        refine C1.out.mono ?_
        rintro e w' ⟨rfl, rfl⟩
        go_wp2_with fail
        refine C2.out.mono ?_
        rintro e w' ⟨rfl, rfl⟩
        simp only [coV]
        go_wp2_with fail
        refine C3.out.mono ?_
        rintro e w' ⟨rfl, hb⟩
        go_wp2
        go_ret
        exact ⟨ret_bool (by rw [HT.out, HC.out]), hb⟩

def ofB (L : List UnD) (x y : Bs) : Bool := match classOfF x, classOfF y with | some c, some d => isB L c d | _, _ => false
theorem isOf_any (p : Nat) (L : List UnD) (a b : Bs) (w : World) (hW : WAt w p L) (ha : a.length ≤ 1000000) (hb : b.length ≤ 1000000) :
    Calls Tryz.prog 63 #[.pointer (some ⟨p, 0, none⟩), .string (strB a), .string (strB b)] w fun e w' => e = .returned (.bool (ofB L a b)) ∧ Below w.heap.size w w' := by
  unfold ofB
  have C1 := Lib.hid (classOf_any a w (by omega))
  have C2 := Lib.hid (classOf_any b w (by omega))
  cases h1 : classOfF a with
  | none =>
    rw [h1] at C1
    clear h1
    cases h2 : classOfF b with
    | none =>
      rw [h2] at C2
      clear h2 hW
      go_enter Tryz.func63, Tryz.ntmps63
      go_wp2_with fail
      refine C1.out.mono ?_
      rintro e w' ⟨rfl, rfl⟩
      simp only [coV]
      go_wp2_with fail
      refine C2.out.mono ?_
      rintro e w' ⟨rfl, rfl⟩
      simp only [coV]
      go_wp2
      go_ret
      exact ⟨rfl, Below.refl _ _⟩
    | some d =>
      rw [h2] at C2
      clear h2 hW
      go_enter Tryz.func63, Tryz.ntmps63
      go_wp2_with fail
      refine C1.out.mono ?_
      rintro e w' ⟨rfl, rfl⟩
      simp only [coV]
      go_wp2_with fail
      refine C2.out.mono ?_
      rintro e w' ⟨rfl, rfl⟩
      simp only [coV]
      go_wp2
      go_ret
      exact ⟨rfl, Below.refl _ _⟩
  | some c =>
    rw [h1] at C1
    have hcl := classOf_len h1
    clear h1
    cases h2 : classOfF b with
    | none =>
      rw [h2] at C2
      clear h2 hW
      go_enter Tryz.func63, Tryz.ntmps63
      go_wp2_with fail
      refine C1.out.mono ?_
      rintro e w' ⟨rfl, rfl⟩
      simp only [coV]
      go_wp2_with fail
      refine C2.out.mono ?_
      rintro e w' ⟨rfl, rfl⟩
      simp only [coV]
      go_wp2
      go_ret
      exact ⟨rfl, Below.refl _ _⟩
    | some d =>
      rw [h2] at C2
      clear h2
      have C3 := Lib.hid (is_any p L c d w hW (by omega))
      clear hW
      go_enter Tryz.func63, Tryz.ntmps63
      go_wp2_with fail
      refine C1.out.mono ?_
      rintro e w' ⟨rfl, rfl⟩
      simp only [coV]
      go_wp2_with fail
      refine C2.out.mono ?_
      rintro e w' ⟨rfl, rfl⟩
      simp only [coV]
      go_wp2_with fail
      refine C3.out.mono ?_
      rintro e w' ⟨rfl, hb⟩
      go_wp2
      go_ret
      exact ⟨rfl, hb⟩

/-- What is left of two types when the dimensions that they share are cut off. -/
def itemsF : Bs → Bs → Bs × Bs
  | [], b => ([], b)
  | x :: a, b => if x = 91 ∧ hdB 91 b = true ∧ refB a = true then itemsF a b.tail else (x :: a, b)
theorem itemsF_yes {a b : Bs} (h1 : hdB 91 a = true) (h2 : hdB 91 b = true) (h3 : refB a.tail = true) : itemsF a b = itemsF a.tail b.tail := by
  cases a with
  | nil => cases h1
  | cons x a =>
    obtain rfl : x = 91 := by simpa [hdB] using h1
    show (if (91 : UInt8) = 91 ∧ hdB 91 b = true ∧ refB a = true then itemsF a b.tail else _) = _
    rw [if_pos ⟨rfl, h2, h3⟩]
    rfl
theorem itemsF_no {a b : Bs} (h : ¬ (hdB 91 a = true ∧ hdB 91 b = true ∧ refB a.tail = true)) : itemsF a b = (a, b) := by
  cases a with
  | nil => rfl
  | cons x a =>
    show (if x = 91 ∧ hdB 91 b = true ∧ refB a = true then itemsF a b.tail else _) = _
    rw [if_neg]
    rintro ⟨rfl, h2⟩
    exact h ⟨by simp [hdB], h2⟩
/-- Where items stands at a round's head. -/
def RelTj (a b : Bs) (u v : Value) : Prop := ∃ xs ys : Bs, u = .string (strB xs) ∧ v = .string (strB ys) ∧ itemsF a b = itemsF xs ys ∧ xs.length ≤ a.length ∧ ys.length ≤ b.length
def PairV (r : Bs × Bs) (e : Ending) : Prop := e = .returned (.tuple #[.string (strB r.1), .string (strB r.2)])
set_option maxHeartbeats 1000000 in
theorem items_any (a b : Bs) (w : World) (ha : a.length ≤ 1000000) (hb : b.length ≤ 1000000) :
    Calls Tryz.prog 59 #[.string (strB a), .string (strB b)] w fun e w' => PairV (itemsF a b) e ∧ w = w' := by
  have HR : Hid (RelTj a b (.string (strB a)) (.string (strB b))) := Lib.hid ⟨a, b, rfl, rfl, rfl, Nat.le_refl _, Nat.le_refl _⟩
  go_enter Tryz.func59, Tryz.ntmps59
  go_wp2
  go_loop [0, 1] (fun u v => RelTj a b u v) (fun u _ => strLen u)
  case atStart => exact HR.out
  case round =>
    clear HR
    obtain ⟨xs, ys, rfl, rfl, hI, hl, hl2⟩ := hrel
    have HI := Lib.hid hI
    clear hI
    have C1 := Lib.hid (elem_any xs w)
    have C2 := Lib.hid (elem_any ys w)
    unfold elemV at C1 C2
    cases hx : hdB 91 xs with
    | false =>
      rw [if_neg (by rw [hx]; simp)] at C1
      have HE : Hid (itemsF a b = (xs, ys)) := Lib.hid (by rw [HI.out, itemsF_no (by rw [hx]; simp)])
      clear hx
      cases hy : hdB 91 ys with
      | false =>
        rw [if_neg (by rw [hy]; simp)] at C2
        clear hy
        go_wp2_with fail
        refine C1.out.mono ?_
        rintro e w' ⟨rfl, rfl⟩
        go_wp2_with fail
        refine C2.out.mono ?_
        rintro e w' ⟨rfl, rfl⟩
        go_wp2
        go_ret2
        exact ⟨by rw [HE.out]; rfl, rfl⟩
      | true =>
        rw [if_pos hy] at C2
        clear hy
        go_wp2_with fail
        refine C1.out.mono ?_
        rintro e w' ⟨rfl, rfl⟩
        go_wp2_with fail
        refine C2.out.mono ?_
        rintro e w' ⟨rfl, rfl⟩
        go_wp2
        go_ret2
        exact ⟨by rw [HE.out]; rfl, rfl⟩
    | true =>
      rw [if_pos hx] at C1
      cases hy : hdB 91 ys with
      | false =>
        rw [if_neg (by rw [hy]; simp)] at C2
        have HE : Hid (itemsF a b = (xs, ys)) := Lib.hid (by rw [HI.out, itemsF_no (by rw [hy]; simp)])
        clear hx hy
        go_wp2_with fail
        refine C1.out.mono ?_
        rintro e w' ⟨rfl, rfl⟩
        go_wp2_with fail
        refine C2.out.mono ?_
        rintro e w' ⟨rfl, rfl⟩
        go_wp2
        go_ret2
        exact ⟨by rw [HE.out]; rfl, rfl⟩
      | true =>
        rw [if_pos hy] at C2
        have C3 := Lib.hid (isRef_any xs.tail w)
        cases hr : refB xs.tail with
        | false =>
          rw [hr] at C3
          have HE : Hid (itemsF a b = (xs, ys)) := Lib.hid (by rw [HI.out, itemsF_no (by rw [hr]; simp)])
          clear hx hy hr
          go_wp2_with fail
          refine C1.out.mono ?_
          rintro e w' ⟨rfl, rfl⟩
          go_wp2_with fail
          refine C2.out.mono ?_
          rintro e w' ⟨rfl, rfl⟩
          go_wp2_with fail
          refine C3.out.mono ?_
          rintro e w' ⟨rfl, rfl⟩
          go_wp2
          go_ret2
          exact ⟨by rw [HE.out]; rfl, rfl⟩
        | true =>
          rw [hr] at C3
          have HR : Hid (RelTj a b (.string (strB xs.tail)) (.string (strB ys.tail)) ∧ xs.tail.length < xs.length) := Lib.hid (by
            refine ⟨⟨xs.tail, ys.tail, rfl, rfl, by rw [HI.out, itemsF_yes hx hy hr], by simp; omega, by simp; omega⟩, ?_⟩
            cases xs with
            | nil => cases hx
            | cons x r => simp)
          clear hx hy hr
          go_wp2_with fail
          refine C1.out.mono ?_
          rintro e w' ⟨rfl, rfl⟩
          go_wp2_with fail
          refine C2.out.mono ?_
          rintro e w' ⟨rfl, rfl⟩
          go_wp2_with fail
          refine C3.out.mono ?_
          rintro e w' ⟨rfl, rfl⟩
          go_wp2
          go_round
          case rel => exact HR.out.1
          case measure =>
            have := HR.out.2
            simp only [strLen, strB_size]
            omega

end Go.Proofs.YtdkkpcbebhgbiaaGreatDoor
