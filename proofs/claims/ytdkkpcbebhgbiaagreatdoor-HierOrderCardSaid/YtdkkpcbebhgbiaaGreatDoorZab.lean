/- carpetbagmake's classes as plain data: what its writer does to the tape's place, the code, the traps, the maps, the budget, call by call. Nothing of the program. -/
import Derived.Test.YtdkkpcbebhgbiaaGreatDoorZaa
import Derived.RowKit
namespace Go.Proofs.YtdkkpcbebhgbiaaGreatDoor
set_option maxRecDepth 100000
open Go.RowKit

/-- Next: the number, the place behind it. -/
def nxV (xs : Bs) (k a : Nat) : Nat := if a < xs.length then (xs.getD a 0).toNat % k else 0
def nxA (xs : Bs) (a : Nat) : Nat := if a < xs.length then a + 1 else a
theorem nxV_lt {xs : Bs} {k a : Nat} (h : 0 < k) : nxV xs k a < k := by
  unfold nxV
  split
  · exact Nat.mod_lt _ h
  · exact h
/-- A writer. -/
structure Ws where
  at_ : Nat
  code : List InD
  traps : List TrD
  maps : List MpD
  bud : Int
namespace Ws
def nx (xs : Bs) (s : Ws) : Ws := { s with at_ := nxA xs s.at_ }
def push (s : Ws) (i : InD) : Ws := { s with code := s.code ++ [i] }
def op (s : Ws) (o : UInt8) (n : Int) : Ws := s.push ⟨o, n, 0, [], [], [], []⟩
def name (s : Ws) (o : UInt8) (c n d : Bs) : Ws := s.push ⟨o, 0, 0, c, n, d, []⟩
def paid (s : Ws) : Ws := { s with bud := wrap64 (s.bud - 1) }
/-- The number of an instruction that was laid is told. -/
def aim (s : Ws) (k : Nat) (n : Int) : Ws := { s with code := s.code.modify k (fun i => { i with n := n }) }
def trapped (s : Ws) (t : TrD) : Ws := { s with traps := s.traps ++ [t] }
/-- At most so many. -/
def sz (s : Ws) (N : Nat) : Prop := s.code.length ≤ N ∧ s.traps.length ≤ N ∧ s.maps.length ≤ N
end Ws
def localsL : List Bs := [[73], [73], [73], [74], [76, 65, 59], [91, 73], [91, 66]]
/-- A map here. -/
def Ws.label (s : Ws) (st : List Bs) : Ws := match s.maps.getLast? with
  | some m => if m.at_ = (s.code.length : Int) then s else { s with maps := s.maps ++ [⟨(s.code.length : Int), localsL, st⟩] }
  | none => { s with maps := s.maps ++ [⟨(s.code.length : Int), localsL, st⟩] }
def numI (n : Int) : InD :=
  if -1 ≤ n ∧ n ≤ 5 then ⟨UInt8.ofNat (3 + n).toNat, 0, 0, [], [], [], []⟩
  else if -128 ≤ n ∧ n < 128 then ⟨16, n, 0, [], [], [], []⟩
  else if -32768 ≤ n ∧ n < 32768 then ⟨17, n, 0, [], [], [], []⟩
  else ⟨18, n, 0, [], [], [73], []⟩
def sMain : Bs := [77, 97, 105, 110]
def sysS : Bs := [115, 121, 115]
def intOps : List UInt8 := [96, 100, 104, 108, 126, 130, 120, 112, 128, 124]
def longOps : List UInt8 := [97, 101, 105, 109, 127, 131, 113, 129]
def shOps : List UInt8 := [121, 123, 125]
def ifOps : List UInt8 := [153, 154, 155, 156, 157, 158]
def bodyOps : List UInt8 := [96, 104, 130]
section
variable (xs : Bs)
/-- An int that needs no other. -/
def leafI (k : Nat) (s : Ws) : Ws :=
  if k < 2 then (s.nx xs).op 21 (nxV xs 3 s.at_)
  else if k = 2 then (s.nx xs).push (numI ((nxV xs 256 s.at_ : Int) - 100))
  else s.name 178 sMain [115] [73]
/-- An int, of what an int and a long less deep are. -/
def stepI (deep : Bool) (I L : Ws → Ws) (s : Ws) : Ws :=
  let s2 := s.paid.nx xs
  let k0 := nxV xs 16 s.at_
  let k := if !deep || decide (s.paid.bud ≤ 0) then k0 % 4 else k0
  if k < 4 then leafI xs k s2
  else if k < 8 then ((I (I s2)).nx xs).op (intOps.getD (nxV xs 10 (I (I s2)).at_) 0) 0
  else if k = 8 then (L s2).op 136 0
  else if k = 9 then (I (s2.op 25 6)).op 46 0
  else if k = 10 then (s2.op 25 5).name 180 [65] [102] [73]
  else if k = 11 then (I (s2.op 25 5)).name 182 [65] [118] [40, 73, 41, 73]
  else if k = 12 then (I s2).name 184 sMain [104, 101, 108, 112] [40, 73, 41, 73]
  else if k = 13 then ((s2.nx xs).op 25 (6 + (nxV xs 2 s2.at_ : Int))).op 190 0
  else if k = 14 then (s2.op 25 5).push ⟨193, 0, 0, [66], [], [], []⟩
  else (L (L s2)).op 148 0
/-- A long. -/
def stepL (deep : Bool) (I L : Ws → Ws) (s : Ws) : Ws :=
  let k := nxV xs 6 s.at_
  let s1 := s.nx xs
  if deep = true ∧ k < 2 then ((L (L s1)).nx xs).op (longOps.getD (nxV xs 8 (L (L s1)).at_) 0) 0
  else if deep = true ∧ k = 2 then ((I (L s1)).nx xs).op (shOps.getD (nxV xs 3 (I (L s1)).at_) 0) 0
  else if k = 3 then s1.op 22 3
  else if k = 4 then (s1.nx xs).push ⟨20, (nxV xs 256 s1.at_ : Int) * 1099511627776 - 5, 0, [], [], [74], []⟩
  else (I s1).op 133 0
/-- Ints and longs, by depth. -/
def ilW : Nat → (Ws → Ws) × (Ws → Ws)
  | 0 => (stepI xs false id id, stepL xs false (stepI xs false id id) id)
  | d + 1 => (stepI xs true (ilW d).1 (ilW d).2, stepL xs true (ilW d).1 (ilW d).2)
def intW (d : Nat) : Ws → Ws := (ilW xs d).1
def longW (d : Nat) : Ws → Ws := (ilW xs d).2
def objW (s : Ws) : Ws :=
  let k := nxV xs 5 s.at_
  let s1 := s.nx xs
  if k = 0 then s1.op 1 0
  else if k = 1 then s1.push ⟨187, 0, 0, [66], [], [], []⟩
  else if k = 2 then (s1.op 25 5).push ⟨192, 0, 0, [66], [], [], []⟩
  else s1.push ⟨187, 0, 0, [65], [], [], []⟩
def recW (s : Ws) : Ws :=
  let k := nxV xs 4 s.at_
  let s1 := s.nx xs
  if k = 0 then ((s1.op 25 7).name 184 sysS [97, 100, 100] [40, 91, 66, 41, 73]).op 54 1
  else if k = 1 then ((intW xs 1 s1).name 184 sysS [103, 101, 116] [40, 73, 41, 91, 66]).op 58 7
  else if k = 2 then ((intW xs 1 s1).op 25 7).name 184 sysS [115, 101, 116] [40, 73, 91, 66, 41, 86]
  else (s1.name 184 sysS [99, 111, 117, 110, 116] [40, 41, 73]).op 54 1
/-- A few statements. -/
def timesW (F : Ws → Ws) : Nat → Ws → Ws
  | 0, s => s
  | n + 1, s => timesW F n (F s)
def someW (F : Ws → Ws) (s : Ws) : Ws := timesW F (1 + nxV xs 3 s.at_) (s.nx xs)
def choiceW (F : Ws → Ws) (s : Ws) : Ws :=
  let s1 := intW xs 1 s
  let s2 := (s1.nx xs).op (ifOps.getD (nxV xs 6 s1.at_) 0) 0
  let s3 := someW xs F s2
  let s4 := s3.op 167 0
  let s5 := (s4.label []).aim s1.code.length (s4.code.length : Int)
  let s6 := someW xs F s5
  (s6.label []).aim s3.code.length (s6.code.length : Int)
def loopW (F : Ws → Ws) (s : Ws) : Ws :=
  let s1 := ((s.nx xs).push (numI (nxV xs 5 s.at_ : Int))).op 54 2
  let s2 := (s1.label []).op 21 2
  let s3 := s2.op 158 0
  let s4 := ((someW xs F s3).push ⟨132, 2, -1, [], [], [], []⟩).op 167 (s1.code.length : Int)
  (s4.label []).aim s2.code.length (s4.code.length : Int)
def trapN : List Bs := [[], [84, 104, 114, 111, 119, 97, 98, 108, 101], [77, 97, 116, 104, 70, 97, 117, 108, 116], [79, 111, 112, 115], [78, 117, 108, 108, 70, 97, 117, 108, 116]]
def guardW (F : Ws → Ws) (s : Ws) : Ws :=
  let s1 := someW xs F s
  let thrown := nxV xs 3 s1.at_ = 1
  let s2 := if thrown then ((s1.nx xs).push ⟨187, 0, 0, [79, 111, 112, 115], [], [], []⟩).op 191 0 else (s1.nx xs).op 0 0
  let s3 := if thrown then s2 else s2.op 167 0
  let cls := trapN.getD (nxV xs 5 s3.at_) []
  let s4 := (s3.nx xs).label [76 :: ((if cls = [] then [84, 104, 114, 111, 119, 97, 98, 108, 101] else cls) ++ [59])]
  let s5 := someW xs F (s4.op 87 0)
  let s6 := s5.label []
  let s7 := if thrown then s6 else s6.aim s2.code.length (s5.code.length : Int)
  s7.trapped ⟨s.code.length, s2.code.length, s3.code.length, cls⟩
/-- A statement, of what a statement one deeper is; nested: may there be one? -/
def stepS (nested : Bool) (F : Ws → Ws) (s : Ws) : Ws :=
  let s2 := s.paid.nx xs
  let k := nxV xs 16 s.at_
  if s.paid.bud ≤ 0 ∨ k < 2 then ((intW xs 2 s2).nx xs).op 54 (1 + (nxV xs 2 (intW xs 2 s2).at_ : Int))
  else if k = 2 then (intW xs 2 s2).name 184 sysS [112, 114, 105, 110, 116] [40, 73, 41, 86]
  else if k = 3 then (longW xs 2 s2).op 55 3
  else if k = 4 then (objW xs s2).op 58 5
  else if k = 5 then (intW xs 1 (s2.op 25 5)).name 181 [65] [102] [73]
  else if k = 6 then (intW xs 1 s2).name 179 sMain [115] [73]
  else if k = 7 then
    let s3 := intW xs 1 s2
    let n := (nxV xs 2 s3.at_ : Int)
    ((s3.nx xs).op 188 (10 - 2 * n)).op 58 (6 + n)
  else if k = 8 then (intW xs 1 (intW xs 1 (s2.op 25 6))).op 79 0
  else if k = 9 ∧ nested = true then choiceW xs F s2
  else if k = 10 ∧ nested = true then loopW xs F s2
  else if k = 11 ∧ nested = true then guardW xs F s2
  else if k = 12 then recW xs s2
  else if k = 13 then (s2.push ⟨18, 0, 0, [], [], [83], [104, 105]⟩).op 58 7
  else if k = 14 then (s2.op 25 7).name 184 sysS [112, 114, 105, 110, 116, 84, 101, 120, 116] [40, 91, 66, 41, 86]
  else ((s2.nx xs).nx xs).push ⟨132, nxV xs 3 s2.at_, (nxV xs 9 (s2.nx xs).at_ : Int) - 4, [], [], [], []⟩
/-- A statement within so many that may still be nested. -/
def stmW : Nat → Ws → Ws
  | 0 => stepS xs false id
  | e + 1 => stepS xs true (stmW e)
def startW (a : Nat) : Ws := ⟨a, [], [], [], 60⟩
/-- A method of an object; a static one. -/
def objBodyW (a : Nat) : Ws :=
  let s := ((((startW a).op 21 1).push (numI 3)).op 96 0).op 25 0 |>.name 180 [65] [102] [73]
  ((s.nx xs).op (bodyOps.getD (nxV xs 3 s.at_) 0) 0).op 172 0
def beginW (a : Nat) : Ws :=
  let s0 := startW a
  let s1 := ((s0.nx xs).push (numI (nxV xs 4 s0.at_ : Int))).op 54 1
  let s2 := ((s1.nx xs).push (numI (nxV xs 4 s1.at_ : Int))).op 54 2
  let s3 := ((((s2.op 10 0).op 55 3).push ⟨187, 0, 0, [65], [], [], []⟩).op 58 5)
  (((((s3.nx xs).push (numI (nxV xs 5 s3.at_ : Int))).op 188 10).op 58 6).op 1 0).op 58 7
def bodyW (most a : Nat) : Ws :=
  let s := beginW xs a
  (intW xs 1 (timesW (stmW xs 3) (1 + nxV xs most s.at_) (s.nx xs))).op 172 0
def objMeth (a : Nat) : MeD := ⟨false, [118], [40, 73, 41, 73], 8, 2, (objBodyW xs a).code, [], []⟩
def mainMeth (a : Nat) : MeD := ⟨true, [109, 97, 105, 110], [40, 73, 41, 73], 40, 8, (bodyW xs 6 a).code, (bodyW xs 6 a).traps, (bodyW xs 6 a).maps⟩
end

/-! ### What stays small -/
namespace Ws
variable {s : Ws} {N M : Nat}
theorem sz.more (h : s.sz N) (hN : N ≤ M) : s.sz M := ⟨by have := h.1; omega, by have := h.2.1; omega, by have := h.2.2; omega⟩
theorem sz_nx (xs : Bs) (h : s.sz N) : (s.nx xs).sz N := h
theorem sz_paid (h : s.sz N) : s.paid.sz N := h
theorem sz_push (i : InD) (h : s.sz N) : (s.push i).sz (N + 1) := ⟨by have := h.1; simp [push]; omega, by have := h.2.1; simp [push]; omega, by have := h.2.2; simp [push]; omega⟩
theorem sz_op (o : UInt8) (n : Int) (h : s.sz N) : (s.op o n).sz (N + 1) := sz_push _ h
theorem sz_name (o : UInt8) (c n d : Bs) (h : s.sz N) : (s.name o c n d).sz (N + 1) := sz_push _ h
theorem sz_aim (k : Nat) (n : Int) (h : s.sz N) : (s.aim k n).sz N := ⟨by have := h.1; simp [aim]; omega, h.2.1, h.2.2⟩
theorem sz_label (st : List Bs) (h : s.sz N) : (s.label st).sz (N + 1) := by
  have h2 := h.more (show N ≤ N + 1 by omega)
  have h3 : ({ s with maps := s.maps ++ [⟨(s.code.length : Int), localsL, st⟩] } : Ws).sz (N + 1) := ⟨h2.1, h2.2.1, by have := h.2.2; simp; omega⟩
  unfold label
  split
  · split
    · exact h2
    · exact h3
  · exact h3
theorem sz_trapped (t : TrD) (h : s.sz N) : (s.trapped t).sz (N + 1) := ⟨by have := h.1; simp [trapped]; omega, by have := h.2.1; simp [trapped]; omega, by have := h.2.2; simp [trapped]; omega⟩
end Ws
/-- It adds at most so much. -/
def AddsW (F : Ws → Ws) (c : Nat) : Prop := ∀ (s : Ws) (N : Nat), s.sz N → (F s).sz (N + c)
theorem AddsW.more {F : Ws → Ws} {c d : Nat} (h : AddsW F c) (hc : c ≤ d) : AddsW F d := fun s N hs => (h s N hs).more (by omega)
open Ws
theorem adds_leaf (xs : Bs) (k : Nat) : AddsW (leafI xs k) 1 := fun s N h => by
  unfold leafI
  split
  · exact sz_op _ _ (sz_nx xs h)
  · split
    · exact sz_push _ (sz_nx xs h)
    · exact sz_name _ _ _ _ h
theorem adds_stepI (xs : Bs) (deep : Bool) {I L : Ws → Ws} {c : Nat} (hI : AddsW I c) (hL : AddsW L c) : AddsW (stepI xs deep I L) (2 * c + 2) := fun s N h => by
  have h2 : (s.paid.nx xs).sz N := h
  have ho := sz_op 25 6 h2
  have ho5 := sz_op 25 5 h2
  unfold stepI
  simp only
  generalize (if (!deep || decide (s.paid.bud ≤ 0)) = true then nxV xs 16 s.at_ % 4 else nxV xs 16 s.at_) = k
  split
  · exact (adds_leaf xs _ _ _ h2).more (by omega)
  split
  · exact (sz_op _ _ (sz_nx xs (hI _ _ (hI _ _ h2)))).more (by omega)
  split
  · exact (sz_op _ _ (hL _ _ h2)).more (by omega)
  split
  · exact (sz_op _ _ (hI _ _ ho)).more (by omega)
  split
  · exact (sz_name _ _ _ _ ho5).more (by omega)
  split
  · exact (sz_name _ _ _ _ (hI _ _ ho5)).more (by omega)
  split
  · exact (sz_name _ _ _ _ (hI _ _ h2)).more (by omega)
  split
  · exact (sz_op _ _ (sz_op _ _ (sz_nx xs h2))).more (by omega)
  split
  · exact (sz_push _ ho5).more (by omega)
  · exact (sz_op _ _ (hL _ _ (hL _ _ h2))).more (by omega)
theorem adds_stepI0 (xs : Bs) (I L : Ws → Ws) : AddsW (stepI xs false I L) 1 := fun s N h => by
  have h2 : (s.paid.nx xs).sz N := h
  unfold stepI
  simp only [Bool.not_false, Bool.true_or, if_true]
  rw [if_pos (Nat.mod_lt _ (by decide))]
  exact adds_leaf xs _ _ _ h2
theorem adds_stepL (xs : Bs) (deep : Bool) {I L : Ws → Ws} {c : Nat} (hI : AddsW I c) (hL : AddsW L c) : AddsW (stepL xs deep I L) (2 * c + 1) := fun s N h => by
  have h2 : (s.nx xs).sz N := h
  unfold stepL
  simp only
  split
  · exact (sz_op _ _ (sz_nx xs (hL _ _ (hL _ _ h2)))).more (by omega)
  split
  · exact (sz_op _ _ (sz_nx xs (hI _ _ (hL _ _ h2)))).more (by omega)
  split
  · exact (sz_op _ _ h2).more (by omega)
  split
  · exact (sz_push _ (sz_nx xs h2)).more (by omega)
  · exact (sz_op _ _ (hI _ _ h2)).more (by omega)
theorem adds_il0 (xs : Bs) : AddsW (intW xs 0) 3 ∧ AddsW (longW xs 0) 3 :=
  ⟨(adds_stepI0 xs id id).more (by decide), by
    have := adds_stepL xs false (c := 1) (adds_stepI0 xs id id) (L := id) (fun s N h => h.more (by omega))
    exact this.more (by decide)⟩
theorem adds_il1 (xs : Bs) : AddsW (intW xs 1) 8 ∧ AddsW (longW xs 1) 8 :=
  ⟨(adds_stepI xs true (adds_il0 xs).1 (adds_il0 xs).2).more (by decide), (adds_stepL xs true (adds_il0 xs).1 (adds_il0 xs).2).more (by decide)⟩
theorem adds_il2 (xs : Bs) : AddsW (intW xs 2) 18 ∧ AddsW (longW xs 2) 18 :=
  ⟨(adds_stepI xs true (adds_il1 xs).1 (adds_il1 xs).2).more (by decide), (adds_stepL xs true (adds_il1 xs).1 (adds_il1 xs).2).more (by decide)⟩

end Go.Proofs.YtdkkpcbebhgbiaaGreatDoor

/- What the writer's steps add is behind what was there: its code only grows. -/
namespace Go.Proofs.YtdkkpcbebhgbiaaGreatDoor
set_option maxRecDepth 100000
open Ws

/-- The code only grows. -/
def GrowW (F : Ws → Ws) : Prop := ∀ s : Ws, s.code.length ≤ (F s).code.length
theorem len_nx (xs : Bs) (s : Ws) : (s.nx xs).code.length = s.code.length := rfl
theorem len_paid (s : Ws) : s.paid.code.length = s.code.length := rfl
theorem len_push (s : Ws) (i : InD) : (s.push i).code.length = s.code.length + 1 := by simp [push]
theorem len_op (s : Ws) (o : UInt8) (n : Int) : (s.op o n).code.length = s.code.length + 1 := len_push _ _
theorem len_name (s : Ws) (o : UInt8) (c n d : Bs) : (s.name o c n d).code.length = s.code.length + 1 := len_push _ _
theorem len_aim (s : Ws) (k : Nat) (n : Int) : (s.aim k n).code.length = s.code.length := by simp [aim]
theorem len_label (s : Ws) (st : List Bs) : (s.label st).code.length = s.code.length := by
  unfold label
  split
  · split <;> rfl
  · rfl
theorem len_trapped (s : Ws) (t : TrD) : (s.trapped t).code.length = s.code.length := rfl
theorem grow_leaf (xs : Bs) (k : Nat) : GrowW (leafI xs k) := fun s => by
  unfold leafI
  split
  · rw [len_op, len_nx]; omega
  · split
    · rw [len_push, len_nx]; omega
    · rw [len_name]; omega
theorem grow_stepI (xs : Bs) (deep : Bool) {I L : Ws → Ws} (hI : GrowW I) (hL : GrowW L) : GrowW (stepI xs deep I L) := fun s => by
  have h2 : (s.paid.nx xs).code.length = s.code.length := rfl
  have ho := len_op (s.paid.nx xs) 25 6
  have ho5 := len_op (s.paid.nx xs) 25 5
  unfold stepI
  simp only
  generalize (if (!deep || decide (s.paid.bud ≤ 0)) = true then nxV xs 16 s.at_ % 4 else nxV xs 16 s.at_) = k
  split
  · have := grow_leaf xs k (s.paid.nx xs)
    omega
  split
  · rw [len_op, len_nx]
    have := hI (s.paid.nx xs)
    have := hI (I (s.paid.nx xs))
    omega
  split
  · rw [len_op]
    have := hL (s.paid.nx xs)
    omega
  split
  · rw [len_op]
    have := hI ((s.paid.nx xs).op 25 6)
    omega
  split
  · rw [len_name]; omega
  split
  · rw [len_name]
    have := hI ((s.paid.nx xs).op 25 5)
    omega
  split
  · rw [len_name]
    have := hI (s.paid.nx xs)
    omega
  split
  · rw [len_op, len_op, len_nx]; omega
  split
  · rw [len_push]; omega
  · rw [len_op]
    have := hL (s.paid.nx xs)
    have := hL (L (s.paid.nx xs))
    omega
theorem grow_stepL (xs : Bs) (deep : Bool) {I L : Ws → Ws} (hI : GrowW I) (hL : GrowW L) : GrowW (stepL xs deep I L) := fun s => by
  have h2 : (s.nx xs).code.length = s.code.length := rfl
  unfold stepL
  simp only
  split
  · rw [len_op, len_nx]
    have := hL (s.nx xs)
    have := hL (L (s.nx xs))
    omega
  split
  · rw [len_op, len_nx]
    have := hL (s.nx xs)
    have := hI (L (s.nx xs))
    omega
  split
  · rw [len_op]; omega
  split
  · rw [len_push, len_nx]; omega
  · rw [len_op]
    have := hI (s.nx xs)
    omega
theorem grow_id : GrowW id := fun s => Nat.le_refl _
theorem grow_il (xs : Bs) : ∀ d, GrowW (intW xs d) ∧ GrowW (longW xs d)
  | 0 => ⟨grow_stepI xs false grow_id grow_id, grow_stepL xs false (grow_stepI xs false grow_id grow_id) grow_id⟩
  | d + 1 => ⟨grow_stepI xs true (grow_il xs d).1 (grow_il xs d).2, grow_stepL xs true (grow_il xs d).1 (grow_il xs d).2⟩
theorem grow_times {F : Ws → Ws} (h : GrowW F) : ∀ n, GrowW (timesW F n)
  | 0, s => Nat.le_refl _
  | n + 1, s => Nat.le_trans (h s) (grow_times h n (F s))
theorem grow_some (xs : Bs) {F : Ws → Ws} (h : GrowW F) : GrowW (someW xs F) := fun s => grow_times h _ (s.nx xs)
theorem grow_choice (xs : Bs) {F : Ws → Ws} (h : GrowW F) : GrowW (choiceW xs F) := fun s => by
  unfold choiceW
  simp only
  rw [len_aim, len_label]
  have h1 := (grow_il xs 1).1 s
  have h2 := grow_some xs h (((intW xs 1 s).nx xs).op (ifOps.getD (nxV xs 6 (intW xs 1 s).at_) 0) 0)
  refine Nat.le_trans ?_ (grow_some xs h _)
  rw [len_aim, len_label, len_op]
  rw [len_op, len_nx] at h2
  omega

end Go.Proofs.YtdkkpcbebhgbiaaGreatDoor

/- How much the writer's nested steps add; their code only grows. -/
namespace Go.Proofs.YtdkkpcbebhgbiaaGreatDoor
set_option maxRecDepth 100000
open Ws

theorem adds_times' {F : Ws → Ws} {c : Nat} (h : AddsW F c) : ∀ n, AddsW (timesW F n) (n * c)
  | 0, s, N, hs => hs.more (by omega)
  | n + 1, s, N, hs => by
    have := adds_times' h n (F s) (N + c) (h s N hs)
    exact this.more (by rw [Nat.add_mul]; omega)
theorem adds_some' (xs : Bs) {F : Ws → Ws} {c : Nat} (h : AddsW F c) : AddsW (someW xs F) (3 * c) := fun s N hs => by
  have h2 : (s.nx xs).sz N := hs
  have h3 := adds_times' h (1 + nxV xs 3 s.at_) (s.nx xs) N h2
  have h4 : nxV xs 3 s.at_ < 3 := nxV_lt (by decide)
  exact h3.more (by have := Nat.mul_le_mul_right c (show 1 + nxV xs 3 s.at_ ≤ 3 by omega); omega)
theorem adds_choice (xs : Bs) {F : Ws → Ws} {c : Nat} (h : AddsW F c) : AddsW (choiceW xs F) (6 * c + 20) := fun s N hs => by
  have hS := adds_some' xs h
  unfold choiceW
  simp only
  have h1 := sz_op (ifOps.getD (nxV xs 6 (intW xs 1 s).at_) 0) 0 (sz_nx xs ((adds_il1 xs).1 s N hs))
  have h2 := sz_op 167 0 (hS _ _ h1)
  have h3 := hS _ _ (sz_aim (intW xs 1 s).code.length (((someW xs F (((intW xs 1 s).nx xs).op (ifOps.getD (nxV xs 6 (intW xs 1 s).at_) 0) 0)).op 167 0).code.length : Int) (sz_label [] h2))
  exact (sz_aim _ _ (sz_label [] h3)).more (by omega)
theorem adds_loop (xs : Bs) {F : Ws → Ws} {c : Nat} (h : AddsW F c) : AddsW (loopW xs F) (3 * c + 20) := fun s N hs => by
  have hS := adds_some' xs h
  unfold loopW
  simp only
  have h1 := sz_op 54 2 (sz_push (numI (nxV xs 5 s.at_ : Int)) (sz_nx xs hs))
  have h2 := hS _ _ (sz_op 158 0 (sz_op 21 2 (sz_label [] h1)))
  exact (sz_aim _ _ (sz_label [] (sz_op _ _ (sz_push _ h2)))).more (by omega)
theorem adds_guard (xs : Bs) {F : Ws → Ws} {c : Nat} (h : AddsW F c) : AddsW (guardW xs F) (6 * c + 20) := fun s N hs => by
  have hS := adds_some' xs h
  have h1 := hS s N hs
  have hx : ((someW xs F s).nx xs).sz (N + 3 * c) := sz_nx xs h1
  unfold guardW
  simp only
  by_cases ht : nxV xs 3 (someW xs F s).at_ = 1
  · simp only [if_pos ht]
    have h2 := sz_op 191 0 (sz_push (⟨187, 0, 0, [79, 111, 112, 115], [], [], []⟩ : InD) hx)
    have h3 := hS _ _ (sz_op 87 0 (sz_label [76 :: ((if trapN.getD (nxV xs 5 ((((someW xs F s).nx xs).push ⟨187, 0, 0, [79, 111, 112, 115], [], [], []⟩).op 191 0).at_) [] = [] then [84, 104, 114, 111, 119, 97, 98, 108, 101] else trapN.getD (nxV xs 5 ((((someW xs F s).nx xs).push ⟨187, 0, 0, [79, 111, 112, 115], [], [], []⟩).op 191 0).at_) []) ++ [59])] (sz_nx xs h2)))
    exact (sz_trapped _ (sz_label [] h3)).more (by omega)
  · simp only [if_neg ht]
    have h2 := sz_op 167 0 (sz_op 0 0 hx)
    have h3 := hS _ _ (sz_op 87 0 (sz_label [76 :: ((if trapN.getD (nxV xs 5 ((((someW xs F s).nx xs).op 0 0).op 167 0).at_) [] = [] then [84, 104, 114, 111, 119, 97, 98, 108, 101] else trapN.getD (nxV xs 5 ((((someW xs F s).nx xs).op 0 0).op 167 0).at_) []) ++ [59])] (sz_nx xs h2)))
    exact (sz_trapped _ (sz_aim _ _ (sz_label [] h3))).more (by omega)
theorem grow_loop' (xs : Bs) {F : Ws → Ws} (h : GrowW F) : GrowW (loopW xs F) := fun s => by
  unfold loopW
  simp only
  rw [len_aim, len_label, len_op, len_push]
  have h2 := grow_some xs h ((((((s.nx xs).push (numI (nxV xs 5 s.at_ : Int))).op 54 2).label []).op 21 2).op 158 0)
  simp only [len_op, len_push, len_nx, len_label] at h2
  omega
theorem grow_guard (xs : Bs) {F : Ws → Ws} (h : GrowW F) : GrowW (guardW xs F) := fun s => by
  have hS := grow_some xs h
  have h1 := hS s
  unfold guardW
  simp only
  rw [len_trapped]
  by_cases ht : nxV xs 3 (someW xs F s).at_ = 1
  · simp only [if_pos ht]
    rw [len_label]
    refine Nat.le_trans ?_ (hS _)
    simp only [len_op, len_push, len_nx, len_label]
    omega
  · simp only [if_neg ht]
    rw [len_aim, len_label]
    refine Nat.le_trans ?_ (hS _)
    simp only [len_op, len_push, len_nx, len_label]
    omega
theorem adds_rec (xs : Bs) : AddsW (recW xs) 10 := fun s N h => by
  have h2 : (s.nx xs).sz N := h
  unfold recW
  simp only
  split
  · exact (Ws.sz_op _ _ (Ws.sz_name _ _ _ _ (Ws.sz_op _ _ h2))).more (by omega)
  split
  · exact (Ws.sz_op _ _ (Ws.sz_name _ _ _ _ ((adds_il1 xs).1 _ _ h2))).more (by omega)
  split
  · exact (Ws.sz_name _ _ _ _ (Ws.sz_op _ _ ((adds_il1 xs).1 _ _ h2))).more (by omega)
  · exact (Ws.sz_op _ _ (Ws.sz_name _ _ _ _ h2)).more (by omega)
theorem adds_obj (xs : Bs) : AddsW (objW xs) 2 := fun s N h => by
  have h2 : (s.nx xs).sz N := h
  unfold objW
  simp only
  split
  · exact (Ws.sz_op _ _ h2).more (by omega)
  split
  · exact (Ws.sz_push _ h2).more (by omega)
  split
  · exact (Ws.sz_push _ (Ws.sz_op _ _ h2)).more (by omega)
  · exact (Ws.sz_push _ h2).more (by omega)

end Go.Proofs.YtdkkpcbebhgbiaaGreatDoor

/- How much the writer's statements add; their code only grows. -/
namespace Go.Proofs.YtdkkpcbebhgbiaaGreatDoor
set_option maxRecDepth 100000
open Ws

/-- What a statement does behind its number. -/
def stepQ (xs : Bs) (nested : Bool) (F : Ws → Ws) (b : Int) (k : Nat) (s2 : Ws) : Ws :=
  if b ≤ 0 ∨ k < 2 then ((intW xs 2 s2).nx xs).op 54 (1 + (nxV xs 2 (intW xs 2 s2).at_ : Int))
  else if k = 2 then (intW xs 2 s2).name 184 sysS [112, 114, 105, 110, 116] [40, 73, 41, 86]
  else if k = 3 then (longW xs 2 s2).op 55 3
  else if k = 4 then (objW xs s2).op 58 5
  else if k = 5 then (intW xs 1 (s2.op 25 5)).name 181 [65] [102] [73]
  else if k = 6 then (intW xs 1 s2).name 179 sMain [115] [73]
  else if k = 7 then (((intW xs 1 s2).nx xs).op 188 (10 - 2 * (nxV xs 2 (intW xs 1 s2).at_ : Int))).op 58 (6 + (nxV xs 2 (intW xs 1 s2).at_ : Int))
  else if k = 8 then (intW xs 1 (intW xs 1 (s2.op 25 6))).op 79 0
  else if k = 9 ∧ nested = true then choiceW xs F s2
  else if k = 10 ∧ nested = true then loopW xs F s2
  else if k = 11 ∧ nested = true then guardW xs F s2
  else if k = 12 then recW xs s2
  else if k = 13 then (s2.push ⟨18, 0, 0, [], [], [83], [104, 105]⟩).op 58 7
  else if k = 14 then (s2.op 25 7).name 184 sysS [112, 114, 105, 110, 116, 84, 101, 120, 116] [40, 91, 66, 41, 86]
  else ((s2.nx xs).nx xs).push ⟨132, nxV xs 3 s2.at_, (nxV xs 9 (s2.nx xs).at_ : Int) - 4, [], [], [], []⟩
theorem stepS_eq (xs : Bs) (nested : Bool) (F : Ws → Ws) (s : Ws) : stepS xs nested F s = stepQ xs nested F s.paid.bud (nxV xs 16 s.at_) (s.paid.nx xs) := rfl
theorem ite_sz {p : Prop} [Decidable p] {a b : Ws} {N : Nat} (ha : a.sz N) (hb : b.sz N) : (if p then a else b).sz N := by
  by_cases h : p
  · rw [if_pos h]; exact ha
  · rw [if_neg h]; exact hb
theorem ite_len {p : Prop} [Decidable p] {a b : Ws} {n : Nat} (ha : n ≤ a.code.length) (hb : n ≤ b.code.length) : n ≤ (if p then a else b).code.length := by
  by_cases h : p
  · rw [if_pos h]; exact ha
  · rw [if_neg h]; exact hb
theorem adds_stepS (xs : Bs) (nested : Bool) {F : Ws → Ws} {c : Nat} (h : AddsW F c) : AddsW (stepS xs nested F) (6 * c + 40) := fun s N hs => by
  have h2 : (s.paid.nx xs).sz N := hs
  have hI1 := (adds_il1 xs).1
  have hI2 := (adds_il2 xs).1
  have hL2 := (adds_il2 xs).2
  rw [stepS_eq]
  generalize s.paid.bud = b
  generalize nxV xs 16 s.at_ = k
  generalize s.paid.nx xs = s2 at *
  unfold stepQ
  refine ite_sz ?_ ?_
  · exact (sz_op _ _ (sz_nx xs (hI2 _ _ h2))).more (by omega)
  refine ite_sz ?_ ?_
  · exact (sz_name _ _ _ _ (hI2 _ _ h2)).more (by omega)
  refine ite_sz ?_ ?_
  · exact (sz_op _ _ (hL2 _ _ h2)).more (by omega)
  refine ite_sz ?_ ?_
  · exact (sz_op _ _ (adds_obj xs _ _ h2)).more (by omega)
  refine ite_sz ?_ ?_
  · exact (sz_name _ _ _ _ (hI1 _ _ (sz_op _ _ h2))).more (by omega)
  refine ite_sz ?_ ?_
  · exact (sz_name _ _ _ _ (hI1 _ _ h2)).more (by omega)
  refine ite_sz ?_ ?_
  · exact (sz_op _ _ (sz_op _ _ (sz_nx xs (hI1 _ _ h2)))).more (by omega)
  refine ite_sz ?_ ?_
  · exact (sz_op _ _ (hI1 _ _ (hI1 _ _ (sz_op _ _ h2)))).more (by omega)
  refine ite_sz ?_ ?_
  · exact (adds_choice xs h _ _ h2).more (by omega)
  refine ite_sz ?_ ?_
  · exact (adds_loop xs h _ _ h2).more (by omega)
  refine ite_sz ?_ ?_
  · exact (adds_guard xs h _ _ h2).more (by omega)
  refine ite_sz ?_ ?_
  · exact (adds_rec xs _ _ h2).more (by omega)
  refine ite_sz ?_ ?_
  · exact (sz_op _ _ (sz_push _ h2)).more (by omega)
  refine ite_sz ?_ ?_
  · exact (sz_name _ _ _ _ (sz_op _ _ h2)).more (by omega)
  · exact (sz_push _ (sz_nx xs (sz_nx xs h2))).more (by omega)
theorem grow_obj (xs : Bs) : GrowW (objW xs) := fun s => by
  unfold objW
  simp only
  split
  · rw [len_op, len_nx]; omega
  split
  · rw [len_push, len_nx]; omega
  split
  · rw [len_push, len_op, len_nx]; omega
  · rw [len_push, len_nx]; omega
theorem grow_rec (xs : Bs) : GrowW (recW xs) := fun s => by
  have h1 := (grow_il xs 1).1 (s.nx xs)
  rw [len_nx] at h1
  unfold recW
  simp only
  split
  · rw [len_op, len_name, len_op, len_nx]; omega
  split
  · rw [len_op, len_name]; omega
  split
  · rw [len_name, len_op]; omega
  · rw [len_op, len_name, len_nx]; omega
theorem grow_stepS (xs : Bs) (nested : Bool) {F : Ws → Ws} (h : GrowW F) : GrowW (stepS xs nested F) := fun s => by
  have h2 : (s.paid.nx xs).code.length = s.code.length := rfl
  have hI1 := (grow_il xs 1).1
  have hI2 := (grow_il xs 2).1
  have hL2 := (grow_il xs 2).2
  rw [stepS_eq]
  generalize s.paid.bud = b
  generalize nxV xs 16 s.at_ = k
  generalize s.paid.nx xs = s2 at *
  unfold stepQ
  refine ite_len ?_ ?_
  · rw [len_op, len_nx]; have := hI2 s2; omega
  refine ite_len ?_ ?_
  · rw [len_name]; have := hI2 s2; omega
  refine ite_len ?_ ?_
  · rw [len_op]; have := hL2 s2; omega
  refine ite_len ?_ ?_
  · rw [len_op]; have := grow_obj xs s2; omega
  refine ite_len ?_ ?_
  · rw [len_name]; have := hI1 (s2.op 25 5); rw [len_op] at this; omega
  refine ite_len ?_ ?_
  · rw [len_name]; have := hI1 s2; omega
  refine ite_len ?_ ?_
  · rw [len_op, len_op, len_nx]; have := hI1 s2; omega
  refine ite_len ?_ ?_
  · rw [len_op]; have g1 := hI1 (s2.op 25 6); rw [len_op] at g1; have := hI1 (intW xs 1 (s2.op 25 6)); omega
  refine ite_len ?_ ?_
  · have := grow_choice xs h s2; omega
  refine ite_len ?_ ?_
  · have := grow_loop' xs h s2; omega
  refine ite_len ?_ ?_
  · have := grow_guard xs h s2; omega
  refine ite_len ?_ ?_
  · have := grow_rec xs s2; omega
  refine ite_len ?_ ?_
  · rw [len_op, len_push]; omega
  refine ite_len ?_ ?_
  · rw [len_name, len_op]; omega
  · rw [len_push, len_nx, len_nx]; omega
theorem adds_id : AddsW id 0 := fun s N h => h
theorem adds_stm (xs : Bs) : AddsW (stmW xs 0) 40 ∧ AddsW (stmW xs 1) 280 ∧ AddsW (stmW xs 2) 1720 ∧ AddsW (stmW xs 3) 10360 := by
  have h0 : AddsW (stmW xs 0) 40 := adds_stepS xs false adds_id
  have h1 : AddsW (stmW xs 1) 280 := adds_stepS xs true h0
  have h2 : AddsW (stmW xs 2) 1720 := adds_stepS xs true h1
  exact ⟨h0, h1, h2, adds_stepS xs true h2⟩
theorem grow_stm (xs : Bs) : ∀ e, GrowW (stmW xs e)
  | 0 => grow_stepS xs false grow_id
  | e + 1 => grow_stepS xs true (grow_stm xs e)

end Go.Proofs.YtdkkpcbebhgbiaaGreatDoor
