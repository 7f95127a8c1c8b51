/- The walk over the document's Bytes (layer 14). -/
import Derived.Test.YtendpbklcgiafaaZay
namespace Go.Proofs.Ytendpbklcgiafaa
set_option maxRecDepth 100000
open Go.RowKit

def fieldB (x : FieldD) : List UInt8 := u2B [x.flags, x.name, x.desc, 0]
def methB (C : List Cst) (m : MethD) : List UInt8 := u2B [m.flags, m.name, m.desc, 1, (((firstC C codeT).getD 0 : Nat) : Int)] ++ putL (bits64 ((codeB C m.body).length : Int)) 4 ++ codeB C m.body
noncomputable def pre0 (f : FileD) : List UInt8 := putL 3405691582 4 ++ u2B [0, 45] ++ poolB f.pool ++ u2B [33, f.this, f.super, 0, (f.fields.length : Int)]
noncomputable def pre1 (f : FileD) : List UInt8 := pre0 f ++ f.fields.flatMap fieldB ++ u2B [(f.meths.length : Int)]
noncomputable def docB (f : FileD) : List UInt8 := pre1 f ++ f.meths.flatMap (methB f.pool) ++ u2B [0]
theorem flat_take_all {α : Type} (g : α → List UInt8) (l : List α) (k : Nat) : ((l.take k).flatMap g).length ≤ (l.flatMap g).length := by
  have h := congrArg (fun l => (List.flatMap g l).length) (List.take_append_drop k l)
  simp only [List.flatMap_append, List.length_append] at h
  omega


end Go.Proofs.Ytendpbklcgiafaa

/- What encodes a class is the document's Bytes, of what is Right (layer 14). Nothing of the program. -/
namespace Go.Proofs.Ytendpbklcgiafaa
set_option maxRecDepth 100000
open Go.RowKit

/-- Which encode, and to which bytes. -/
def Is {α : Type} (e : Enc α) (p : α → Bool) (x : α → List UInt8) : Prop := ∀ v, e v = if p v = true then some (x v) else none
section
variable {α β : Type}
theorem Is.congr {e : Enc α} {p p' : α → Bool} {x x' : α → List UInt8} (h : Is e p x) (hp : ∀ v, p v = p' v) (hx : ∀ v, p v = true → x v = x' v) : Is e p' x' := fun v => by
  rw [h v, ← hp v]
  by_cases hv : p v = true
  · rw [if_pos hv, if_pos hv, hx v hv]
  · rw [if_neg hv, if_neg hv]
theorem Is.seq {e : Enc α} {f : α → Enc β} {p : α → Bool} {x : α → List UInt8} {q : α → β → Bool} {y : α → β → List UInt8} (h : Is e p x) (k : ∀ v, p v = true → Is (f v) (q v) (y v)) : Is (seqE e f) (fun v => p v.1 && q v.1 v.2) (fun v => x v.1 ++ y v.1 v.2) := fun v => by
  show (e v.1).bind (fun z => (f v.1 v.2).map (z ++ ·)) = if (p v.1 && q v.1 v.2) = true then some (x v.1 ++ y v.1 v.2) else none
  rw [h v.1]
  cases hv : p v.1
  · rfl
  · rw [if_pos rfl, Option.bind_some, k v.1 hv v.2, Bool.true_and]
    cases q v.1 v.2 <;> rfl
theorem Is.map {e : Enc α} {p : α → Bool} {x : α → List UInt8} (h : Is e p x) (g : β → α) : Is (mapE g e) (fun v => p (g v)) (fun v => x (g v)) := fun v => h (g v)
theorem Is.kindn (p : Int → Bool) (k : Nat) : Is (kindE p k) p (fun v => putL v.toNat k) := fun _ => rfl
theorem Is.just (k x : Nat) : Is (justE k x) (fun _ => true) (fun _ => putL x k) := fun _ => rfl
theorem Is.nil (p : α → Bool) : Is (nilE p) p (fun _ => []) := fun _ => rfl
theorem bits_nat (x : Int) (h : 0 ≤ x) (h2 : x < 18446744073709551616) : bits64 x = x.toNat := by
  unfold bits64
  rw [Int.emod_eq_of_lt h h2]
theorem u2_one (x : Int) (h : 0 ≤ x) (h2 : x < 65536) : u2B [x] = putL x.toNat 2 := by
  unfold u2B
  rw [List.flatMap_cons, List.flatMap_nil, List.append_nil, bits_nat x h (by omega)]
theorem Is.kind2 {p : Int → Bool} (hf : Fits p 2) : Is (kindE p 2) p (fun v => u2B [v]) := (Is.kindn p 2).congr (fun _ => rfl) (fun v hv => by
  have h := hf.2 v hv
  have e : (256 ^ 2 : Nat) = 65536 := rfl
  rw [e] at h
  exact (u2_one v h.1 (by omega)).symm)
theorem Is.cat {e : Enc α} {p : α → Bool} {x : α → List UInt8} (h : Is e p x) (l : List α) : catE e l = if l.all p = true then some (l.flatMap x) else none := by
  induction l with
  | nil => rfl
  | cons v l ih =>
    rw [catE, h v, ih, List.all_cons, List.flatMap_cons]
    cases hp : p v
    · simp
    · cases hl : l.all p <;> simp
theorem Is.row {e : Enc α} {p : α → Bool} {x : α → List UInt8} (h : Is e p x) {most : Nat} (hm : most ≤ 65535) : Is (rowE most e) (fun l => l.all p && decide (l.length ≤ most)) (fun l => u2B [(l.length : Int)] ++ l.flatMap x) := fun l => by
  unfold rowE mapE seqE kindE manyE
  simp only
  by_cases hl : l.length ≤ most
  · rw [if_pos (decide_eq_true (by omega)), Option.bind_some, if_pos (by omega), h.cat l, decide_eq_true hl, Bool.and_true, u2_one _ (by omega) (by omega)]
    split <;> rfl
  · rw [if_neg (by simp; omega), decide_eq_false hl, Bool.and_false]
    rfl
theorem put4 (n : Nat) : putL (bits64 (n : Int)) 4 = putL n 4 := by
  have h : bits64 (n : Int) = n % 18446744073709551616 := by unfold bits64; omega
  rw [h]
  unfold putL
  apply List.map_congr_left
  intro j hj
  rw [List.mem_range] at hj
  unfold byteOf
  apply UInt8.toNat_inj.1
  rw [UInt8.toNat_ofNat', UInt8.toNat_ofNat']
  have : j = 0 ∨ j = 1 ∨ j = 2 ∨ j = 3 := by omega
  rcases this with rfl | rfl | rfl | rfl <;> simp <;> omega
theorem Is.block {e : Enc α} {p : α → Bool} {x : α → List UInt8} (h : Is e p x) : Is (blockE e) p (fun v => putL (bits64 ((x v).length : Int)) 4 ++ x v) := fun v => by
  unfold blockE
  rw [h v]
  split
  · show some (putL (x v).length 4 ++ x v) = some (putL (bits64 ((x v).length : Int)) 4 ++ x v)
    rw [put4]
  · rfl
theorem firstC_pos {C : List Cst} {t : List UInt8} {k : Nat} (h : firstC C t = some k) : 0 < k := by
  have h1 := List.find?_some h
  have h2 := of_decide_eq_true h1
  cases k with
  | zero => unfold textF findF atF at h2; rw [if_neg (by omega)] at h2; cases h2
  | succ k => omega
theorem Is.part {e : Enc α} {p : α → Bool} {x : α → List UInt8} (h : Is e p x) (C : List Cst) (hC : C.length ≤ 1024) (t : List UInt8) : Is (partE C t e) (fun v => p v && decide (0 < ((firstC C t).getD 0))) (fun v => u2B [(((firstC C t).getD 0 : Nat) : Int)] ++ (putL (bits64 ((x v).length : Int)) 4 ++ x v)) := by
  unfold partE
  cases hf : firstC C t with
  | none => intro v; simp
  | some i =>
    have hi := firstC_lt hf
    have hp := firstC_pos hf
    refine (((Is.just 2 i).seq (fun _ _ => h.block)).map (fun v : α => ((), v))).congr (fun v => ?_) (fun v _ => ?_)
    · simp [hp]
    · show putL i 2 ++ _ = _
      rw [Option.getD_some, u2_one _ (by omega) (by omega)]
      rfl
theorem Is.filt {e : Enc α} {p : α → Bool} {x : α → List UInt8} (h : Is e p x) (q : α → Bool) : Is (filtE q e) (fun v => q v && p v) x := fun v => by
  show (if q v = true then e v else none) = if (q v && p v) = true then some (x v) else none
  rw [h v]
  cases q v <;> cases p v <;> rfl
end
theorem u2_cons (x : Int) (l : List Int) : u2B (x :: l) = u2B [x] ++ u2B l := by simp [u2B]

section
variable (C : List Cst) (hC : C.length ≤ 1024)
include hC
theorem isMem : Is (memE C) (fun v => memF C v.1 v.2.1 v.2.2) (fun v => u2B [v.1, v.2.1, v.2.2]) :=
  ((Is.kind2 fits_flags).seq (fun _ _ => (Is.kind2 (fits_text (c := cxOf C) hC)).seq (fun _ _ => Is.kind2 (fits_text (c := cxOf C) hC)))).congr (fun _ => rfl) (fun v _ => by rw [u2_cons v.1 [v.2.1, v.2.2], u2_cons v.2.1 [v.2.2]])
theorem isField : Is (fieldE C) (fieldOk C) fieldB :=
  (((isMem C hC).seq (fun _ _ => Is.just 2 0)).map (fun d : FieldD => ((d.flags, d.name, d.desc), ()))).congr (fun d => by rw [Bool.and_true]; rfl) (fun d _ => by
    show u2B [d.flags, d.name, d.desc] ++ putL 0 2 = u2B [d.flags, d.name, d.desc, 0]
    rw [u2_cons d.flags [d.name, d.desc], u2_cons d.name [d.desc], u2_cons d.flags [d.name, d.desc, 0], u2_cons d.name [d.desc, 0], u2_cons d.desc [0]]
    simp only [List.append_assoc]
    rfl)
theorem isTrap : Is (trapE C) (trapOk C) trapB :=
  (((Is.kind2 (fits_up 65535 (by omega))).seq (fun _ _ => (Is.kind2 (fits_up 65535 (by omega))).seq (fun _ _ => (Is.kind2 (fits_up 65535 (by omega))).seq (fun _ _ => Is.kind2 (fits_clsNone (c := cxOf C) hC))))).map (fun d : TrapD => (d.fr, d.til, d.at_, d.cls))).congr (fun d => by
    unfold trapOk wideF
    simp only [List.all_cons, List.all_nil, Bool.and_true, Bool.and_assoc]
    rfl) (fun d _ => by
    unfold trapB
    rw [u2_cons d.fr [d.til, d.at_, d.cls], u2_cons d.til [d.at_, d.cls], u2_cons d.at_ [d.cls]])
theorem isSlot : Is (slotE C) (slotOk C) slotB := by
  have h : ∀ t : Int, Is (if t = 7 then kindE (isClassC C) 2 else nilE (fun a : Int => decide (a = 0))) (fun a => if t = 7 then isClassC C a else decide (a = 0)) (fun a => if t = 7 then u2B [a] else []) := fun t => by
    by_cases ht : t = 7
    · simp only [if_pos ht]
      exact Is.kind2 (fits_class (c := cxOf C) hC)
    · simp only [if_neg ht]
      exact Is.nil _
  refine (((Is.kindn isMapTagC 1).seq (fun t _ => h t)).map (fun d : SlotD => (d.tag, d.a))).congr (fun d => ?_) (fun d _ => rfl)
  unfold slotOk isMapTagC
  by_cases h7 : d.tag = 7
  · simp [h7]
  · simp [h7, Bool.or_assoc]
theorem isMap : Is (mapDE C) (mapOk C) mapB :=
  (((Is.kind2 (fits_up 65535 (by omega))).seq (fun _ _ => ((isSlot C hC).row (by omega)).seq (fun _ _ => (isSlot C hC).row (by omega)))).map (fun d : MapD => (d.at_, d.locals, d.stack))).congr (fun d => by
    unfold mapOk wideF slotsF
    simp only [List.all_cons, List.all_nil, Bool.and_true]) (fun d _ => by
    unfold mapB slotsB
    simp only [List.append_assoc])
def mapsOk (C : List Cst) (l : List MapD) : Bool := decide (l.length ≤ 255) && (l.all (mapOk C) && (decide (l.length = 0) || decide (0 < ((firstC C mapsT).getD 0))))
theorem isMaps : Is (mapsE C) (mapsOk C) (mapsB C) := by
  have h : ∀ p : Int, Is (if p = 0 then nilE (fun l : List MapD => l.isEmpty) else partE C mapsT (someE C)) (fun l => if p = 0 then l.isEmpty else (!l.isEmpty && (l.all (mapOk C) && decide (l.length ≤ 255))) && decide (0 < ((firstC C mapsT).getD 0))) (fun l => if p = 0 then [] else u2B [(((firstC C mapsT).getD 0 : Nat) : Int)] ++ (putL (bits64 ((u2B [(l.length : Int)] ++ l.flatMap mapB).length : Int)) 4 ++ (u2B [(l.length : Int)] ++ l.flatMap mapB))) := fun p => by
    by_cases hp : p = 0
    · simp only [if_pos hp]
      exact Is.nil _
    · simp only [if_neg hp]
      exact ((((isMap C hC).row (by omega)).filt (fun l => !l.isEmpty)).part C hC mapsT)
  refine (((Is.kind2 (fits_up 1 (by omega))).seq (fun p _ => h p)).map (fun l : List MapD => (((min l.length 1 : Nat) : Int), l))).congr (fun l => ?_) (fun l _ => ?_)
  · unfold mapsOk upToC
    cases l with
    | nil => simp
    | cons a l =>
      have e : min (a :: l).length 1 = 1 := by simp
      simp only [e]
      simp [Bool.and_assoc, Bool.and_comm, Bool.and_left_comm]
  · unfold mapsB
    cases l with
    | nil => rfl
    | cons a l =>
      have e : min (a :: l).length 1 = 1 := by simp
      simp only [e]
      rw [if_neg (by simp), if_neg (by simp), u2_cons 1]
      simp only [List.append_assoc]
      rfl
end
theorem isCode : Is codeE (fun l => decide (1 ≤ l.length ∧ l.length ≤ 4096)) (fun l => putL (bits64 (l.length : Int)) 4 ++ l) := fun l => by
  unfold codeE mapE seqE kindE rawE codeN
  simp only
  by_cases hl : 1 ≤ l.length ∧ l.length ≤ 4096
  · rw [if_pos (decide_eq_true (by omega)), Option.bind_some, if_pos (by omega), if_pos (decide_eq_true hl), put4]
    rfl
  · rw [if_neg (by rw [decide_eq_true_eq]; omega), decide_eq_false hl]
    rfl
section
variable (C : List Cst) (hC : C.length ≤ 1024)
include hC
def bodyOk (C : List Cst) (d : BodyD) : Bool := upToC 64 d.stack && (upToC 64 d.locals && (decide (1 ≤ d.code.length ∧ d.code.length ≤ 4096) && ((d.traps.all (trapOk C) && decide (d.traps.length ≤ 255)) && mapsOk C d.maps)))
theorem isBody : Is (bodyE C) (bodyOk C) (codeB C) :=
  (((Is.kind2 (fits_up 64 (by omega))).seq (fun _ _ => (Is.kind2 (fits_up 64 (by omega))).seq (fun _ _ => isCode.seq (fun _ _ => ((isTrap C hC).row (by omega)).seq (fun _ _ => isMaps C hC))))).map (fun d : BodyD => (d.stack, d.locals, d.code, d.traps, d.maps))).congr (fun _ => rfl) (fun d _ => by
    unfold codeB headB
    rw [u2_cons d.stack [d.locals]]
    simp only [List.append_assoc])
theorem isMeth : Is (methE C) (methOk C) (methB C) :=
  (((isMem C hC).seq (fun _ _ => (Is.just 2 1).seq (fun _ _ => (isBody C hC).part C hC codeT))).map (fun d : MethD => ((d.flags, d.name, d.desc), (), d.body))).congr (fun d => by
    unfold methOk methF bodyOk mapsOk
    simp only [Bool.true_and]
    generalize memF C d.flags d.name d.desc = b1
    generalize upToC 64 d.body.stack = b2
    generalize upToC 64 d.body.locals = b3
    generalize decide (1 ≤ d.body.code.length ∧ d.body.code.length ≤ 4096) = b4
    generalize d.body.traps.all (trapOk C) = b5
    generalize decide (d.body.traps.length ≤ 255) = b6
    generalize decide (d.body.maps.length ≤ 255) = b7
    generalize d.body.maps.all (mapOk C) = b8
    generalize (decide (d.body.maps.length = 0) || decide (0 < ((firstC C mapsT).getD 0))) = b9
    generalize decide (0 < ((firstC C codeT).getD 0)) = b10
    cases b1 <;> cases b2 <;> cases b3 <;> cases b4 <;> cases b5 <;> cases b6 <;> cases b7 <;> cases b8 <;> cases b9 <;> cases b10 <;> rfl) (fun d _ => by
    unfold methB
    rw [u2_cons d.flags [d.name, d.desc, 1, _], u2_cons d.name [d.desc, 1, _], u2_cons d.desc [1, _], u2_cons 1 [_], u2_cons d.flags [d.name, d.desc], u2_cons d.name [d.desc]]
    simp only [List.append_assoc]
    rfl)
end
def restOk (C : List Cst) (f : FileD) : Bool := isClassC C f.this && (isClsNoneC C f.super && ((f.fields.all (fieldOk C) && decide (f.fields.length ≤ 64)) && (f.meths.all (methOk C) && decide (f.meths.length ≤ 64))))
theorem isPool : Is poolE checkF poolB := fun _ => rfl
/-- What encodes a class is the document's Bytes, of what is Right. -/
theorem file_doc (f : FileD) (hok : ∀ c ∈ f.pool, c.ok) : fileE f = if docRight f = true then some (docB f) else none := by
  have hr : ∀ C : List Cst, C.length ≤ 1024 → Is (restE C) (fun v => true && (isClassC C v.2.1 && (isClsNoneC C v.2.2.1 && (true && ((v.2.2.2.2.1.all (fieldOk C) && decide (v.2.2.2.2.1.length ≤ 64)) && ((v.2.2.2.2.2.1.all (methOk C) && decide (v.2.2.2.2.2.1.length ≤ 64)) && true)))))) (fun v => putL 33 2 ++ (u2B [v.2.1] ++ (u2B [v.2.2.1] ++ (putL 0 2 ++ ((u2B [(v.2.2.2.2.1.length : Int)] ++ v.2.2.2.2.1.flatMap fieldB) ++ ((u2B [(v.2.2.2.2.2.1.length : Int)] ++ v.2.2.2.2.2.1.flatMap (methB C)) ++ putL 0 2)))))) := fun C hC =>
    (Is.just 2 33).seq (fun _ _ => (Is.kind2 (fits_class (c := cxOf C) hC)).seq (fun _ _ => (Is.kind2 (fits_clsNone (c := cxOf C) hC)).seq (fun _ _ => (Is.just 2 0).seq (fun _ _ => ((isField C hC).row (by omega)).seq (fun _ _ => ((isMeth C hC).row (by omega)).seq (fun _ _ => Is.just 2 0))))))
  have hh : Is headE (fun _ => true) (fun _ => putL 51966 2 ++ (putL 47806 2 ++ (putL 0 2 ++ putL 45 2))) := (Is.just 2 51966).seq (fun _ _ => (Is.just 2 47806).seq (fun _ _ => (Is.just 2 0).seq (fun _ _ => Is.just 2 45)))
  have h := (hh.seq (fun _ _ => isPool.seq (fun C hc => hr C (pool_small (l := C) (x := poolB C) (by unfold poolE; rw [if_pos hc]))))) (((), (), (), ()), f.pool, (), f.this, f.super, (), f.fields, f.meths, ())
  show seqE headE (fun _ => seqE poolE (fun C => restE C)) (((), (), (), ()), f.pool, (), f.this, f.super, (), f.fields, f.meths, ()) = _
  rw [h]
  have hb : docRight f = (checkF f.pool && restOk f.pool f) := by
    unfold docRight restOk
    rw [check_right f.pool hok]
    generalize rightF f.pool = b1
    generalize isClassC f.pool f.this = b2
    generalize isClsNoneC f.pool f.super = b3
    generalize decide (f.fields.length ≤ 64) = b4
    generalize decide (f.meths.length ≤ 64) = b5
    generalize f.fields.all (fieldOk f.pool) = b6
    generalize f.meths.all (methOk f.pool) = b7
    cases b1 <;> cases b2 <;> cases b3 <;> cases b4 <;> cases b5 <;> cases b6 <;> cases b7 <;> rfl
  have hx : putL 51966 2 ++ (putL 47806 2 ++ (putL 0 2 ++ putL 45 2)) ++ (poolB f.pool ++ (putL 33 2 ++ (u2B [f.this] ++ (u2B [f.super] ++ (putL 0 2 ++ ((u2B [(f.fields.length : Int)] ++ f.fields.flatMap fieldB) ++ ((u2B [(f.meths.length : Int)] ++ f.meths.flatMap (methB f.pool)) ++ putL 0 2))))))) = docB f := by
    have e1 : putL 51966 2 ++ (putL 47806 2 ++ (putL 0 2 ++ putL 45 2)) = putL 3405691582 4 ++ u2B [0, 45] := by decide
    have e2 : putL 33 2 = u2B [33] := by decide
    have e3 : putL 0 2 = u2B [0] := by decide
    rw [e1, e2, e3]
    unfold docB pre1 pre0
    rw [u2_cons 33 [f.this, f.super, 0, _], u2_cons f.this [f.super, 0, _], u2_cons f.super [0, _], u2_cons 0 [(f.fields.length : Int)]]
    simp only [List.append_assoc]
  simp only [Bool.true_and, Bool.and_true]
  rw [hx, hb]
  rfl

end Go.Proofs.Ytendpbklcgiafaa

/- The walk over the document's sameSlots, where all is the same (layer 14). -/
namespace Go.Proofs.Ytendpbklcgiafaa
set_option maxRecDepth 100000
open Go.RowKit

theorem neq_slot (t a : Int) (W : World) : (binOp .neq 98 (.agg #[.int .i64 t, .int .i64 a]) (.agg #[.int .i64 t, .int .i64 a])).run Try.prog W = .ok (.bool false) W := by
  rw [run_neq_struct]
  simp [go_sem, Try.underlying98]
theorem r14sameSlots_same (A B : Option Addr) (n c1 c2 : Nat) (l : List SlotD) (w : World) (hA : RowS slotT w Empty A n c1 l) (hB : RowS slotT w Empty B n c2 l) (hn : n ≤ 1000000) :
    Calls Try.prog 36 #[.slice A n c1, .slice B n c2] w fun e w' => e = .returned (.bool true) ∧ ∃ q, w' = w.drewN q := by
  have HA := Lib.hid hA
  have HB := Lib.hid hB
  have hcap : c1 ≤ 9223372036854775807 ∧ n ≤ c1 ∧ c2 ≤ 9223372036854775807 ∧ n ≤ c2 := ⟨by have h := hA.2.2.1; unfold maxLen at h; omega, hA.2.1, by have h := hB.2.2.1; unfold maxLen at h; omega, hB.2.1⟩
  clear hA hB
  go_enter Try.func36, Try.ntmps36
  go_wp2
  go_loopw [4, 13] (fun a bb wr => ∃ k q : Nat, k ≤ n ∧ a = .bool false ∧ bb = .int .i64 (k : Int) ∧ wr = w.drewN q) (fun _ bb _ => n - (intOf bb).toNat)
  case atStart => exact ⟨0, 0, Nat.zero_le _, rfl, rfl, rfl⟩
  case round =>
    obtain ⟨k, q, hk, rfl, rfl, rfl⟩ := hrel
    by_cases hlt : k < n
    · obtain ⟨b, o, x, cs, rfl, hx, hb, hr, hcs⟩ := HA.out.at_ hlt
      have hr : cs = SlotD.cells x := hr
      subst hr
      obtain ⟨b2, o2, y, ds, rfl, hy, hb2, hr2, hds⟩ := HB.out.at_ hlt
      have hr2 : ds = SlotD.cells y := hr2
      subst hr2
      obtain rfl : x = y := by rw [hx] at hy; exact Option.some.inj hy
      obtain ⟨t, a⟩ := x
      have h0 : w.cell? ⟨b, o + k * 2, none⟩ = some (.int .i64 t) := hcs 0 _ rfl
      have h1 : w.cell? ⟨b, o + k * 2 + 1, none⟩ = some (.int .i64 a) := hcs 1 _ rfl
      have g0 : w.cell? ⟨b2, o2 + k * 2, none⟩ = some (.int .i64 t) := hds 0 _ rfl
      have g1 : w.cell? ⟨b2, o2 + k * 2 + 1, none⟩ = some (.int .i64 a) := hds 1 _ rfl
      have HQ := neq_slot t a
      clear hx hy hcs hds
      go_wp2
      go_quiet (fail)
      go_wp2
      go_roundw
      case rel => exact ⟨k + 1, q + nq, by omega, rfl, by go_num, by simp⟩
      case measure => simp [intOf]; omega
    · obtain rfl : k = n := by omega
      go_wp2
      go_ret
      exact ⟨rfl, q, rfl⟩

end Go.Proofs.Ytendpbklcgiafaa

/- The walk over the document's sameMethod, where all is the same (layer 14). -/
namespace Go.Proofs.Ytendpbklcgiafaa
set_option maxRecDepth 100000
open Go.RowKit

theorem neq_trap (a b c d : Int) (W : World) : (binOp .neq 70 (.agg #[.int .i64 a, .int .i64 b, .int .i64 c, .int .i64 d]) (.agg #[.int .i64 a, .int .i64 b, .int .i64 c, .int .i64 d])).run Try.prog W = .ok (.bool false) W := by
  rw [run_neq_struct]
  simp [go_sem, Try.underlying70]
theorem BodyIn.drewN {w : World} {Ac At Am : Option Addr} {nc cc nt ct nm cm : Nat} {d : BodyD} (h : BodyIn w Ac nc cc At nt ct Am nm cm d) (q : Nat) : BodyIn (w.drewN q) Ac nc cc At nt ct Am nm cm d := h.below ((Below.refl _ _).drewN q)

set_option maxHeartbeats 8000000 in
theorem r14sameMethod_same (f x y st lo : Int) (Ac : Option Addr) (nc cc : Nat) (At : Option Addr) (nt ct : Nat) (Am : Option Addr) (nm cm : Nat) (Bc : Option Addr) (dc : Nat) (Bt : Option Addr) (dt : Nat) (Bm : Option Addr) (dm : Nat) (d : BodyD) (w : World)
    (hI : BodyIn w Ac nc cc At nt ct Am nm cm d) (hJ : BodyIn w Bc nc dc Bt nt dt Bm nm dm d) (hs : BodySm d) :
    Calls Try.prog 20 #[.agg #[.int .i64 f, .int .i64 x, .int .i64 y, .int .i64 st, .int .i64 lo, .slice Ac nc cc, .slice At nt ct, .slice Am nm cm], .agg #[.int .i64 f, .int .i64 x, .int .i64 y, .int .i64 st, .int .i64 lo, .slice Bc nc dc, .slice Bt nt dt, .slice Bm nm dm]] w fun e w' => e = .returned (.bool true) ∧ Below w.heap.size w w' := by
  obtain ⟨W0, hW0⟩ : ∃ W0, W0 = (w.alloc (.cells #[.int .i64 f, .int .i64 x, .int .i64 y, .int .i64 st, .int .i64 lo, .slice Ac nc cc, .slice At nt ct, .slice Am nm cm] 44)).alloc (.cells #[.int .i64 f, .int .i64 x, .int .i64 y, .int .i64 st, .int .i64 lo, .slice Bc nc dc, .slice Bt nt dt, .slice Bm nm dm] 44) := ⟨_, rfl⟩
  have hO0 : Only Empty w W0 := by rw [hW0]; exact ((Only.refl _ _).alloc _).alloc _
  have hb0 : Below w.heap.size w W0 := hO0.below (Nat.le_refl _) (fun _ _ h => h)
  have hK : Blk W0 w.heap.size 44 #[.int .i64 f, .int .i64 x, .int .i64 y, .int .i64 st, .int .i64 lo, .slice Ac nc cc, .slice At nt ct, .slice Am nm cm] := by rw [hW0]; exact (Blk.new _ _ _).alloc _
  have hK2 : Blk W0 (w.heap.size + 1) 44 #[.int .i64 f, .int .i64 x, .int .i64 y, .int .i64 st, .int .i64 lo, .slice Bc nc dc, .slice Bt nt dt, .slice Bm nm dm] := by
    have h := Blk.new (w.alloc (.cells #[.int .i64 f, .int .i64 x, .int .i64 y, .int .i64 st, .int .i64 lo, .slice Ac nc cc, .slice At nt ct, .slice Am nm cm] 44)) 44 #[.int .i64 f, .int .i64 x, .int .i64 y, .int .i64 st, .int .i64 lo, .slice Bc nc dc, .slice Bt nt dt, .slice Bm nm dm]
    rw [show (w.alloc (.cells #[.int .i64 f, .int .i64 x, .int .i64 y, .int .i64 st, .int .i64 lo, .slice Ac nc cc, .slice At nt ct, .slice Am nm cm] 44)).heap.size = w.heap.size + 1 by simp] at h
    rw [hW0]
    exact h
  have HI := Lib.hid (hI.below hb0)
  have HJ := Lib.hid (hJ.below hb0)
  have hcl : d.code.length = nc := hI.code.1
  have htl : d.traps.length = nt := hI.traps.1
  have hml : d.maps.length = nm := hI.maps.1
  have hs1 := hs.code
  have hs2 := hs.traps
  have hs3 := hs.maps
  rw [hcl] at hs1
  rw [htl] at hs2
  rw [hml] at hs3
  have Hsl := Lib.hid hs.slots
  have hcap : (cc ≤ 9223372036854775807 ∧ ct ≤ 9223372036854775807 ∧ cm ≤ 9223372036854775807 ∧ nc ≤ cc ∧ nt ≤ ct ∧ nm ≤ cm) ∧ dc ≤ 9223372036854775807 ∧ dt ≤ 9223372036854775807 ∧ dm ≤ 9223372036854775807 ∧ nc ≤ dc ∧ nt ≤ dt ∧ nm ≤ dm := ⟨⟨by have h := hI.code.2.2.1; unfold maxLen at h; omega, by have h := hI.traps.2.2.1; unfold maxLen at h; omega, by have h := hI.maps.2.2.1; unfold maxLen at h; omega, hI.code.2.1, hI.traps.2.1, hI.maps.2.1⟩, by have h := hJ.code.2.2.1; unfold maxLen at h; omega, by have h := hJ.traps.2.2.1; unfold maxLen at h; omega, by have h := hJ.maps.2.2.1; unfold maxLen at h; omega, hJ.code.2.1, hJ.traps.2.1, hJ.maps.2.1⟩
  have HB0 := Lib.hid hb0
  have HK := Lib.hid hK
  have HK2 := Lib.hid hK2
  have HW0 := Lib.hid hW0
  have v1 := conv_bytes HI.out.code
  have v2 := conv_bytes HJ.out.code
  have a0 : W0.cell? ⟨w.heap.size, 0, none⟩ = some (.int .i64 f) := hK.cell 0
  have a1 : W0.cell? ⟨w.heap.size, 1, none⟩ = some (.int .i64 x) := hK.cell 1
  have a2 : W0.cell? ⟨w.heap.size, 2, none⟩ = some (.int .i64 y) := hK.cell 2
  have a3 : W0.cell? ⟨w.heap.size, 3, none⟩ = some (.int .i64 st) := hK.cell 3
  have a4 : W0.cell? ⟨w.heap.size, 4, none⟩ = some (.int .i64 lo) := hK.cell 4
  have a5 : W0.cell? ⟨w.heap.size, 5, none⟩ = some (.slice Ac nc cc) := hK.cell 5
  have a6 : W0.cell? ⟨w.heap.size, 6, none⟩ = some (.slice At nt ct) := hK.cell 6
  have a7 : W0.cell? ⟨w.heap.size, 7, none⟩ = some (.slice Am nm cm) := hK.cell 7
  have b0 : W0.cell? ⟨w.heap.size + 1, 0, none⟩ = some (.int .i64 f) := hK2.cell 0
  have b1 : W0.cell? ⟨w.heap.size + 1, 1, none⟩ = some (.int .i64 x) := hK2.cell 1
  have b2 : W0.cell? ⟨w.heap.size + 1, 2, none⟩ = some (.int .i64 y) := hK2.cell 2
  have b3 : W0.cell? ⟨w.heap.size + 1, 3, none⟩ = some (.int .i64 st) := hK2.cell 3
  have b4 : W0.cell? ⟨w.heap.size + 1, 4, none⟩ = some (.int .i64 lo) := hK2.cell 4
  have b5 : W0.cell? ⟨w.heap.size + 1, 5, none⟩ = some (.slice Bc nc dc) := hK2.cell 5
  have b6 : W0.cell? ⟨w.heap.size + 1, 6, none⟩ = some (.slice Bt nt dt) := hK2.cell 6
  have b7 : W0.cell? ⟨w.heap.size + 1, 7, none⟩ = some (.slice Bm nm dm) := hK2.cell 7
  clear hI hJ hs hcl htl hml hO0 hb0 hK hK2 hW0
  go_enter Try.func20, Try.ntmps20
  go_wp2_with fail
  rw [← HW0.out]
  go_wp2
  rw [v1]
  go_wp2
  go_loopw [4, 70] (fun a i wr => ∃ k q : Nat, k ≤ nt ∧ a = .bool false ∧ i = .int .i64 (k : Int) ∧ wr = W0.drewN q) (fun _ i _ => nt - (intOf i).toNat)
  case atStart => exact ⟨0, 0, Nat.zero_le _, rfl, rfl, rfl⟩
  case round =>
    obtain ⟨k, q, hk, rfl, rfl, rfl⟩ := hrel
    by_cases hlt : k < nt
    · obtain ⟨b, o, t, cs, rfl, hx, hb, hr, hcs⟩ := HI.out.traps.at_ hlt
      have hr : cs = TrapD.cells t := hr
      subst hr
      obtain ⟨b', o2, t', ds, rfl, hy, hb2, hr2, hds⟩ := HJ.out.traps.at_ hlt
      have hr2 : ds = TrapD.cells t' := hr2
      subst hr2
      obtain rfl : t = t' := by rw [hx] at hy; exact Option.some.inj hy
      obtain ⟨t0, t1, t2, t3⟩ := t
      have h0 : W0.cell? ⟨b, o + k * 4, none⟩ = some (.int .i64 t0) := hcs 0 _ rfl
      have h1 : W0.cell? ⟨b, o + k * 4 + 1, none⟩ = some (.int .i64 t1) := hcs 1 _ rfl
      have h2 : W0.cell? ⟨b, o + k * 4 + 2, none⟩ = some (.int .i64 t2) := hcs 2 _ rfl
      have h3 : W0.cell? ⟨b, o + k * 4 + 3, none⟩ = some (.int .i64 t3) := hcs 3 _ rfl
      have g0 : W0.cell? ⟨b', o2 + k * 4, none⟩ = some (.int .i64 t0) := hds 0 _ rfl
      have g1 : W0.cell? ⟨b', o2 + k * 4 + 1, none⟩ = some (.int .i64 t1) := hds 1 _ rfl
      have g2 : W0.cell? ⟨b', o2 + k * 4 + 2, none⟩ = some (.int .i64 t2) := hds 2 _ rfl
      have g3 : W0.cell? ⟨b', o2 + k * 4 + 3, none⟩ = some (.int .i64 t3) := hds 3 _ rfl
      have HQ := neq_trap t0 t1 t2 t3
      clear hx hy hcs hds v1 v2
      go_wp2
      go_quiet (fail)
      go_wp2
      go_roundw
      case rel => exact ⟨k + 1, q + nq, by omega, rfl, by go_num, by simp⟩
      case measure => simp [intOf]; omega
    · obtain rfl : k = nt := by omega
      clear a0 a1 a2 a3 a4 a5 a6 b0 b1 b2 b3 b4 b5 b6 v1 v2
      go_wp2
      go_loopw [4, 88] (fun a i wr => ∃ j : Nat, j ≤ nm ∧ a = .bool false ∧ i = .int .i64 (j : Int) ∧ Hid (Below W0.heap.size W0 wr)) (fun _ i _ => nm - (intOf i).toNat)
      case atStart => exact ⟨0, Nat.zero_le _, rfl, rfl, Lib.hid ((Below.refl _ _).drewN q)⟩
      case round =>
        clear a7 b7
        obtain ⟨j, hj, rfl, rfl, HB⟩ := hrel
        by_cases hlt2 : j < nm
        · have HKr := Lib.hid (HK.out.of (HB.out.block _ HK.out.lt))
          have HKr2 := Lib.hid (HK2.out.of (HB.out.block _ HK2.out.lt))
          obtain ⟨b, o, t, cs, rfl, hx, hb, hr, hcs⟩ := (HI.out.below HB.out).maps.at_ hlt2
          obtain ⟨b', o2, t', ds, rfl, hy, hb2, hr2, hds⟩ := (HJ.out.below HB.out).maps.at_ hlt2
          obtain rfl : t = t' := by rw [hx] at hy; exact Option.some.inj hy
          have hsl := Hsl.out t (List.mem_of_getElem? hx)
          obtain ⟨ta, ts1, ts2⟩ := t
          obtain ⟨u1, u2, rfl, ⟨B1, n1, d1, e1, hr1⟩, ⟨B2, n2, d2, e2, hr2a⟩⟩ := hr
          obtain ⟨u3, u4, rfl, ⟨B3, n3, d3, e3, hr3⟩, ⟨B4, n4, d4, e4, hr4⟩⟩ := hr2
          cases e1
          cases e2
          cases e3
          cases e4
          have hr1 : RowS slotT wr Empty B1 n1 d1 ts1 := hr1
          have hr2a : RowS slotT wr Empty B2 n2 d2 ts2 := hr2a
          have hr3 : RowS slotT wr Empty B3 n3 d3 ts1 := hr3
          have hr4 : RowS slotT wr Empty B4 n4 d4 ts2 := hr4
          obtain rfl : n1 = n3 := by rw [← hr1.1, ← hr3.1]
          obtain rfl : n2 = n4 := by rw [← hr2a.1, ← hr4.1]
          have hn1 : n1 ≤ 64 := by have h := hsl.1; simp only at h; have := hr1.1; omega
          have hn2 : n2 ≤ 64 := by have h := hsl.2; simp only at h; have := hr2a.1; omega
          have HSS : Hid (∀ W, Below wr.heap.size wr W → W.cell? ⟨w.heap.size, 7, none⟩ = some (.slice (some ⟨b, o, none⟩) nm cm) ∧ W.cell? ⟨w.heap.size + 1, 7, none⟩ = some (.slice (some ⟨b', o2, none⟩) nm dm) ∧ W.cell? ⟨b, o + j * 3, none⟩ = some (.int .i64 ta) ∧ W.cell? ⟨b, o + j * 3 + 1, none⟩ = some (.slice B1 n1 d1) ∧ W.cell? ⟨b, o + j * 3 + 2, none⟩ = some (.slice B2 n2 d2) ∧ W.cell? ⟨b', o2 + j * 3, none⟩ = some (.int .i64 ta) ∧ W.cell? ⟨b', o2 + j * 3 + 1, none⟩ = some (.slice B3 n1 d3) ∧ W.cell? ⟨b', o2 + j * 3 + 2, none⟩ = some (.slice B4 n2 d4)) := Lib.hid (fun W h => by
            have hc : ∀ (g i : Nat), g < wr.heap.size → W.cell? ⟨g, i, none⟩ = wr.cell? ⟨g, i, none⟩ := fun g i hg => World.cell?_of_block (w := wr) (h.block g hg)
            refine ⟨(HKr.out.of (h.block _ HKr.out.lt)).cell 7, (HKr2.out.of (h.block _ HKr2.out.lt)).cell 7, ?_, ?_, ?_, ?_, ?_, ?_⟩
            · rw [hc _ _ hb]; exact hcs 0 _ rfl
            · rw [hc _ _ hb]; exact hcs 1 _ rfl
            · rw [hc _ _ hb]; exact hcs 2 _ rfl
            · rw [hc _ _ hb2]; exact hds 0 _ rfl
            · rw [hc _ _ hb2]; exact hds 1 _ rfl
            · rw [hc _ _ hb2]; exact hds 2 _ rfl)
          have C1 : Hid (∀ W, Below wr.heap.size wr W → Calls Try.prog 36 #[.slice B1 n1 d1, .slice B3 n1 d3] W fun e w' => e = .returned (.bool true) ∧ ∃ q, w' = W.drewN q) := Lib.hid (fun W h => r14sameSlots_same B1 B3 n1 d1 d3 ts1 W (hr1.below h) (hr3.below h) (by omega))
          have C2 : Hid (∀ W, Below wr.heap.size wr W → Calls Try.prog 36 #[.slice B2 n2 d2, .slice B4 n2 d4] W fun e w' => e = .returned (.bool true) ∧ ∃ q, w' = W.drewN q) := Lib.hid (fun W h => r14sameSlots_same B2 B4 n2 d2 d4 ts2 W (hr2a.below h) (hr4.below h) (by omega))
          clear hx hy hcs hds hsl hr1 hr2a hr3 hr4
          go_wp2_with fail
          refine wp_region_held_drew (S := fun W => W.cell? ⟨w.heap.size, 7, none⟩ = some (.slice (some ⟨b, o, none⟩) nm cm) ∧ W.cell? ⟨w.heap.size + 1, 7, none⟩ = some (.slice (some ⟨b', o2, none⟩) nm dm) ∧ W.cell? ⟨b, o + j * 3, none⟩ = some (.int .i64 ta) ∧ W.cell? ⟨b, o + j * 3 + 1, none⟩ = some (.slice B1 n1 d1) ∧ W.cell? ⟨b, o + j * 3 + 2, none⟩ = some (.slice B2 n2 d2) ∧ W.cell? ⟨b', o2 + j * 3, none⟩ = some (.int .i64 ta) ∧ W.cell? ⟨b', o2 + j * 3 + 1, none⟩ = some (.slice B3 n1 d3) ∧ W.cell? ⟨b', o2 + j * 3 + 2, none⟩ = some (.slice B4 n2 d4)) (by kernel_rfl) (HSS.out _ ((Below.refl _ _).drewN 1)) (fun hHeld0 => ?_)
          refine take_yes 0 91 ?_ rfl rfl (by kernel_rfl) (by kernel_rfl) (by kernel_rfl) (fun _ _ _ h => h) (by kernel_rfl) ?_ (by assumption) ?_; rotate_left; (focus (intro w hSw; (try dsimp only at hSw); go_simp; all_goals first | with_reducible rfl)); simp only [Act.put, List.setIfInBounds_toArray, List.set_cons_zero, List.set_cons_succ]
          refine take_yes 1 92 ?_ rfl rfl (by kernel_rfl) (by kernel_rfl) (by kernel_rfl) (fun _ _ _ h => h) (by kernel_rfl) ?_ (by assumption) ?_; rotate_left; (focus (intro w hSw; (try dsimp only at hSw); go_simp; all_goals first | with_reducible rfl)); simp only [Act.put, List.setIfInBounds_toArray, List.set_cons_zero, List.set_cons_succ]
          refine take_yes 2 93 ?_ rfl rfl (by kernel_rfl) (by kernel_rfl) (by kernel_rfl) (fun _ _ _ h => h) (by kernel_rfl) ?_ (by assumption) ?_; rotate_left; (focus (intro w hSw; (try dsimp only at hSw); go_simp; all_goals first | with_reducible rfl)); simp only [Act.put, List.setIfInBounds_toArray, List.set_cons_zero, List.set_cons_succ]
          refine take_yes 3 94 ?_ rfl rfl (by kernel_rfl) (by kernel_rfl) (by kernel_rfl) (fun _ _ _ h => h) (by kernel_rfl) ?_ (by assumption) ?_; rotate_left; (focus (intro w hSw; (try dsimp only at hSw); go_simp; all_goals first | with_reducible rfl)); simp only [Act.put, List.setIfInBounds_toArray, List.set_cons_zero, List.set_cons_succ]
          refine take_yes 4 95 ?_ rfl rfl (by kernel_rfl) (by kernel_rfl) (by kernel_rfl) (fun _ _ _ h => h) (by kernel_rfl) ?_ (by assumption) ?_; rotate_left; (focus (intro w hSw; (try dsimp only at hSw); go_simp; all_goals first | with_reducible rfl)); simp only [Act.put, List.setIfInBounds_toArray, List.set_cons_zero, List.set_cons_succ]
          refine take_yes 5 96 ?_ rfl rfl (by kernel_rfl) (by kernel_rfl) (by kernel_rfl) (fun _ _ _ h => h) (by kernel_rfl) ?_ (by assumption) ?_; rotate_left; (focus (intro w hSw; (try dsimp only at hSw); go_simp; all_goals first | with_reducible rfl)); simp only [Act.put, List.setIfInBounds_toArray, List.set_cons_zero, List.set_cons_succ]
          refine take_yes 6 97 ?_ rfl rfl (by kernel_rfl) (by kernel_rfl) (by kernel_rfl) (fun _ _ _ h => h) (by kernel_rfl) ?_ (by assumption) ?_; rotate_left; (focus (intro w hSw; (try dsimp only at hSw); go_simp; all_goals first | with_reducible rfl)); simp only [Act.put, List.setIfInBounds_toArray, List.set_cons_zero, List.set_cons_succ]
          refine take_yes 7 98 ?_ rfl rfl (by kernel_rfl) (by kernel_rfl) (by kernel_rfl) (fun _ _ _ h => h) (by kernel_rfl) ?_ (by assumption) ?_; rotate_left; (focus (intro w hSw; (try dsimp only at hSw); go_simp; all_goals first | with_reducible rfl)); simp only [Act.put, List.setIfInBounds_toArray, List.set_cons_zero, List.set_cons_succ]
          refine take_yes 8 99 ?_ rfl rfl (by kernel_rfl) (by kernel_rfl) (by kernel_rfl) (fun _ _ _ h => h) (by kernel_rfl) ?_ (by assumption) ?_; rotate_left; (focus (intro w hSw; (try dsimp only at hSw); go_simp; all_goals first | with_reducible rfl)); simp only [Act.put, List.setIfInBounds_toArray, List.set_cons_zero, List.set_cons_succ]
          refine take_yes 9 100 ?_ rfl rfl (by kernel_rfl) (by kernel_rfl) (by kernel_rfl) (fun _ _ _ h => h) (by kernel_rfl) ?_ (by assumption) ?_; rotate_left; (focus (intro w hSw; (try dsimp only at hSw); go_simp; all_goals first | with_reducible rfl)); simp only [Act.put, List.setIfInBounds_toArray, List.set_cons_zero, List.set_cons_succ]
          refine take_yes 10 101 ?_ rfl rfl (by kernel_rfl) (by kernel_rfl) (by kernel_rfl) (fun _ _ _ h => h) (by kernel_rfl) ?_ (by assumption) ?_; rotate_left; (focus (intro w hSw; (try dsimp only at hSw); go_simp; all_goals first | with_reducible rfl)); simp only [Act.put, List.setIfInBounds_toArray, List.set_cons_zero, List.set_cons_succ]
          refine take_yes 11 102 ?_ rfl rfl (by kernel_rfl) (by kernel_rfl) (by kernel_rfl) (fun _ _ _ h => h) (by kernel_rfl) ?_ (by assumption) ?_; rotate_left; (focus (intro w hSw; (try dsimp only at hSw); go_simp; all_goals first | with_reducible rfl)); simp only [Act.put, List.setIfInBounds_toArray, List.set_cons_zero, List.set_cons_succ]
          refine take_yes 12 103 (.bool false) rfl rfl (by kernel_rfl) (by kernel_rfl) (by kernel_rfl) (fun _ _ _ h => h) (by kernel_rfl) ?_ (by assumption) ?_; (focus (intro w hSw; (try dsimp only at hSw); go_simp; all_goals first | with_reducible rfl)); simp only [Act.put, List.setIfInBounds_toArray, List.set_cons_zero, List.set_cons_succ]
          refine take_yes 13 104 (.bool false) rfl rfl (by kernel_rfl) (by kernel_rfl) (by kernel_rfl) (fun _ _ _ h => h) (by kernel_rfl) ?_ (by assumption) ?_; (focus (intro w hSw; (try dsimp only at hSw); go_simp; all_goals first | with_reducible rfl)); simp only [Act.put, List.setIfInBounds_toArray, List.set_cons_zero, List.set_cons_succ]
          refine take_yes 14 105 ?_ rfl rfl (by kernel_rfl) (by kernel_rfl) (by kernel_rfl) (fun _ _ _ h => h) (by kernel_rfl) ?_ (by assumption) ?_; rotate_left; (focus (intro w hSw; (try dsimp only at hSw); go_simp; all_goals first | with_reducible rfl)); simp only [Act.put, List.setIfInBounds_toArray, List.set_cons_zero, List.set_cons_succ]
          refine take_yes 15 106 ?_ rfl rfl (by kernel_rfl) (by kernel_rfl) (by kernel_rfl) (fun _ _ _ h => h) (by kernel_rfl) ?_ (by assumption) ?_; rotate_left; (focus (intro w hSw; (try dsimp only at hSw); go_simp; all_goals first | with_reducible rfl)); simp only [Act.put, List.setIfInBounds_toArray, List.set_cons_zero, List.set_cons_succ]
          refine take_yes 16 107 ?_ rfl rfl (by kernel_rfl) (by kernel_rfl) (by kernel_rfl) (fun _ _ _ h => h) (by kernel_rfl) ?_ (by assumption) ?_; rotate_left; (focus (intro w hSw; (try dsimp only at hSw); go_simp; all_goals first | with_reducible rfl)); simp only [Act.put, List.setIfInBounds_toArray, List.set_cons_zero, List.set_cons_succ]
          refine take_yes 17 108 ?_ rfl rfl (by kernel_rfl) (by kernel_rfl) (by kernel_rfl) (fun _ _ _ h => h) (by kernel_rfl) ?_ (by assumption) ?_; rotate_left; (focus (intro w hSw; (try dsimp only at hSw); go_simp; all_goals first | with_reducible rfl)); simp only [Act.put, List.setIfInBounds_toArray, List.set_cons_zero, List.set_cons_succ]
          refine take_yes 18 109 ?_ rfl rfl (by kernel_rfl) (by kernel_rfl) (by kernel_rfl) (fun _ _ _ h => h) (by kernel_rfl) ?_ (by assumption) ?_; rotate_left; (focus (intro w hSw; (try dsimp only at hSw); go_simp; all_goals first | with_reducible rfl)); simp only [Act.put, List.setIfInBounds_toArray, List.set_cons_zero, List.set_cons_succ]
          refine take_yes 19 110 ?_ rfl rfl (by kernel_rfl) (by kernel_rfl) (by kernel_rfl) (fun _ _ _ h => h) (by kernel_rfl) ?_ (by assumption) ?_; rotate_left; (focus (intro w hSw; (try dsimp only at hSw); go_simp; all_goals first | with_reducible rfl)); simp only [Act.put, List.setIfInBounds_toArray, List.set_cons_zero, List.set_cons_succ]
          refine take_yes 20 111 ?_ rfl rfl (by kernel_rfl) (by kernel_rfl) (by kernel_rfl) (fun _ _ _ h => h) (by kernel_rfl) ?_ (by assumption) ?_; rotate_left; (focus (intro w hSw; (try dsimp only at hSw); go_simp; all_goals first | with_reducible rfl)); simp only [Act.put, List.setIfInBounds_toArray, List.set_cons_zero, List.set_cons_succ]
          refine take_yes 21 112 ?_ rfl rfl (by kernel_rfl) (by kernel_rfl) (by kernel_rfl) (fun _ _ _ h => h) (by kernel_rfl) ?_ (by assumption) ?_; rotate_left; (focus (intro w hSw; (try dsimp only at hSw); go_simp; all_goals first | with_reducible rfl)); simp only [Act.put, List.setIfInBounds_toArray, List.set_cons_zero, List.set_cons_succ]
          refine take_yes 22 113 ?_ rfl rfl (by kernel_rfl) (by kernel_rfl) (by kernel_rfl) (fun _ _ _ h => h) (by kernel_rfl) ?_ (by assumption) ?_; rotate_left; (focus (intro w hSw; (try dsimp only at hSw); go_simp; all_goals first | with_reducible rfl)); simp only [Act.put, List.setIfInBounds_toArray, List.set_cons_zero, List.set_cons_succ]
          refine take_yes 23 114 ?_ rfl rfl (by kernel_rfl) (by kernel_rfl) (by kernel_rfl) (fun _ _ _ h => h) (by kernel_rfl) ?_ (by assumption) ?_; rotate_left; (focus (intro w hSw; (try dsimp only at hSw); go_simp; all_goals first | with_reducible rfl)); simp only [Act.put, List.setIfInBounds_toArray, List.set_cons_zero, List.set_cons_succ]
          refine take_yes 24 115 ?_ rfl rfl (by kernel_rfl) (by kernel_rfl) (by kernel_rfl) (fun _ _ _ h => h) (by kernel_rfl) ?_ (by assumption) ?_; rotate_left; (focus (intro w hSw; (try dsimp only at hSw); go_simp; all_goals first | with_reducible rfl)); simp only [Act.put, List.setIfInBounds_toArray, List.set_cons_zero, List.set_cons_succ]
          refine take_yes 25 116 ?_ rfl rfl (by kernel_rfl) (by kernel_rfl) (by kernel_rfl) (fun _ _ _ h => h) (by kernel_rfl) ?_ (by assumption) ?_; rotate_left; (focus (intro w hSw; (try dsimp only at hSw); go_simp; all_goals first | with_reducible rfl)); simp only [Act.put, List.setIfInBounds_toArray, List.set_cons_zero, List.set_cons_succ]
          refine wpAnyH_ready (rs := [26]) (by kernel_rfl) (by simp) ?_
          refine AllReadyH.cons rfl (fun K hK => ?_) AllReadyH.nil
          go_simp
          go_at_call 36
          refine (C1.out wr.drew ((Below.refl _ _).drewN 1)).mono ?_
          rintro e w5 ⟨rfl, hq5⟩
          have HB5 : Hid (Below wr.heap.size wr w5) := Lib.hid (by
            obtain ⟨q5, rfl⟩ := hq5
            exact ((Below.refl _ _).drewN 1).drewN q5)
          clear hq5
          go_wp2_with fail
          refine hK.out _ _ ((HSS.out _ HB5.out)) (fun _ => ?_)
          clear hK K
          try simp only [Act.put, List.setIfInBounds_toArray, List.set_cons_zero, List.set_cons_succ]
          refine take_yes 27 118 ?_ rfl rfl (by kernel_rfl) (by kernel_rfl) (by kernel_rfl) (fun _ _ _ h => h) (by kernel_rfl) ?_ (by assumption) ?_; rotate_left; (focus (intro w hSw; (try dsimp only at hSw); go_simp; all_goals first | with_reducible rfl)); simp only [Act.put, List.setIfInBounds_toArray, List.set_cons_zero, List.set_cons_succ]
          refine take_yes 28 119 ?_ rfl rfl (by kernel_rfl) (by kernel_rfl) (by kernel_rfl) (fun _ _ _ h => h) (by kernel_rfl) ?_ (by assumption) ?_; rotate_left; (focus (intro w hSw; (try dsimp only at hSw); go_simp; all_goals first | with_reducible rfl)); simp only [Act.put, List.setIfInBounds_toArray, List.set_cons_zero, List.set_cons_succ]
          refine take_yes 29 120 ?_ rfl rfl (by kernel_rfl) (by kernel_rfl) (by kernel_rfl) (fun _ _ _ h => h) (by kernel_rfl) ?_ (by assumption) ?_; rotate_left; (focus (intro w hSw; (try dsimp only at hSw); go_simp; all_goals first | with_reducible rfl)); simp only [Act.put, List.setIfInBounds_toArray, List.set_cons_zero, List.set_cons_succ]
          refine take_yes 30 121 ?_ rfl rfl (by kernel_rfl) (by kernel_rfl) (by kernel_rfl) (fun _ _ _ h => h) (by kernel_rfl) ?_ (by assumption) ?_; rotate_left; (focus (intro w hSw; (try dsimp only at hSw); go_simp; all_goals first | with_reducible rfl)); simp only [Act.put, List.setIfInBounds_toArray, List.set_cons_zero, List.set_cons_succ]
          refine take_yes 31 122 ?_ rfl rfl (by kernel_rfl) (by kernel_rfl) (by kernel_rfl) (fun _ _ _ h => h) (by kernel_rfl) ?_ (by assumption) ?_; rotate_left; (focus (intro w hSw; (try dsimp only at hSw); go_simp; all_goals first | with_reducible rfl)); simp only [Act.put, List.setIfInBounds_toArray, List.set_cons_zero, List.set_cons_succ]
          refine take_yes 32 123 ?_ rfl rfl (by kernel_rfl) (by kernel_rfl) (by kernel_rfl) (fun _ _ _ h => h) (by kernel_rfl) ?_ (by assumption) ?_; rotate_left; (focus (intro w hSw; (try dsimp only at hSw); go_simp; all_goals first | with_reducible rfl)); simp only [Act.put, List.setIfInBounds_toArray, List.set_cons_zero, List.set_cons_succ]
          refine take_yes 33 124 ?_ rfl rfl (by kernel_rfl) (by kernel_rfl) (by kernel_rfl) (fun _ _ _ h => h) (by kernel_rfl) ?_ (by assumption) ?_; rotate_left; (focus (intro w hSw; (try dsimp only at hSw); go_simp; all_goals first | with_reducible rfl)); simp only [Act.put, List.setIfInBounds_toArray, List.set_cons_zero, List.set_cons_succ]
          refine take_yes 34 125 ?_ rfl rfl (by kernel_rfl) (by kernel_rfl) (by kernel_rfl) (fun _ _ _ h => h) (by kernel_rfl) ?_ (by assumption) ?_; rotate_left; (focus (intro w hSw; (try dsimp only at hSw); go_simp; all_goals first | with_reducible rfl)); simp only [Act.put, List.setIfInBounds_toArray, List.set_cons_zero, List.set_cons_succ]
          refine take_yes 35 126 ?_ rfl rfl (by kernel_rfl) (by kernel_rfl) (by kernel_rfl) (fun _ _ _ h => h) (by kernel_rfl) ?_ (by assumption) ?_; rotate_left; (focus (intro w hSw; (try dsimp only at hSw); go_simp; all_goals first | with_reducible rfl)); simp only [Act.put, List.setIfInBounds_toArray, List.set_cons_zero, List.set_cons_succ]
          refine take_yes 36 127 ?_ rfl rfl (by kernel_rfl) (by kernel_rfl) (by kernel_rfl) (fun _ _ _ h => h) (by kernel_rfl) ?_ (by assumption) ?_; rotate_left; (focus (intro w hSw; (try dsimp only at hSw); go_simp; all_goals first | with_reducible rfl)); simp only [Act.put, List.setIfInBounds_toArray, List.set_cons_zero, List.set_cons_succ]
          refine take_yes 37 128 ?_ rfl rfl (by kernel_rfl) (by kernel_rfl) (by kernel_rfl) (fun _ _ _ h => h) (by kernel_rfl) ?_ (by assumption) ?_; rotate_left; (focus (intro w hSw; (try dsimp only at hSw); go_simp; all_goals first | with_reducible rfl)); simp only [Act.put, List.setIfInBounds_toArray, List.set_cons_zero, List.set_cons_succ]
          refine take_yes 38 129 ?_ rfl rfl (by kernel_rfl) (by kernel_rfl) (by kernel_rfl) (fun _ _ _ h => h) (by kernel_rfl) ?_ (by assumption) ?_; rotate_left; (focus (intro w hSw; (try dsimp only at hSw); go_simp; all_goals first | with_reducible rfl)); simp only [Act.put, List.setIfInBounds_toArray, List.set_cons_zero, List.set_cons_succ]
          refine take_yes 39 130 ?_ rfl rfl (by kernel_rfl) (by kernel_rfl) (by kernel_rfl) (fun _ _ _ h => h) (by kernel_rfl) ?_ (by assumption) ?_; rotate_left; (focus (intro w hSw; (try dsimp only at hSw); go_simp; all_goals first | with_reducible rfl)); simp only [Act.put, List.setIfInBounds_toArray, List.set_cons_zero, List.set_cons_succ]
          refine take_yes 40 131 ?_ rfl rfl (by kernel_rfl) (by kernel_rfl) (by kernel_rfl) (fun _ _ _ h => h) (by kernel_rfl) ?_ (by assumption) ?_; rotate_left; (focus (intro w hSw; (try dsimp only at hSw); go_simp; all_goals first | with_reducible rfl)); simp only [Act.put, List.setIfInBounds_toArray, List.set_cons_zero, List.set_cons_succ]
          refine take_yes 41 132 ?_ rfl rfl (by kernel_rfl) (by kernel_rfl) (by kernel_rfl) (fun _ _ _ h => h) (by kernel_rfl) ?_ (by assumption) ?_; rotate_left; (focus (intro w hSw; (try dsimp only at hSw); go_simp; all_goals first | with_reducible rfl)); simp only [Act.put, List.setIfInBounds_toArray, List.set_cons_zero, List.set_cons_succ]
          refine wpAnyH_ready (rs := [42]) (by kernel_rfl) (by simp) ?_
          refine AllReadyH.cons rfl (fun K hK => ?_) AllReadyH.nil
          go_simp
          go_at_call 36
          refine (C2.out _ HB5.out).mono ?_
          rintro e w6 ⟨rfl, hq6⟩
          have HB6 : Hid (Below wr.heap.size wr w6) := Lib.hid (by
            obtain ⟨q6, rfl⟩ := hq6
            exact HB5.out.drewN q6)
          clear hq6
          go_wp2_with fail
          refine hK.out _ _ ((HSS.out _ HB6.out)) (fun _ => ?_)
          clear hK K
          try simp only [Act.put, List.setIfInBounds_toArray, List.set_cons_zero, List.set_cons_succ]
          refine take_yes 43 134 ?_ rfl rfl (by kernel_rfl) (by kernel_rfl) (by kernel_rfl) (fun _ _ _ h => h) (by kernel_rfl) ?_ (by assumption) ?_; rotate_left; (focus (intro w hSw; (try dsimp only at hSw); go_simp; all_goals first | with_reducible rfl)); simp only [Act.put, List.setIfInBounds_toArray, List.set_cons_zero, List.set_cons_succ]
          refine take_yes 44 135 ?_ rfl rfl (by kernel_rfl) (by kernel_rfl) (by kernel_rfl) (fun _ _ _ h => h) (by kernel_rfl) ?_ (by assumption) ?_; rotate_left; (focus (intro w hSw; (try dsimp only at hSw); go_simp; all_goals first | with_reducible rfl)); simp only [Act.put, List.setIfInBounds_toArray, List.set_cons_zero, List.set_cons_succ]
          refine wpAnyH_done (by kernel_rfl) ?_ _
          go_wp2
          go_roundw
          case rel => exact ⟨j + 1, by omega, rfl, by go_num, Lib.hid (HB.out.trans (HB6.out.mono HB.out.size))⟩
          case measure => simp [intOf]; omega
        · obtain rfl : j = nm := by omega
          go_wp2
          go_ret
          exact ⟨rfl, HB0.out.trans (HB.out.mono HB0.out.size)⟩

end Go.Proofs.Ytendpbklcgiafaa

/- The walk over the document's Same, where all is the same (layer 14). -/
namespace Go.Proofs.Ytendpbklcgiafaa
set_option maxRecDepth 100000
open Go.RowKit

theorem neq_field (a b c : Int) (W : World) : (binOp .neq 51 (.agg #[.int .i64 a, .int .i64 b, .int .i64 c]) (.agg #[.int .i64 a, .int .i64 b, .int .i64 c])).run Try.prog W = .ok (.bool false) W := by
  rw [run_neq_struct]
  simp [go_sem, Try.underlying51]
/-- A method's cells. -/
def methCells (m : MethD) (Ac : Option Addr) (nc cc : Nat) (At : Option Addr) (nt ct : Nat) (Am : Option Addr) (nm cm : Nat) : List Value := [.int .i64 m.flags, .int .i64 m.name, .int .i64 m.desc, .int .i64 m.body.stack, .int .i64 m.body.locals, .slice Ac nc cc, .slice At nt ct, .slice Am nm cm]
theorem meth_open {w : World} {cs : List Value} {m : MethD} (h : methD.rep w Empty cs m) : ∃ Ac nc cc At nt ct Am nm cm, cs = methCells m Ac nc cc At nt ct Am nm cm ∧ BodyIn w Ac nc cc At nt ct Am nm cm m.body := by
  obtain ⟨m0, m1, m2, bd⟩ := m
  obtain ⟨cb, rfl, hbd⟩ := h
  obtain ⟨st, lo, cd, tr, mp⟩ := bd
  obtain ⟨uc, ut, um, rfl, ⟨Ac, nc, cc, e1, hB1, hn1⟩, ⟨At, nt, ct, e2, hr1⟩, ⟨An, ni, ci, e3, hr2⟩⟩ := hbd
  cases e1
  cases e2
  cases e3
  exact ⟨Ac, nc, cc, At, nt, ct, An, ni, ci, rfl, hB1, hn1, hr1, hr2⟩

set_option maxHeartbeats 8000000 in
theorem r14Same_same (A : Option Addr) (n cap : Nat) (Af : Option Addr) (nf cf : Nat) (Am : Option Addr) (nm cm : Nat) (B : Option Addr) (cap2 : Nat) (Bf : Option Addr) (cf2 : Nat) (Bm : Option Addr) (cm2 : Nat) (x0 y0 : Int) (f : FileD) (w : World)
    (hI : FileIn w A n cap Af nf cf Am nm cm f) (hJ : FileIn w B n cap2 Bf nf cf2 Bm nm cm2 f) (hn : n ≤ 1000000) (hsm : ∀ m ∈ f.meths, BodySm m.body) (hf7 : nf ≤ 1000000) (hm7 : nm ≤ 1000000) :
    Calls Try.prog 9 #[.agg #[.slice A n cap, .int .i64 x0, .int .i64 y0, .slice Af nf cf, .slice Am nm cm], .agg #[.slice B n cap2, .int .i64 x0, .int .i64 y0, .slice Bf nf cf2, .slice Bm nm cm2]] w fun e w' => e = .returned (.bool true) ∧ Below w.heap.size w w' := by
  obtain ⟨W0, hW0⟩ : ∃ W0, W0 = (w.alloc (.cells #[.slice A n cap, .int .i64 x0, .int .i64 y0, .slice Af nf cf, .slice Am nm cm] 26)).alloc (.cells #[.slice B n cap2, .int .i64 x0, .int .i64 y0, .slice Bf nf cf2, .slice Bm nm cm2] 26) := ⟨_, rfl⟩
  have hO0 : Only Empty w W0 := by rw [hW0]; exact ((Only.refl _ _).alloc _).alloc _
  have hb0 : Below w.heap.size w W0 := hO0.below (Nat.le_refl _) (fun _ _ h => h)
  have hK : Blk W0 w.heap.size 26 #[.slice A n cap, .int .i64 x0, .int .i64 y0, .slice Af nf cf, .slice Am nm cm] := by rw [hW0]; exact (Blk.new _ _ _).alloc _
  have hK2 : Blk W0 (w.heap.size + 1) 26 #[.slice B n cap2, .int .i64 x0, .int .i64 y0, .slice Bf nf cf2, .slice Bm nm cm2] := by
    have h := Blk.new (w.alloc (.cells #[.slice A n cap, .int .i64 x0, .int .i64 y0, .slice Af nf cf, .slice Am nm cm] 26)) 26 #[.slice B n cap2, .int .i64 x0, .int .i64 y0, .slice Bf nf cf2, .slice Bm nm cm2]
    rw [show (w.alloc (.cells #[.slice A n cap, .int .i64 x0, .int .i64 y0, .slice Af nf cf, .slice Am nm cm] 26)).heap.size = w.heap.size + 1 by simp] at h
    rw [hW0]
    exact h
  have HI := Lib.hid (hI.below hb0)
  have HJ := Lib.hid (hJ.below hb0)
  have CS := Lib.hid (refSame_cst A B n cap cap2 f.pool W0 HI.out.pool HJ.out.pool hn)
  have hcap : (cap ≤ 9223372036854775807 ∧ cf ≤ 9223372036854775807 ∧ cm ≤ 9223372036854775807 ∧ n ≤ cap ∧ nf ≤ cf ∧ nm ≤ cm) ∧ cap2 ≤ 9223372036854775807 ∧ cf2 ≤ 9223372036854775807 ∧ cm2 ≤ 9223372036854775807 ∧ n ≤ cap2 ∧ nf ≤ cf2 ∧ nm ≤ cm2 := ⟨⟨by have h := hI.pool.2.2.1; unfold maxLen at h; omega, by have h := hI.fields.2.2.1; unfold maxLen at h; omega, by have h := hI.meths.2.2.1; unfold maxLen at h; omega, hI.pool.2.1, hI.fields.2.1, hI.meths.2.1⟩, by have h := hJ.pool.2.2.1; unfold maxLen at h; omega, by have h := hJ.fields.2.2.1; unfold maxLen at h; omega, by have h := hJ.meths.2.2.1; unfold maxLen at h; omega, hJ.pool.2.1, hJ.fields.2.1, hJ.meths.2.1⟩
  have HB0 := Lib.hid hb0
  have HK := Lib.hid hK
  have HK2 := Lib.hid hK2
  have HW0 := Lib.hid hW0
  have HSm := Lib.hid hsm
  have a0 : W0.cell? ⟨w.heap.size, 0, none⟩ = some (.slice A n cap) := hK.cell 0
  have a1 : W0.cell? ⟨w.heap.size, 1, none⟩ = some (.int .i64 x0) := hK.cell 1
  have a2 : W0.cell? ⟨w.heap.size, 2, none⟩ = some (.int .i64 y0) := hK.cell 2
  have a3 : W0.cell? ⟨w.heap.size, 3, none⟩ = some (.slice Af nf cf) := hK.cell 3
  have a4 : W0.cell? ⟨w.heap.size, 4, none⟩ = some (.slice Am nm cm) := hK.cell 4
  have b0 : W0.cell? ⟨w.heap.size + 1, 0, none⟩ = some (.slice B n cap2) := hK2.cell 0
  have b1 : W0.cell? ⟨w.heap.size + 1, 1, none⟩ = some (.int .i64 x0) := hK2.cell 1
  have b2 : W0.cell? ⟨w.heap.size + 1, 2, none⟩ = some (.int .i64 y0) := hK2.cell 2
  have b3 : W0.cell? ⟨w.heap.size + 1, 3, none⟩ = some (.slice Bf nf cf2) := hK2.cell 3
  have b4 : W0.cell? ⟨w.heap.size + 1, 4, none⟩ = some (.slice Bm nm cm2) := hK2.cell 4
  clear hI hJ hsm hO0 hb0 hK hK2 hW0
  go_enter Try.func9, Try.ntmps9
  go_wp2_with fail
  rw [← HW0.out]
  go_wp2_with fail
  refine CS.out.mono ?_
  rintro e w1 ⟨rfl, q0, rfl⟩
  clear CS
  go_wp2
  go_loopw [4, 48] (fun a i wr => ∃ k q : Nat, k ≤ nf ∧ a = .bool false ∧ i = .int .i64 (k : Int) ∧ wr = W0.drewN q) (fun _ i _ => nf - (intOf i).toNat)
  case atStart => exact ⟨0, q0, Nat.zero_le _, rfl, rfl, rfl⟩
  case round =>
    obtain ⟨k, q, hk, rfl, rfl, rfl⟩ := hrel
    by_cases hlt : k < nf
    · obtain ⟨b, o, t, cs, rfl, hx, hb, hr, hcs⟩ := HI.out.fields.at_ hlt
      have hr : cs = FieldD.cells t := hr
      subst hr
      obtain ⟨b', o2, t', ds, rfl, hy, hb2, hr2, hds⟩ := HJ.out.fields.at_ hlt
      have hr2 : ds = FieldD.cells t' := hr2
      subst hr2
      obtain rfl : t = t' := by rw [hx] at hy; exact Option.some.inj hy
      obtain ⟨t0, t1, t2⟩ := t
      have h0 : W0.cell? ⟨b, o + k * 3, none⟩ = some (.int .i64 t0) := hcs 0 _ rfl
      have h1 : W0.cell? ⟨b, o + k * 3 + 1, none⟩ = some (.int .i64 t1) := hcs 1 _ rfl
      have h2 : W0.cell? ⟨b, o + k * 3 + 2, none⟩ = some (.int .i64 t2) := hcs 2 _ rfl
      have g0 : W0.cell? ⟨b', o2 + k * 3, none⟩ = some (.int .i64 t0) := hds 0 _ rfl
      have g1 : W0.cell? ⟨b', o2 + k * 3 + 1, none⟩ = some (.int .i64 t1) := hds 1 _ rfl
      have g2 : W0.cell? ⟨b', o2 + k * 3 + 2, none⟩ = some (.int .i64 t2) := hds 2 _ rfl
      have HQ := neq_field t0 t1 t2
      clear hx hy hcs hds
      go_wp2
      go_quiet (fail)
      go_wp2
      go_roundw
      case rel => exact ⟨k + 1, q + nq, by omega, rfl, by go_num, by simp⟩
      case measure => simp [intOf]; omega
    · obtain rfl : k = nf := by omega
      clear a0 a1 a2 a3 b0 b1 b2 b3
      go_wp2
      go_loopw [4, 66] (fun a i wr => ∃ j : Nat, j ≤ nm ∧ a = .bool false ∧ i = .int .i64 (j : Int) ∧ Hid (Below W0.heap.size W0 wr)) (fun _ i _ => nm - (intOf i).toNat)
      case atStart => exact ⟨0, Nat.zero_le _, rfl, rfl, Lib.hid ((Below.refl _ _).drewN q)⟩
      case round =>
        clear a4 b4
        obtain ⟨j, hj, rfl, rfl, HB⟩ := hrel
        by_cases hlt2 : j < nm
        · have HKr := Lib.hid (HK.out.of (HB.out.block _ HK.out.lt))
          have HKr2 := Lib.hid (HK2.out.of (HB.out.block _ HK2.out.lt))
          obtain ⟨b, o, t, cs, rfl, hx, hb, hr, hcs⟩ := (HI.out.below HB.out).meths.at_ hlt2
          obtain ⟨b', o2, t', ds, rfl, hy, hb2, hr2, hds⟩ := (HJ.out.below HB.out).meths.at_ hlt2
          obtain rfl : t = t' := by rw [hx] at hy; exact Option.some.inj hy
          have hsl := HSm.out t (List.mem_of_getElem? hx)
          obtain ⟨Ac, nc, cc, At, nt, ct, An, ni, ci, rfl, hBI⟩ := meth_open hr
          obtain ⟨Bc, nc2, dc, Bt, nt2, dt, Bn, ni2, di, rfl, hBJ⟩ := meth_open hr2
          obtain rfl : nc = nc2 := by rw [← hBI.code.1, ← hBJ.code.1]
          obtain rfl : nt = nt2 := by rw [← hBI.traps.1, ← hBJ.traps.1]
          obtain rfl : ni = ni2 := by rw [← hBI.maps.1, ← hBJ.maps.1]
          obtain ⟨m0, m1, m2, st, lo, cd, tr, mp⟩ := t
          have HSS : Hid (∀ W, Below wr.heap.size wr W → W.cell? ⟨w.heap.size, 4, none⟩ = some (.slice (some ⟨b, o, none⟩) nm cm) ∧ W.cell? ⟨w.heap.size + 1, 4, none⟩ = some (.slice (some ⟨b', o2, none⟩) nm cm2) ∧
              W.cell? ⟨b, o + j * 8, none⟩ = some (.int .i64 m0) ∧ W.cell? ⟨b, o + j * 8 + 1, none⟩ = some (.int .i64 m1) ∧ W.cell? ⟨b, o + j * 8 + 2, none⟩ = some (.int .i64 m2) ∧ W.cell? ⟨b, o + j * 8 + 3, none⟩ = some (.int .i64 st) ∧ W.cell? ⟨b, o + j * 8 + 4, none⟩ = some (.int .i64 lo) ∧ W.cell? ⟨b, o + j * 8 + 5, none⟩ = some (.slice Ac nc cc) ∧ W.cell? ⟨b, o + j * 8 + 6, none⟩ = some (.slice At nt ct) ∧ W.cell? ⟨b, o + j * 8 + 7, none⟩ = some (.slice An ni ci) ∧
              W.cell? ⟨b', o2 + j * 8, none⟩ = some (.int .i64 m0) ∧ W.cell? ⟨b', o2 + j * 8 + 1, none⟩ = some (.int .i64 m1) ∧ W.cell? ⟨b', o2 + j * 8 + 2, none⟩ = some (.int .i64 m2) ∧ W.cell? ⟨b', o2 + j * 8 + 3, none⟩ = some (.int .i64 st) ∧ W.cell? ⟨b', o2 + j * 8 + 4, none⟩ = some (.int .i64 lo) ∧ W.cell? ⟨b', o2 + j * 8 + 5, none⟩ = some (.slice Bc nc dc) ∧ W.cell? ⟨b', o2 + j * 8 + 6, none⟩ = some (.slice Bt nt dt) ∧ W.cell? ⟨b', o2 + j * 8 + 7, none⟩ = some (.slice Bn ni di)) := Lib.hid (fun W h => by
            have hc : ∀ (g i : Nat), g < wr.heap.size → W.cell? ⟨g, i, none⟩ = wr.cell? ⟨g, i, none⟩ := fun g i hg => World.cell?_of_block (w := wr) (h.block g hg)
            refine ⟨(HKr.out.of (h.block _ HKr.out.lt)).cell 4, (HKr2.out.of (h.block _ HKr2.out.lt)).cell 4, ?_, ?_, ?_, ?_, ?_, ?_, ?_, ?_, ?_, ?_, ?_, ?_, ?_, ?_, ?_, ?_⟩
            · rw [hc _ _ hb]; exact hcs 0 _ rfl
            · rw [hc _ _ hb]; exact hcs 1 _ rfl
            · rw [hc _ _ hb]; exact hcs 2 _ rfl
            · rw [hc _ _ hb]; exact hcs 3 _ rfl
            · rw [hc _ _ hb]; exact hcs 4 _ rfl
            · rw [hc _ _ hb]; exact hcs 5 _ rfl
            · rw [hc _ _ hb]; exact hcs 6 _ rfl
            · rw [hc _ _ hb]; exact hcs 7 _ rfl
            · rw [hc _ _ hb2]; exact hds 0 _ rfl
            · rw [hc _ _ hb2]; exact hds 1 _ rfl
            · rw [hc _ _ hb2]; exact hds 2 _ rfl
            · rw [hc _ _ hb2]; exact hds 3 _ rfl
            · rw [hc _ _ hb2]; exact hds 4 _ rfl
            · rw [hc _ _ hb2]; exact hds 5 _ rfl
            · rw [hc _ _ hb2]; exact hds 6 _ rfl
            · rw [hc _ _ hb2]; exact hds 7 _ rfl)
          have C1 : Hid (∀ W, Below wr.heap.size wr W → Calls Try.prog 20 #[.agg #[.int .i64 m0, .int .i64 m1, .int .i64 m2, .int .i64 st, .int .i64 lo, .slice Ac nc cc, .slice At nt ct, .slice An ni ci], .agg #[.int .i64 m0, .int .i64 m1, .int .i64 m2, .int .i64 st, .int .i64 lo, .slice Bc nc dc, .slice Bt nt dt, .slice Bn ni di]] W fun e w' => e = .returned (.bool true) ∧ Below W.heap.size W w') := Lib.hid (fun W h => r14sameMethod_same m0 m1 m2 st lo Ac nc cc At nt ct An ni ci Bc dc Bt dt Bn di _ W (hBI.below h) (hBJ.below h) hsl)
          clear hx hy hcs hds hsl hBI hBJ hr hr2
          go_wp2_with fail
          refine wp_region_held_drew (S := fun W => W.cell? ⟨w.heap.size, 4, none⟩ = some (.slice (some ⟨b, o, none⟩) nm cm) ∧ W.cell? ⟨w.heap.size + 1, 4, none⟩ = some (.slice (some ⟨b', o2, none⟩) nm cm2) ∧
              W.cell? ⟨b, o + j * 8, none⟩ = some (.int .i64 m0) ∧ W.cell? ⟨b, o + j * 8 + 1, none⟩ = some (.int .i64 m1) ∧ W.cell? ⟨b, o + j * 8 + 2, none⟩ = some (.int .i64 m2) ∧ W.cell? ⟨b, o + j * 8 + 3, none⟩ = some (.int .i64 st) ∧ W.cell? ⟨b, o + j * 8 + 4, none⟩ = some (.int .i64 lo) ∧ W.cell? ⟨b, o + j * 8 + 5, none⟩ = some (.slice Ac nc cc) ∧ W.cell? ⟨b, o + j * 8 + 6, none⟩ = some (.slice At nt ct) ∧ W.cell? ⟨b, o + j * 8 + 7, none⟩ = some (.slice An ni ci) ∧
              W.cell? ⟨b', o2 + j * 8, none⟩ = some (.int .i64 m0) ∧ W.cell? ⟨b', o2 + j * 8 + 1, none⟩ = some (.int .i64 m1) ∧ W.cell? ⟨b', o2 + j * 8 + 2, none⟩ = some (.int .i64 m2) ∧ W.cell? ⟨b', o2 + j * 8 + 3, none⟩ = some (.int .i64 st) ∧ W.cell? ⟨b', o2 + j * 8 + 4, none⟩ = some (.int .i64 lo) ∧ W.cell? ⟨b', o2 + j * 8 + 5, none⟩ = some (.slice Bc nc dc) ∧ W.cell? ⟨b', o2 + j * 8 + 6, none⟩ = some (.slice Bt nt dt) ∧ W.cell? ⟨b', o2 + j * 8 + 7, none⟩ = some (.slice Bn ni di)) (by kernel_rfl) (HSS.out _ ((Below.refl _ _).drewN 1)) (fun hHeld0 => ?_)
          refine take_yes 0 69 ?_ rfl rfl (by kernel_rfl) (by kernel_rfl) (by kernel_rfl) (fun _ _ _ h => h) (by kernel_rfl) ?_ (by assumption) ?_; rotate_left; (focus (intro w hSw; (try dsimp only at hSw); go_simp; all_goals first | with_reducible rfl)); simp only [Act.put, List.setIfInBounds_toArray, List.set_cons_zero, List.set_cons_succ]
          refine take_yes 1 70 ?_ rfl rfl (by kernel_rfl) (by kernel_rfl) (by kernel_rfl) (fun _ _ _ h => h) (by kernel_rfl) ?_ (by assumption) ?_; rotate_left; (focus (intro w hSw; (try dsimp only at hSw); go_simp; all_goals first | with_reducible rfl)); simp only [Act.put, List.setIfInBounds_toArray, List.set_cons_zero, List.set_cons_succ]
          refine take_yes 2 71 ?_ rfl rfl (by kernel_rfl) (by kernel_rfl) (by kernel_rfl) (fun _ _ _ h => h) (by kernel_rfl) ?_ (by assumption) ?_; rotate_left; (focus (intro w hSw; (try dsimp only at hSw); go_simp; all_goals first | with_reducible rfl)); simp only [Act.put, List.setIfInBounds_toArray, List.set_cons_zero, List.set_cons_succ]
          refine take_yes 3 72 ?_ rfl rfl (by kernel_rfl) (by kernel_rfl) (by kernel_rfl) (fun _ _ _ h => h) (by kernel_rfl) ?_ (by assumption) ?_; rotate_left; (focus (intro w hSw; (try dsimp only at hSw); go_simp; all_goals first | with_reducible rfl)); simp only [Act.put, List.setIfInBounds_toArray, List.set_cons_zero, List.set_cons_succ]
          refine take_yes 4 73 ?_ rfl rfl (by kernel_rfl) (by kernel_rfl) (by kernel_rfl) (fun _ _ _ h => h) (by kernel_rfl) ?_ (by assumption) ?_; rotate_left; (focus (intro w hSw; (try dsimp only at hSw); go_simp; all_goals first | with_reducible rfl)); simp only [Act.put, List.setIfInBounds_toArray, List.set_cons_zero, List.set_cons_succ]
          refine take_yes 5 74 ?_ rfl rfl (by kernel_rfl) (by kernel_rfl) (by kernel_rfl) (fun _ _ _ h => h) (by kernel_rfl) ?_ (by assumption) ?_; rotate_left; (focus (intro w hSw; (try dsimp only at hSw); go_simp; all_goals first | with_reducible rfl)); simp only [Act.put, List.setIfInBounds_toArray, List.set_cons_zero, List.set_cons_succ]
          refine take_yes 6 75 ?_ rfl rfl (by kernel_rfl) (by kernel_rfl) (by kernel_rfl) (fun _ _ _ h => h) (by kernel_rfl) ?_ (by assumption) ?_; rotate_left; (focus (intro w hSw; (try dsimp only at hSw); go_simp; all_goals first | with_reducible rfl)); simp only [Act.put, List.setIfInBounds_toArray, List.set_cons_zero, List.set_cons_succ]
          refine take_yes 7 76 ?_ rfl rfl (by kernel_rfl) (by kernel_rfl) (by kernel_rfl) (fun _ _ _ h => h) (by kernel_rfl) ?_ (by assumption) ?_; rotate_left; (focus (intro w hSw; (try dsimp only at hSw); go_simp; all_goals first | with_reducible rfl)); simp only [Act.put, List.setIfInBounds_toArray, List.set_cons_zero, List.set_cons_succ]
          refine take_yes 8 77 ?_ rfl rfl (by kernel_rfl) (by kernel_rfl) (by kernel_rfl) (fun _ _ _ h => h) (by kernel_rfl) ?_ (by assumption) ?_; rotate_left; (focus (intro w hSw; (try dsimp only at hSw); go_simp; all_goals first | with_reducible rfl)); simp only [Act.put, List.setIfInBounds_toArray, List.set_cons_zero, List.set_cons_succ]
          refine take_yes 9 78 ?_ rfl rfl (by kernel_rfl) (by kernel_rfl) (by kernel_rfl) (fun _ _ _ h => h) (by kernel_rfl) ?_ (by assumption) ?_; rotate_left; (focus (intro w hSw; (try dsimp only at hSw); go_simp; all_goals first | with_reducible rfl)); simp only [Act.put, List.setIfInBounds_toArray, List.set_cons_zero, List.set_cons_succ]
          refine wpAnyH_ready (rs := [10]) (by kernel_rfl) (by simp) ?_
          refine AllReadyH.cons rfl (fun K hK => ?_) AllReadyH.nil
          go_simp
          go_at_call 20
          refine (C1.out wr.drew ((Below.refl _ _).drewN 1)).mono ?_
          rintro e w5 ⟨rfl, hb5⟩
          have HB5 : Hid (Below wr.heap.size wr w5) := Lib.hid (((Below.refl wr.heap.size wr).drewN 1).trans hb5)
          clear hb5
          go_wp2_with fail
          refine hK.out _ _ ((HSS.out _ HB5.out)) (fun _ => ?_)
          clear hK K
          try simp only [Act.put, List.setIfInBounds_toArray, List.set_cons_zero, List.set_cons_succ]
          refine take_yes 11 80 ?_ rfl rfl (by kernel_rfl) (by kernel_rfl) (by kernel_rfl) (fun _ _ _ h => h) (by kernel_rfl) ?_ (by assumption) ?_; rotate_left; (focus (intro w hSw; (try dsimp only at hSw); go_simp; all_goals first | with_reducible rfl)); simp only [Act.put, List.setIfInBounds_toArray, List.set_cons_zero, List.set_cons_succ]
          refine wpAnyH_done (by kernel_rfl) ?_ _
          go_wp2
          go_roundw
          case rel => exact ⟨j + 1, by omega, rfl, by go_num, Lib.hid (HB.out.trans (HB5.out.mono HB.out.size))⟩
          case measure => simp [intOf]; omega
        · obtain rfl : j = nm := by omega
          go_wp2
          go_ret
          exact ⟨rfl, HB0.out.trans (HB.out.mono HB0.out.size)⟩

end Go.Proofs.Ytendpbklcgiafaa
