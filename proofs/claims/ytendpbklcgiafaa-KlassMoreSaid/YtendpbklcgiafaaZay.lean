/- The walks over the document's slots and member (layer 14). -/
import Derived.Test.YtendpbklcgiafaaZat
import Derived.Test.YtendpbklcgiafaaZax
import Derived.Test.YtendpbklcgiafaaZah
namespace Go.Proofs.Ytendpbklcgiafaa
set_option maxRecDepth 100000
open Go.RowKit

theorem all_no {α : Type} {p : α → Bool} {l : List α} {k : Nat} {x : α} (h : l[k]? = some x) (hx : p x = false) : l.all p = false := by
  rw [Bool.eq_false_iff]
  intro ha
  have := (List.all_eq_true.1 ha) x (List.mem_of_getElem? h)
  rw [hx] at this
  cases this
theorem all_yes {α : Type} {p : α → Bool} {l : List α} {n : Nat} (hl : l.length = n) (h : ∀ (j : Nat) x, j < n → l[j]? = some x → p x = true) : l.all p = true := by
  rw [List.all_eq_true]
  intro x hx
  obtain ⟨j, hj, rfl⟩ := List.mem_iff_getElem.1 hx
  exact h j _ (by omega) (List.getElem?_eq_getElem hj)
theorem up_one {α : Type} {l : List α} {k : Nat} {x : α} {P : α → Prop} (hF : ∀ (j : Nat) x, j < k → l[j]? = some x → P x) (hx : l[k]? = some x) (hp : P x) : ∀ (j : Nat) y, j < k + 1 → l[j]? = some y → P y := fun j y hj hy => by
  by_cases h : j = k
  · subst h
    rw [hx] at hy
    cases hy
    exact hp
  · exact hF j y (by omega) hy
/-- A place of a slice of flat structs. -/
theorem RowS.at_ {α : Type} {R : RepT α} {w : World} {Z : Nat → Prop} {A : Option Addr} {n cap : Nat} {l : List α} (h : RowS R w Z A n cap l) {k : Nat} (hk : k < n) :
    ∃ b o x cs, A = some ⟨b, o, none⟩ ∧ l[k]? = some x ∧ b < w.heap.size ∧ R.rep w Z cs x ∧ ∀ (j : Nat) v, cs[j]? = some v → w.cell? ⟨b, o + k * R.k + j, none⟩ = some v := by
  obtain ⟨h1, h2, h3, h4, h5⟩ := h
  obtain ⟨b, o, e, hb, _, hc⟩ := h5 (by omega)
  have hl : k < l.length := by omega
  obtain ⟨cs, hcs, hr⟩ := hc k l[k] (List.getElem?_eq_getElem hl)
  exact ⟨b, o, l[k], cs, e, List.getElem?_eq_getElem hl, hb, hr, hcs⟩
theorem RowS.below {α : Type} {R : RepT α} {w w' : World} {A : Option Addr} {n cap : Nat} {l : List α} (h : RowS R w Empty A n cap l) (hb : Below w.heap.size w w') : RowS R w' Empty A n cap l := h.next (Only.of_below (S := Empty) hb) (fun _ _ h => h)

def slotOk (C : List Cst) (x : SlotD) : Bool := if x.tag = 7 then isClassC C x.a else (decide (x.tag = 0) || decide (x.tag = 1) || decide (x.tag = 4) || decide (x.tag = 5)) && decide (x.a = 0)
def slotsF (C : List Cst) (l : List SlotD) : Bool := l.all (slotOk C) && decide (l.length ≤ 64)

set_option maxHeartbeats 2000000 in
theorem r14slots_any (A : Option Addr) (n cap : Nat) (C : List Cst) (B : Option Addr) (k0 c0 : Nat) (l : List SlotD) (w : World) (hP : PoolSl w A n cap C) (hn : n ≤ 1000000) (hS : RowS slotT w Empty B k0 c0 l) :
    Calls Try.prog 25 #[.slice A n cap, .slice B k0 c0, .int .i64 64] w fun e w' => e = .returned (.bool (slotsF C l)) ∧ Below w.heap.size w w' := by
  have HC : Hid (∀ (x : Int) (W : World), Below w.heap.size w W → Calls Try.prog 13 #[.slice A n cap, .int .i64 x] W fun e w' => e = .returned (.bool (isClassC C x)) ∧ W = w') := Lib.hid (fun x W hb => r14class_any A n cap C x W (hP.below hb) hn)
  have HS := Lib.hid hS
  have Hl := Lib.hid hS.1
  have hck : k0 ≤ c0 ∧ c0 ≤ 9223372036854775807 := ⟨hS.2.1, by have h := hS.2.2.1; unfold maxLen at h; omega⟩
  clear hP hS
  go_enter Try.func25, Try.ntmps25
  go_wp2
  go_loopw [11] (fun i wr => ∃ k : Nat, k ≤ k0 ∧ i = .int .i64 k ∧ Hid (Below w.heap.size w wr) ∧ Hid (∀ (j : Nat) x, j < k → l[j]? = some x → slotOk C x = true)) (fun i _ => k0 - (intOf i).toNat)
  case atStart => exact ⟨0, Nat.zero_le _, rfl, Lib.hid (Below.refl _ _), Lib.hid (fun j x h => absurd h (by omega))⟩
  case round =>
    obtain ⟨k, hk, rfl, HB, HF⟩ := hrel
    by_cases hlt : k < k0
    · obtain ⟨b, o, x, cs, rfl, hx, hb, hr, hcs⟩ := (HS.out.below HB.out).at_ hlt
      have hr : cs = SlotD.cells x := hr
      subst hr
      obtain ⟨tg, a⟩ := x
      have c0' : wr.cell? ⟨b, o + k * 2, none⟩ = some (.int .i64 tg) := hcs 0 _ rfl
      have c1' : wr.cell? ⟨b, o + k * 2 + 1, none⟩ = some (.int .i64 a) := hcs 1 _ rfl
      have HA : Hid (∀ cs : Array Value, Below w.heap.size w (wr.alloc (.cells cs 98))) := Lib.hid (fun cs => HB.out.alloc HB.out.size _)
      have HN : Hid (slotOk C ⟨tg, a⟩ = false → slotsF C l = false) := Lib.hid (fun h => by unfold slotsF; rw [all_no hx h]; rfl)
      have HY : Hid (slotOk C ⟨tg, a⟩ = true → ∀ (j : Nat) x, j < k + 1 → l[j]? = some x → slotOk C x = true) := Lib.hid (fun h => up_one HF.out hx h)
      clear hcs hx
      by_cases h7 : tg = 7
      · subst h7
        have CC := HC.out a _ (HA.out #[.int .i64 7, .int .i64 a])
        have hso : slotOk C ⟨7, a⟩ = isClassC C a := rfl
        rw [hso] at HN HY
        clear hso
        cases hcl : isClassC C a with
        | false =>
          rw [hcl] at CC
          have CC := Lib.hid CC
          have HR := Lib.hid (HN.out hcl)
          clear hcl
          go_wp2_with fail
          refine CC.out.mono ?_
          rintro e w1 ⟨rfl, rfl⟩
          go_wp2
          go_ret
          exact ⟨by rw [HR.out]; rfl, HA.out _⟩
        | true =>
          rw [hcl] at CC
          have CC := Lib.hid CC
          have HR := Lib.hid (HY.out hcl)
          clear hcl
          go_wp2_with fail
          refine CC.out.mono ?_
          rintro e w1 ⟨rfl, rfl⟩
          go_wp2
          go_roundw
          case rel => exact ⟨k + 1, by omega, by go_num, Lib.hid (HA.out _), HR⟩
          case measure => simp [intOf]; omega
      · have hq7 : (tg == 7) = false := by simpa using h7
        have hso : slotOk C ⟨tg, a⟩ = ((decide (tg = 0) || decide (tg = 1) || decide (tg = 4) || decide (tg = 5)) && decide (a = 0)) := by unfold slotOk; rw [if_neg h7]
        rw [hso] at HN HY
        clear hso
        by_cases hin : tg = 0 ∨ tg = 1 ∨ tg = 4 ∨ tg = 5
        · by_cases ha : a = 0
          · subst ha
            have HR := Lib.hid (HY.out (by rcases hin with rfl | rfl | rfl | rfl <;> rfl))
            rcases hin with rfl | rfl | rfl | rfl
            all_goals
              clear hq7 h7
              go_wp2
              go_roundw
              case rel => exact ⟨k + 1, by omega, by go_num, Lib.hid (HA.out _), HR⟩
              case measure => simp [intOf]; omega
          · have HR := Lib.hid (HN.out (by rw [decide_eq_false ha, Bool.and_false]))
            have hqa : (a == 0) = false := by simpa using ha
            rcases hin with rfl | rfl | rfl | rfl
            all_goals
              clear hq7 h7 ha
              go_wp2
              go_ret
              exact ⟨by rw [HR.out]; rfl, HA.out _⟩
        · have HR := Lib.hid (HN.out (by
            rw [decide_eq_false (fun h => hin (.inl h)), decide_eq_false (fun h => hin (.inr (.inl h))), decide_eq_false (fun h => hin (.inr (.inr (.inl h)))), decide_eq_false (fun h => hin (.inr (.inr (.inr h))))]
            rfl))
          have hq0 : (tg == 0) = false := by simpa using (fun h => hin (.inl h))
          have hq1 : (tg == 1) = false := by simpa using (fun h => hin (.inr (.inl h)))
          have hq4 : (tg == 4) = false := by simpa using (fun h => hin (.inr (.inr (.inl h))))
          have hq5 : (tg == 5) = false := by simpa using (fun h => hin (.inr (.inr (.inr h))))
          clear hin h7
          go_wp2
          go_ret
          exact ⟨by rw [HR.out]; rfl, HA.out _⟩
    · have hkn : k = k0 := by omega
      subst hkn
      have HR : Hid (slotsF C l = decide ((k : Int) ≤ 64)) := Lib.hid (by
        unfold slotsF
        rw [all_yes Hl.out HF.out, Bool.true_and, Hl.out]
        exact decide_eq_decide.2 (by omega))
      go_wp2
      go_ret
      exact ⟨by rw [HR.out]; rfl, HB.out⟩

def memF (C : List Cst) (f n d : Int) : Bool := isFlagsC f && (isTextC C n && isTextC C d)
theorem r14member_any (A : Option Addr) (n cap : Nat) (C : List Cst) (f x y : Int) (w : World) (hP : PoolSl w A n cap C) (hn : n ≤ 1000000) :
    Calls Try.prog 14 #[.slice A n cap, .int .i64 f, .int .i64 x, .int .i64 y] w fun e w' => e = .returned (.bool (memF C f x y)) ∧ w = w' := by
  have C1 := r14text_any A n cap C x w hP hn
  have C2 := r14text_any A n cap C y w hP hn
  unfold memF
  obtain ⟨B1, hB1⟩ : ∃ B, isTextC C x = B := ⟨_, rfl⟩
  obtain ⟨B2, hB2⟩ : ∃ B, isTextC C y = B := ⟨_, rfl⟩
  rw [hB1] at C1 ⊢
  rw [hB2] at C2 ⊢
  have H1 := Lib.hid C1
  have H2 := Lib.hid C2
  clear hP hB1 hB2 C1 C2
  by_cases hf : f = 0 ∨ f = 8
  · have hF : isFlagsC f = true := by rcases hf with rfl | rfl <;> rfl
    rw [hF, Bool.true_and]
    clear hF
    rcases hf with rfl | rfl
    all_goals
      cases B1 with
      | false =>
        go_enter Try.func14, Try.ntmps14
        go_wp2_with fail
        refine H1.out.mono ?_
        rintro e w1 ⟨rfl, rfl⟩
        go_wp2
        go_ret
        exact ⟨rfl, rfl⟩
      | true =>
        go_enter Try.func14, Try.ntmps14
        go_wp2_with fail
        refine H1.out.mono ?_
        rintro e w1 ⟨rfl, rfl⟩
        go_wp2_with fail
        refine H2.out.mono ?_
        rintro e w1 ⟨rfl, rfl⟩
        go_wp2
        go_ret
        exact ⟨rfl, rfl⟩
  · have hF : isFlagsC f = false := by
      unfold isFlagsC
      rw [decide_eq_false (fun h => hf (.inl h)), decide_eq_false (fun h => hf (.inr h))]
      rfl
    rw [hF, Bool.false_and]
    have hq0 : (f == 0) = false := by simpa using (fun h => hf (.inl h))
    have hq8 : (f == 8) = false := by simpa using (fun h => hf (.inr h))
    clear hF hf
    go_enter Try.func14, Try.ntmps14
    go_wp2
    go_ret
    exact ⟨rfl, rfl⟩

end Go.Proofs.Ytendpbklcgiafaa

/- The walk over the document's slotBytes (layer 14); bytes of a call's own that grow. -/
namespace Go.Proofs.Ytendpbklcgiafaa
set_option maxRecDepth 100000
open Go.RowKit

/-- Bytes of a call's own. -/
structure GB (w : World) (A : Option Addr) (m c : Nat) (zs : List UInt8) (W : World) : Prop where
  byte : ByteSl W Empty A m c zs
  nil : A = none → m = 0 ∧ c = 0
  own : W.ownsRow w.heap.size 5 1 (.slice A m c) m (zs.map B8)
  below : Below w.heap.size w W
/-- What answers them. -/
def Gives (w : World) (zs : List UInt8) (e : Ending) (w' : World) : Prop := ∃ A m c, e = .returned (.slice A m c) ∧ GB w A m c zs w'
section
variable {w W W' : World} {A : Option Addr} {m c : Nat} {zs zs' : List UInt8}
theorem GB.of {v : Value} (h : W.ownsRow w.heap.size 5 1 v m (zs.map B8)) (hb : Below w.heap.size w W) : ∃ A c, v = .slice A m c ∧ GB w A m c zs W := by
  obtain ⟨A, c, rfl, hB, hn⟩ := slice_of_own h
  exact ⟨A, c, rfl, hB, hn, h, hb⟩
theorem GB.only (h : GB w A m c zs W) (k : Only Empty W W') : GB w A m c zs W' :=
  ⟨h.byte.only k (fun _ _ h => h), h.nil, own_only h.own k (fun _ _ _ h => h), h.below.trans (k.below h.below.size (fun _ _ h => h))⟩
theorem GB.next {A' : Option Addr} {m' c' : Nat} (h : Below w.heap.size w W) (k : GB W A' m' c' zs' W') : GB w A' m' c' zs' W' :=
  ⟨k.byte, k.nil, own_base k.own h.size, h.trans (k.below.mono h.size)⟩
theorem GB.app (h : GB w A m c zs W) {v' : Value} {m' : Nat} (ho : W'.ownsRow w.heap.size 5 1 v' m' (zs'.map B8)) (hg : W.grownBy W' (Value.slice A m c).ownBlock) : ∃ A' c', v' = .slice A' m' c' ∧ GB w A' m' c' zs' W' := by
  have hr : ∀ k, (Value.slice A m c).ownBlock = some k → w.heap.size ≤ k := fun k hk => by
    rcases h.own.2 with ⟨e, _⟩ | ⟨g', c2, cur, e, hb, hB, -⟩
    · rw [e] at hk
      cases hk
    · rw [e] at hk
      cases hk
      exact hb
  exact GB.of ho (below_grown h.below h.below.size hg hr)
theorem GB.app_blk (h : GB w A m c zs W) (hg : W.grownBy W' (Value.slice A m c).ownBlock) {q : Nat} {t : TypeId} {cs : Array Value} (hq : Blk W q t cs) (ht : 5 ≠ t) : Blk W' q t cs := by
  refine (Only.of_grown (S := fun k => (Value.slice A m c).ownBlock = some k) hg (fun k e _ => e)).blk hq (fun e => ?_)
  rcases h.own.2 with ⟨e', _⟩ | ⟨g', c2, cur, e', hb, hB, -⟩
  · rw [e'] at e
    cases e
  · rw [e'] at e
    cases e
    exact Blk.ne_ hB hq ht rfl
theorem GB.len (h : GB w A m c zs W) : m = zs.length := h.byte.1.symm
end


def tagOk (x : SlotD) : Prop := ∃ t : UInt8, x.tag = (t.toNat : Int)
def slotB (x : SlotD) : List UInt8 := putL x.tag.toNat 1 ++ (if x.tag = 7 then u2B [x.a] else [])
def slotsB (l : List SlotD) : List UInt8 := u2B [(l.length : Int)] ++ l.flatMap slotB
theorem flat_take {α : Type} (f : α → List UInt8) (l : List α) (k : Nat) (x : α) (h : l[k]? = some x) : (l.take (k + 1)).flatMap f = (l.take k).flatMap f ++ f x := by
  rw [List.take_add_one, h, List.flatMap_append]
  simp
theorem flat_len {α : Type} (f : α → List UInt8) (b : Nat) (l : List α) (h : ∀ x ∈ l, (f x).length ≤ b) : (l.flatMap f).length ≤ b * l.length := by
  induction l with
  | nil => simp
  | cons x l ih =>
    rw [List.flatMap_cons, List.length_append, List.length_cons, Nat.mul_add]
    have := h x (List.mem_cons_self ..)
    have := ih (fun y hy => h y (List.mem_cons_of_mem _ hy))
    omega
theorem flat_take_len {α : Type} (f : α → List UInt8) (b : Nat) (l : List α) (k : Nat) (h : ∀ x, (f x).length ≤ b) : ((l.take k).flatMap f).length ≤ b * k := by
  have h1 := flat_len f b (l.take k) (fun x _ => h x)
  have h2 : (l.take k).length ≤ k := by simp; omega
  exact Nat.le_trans h1 (Nat.mul_le_mul_left _ h2)
theorem slotB_len (x : SlotD) : (slotB x).length ≤ 3 := by
  unfold slotB
  rw [List.length_append, putL_len]
  split
  · rw [u2B_len]; simp
  · simp
theorem put_one (t : UInt8) : putL ((t.toNat : Int)).toNat 1 = [t] := by
  have h : ((t.toNat : Int)).toNat = t.toNat := by omega
  rw [h]
  unfold putL byteOf
  simp


end Go.Proofs.Ytendpbklcgiafaa

/- The walk over the document's codeBytes (layer 14). -/
namespace Go.Proofs.Ytendpbklcgiafaa
set_option maxRecDepth 100000
open Go.RowKit

def trapB (t : TrapD) : List UInt8 := u2B [t.fr, t.til, t.at_, t.cls]
def mapB (y : MapD) : List UInt8 := u2B [y.at_] ++ slotsB y.locals ++ slotsB y.stack
def mapsX (l : List MapD) : List UInt8 := u2B [(l.length : Int)] ++ l.flatMap mapB
def mapsB (C : List Cst) (l : List MapD) : List UInt8 := if l.length = 0 then u2B [0] else u2B [1, (((firstC C mapsT).getD 0 : Nat) : Int)] ++ putL (bits64 ((mapsX l).length : Int)) 4 ++ mapsX l
def headB (d : BodyD) : List UInt8 := u2B [d.stack, d.locals] ++ putL (bits64 (d.code.length : Int)) 4 ++ d.code ++ u2B [(d.traps.length : Int)]
def codeB (C : List Cst) (d : BodyD) : List UInt8 := headB d ++ d.traps.flatMap trapB ++ mapsB C d.maps
theorem trapB_len (t : TrapD) : (trapB t).length ≤ 8 := by unfold trapB; rw [u2B_len]; simp
theorem slotsB_len (l : List SlotD) (h : l.length ≤ 64) : (slotsB l).length ≤ 194 := by
  unfold slotsB
  have := flat_len slotB 3 l (fun x _ => slotB_len x)
  rw [List.length_append, u2B_len]
  simp only [List.length_cons, List.length_nil]
  omega
theorem mapB_len (y : MapD) (h : y.locals.length ≤ 64 ∧ y.stack.length ≤ 64) : (mapB y).length ≤ 390 := by
  unfold mapB
  have h1 := slotsB_len _ h.1
  have h2 := slotsB_len _ h.2
  rw [List.length_append, List.length_append, u2B_len]
  simp only [List.length_cons, List.length_nil]
  omega
/-- How great a method's parts may be here. -/
structure BodySm (d : BodyD) : Prop where
  code : d.code.length ≤ 4096
  traps : d.traps.length ≤ 255
  maps : d.maps.length ≤ 255
  slots : ∀ y ∈ d.maps, y.locals.length ≤ 64 ∧ y.stack.length ≤ 64
  tags : ∀ y ∈ d.maps, (∀ x ∈ y.locals, tagOk x) ∧ (∀ x ∈ y.stack, tagOk x)
theorem flat_take_lm {α : Type} (f : α → List UInt8) (b : Nat) (l : List α) (k : Nat) (h : ∀ x ∈ l, (f x).length ≤ b) : ((l.take k).flatMap f).length ≤ b * k := by
  have h1 := flat_len f b (l.take k) (fun x hx => h x (List.mem_of_mem_take hx))
  have h2 : (l.take k).length ≤ k := by simp; omega
  exact Nat.le_trans h1 (Nat.mul_le_mul_left _ h2)

/-- A method's body as it is handed in. -/
structure BodyIn (w : World) (Ac : Option Addr) (nc cc : Nat) (At : Option Addr) (nt ct : Nat) (Am : Option Addr) (nm cm : Nat) (d : BodyD) : Prop where
  code : ByteSl w Empty Ac nc cc d.code
  nil : Ac = none → nc = 0 ∧ cc = 0
  traps : RowS trapT w Empty At nt ct d.traps
  maps : RowS mapD w Empty Am nm cm d.maps
theorem BodyIn.below {w w' : World} {Ac At Am : Option Addr} {nc cc nt ct nm cm : Nat} {d : BodyD} (h : BodyIn w Ac nc cc At nt ct Am nm cm d) (hb : Below w.heap.size w w') : BodyIn w' Ac nc cc At nt ct Am nm cm d :=
  ⟨h.code.only (Only.of_below (S := Empty) hb) (fun _ _ h => h), h.nil, h.traps.below hb, h.maps.below hb⟩


end Go.Proofs.Ytendpbklcgiafaa

/- The walk over the document's method (layer 14): printed by gen/gen_ye.py. -/
namespace Go.Proofs.Ytendpbklcgiafaa
set_option maxRecDepth 100000
open Go.RowKit

theorem r14wide_lit (l : List Int) (n : Nat) (w : World) (hn : l.length = n) (h2 : n ≤ 100) :
    Calls Try.prog 24 #[.slice (some ⟨w.heap.size, 0, none⟩) n n] (w.alloc (.cells (l.map (fun x => Value.int .i64 x)).toArray 3)) (fun e w' => e = .returned (.bool (wideF l)) ∧ w.alloc (.cells (l.map (fun x => Value.int .i64 x)).toArray 3) = w') :=
  r14wide_any (some ⟨w.heap.size, 0, none⟩) n l _ (IntsSl.lit w l n hn h2)
def trapOk (C : List Cst) (t : TrapD) : Bool := wideF [t.fr, t.til, t.at_] && isClsNoneC C t.cls
def mapOk (C : List Cst) (y : MapD) : Bool := wideF [y.at_] && (slotsF C y.locals && slotsF C y.stack)
def methF (C : List Cst) (f x y st lo : Int) (d : BodyD) : Bool :=
  memF C f x y && (upToC 64 st && (upToC 64 lo && (decide (1 ≤ d.code.length ∧ d.code.length ≤ 4096) && (decide (d.traps.length ≤ 255) && (decide (d.maps.length ≤ 255) && (d.traps.all (trapOk C) && (d.maps.all (mapOk C) &&
    (decide (0 < ((firstC C codeT).getD 0)) && (decide (d.maps.length = 0) || decide (0 < ((firstC C mapsT).getD 0)))))))))))

set_option maxHeartbeats 8000000 in
theorem r14method_any (A : Option Addr) (n cap : Nat) (C : List Cst) (f x y st lo : Int) (Ac : Option Addr) (nc cc : Nat) (At : Option Addr) (nt ct : Nat) (Am : Option Addr) (nm cm : Nat) (d : BodyD) (w : World) (hP : PoolSl w A n cap C) (hn : n ≤ 1000000) (hz : ∀ c, C[0]? = some c → c.tag ≠ 1)
    (hI : BodyIn w Ac nc cc At nt ct Am nm cm d) :
    Calls Try.prog 15 #[.slice A n cap, .agg #[.int .i64 f, .int .i64 x, .int .i64 y, .int .i64 st, .int .i64 lo, .slice Ac nc cc, .slice At nt ct, .slice Am nm cm]] w fun e w' => e = .returned (.bool (methF C f x y st lo d)) ∧ Below w.heap.size w w' := by
  obtain ⟨W0, hW0⟩ : ∃ W0, W0 = w.alloc (.cells #[.int .i64 f, .int .i64 x, .int .i64 y, .int .i64 st, .int .i64 lo, .slice Ac nc cc, .slice At nt ct, .slice Am nm cm] 44) := ⟨_, rfl⟩
  have hb0 : Below w.heap.size w W0 := by rw [hW0]; exact (Below.refl _ _).alloc (Nat.le_refl _) _
  have hK : Blk W0 w.heap.size 44 #[.int .i64 f, .int .i64 x, .int .i64 y, .int .i64 st, .int .i64 lo, .slice Ac nc cc, .slice At nt ct, .slice Am nm cm] := by rw [hW0]; exact Blk.new _ _ _
  have CM := r14member_any A n cap C f x y W0 (hP.below hb0) hn
  have CW : Hid (∀ (l : List Int) (n : Nat) (W : World), l.length = n → n ≤ 100 → Calls Try.prog 24 #[.slice (some ⟨W.heap.size, 0, none⟩) n n] (W.alloc (.cells (l.map (fun x => Value.int .i64 x)).toArray 3)) (fun e w' => e = .returned (.bool (wideF l)) ∧ W.alloc (.cells (l.map (fun x => Value.int .i64 x)).toArray 3) = w')) :=
    Lib.hid (fun l n W h1 h2 => r14wide_lit l n W h1 h2)
  have CC : Hid (∀ (x : Int) (W : World), Below w.heap.size w W → Calls Try.prog 13 #[.slice A n cap, .int .i64 x] W fun e w' => e = .returned (.bool (isClassC C x)) ∧ W = w') :=
    Lib.hid (fun x W hb => r14class_any A n cap C x W (hP.below hb) hn)
  have CS : Hid (∀ (B : Option Addr) (k0 c0 : Nat) (l : List SlotD) (W : World), Below w.heap.size w W → RowS slotT W Empty B k0 c0 l → Calls Try.prog 25 #[.slice A n cap, .slice B k0 c0, .int .i64 64] W fun e w' => e = .returned (.bool (slotsF C l)) ∧ Below W.heap.size W w') :=
    Lib.hid (fun B k0 c0 l W hb h1 => r14slots_any A n cap C B k0 c0 l W (hP.below hb) hn h1)
  have CF : Hid (∀ (t : List UInt8) (W : World), Below w.heap.size w W → Calls Try.prog 26 #[.slice A n cap, .string (strB t)] W fun e w' => e = .returned (.int .i64 (((firstC C t).getD 0 : Nat) : Int)) ∧ Below W.heap.size W w') :=
    Lib.hid (fun t W hb => r14find_any A n cap C t W (hP.below hb) hn hz)
  have HI := Lib.hid (hI.below hb0)
  have hcl : d.code.length = nc := hI.code.1
  have htl : d.traps.length = nt := hI.traps.1
  have hml : d.maps.length = nm := hI.maps.1
  have Hcl := Lib.hid hcl
  have Htl := Lib.hid htl
  have Hml := Lib.hid hml
  have hcap : cc ≤ 9223372036854775807 ∧ ct ≤ 9223372036854775807 ∧ cm ≤ 9223372036854775807 ∧ nc ≤ cc ∧ nt ≤ ct ∧ nm ≤ cm := ⟨by have h := hI.code.2.2.1; unfold maxLen at h; omega, by have h := hI.traps.2.2.1; unfold maxLen at h; omega, by have h := hI.maps.2.2.1; unfold maxLen at h; omega, hI.code.2.1, hI.traps.2.1, hI.maps.2.1⟩
  have HB0 := Lib.hid hb0
  have HK := Lib.hid hK
  have HW0 := Lib.hid hW0
  have a0 : W0.cell? ⟨w.heap.size, 0, none⟩ = some (.int .i64 f) := hK.cell 0
  have a1 : W0.cell? ⟨w.heap.size, 1, none⟩ = some (.int .i64 x) := hK.cell 1
  have a2 : W0.cell? ⟨w.heap.size, 2, none⟩ = some (.int .i64 y) := hK.cell 2
  have a3 : W0.cell? ⟨w.heap.size, 3, none⟩ = some (.int .i64 st) := hK.cell 3
  have a4 : W0.cell? ⟨w.heap.size, 4, none⟩ = some (.int .i64 lo) := hK.cell 4
  have a5 : W0.cell? ⟨w.heap.size, 5, none⟩ = some (.slice Ac nc cc) := hK.cell 5
  have a6 : W0.cell? ⟨w.heap.size, 6, none⟩ = some (.slice At nt ct) := hK.cell 6
  have a7 : W0.cell? ⟨w.heap.size, 7, none⟩ = some (.slice Am nm cm) := hK.cell 7
  obtain ⟨B0, hB0⟩ : ∃ B, memF C f x y = B := ⟨_, rfl⟩
  rw [hB0] at CM
  have HMm := Lib.hid hB0
  have HCM := Lib.hid CM
  clear hP hz hI hcl htl hml hb0 hK hW0 CM hB0
  go_enter Try.func15, Try.ntmps15
  go_wp2_with fail
  rw [← HW0.out]
  go_wp2_with fail
  refine HCM.out.mono ?_
  rintro e w1 ⟨rfl, rfl⟩
  clear HCM
  cases B0 with
  | false =>
    have HR : Hid (methF C f x y st lo d = false) := Lib.hid (by unfold methF; rw [HMm.out]; rfl)
    go_wp2
    go_ret
    exact ⟨by rw [HR.out]; rfl, HB0.out⟩
  | true =>
    by_cases hs0 : st < 0
    · have HR : Hid (methF C f x y st lo d = false) := Lib.hid (by unfold methF upToC; rw [decide_eq_false (p := 0 ≤ st ∧ st ≤ ((64 : Nat) : Int)) (by omega)]; simp)
      go_wp2
      go_ret
      exact ⟨by rw [HR.out]; rfl, HB0.out⟩
    by_cases hs1 : 64 < st
    · have HR : Hid (methF C f x y st lo d = false) := Lib.hid (by unfold methF upToC; rw [decide_eq_false (p := 0 ≤ st ∧ st ≤ ((64 : Nat) : Int)) (by omega)]; simp)
      go_wp2
      go_ret
      exact ⟨by rw [HR.out]; rfl, HB0.out⟩
    by_cases hl0 : lo < 0
    · have HR : Hid (methF C f x y st lo d = false) := Lib.hid (by unfold methF upToC; rw [decide_eq_false (p := 0 ≤ lo ∧ lo ≤ ((64 : Nat) : Int)) (by omega)]; simp)
      go_wp2
      go_ret
      exact ⟨by rw [HR.out]; rfl, HB0.out⟩
    by_cases hl1 : 64 < lo
    · have HR : Hid (methF C f x y st lo d = false) := Lib.hid (by unfold methF upToC; rw [decide_eq_false (p := 0 ≤ lo ∧ lo ≤ ((64 : Nat) : Int)) (by omega)]; simp)
      go_wp2
      go_ret
      exact ⟨by rw [HR.out]; rfl, HB0.out⟩
    by_cases hc0 : nc < 1
    · have HR : Hid (methF C f x y st lo d = false) := Lib.hid (by unfold methF; rw [decide_eq_false (p := 1 ≤ d.code.length ∧ d.code.length ≤ 4096) (by rw [Hcl.out]; omega)]; simp)
      go_wp2
      go_ret
      exact ⟨by rw [HR.out]; rfl, HB0.out⟩
    by_cases hc1 : 4096 < nc
    · have HR : Hid (methF C f x y st lo d = false) := Lib.hid (by unfold methF; rw [decide_eq_false (p := 1 ≤ d.code.length ∧ d.code.length ≤ 4096) (by rw [Hcl.out]; omega)]; simp)
      go_wp2
      go_ret
      exact ⟨by rw [HR.out]; rfl, HB0.out⟩
    by_cases ht1 : 255 < nt
    · have HR : Hid (methF C f x y st lo d = false) := Lib.hid (by unfold methF; rw [decide_eq_false (p := d.traps.length ≤ 255) (by rw [Htl.out]; omega)]; simp)
      go_wp2
      go_ret
      exact ⟨by rw [HR.out]; rfl, HB0.out⟩
    by_cases hm1 : 255 < nm
    · have HR : Hid (methF C f x y st lo d = false) := Lib.hid (by unfold methF; rw [decide_eq_false (p := d.maps.length ≤ 255) (by rw [Hml.out]; omega)]; simp)
      go_wp2
      go_ret
      exact ⟨by rw [HR.out]; rfl, HB0.out⟩
    have HR : Hid (methF C f x y st lo d = (d.traps.all (trapOk C) && (d.maps.all (mapOk C) && (decide (0 < ((firstC C codeT).getD 0)) && (decide (d.maps.length = 0) || decide (0 < ((firstC C mapsT).getD 0))))))) := Lib.hid (by
      unfold methF upToC
      rw [HMm.out, decide_eq_true (p := 0 ≤ st ∧ st ≤ ((64 : Nat) : Int)) (by omega), decide_eq_true (p := 0 ≤ lo ∧ lo ≤ ((64 : Nat) : Int)) (by omega), decide_eq_true (p := 1 ≤ d.code.length ∧ d.code.length ≤ 4096) (by rw [Hcl.out]; omega), decide_eq_true (p := d.traps.length ≤ 255) (by rw [Htl.out]; omega), decide_eq_true (p := d.maps.length ≤ 255) (by rw [Hml.out]; omega)]
      simp only [Bool.true_and])
    go_wp2
    go_loopw [65] (fun i wr => ∃ k : Nat, k ≤ nt ∧ i = .int .i64 k ∧ Hid (Below W0.heap.size W0 wr) ∧ Hid (∀ (j : Nat) t, j < k → d.traps[j]? = some t → trapOk C t = true)) (fun i _ => nt - (intOf i).toNat)
    case atStart => exact ⟨0, Nat.zero_le _, rfl, Lib.hid (Below.refl _ _), Lib.hid (fun j t h => absurd h (by omega))⟩
    case round =>
      obtain ⟨k, hk, rfl, HB, HF⟩ := hrel
      by_cases hlt : k < nt
      · obtain ⟨b, o, t, cs, rfl, hx, hb, hr, hcs⟩ := (HI.out.below HB.out).traps.at_ hlt
        have hr : cs = TrapD.cells t := hr
        subst hr
        obtain ⟨t0, t1, t2, t3⟩ := t
        have c0' : wr.cell? ⟨b, o + k * 4, none⟩ = some (.int .i64 t0) := hcs 0 _ rfl
        have c1' : wr.cell? ⟨b, o + k * 4 + 1, none⟩ = some (.int .i64 t1) := hcs 1 _ rfl
        have c2' : wr.cell? ⟨b, o + k * 4 + 2, none⟩ = some (.int .i64 t2) := hcs 2 _ rfl
        have c3' : wr.cell? ⟨b, o + k * 4 + 3, none⟩ = some (.int .i64 t3) := hcs 3 _ rfl
        have C5 := CW.out [t0, t1, t2] 3 (wr.alloc (.cells #[.int .i64 t0, .int .i64 t1, .int .i64 t2, .int .i64 t3] 70)) rfl (by omega)
        rw [show (wr.alloc (.cells #[.int .i64 t0, .int .i64 t1, .int .i64 t2, .int .i64 t3] 70)).heap.size = wr.heap.size + 1 by simp] at C5
        have HN : Hid (trapOk C ⟨t0, t1, t2, t3⟩ = false → methF C f x y st lo d = false) := Lib.hid (fun h => by rw [HR.out, all_no hx h]; rfl)
        have HY : Hid (trapOk C ⟨t0, t1, t2, t3⟩ = true → ∀ (j : Nat) t, j < k + 1 → d.traps[j]? = some t → trapOk C t = true) := Lib.hid (fun h => up_one HF.out hx h)
        have HE : Hid (trapOk C ⟨t0, t1, t2, t3⟩ = (wideF [t0, t1, t2] && isClsNoneC C t3)) := Lib.hid rfl
        have HB1 : Hid (∀ cs : List Value, Below W0.heap.size W0 ((wr.alloc (.cells #[.int .i64 t0, .int .i64 t1, .int .i64 t2, .int .i64 t3] 70)).alloc (.cells cs.toArray 3))) := Lib.hid (fun cs => (HB.out.alloc HB.out.size _).alloc (Nat.le_trans HB.out.size (by simp)) _)
        have HK1 : Hid (∀ cs : List Value, Blk ((wr.alloc (.cells #[.int .i64 t0, .int .i64 t1, .int .i64 t2, .int .i64 t3] 70)).alloc (.cells cs.toArray 3)) wr.heap.size 70 #[.int .i64 t0, .int .i64 t1, .int .i64 t2, .int .i64 t3]) := Lib.hid (fun cs => (Blk.new wr 70 _).alloc _)
        obtain ⟨BW, hBW⟩ : ∃ B, wideF [t0, t1, t2] = B := ⟨_, rfl⟩
        rw [hBW] at C5 HE
        have HC5 := Lib.hid C5
        clear hcs hx C5 hBW
        go_wp2_with fail
        refine HC5.out.mono ?_
        rintro e w5 ⟨rfl, hw5⟩
        have HB5 : Hid (Below W0.heap.size W0 w5) := Lib.hid (by rw [← hw5]; exact HB1.out _)
        have hK5 : Blk w5 wr.heap.size 70 #[.int .i64 t0, .int .i64 t1, .int .i64 t2, .int .i64 t3] := by rw [← hw5]; exact HK1.out _
        have e3 : w5.cell? ⟨wr.heap.size, 3, none⟩ = some (.int .i64 t3) := hK5.cell 3
        have HW5 : Hid (Below w.heap.size w w5) := Lib.hid (HB0.out.trans (HB5.out.mono HB0.out.size))
        clear hw5 hK5 HC5
        cases BW with
        | false =>
          have HR2 := Lib.hid (HN.out (by rw [HE.out]; rfl))
          go_wp2
          go_ret
          exact ⟨by rw [HR2.out]; rfl, HW5.out⟩
        | true =>
          by_cases h30 : t3 = 0
          · have HR2 := Lib.hid (HY.out (by rw [HE.out, h30]; rfl))
            have hq3 : (t3 != 0) = false := by simpa using h30
            clear h30
            go_wp2
            go_roundw
            case rel => exact ⟨k + 1, by omega, by go_num, HB5, HR2⟩
            case measure => simp [intOf]; omega
          · have hq3 : (t3 != 0) = true := by simpa using h30
            have HE2 : Hid (trapOk C ⟨t0, t1, t2, t3⟩ = isClassC C t3) := Lib.hid (by rw [HE.out, Bool.true_and]; unfold isClsNoneC; rw [decide_eq_false h30, Bool.false_or])
            have C6 := CC.out t3 w5 HW5.out
            obtain ⟨BC, hBC⟩ : ∃ B, isClassC C t3 = B := ⟨_, rfl⟩
            rw [hBC] at C6 HE2
            have HC6 := Lib.hid C6
            clear h30 C6 hBC
            go_wp2_with fail
            refine HC6.out.mono ?_
            rintro e w6 ⟨rfl, rfl⟩
            clear HC6
            cases BC with
            | false =>
              have HR2 := Lib.hid (HN.out HE2.out)
              go_wp2
              go_ret
              exact ⟨by rw [HR2.out]; rfl, HW5.out⟩
            | true =>
              have HR2 := Lib.hid (HY.out HE2.out)
              go_wp2
              go_roundw
              case rel => exact ⟨k + 1, by omega, by go_num, HB5, HR2⟩
              case measure => simp [intOf]; omega
      · have hkn : k = nt := by omega
        subst hkn
        have HR1 : Hid (methF C f x y st lo d = (d.maps.all (mapOk C) && (decide (0 < ((firstC C codeT).getD 0)) && (decide (d.maps.length = 0) || decide (0 < ((firstC C mapsT).getD 0)))))) := Lib.hid (by rw [HR.out, all_yes Htl.out HF.out, Bool.true_and])
        have HKr := Lib.hid (HK.out.of (HB.out.block _ HK.out.lt))
        have b7 : wr.cell? ⟨w.heap.size, 7, none⟩ = some (.slice Am nm cm) := HKr.out.cell 7
        clear a0 a1 a2 a3 a4 a5 a6 a7
        go_wp2
        go_loopw [94] (fun i wr => ∃ k : Nat, k ≤ nm ∧ i = .int .i64 k ∧ Hid (Below W0.heap.size W0 wr) ∧ Hid (∀ (j : Nat) t, j < k → d.maps[j]? = some t → mapOk C t = true)) (fun i _ => nm - (intOf i).toNat)
        case atStart => exact ⟨0, Nat.zero_le _, rfl, HB, Lib.hid (fun j t h => absurd h (by omega))⟩
        case round =>
          clear b7 HB HF HKr
          obtain ⟨j, hj, rfl, HB, HF⟩ := hrel
          by_cases hlt : j < nm
          · obtain ⟨b, o, t, cs, rfl, hx, hb, hr, hcs⟩ := (HI.out.below HB.out).maps.at_ hlt
            obtain ⟨ta, ts1, ts2⟩ := t
            obtain ⟨u1, u2, rfl, ⟨B1, n1, d1, e1, hr1⟩, ⟨B2, n2, d2, e2, hr2⟩⟩ := hr
            cases e1
            cases e2
            have hr1 : RowS slotT wr Empty B1 n1 d1 ts1 := hr1
            have hr2 : RowS slotT wr Empty B2 n2 d2 ts2 := hr2
            have c0' : wr.cell? ⟨b, o + j * 3, none⟩ = some (.int .i64 ta) := hcs 0 _ rfl
            have c1' : wr.cell? ⟨b, o + j * 3 + 1, none⟩ = some (.slice B1 n1 d1) := hcs 1 _ rfl
            have c2' : wr.cell? ⟨b, o + j * 3 + 2, none⟩ = some (.slice B2 n2 d2) := hcs 2 _ rfl
            have C5 := CW.out [ta] 1 (wr.alloc (.cells #[.int .i64 ta, .slice B1 n1 d1, .slice B2 n2 d2] 47)) rfl (by omega)
            rw [show (wr.alloc (.cells #[.int .i64 ta, .slice B1 n1 d1, .slice B2 n2 d2] 47)).heap.size = wr.heap.size + 1 by simp] at C5
            have HN : Hid (mapOk C ⟨ta, ts1, ts2⟩ = false → methF C f x y st lo d = false) := Lib.hid (fun h => by rw [HR1.out, all_no hx h]; rfl)
            have HY : Hid (mapOk C ⟨ta, ts1, ts2⟩ = true → ∀ (i : Nat) t, i < j + 1 → d.maps[i]? = some t → mapOk C t = true) := Lib.hid (fun h => up_one HF.out hx h)
            have HE : Hid (mapOk C ⟨ta, ts1, ts2⟩ = (wideF [ta] && (slotsF C ts1 && slotsF C ts2))) := Lib.hid rfl
            have hO1 : ∀ cs : List Value, Only Empty wr ((wr.alloc (.cells #[.int .i64 ta, .slice B1 n1 d1, .slice B2 n2 d2] 47)).alloc (.cells cs.toArray 3)) := fun cs => ((Only.refl _ _).alloc _).alloc _
            have HB1 : Hid (∀ cs : List Value, Below W0.heap.size W0 ((wr.alloc (.cells #[.int .i64 ta, .slice B1 n1 d1, .slice B2 n2 d2] 47)).alloc (.cells cs.toArray 3))) := Lib.hid (fun cs => HB.out.trans ((hO1 cs).below HB.out.size (fun _ _ h => h)))
            have HK1 : Hid (∀ cs : List Value, Blk ((wr.alloc (.cells #[.int .i64 ta, .slice B1 n1 d1, .slice B2 n2 d2] 47)).alloc (.cells cs.toArray 3)) wr.heap.size 47 #[.int .i64 ta, .slice B1 n1 d1, .slice B2 n2 d2]) := Lib.hid (fun cs => (Blk.new wr 47 _).alloc _)
            have HR1s : Hid (∀ cs : List Value, RowS slotT ((wr.alloc (.cells #[.int .i64 ta, .slice B1 n1 d1, .slice B2 n2 d2] 47)).alloc (.cells cs.toArray 3)) Empty B1 n1 d1 ts1 ∧ RowS slotT ((wr.alloc (.cells #[.int .i64 ta, .slice B1 n1 d1, .slice B2 n2 d2] 47)).alloc (.cells cs.toArray 3)) Empty B2 n2 d2 ts2) := Lib.hid (fun cs => ⟨hr1.next (hO1 cs) (fun _ _ h => h), hr2.next (hO1 cs) (fun _ _ h => h)⟩)
            obtain ⟨BW, hBW⟩ : ∃ B, wideF [ta] = B := ⟨_, rfl⟩
            obtain ⟨S1, hS1⟩ : ∃ B, slotsF C ts1 = B := ⟨_, rfl⟩
            obtain ⟨S2, hS2⟩ : ∃ B, slotsF C ts2 = B := ⟨_, rfl⟩
            rw [hBW, hS1, hS2] at HE
            rw [hBW] at C5
            have HC5 := Lib.hid C5
            have HS1 := Lib.hid hS1
            have HS2 := Lib.hid hS2
            clear hcs hx C5 hBW hS1 hS2 hr1 hr2 hO1
            go_wp2_with fail
            refine HC5.out.mono ?_
            rintro e w5 ⟨rfl, hw5⟩
            have HB5 : Hid (Below W0.heap.size W0 w5) := Lib.hid (by rw [← hw5]; exact HB1.out _)
            have HK5 : Hid (Blk w5 wr.heap.size 47 #[.int .i64 ta, .slice B1 n1 d1, .slice B2 n2 d2]) := Lib.hid (by rw [← hw5]; exact HK1.out _)
            have HR5 : Hid (RowS slotT w5 Empty B1 n1 d1 ts1 ∧ RowS slotT w5 Empty B2 n2 d2 ts2) := Lib.hid (by rw [← hw5]; exact HR1s.out _)
            have e1 : w5.cell? ⟨wr.heap.size, 1, none⟩ = some (.slice B1 n1 d1) := HK5.out.cell 1
            have HW5 : Hid (Below w.heap.size w w5) := Lib.hid (HB0.out.trans (HB5.out.mono HB0.out.size))
            clear hw5 HC5
            cases BW with
            | false =>
              have HR2 := Lib.hid (HN.out (by rw [HE.out]; rfl))
              go_wp2
              go_ret
              exact ⟨by rw [HR2.out]; rfl, HW5.out⟩
            | true =>
              have C6 := CS.out B1 n1 d1 ts1 w5 HW5.out HR5.out.1
              rw [HS1.out] at C6
              have HC6 := Lib.hid C6
              clear C6
              go_wp2_with fail
              refine HC6.out.mono ?_
              rintro e w6 ⟨rfl, hb6⟩
              have HB6 : Hid (Below W0.heap.size W0 w6) := Lib.hid (HB5.out.trans (hb6.mono HB5.out.size))
              have HW6 : Hid (Below w.heap.size w w6) := Lib.hid (HB0.out.trans (HB6.out.mono HB0.out.size))
              have HK6 : Hid (Blk w6 wr.heap.size 47 #[.int .i64 ta, .slice B1 n1 d1, .slice B2 n2 d2]) := Lib.hid (HK5.out.of (hb6.block _ HK5.out.lt))
              have e2 : w6.cell? ⟨wr.heap.size, 2, none⟩ = some (.slice B2 n2 d2) := HK6.out.cell 2
              have HR6 := Lib.hid (HR5.out.2.below hb6)
              clear hb6 HC6
              cases S1 with
              | false =>
                have HR2 := Lib.hid (HN.out (by rw [HE.out]; rfl))
                go_wp2
                go_ret
                exact ⟨by rw [HR2.out]; rfl, HW6.out⟩
              | true =>
                have C7 := CS.out B2 n2 d2 ts2 w6 HW6.out HR6.out
                rw [HS2.out] at C7
                have HC7 := Lib.hid C7
                clear C7
                go_wp2_with fail
                refine HC7.out.mono ?_
                rintro e w7 ⟨rfl, hb7⟩
                have HB7 : Hid (Below W0.heap.size W0 w7) := Lib.hid (HB6.out.trans (hb7.mono HB6.out.size))
                have HW7 : Hid (Below w.heap.size w w7) := Lib.hid (HB0.out.trans (HB7.out.mono HB0.out.size))
                clear hb7 HC7
                cases S2 with
                | false =>
                  have HR2 := Lib.hid (HN.out (by rw [HE.out]; rfl))
                  go_wp2
                  go_ret
                  exact ⟨by rw [HR2.out]; rfl, HW7.out⟩
                | true =>
                  have HR2 := Lib.hid (HY.out (by rw [HE.out]; rfl))
                  go_wp2
                  go_roundw
                  case rel => exact ⟨j + 1, by omega, by go_num, HB7, HR2⟩
                  case measure => simp [intOf]; omega
          · have hkn : j = nm := by omega
            subst hkn
            have HR2 : Hid (methF C f x y st lo d = (decide (0 < ((firstC C codeT).getD 0)) && (decide (j = 0) || decide (0 < ((firstC C mapsT).getD 0))))) := Lib.hid (by rw [HR1.out, all_yes Hml.out HF.out, Bool.true_and, Hml.out])
            have HW : Hid (Below w.heap.size w wr) := Lib.hid (HB0.out.trans (HB.out.mono HB0.out.size))
            have C8 := CF.out codeT wr HW.out
            have CF2 : Hid (∀ (W : World), Below w.heap.size w W → Calls Try.prog 26 #[.slice A n cap, .string (strB mapsT)] W fun e w' => e = .returned (.int .i64 (((firstC C mapsT).getD 0 : Nat) : Int)) ∧ Below W.heap.size W w') := Lib.hid (CF.out mapsT)
            obtain ⟨F1, hF1⟩ : ∃ F, (firstC C codeT).getD 0 = F := ⟨_, rfl⟩
            obtain ⟨F2, hF2⟩ : ∃ F, (firstC C mapsT).getD 0 = F := ⟨_, rfl⟩
            rw [hF1] at C8
            rw [hF1, hF2] at HR2
            rw [hF2] at CF2
            have HC8 := Lib.hid C8
            clear C8 hF1 hF2
            go_wp2_with fail
            refine HC8.out.mono ?_
            rintro e w5 ⟨rfl, hb5⟩
            have HB5 : Hid (Below W0.heap.size W0 w5) := Lib.hid (HB.out.trans (hb5.mono HB.out.size))
            have HW5 : Hid (Below w.heap.size w w5) := Lib.hid (HB0.out.trans (HB5.out.mono HB0.out.size))
            have HK5 := Lib.hid (HK.out.of (HB5.out.block _ HK.out.lt))
            have e7 : w5.cell? ⟨w.heap.size, 7, none⟩ = some (.slice Am j cm) := HK5.out.cell 7
            clear hb5 HC8
            by_cases hF1 : 0 < F1
            · by_cases hj0 : j = 0
              · have hq0 : ((j : Int) == 0) = true := by simpa using hj0
                have HR3 : Hid (methF C f x y st lo d = true) := Lib.hid (by rw [HR2.out, decide_eq_true hF1, decide_eq_true hj0]; rfl)
                clear hj0
                go_wp2
                go_ret
                exact ⟨by rw [HR3.out]; rfl, HW5.out⟩
              · have hq0 : ((j : Int) == 0) = false := by simpa using hj0
                have HR3 : Hid (methF C f x y st lo d = decide (0 < F2)) := Lib.hid (by rw [HR2.out, decide_eq_true hF1, decide_eq_false hj0]; simp)
                clear hj0
                go_wp2_with fail
                refine (CF2.out w5 HW5.out).mono ?_
                rintro e w6 ⟨rfl, hb6⟩
                have HW6 : Hid (Below w.heap.size w w6) := Lib.hid (HW5.out.trans (hb6.mono HW5.out.size))
                clear hb6
                by_cases hF2 : 0 < F2
                · have HR4 : Hid (methF C f x y st lo d = true) := Lib.hid (by rw [HR3.out, decide_eq_true hF2])
                  go_wp2
                  go_ret
                  exact ⟨by rw [HR4.out]; rfl, HW6.out⟩
                · have HR4 : Hid (methF C f x y st lo d = false) := Lib.hid (by rw [HR3.out, decide_eq_false hF2])
                  go_wp2
                  go_ret
                  exact ⟨by rw [HR4.out]; rfl, HW6.out⟩
            · have HR3 : Hid (methF C f x y st lo d = false) := Lib.hid (by rw [HR2.out, decide_eq_false hF1]; rfl)
              go_wp2
              go_ret
              exact ⟨by rw [HR3.out]; rfl, HW5.out⟩

end Go.Proofs.Ytendpbklcgiafaa

/- The walk over the document's Right (layer 14). -/
namespace Go.Proofs.Ytendpbklcgiafaa
set_option maxRecDepth 100000
open Go.RowKit

/-- A class as it is handed in. -/
structure FileIn (w : World) (A : Option Addr) (n cap : Nat) (Af : Option Addr) (nf cf : Nat) (Am : Option Addr) (nm cm : Nat) (f : FileD) : Prop where
  pool : PoolSl w A n cap f.pool
  ok : ∀ c ∈ f.pool, c.ok
  fields : RowS fieldT w Empty Af nf cf f.fields
  meths : RowS methD w Empty Am nm cm f.meths
theorem FileIn.below {w w' : World} {A Af Am : Option Addr} {n cap nf cf nm cm : Nat} {f : FileD} (h : FileIn w A n cap Af nf cf Am nm cm f) (hb : Below w.heap.size w w') : FileIn w' A n cap Af nf cf Am nm cm f :=
  ⟨h.pool.below hb, h.ok, h.fields.below hb, h.meths.below hb⟩
/-- How great a class may be here. -/
structure FileSm (f : FileD) : Prop where
  pool : f.pool.length ≤ 1000000
  texts : ∀ c ∈ f.pool, c.s.length ≤ 100000
def methOk (C : List Cst) (m : MethD) : Bool := methF C m.flags m.name m.desc m.body.stack m.body.locals m.body
def fieldOk (C : List Cst) (x : FieldD) : Bool := memF C x.flags x.name x.desc
noncomputable def docRight (f : FileD) : Bool :=
  rightF f.pool && (isClassC f.pool f.this && (isClsNoneC f.pool f.super && (decide (f.fields.length ≤ 64) && (decide (f.meths.length ≤ 64) && (f.fields.all (fieldOk f.pool) && f.meths.all (methOk f.pool))))))
theorem right_zero {l : List Cst} (h : rightF l = true) : ∀ c, l[0]? = some c → c.tag ≠ 1 := by
  intro c hc
  unfold rightF at h
  simp only [Bool.and_eq_true, decide_eq_true_eq] at h
  have := h.1.2
  rw [hc] at this
  simp only [Option.map_some, Option.some.injEq] at this
  omega

set_option maxHeartbeats 8000000 in
theorem r14Right_any (A : Option Addr) (n cap : Nat) (Af : Option Addr) (nf cf : Nat) (Am : Option Addr) (nm cm : Nat) (x0 y0 : Int) (f : FileD) (w : World) (hI : FileIn w A n cap Af nf cf Am nm cm f) (hs : FileSm f) (hx : f.this = x0) (hy : f.super = y0) :
    Calls Try.prog 6 #[.agg #[.slice A n cap, .int .i64 x0, .int .i64 y0, .slice Af nf cf, .slice Am nm cm]] w fun e w' => e = .returned (.bool (docRight f)) ∧ Below w.heap.size w w' := by
  obtain ⟨W0, hW0⟩ : ∃ W0, W0 = w.alloc (.cells #[.slice A n cap, .int .i64 x0, .int .i64 y0, .slice Af nf cf, .slice Am nm cm] 26) := ⟨_, rfl⟩
  have hb0 : Below w.heap.size w W0 := by rw [hW0]; exact (Below.refl _ _).alloc (Nat.le_refl _) _
  have hK : Blk W0 w.heap.size 26 #[.slice A n cap, .int .i64 x0, .int .i64 y0, .slice Af nf cf, .slice Am nm cm] := by rw [hW0]; exact Blk.new _ _ _
  have hl := hI.pool.1
  have hn : n ≤ 1000000 := by have := hs.pool; omega
  have CR := refRight_any A n cap f.pool W0 (hI.pool.below hb0) hn hI.ok hs.texts
  have CC : Hid (∀ (x : Int) (W : World), Below w.heap.size w W → Calls Try.prog 13 #[.slice A n cap, .int .i64 x] W fun e w' => e = .returned (.bool (isClassC f.pool x)) ∧ W = w') :=
    Lib.hid (fun x W hb => r14class_any A n cap f.pool x W (hI.pool.below hb) hn)
  have CM : Hid (∀ (a b c : Int) (W : World), Below w.heap.size w W → Calls Try.prog 14 #[.slice A n cap, .int .i64 a, .int .i64 b, .int .i64 c] W fun e w' => e = .returned (.bool (memF f.pool a b c)) ∧ W = w') :=
    Lib.hid (fun a b c W hb => r14member_any A n cap f.pool a b c W (hI.pool.below hb) hn)
  have CH : Hid ((∀ c, f.pool[0]? = some c → c.tag ≠ 1) → ∀ (a b c st lo : Int) (Ac : Option Addr) (nc cc : Nat) (At : Option Addr) (nt ct : Nat) (Am : Option Addr) (nm cm : Nat) (d : BodyD) (W : World), Below w.heap.size w W → BodyIn W Ac nc cc At nt ct Am nm cm d →
      Calls Try.prog 15 #[.slice A n cap, .agg #[.int .i64 a, .int .i64 b, .int .i64 c, .int .i64 st, .int .i64 lo, .slice Ac nc cc, .slice At nt ct, .slice Am nm cm]] W fun e w' => e = .returned (.bool (methF f.pool a b c st lo d)) ∧ Below W.heap.size W w') :=
    Lib.hid (fun hz a b c st lo Ac nc cc At nt ct Am nm cm d W hb h1 => r14method_any A n cap f.pool a b c st lo Ac nc cc At nt ct Am nm cm d W (hI.pool.below hb) hn hz h1)
  have HI := Lib.hid (hI.below hb0)
  have hfl : f.fields.length = nf := hI.fields.1
  have hml : f.meths.length = nm := hI.meths.1
  have Hfl := Lib.hid hfl
  have Hml := Lib.hid hml
  have hcap : cap ≤ 9223372036854775807 ∧ cf ≤ 9223372036854775807 ∧ cm ≤ 9223372036854775807 ∧ n ≤ cap ∧ nf ≤ cf ∧ nm ≤ cm := ⟨by have h := hI.pool.2.2.1; unfold maxLen at h; omega, by have h := hI.fields.2.2.1; unfold maxLen at h; omega, by have h := hI.meths.2.2.1; unfold maxLen at h; omega, hI.pool.2.1, hI.fields.2.1, hI.meths.2.1⟩
  have HB0 := Lib.hid hb0
  have HK := Lib.hid hK
  have HW0 := Lib.hid hW0
  have Hx := Lib.hid hx
  have Hy := Lib.hid hy
  obtain ⟨BR, hBR⟩ : ∃ B, rightF f.pool = B := ⟨_, rfl⟩
  rw [hBR] at CR
  have HBR := Lib.hid hBR
  have HCR := Lib.hid CR
  have a0 : W0.cell? ⟨w.heap.size, 0, none⟩ = some (.slice A n cap) := hK.cell 0
  have a1 : W0.cell? ⟨w.heap.size, 1, none⟩ = some (.int .i64 x0) := hK.cell 1
  have a2 : W0.cell? ⟨w.heap.size, 2, none⟩ = some (.int .i64 y0) := hK.cell 2
  have a3 : W0.cell? ⟨w.heap.size, 3, none⟩ = some (.slice Af nf cf) := hK.cell 3
  have a4 : W0.cell? ⟨w.heap.size, 4, none⟩ = some (.slice Am nm cm) := hK.cell 4
  clear hI hs hx hy hfl hml hb0 hK hW0 CR hBR hl
  go_enter Try.func6, Try.ntmps6
  go_wp2_with fail
  rw [← HW0.out]
  go_wp2_with fail
  refine HCR.out.mono ?_
  rintro e w1 ⟨rfl, hb1⟩
  have HB1 : Hid (Below w.heap.size w w1) := Lib.hid (HB0.out.trans (hb1.mono HB0.out.size))
  have HI1 := Lib.hid (HI.out.below hb1)
  have HK1 := Lib.hid (HK.out.of (hb1.block _ HK.out.lt))
  clear a0 a1 a2 a3 a4 hb1 HCR
  have a0 : w1.cell? ⟨w.heap.size, 0, none⟩ = some (.slice A n cap) := HK1.out.cell 0
  have a1 : w1.cell? ⟨w.heap.size, 1, none⟩ = some (.int .i64 x0) := HK1.out.cell 1
  have a2 : w1.cell? ⟨w.heap.size, 2, none⟩ = some (.int .i64 y0) := HK1.out.cell 2
  have a3 : w1.cell? ⟨w.heap.size, 3, none⟩ = some (.slice Af nf cf) := HK1.out.cell 3
  have a4 : w1.cell? ⟨w.heap.size, 4, none⟩ = some (.slice Am nm cm) := HK1.out.cell 4
  cases BR with
  | false =>
    have HR : Hid (docRight f = false) := Lib.hid (by unfold docRight; rw [HBR.out]; rfl)
    go_wp2
    go_ret
    exact ⟨by rw [HR.out]; rfl, HB1.out⟩
  | true =>
  have HZ := Lib.hid (right_zero HBR.out)
  have C2 := CC.out x0 w1 HB1.out
  obtain ⟨B2, hB2⟩ : ∃ B, isClassC f.pool x0 = B := ⟨_, rfl⟩
  rw [hB2] at C2
  have HB2 := Lib.hid hB2
  have HC2 := Lib.hid C2
  clear C2 hB2
  go_wp2_with fail
  refine HC2.out.mono ?_
  rintro e w2 ⟨rfl, rfl⟩
  clear HC2
  cases B2 with
  | false =>
    have HR : Hid (docRight f = false) := Lib.hid (by unfold docRight; rw [Hx.out, HB2.out]; simp)
    go_wp2
    go_ret
    exact ⟨by rw [HR.out]; rfl, HB1.out⟩
  | true =>
  have HG : Hid (isClsNoneC f.pool y0 = true → docRight f = (decide (f.fields.length ≤ 64) && (decide (f.meths.length ≤ 64) && (f.fields.all (fieldOk f.pool) && f.meths.all (methOk f.pool))))) := Lib.hid (fun h => by unfold docRight; rw [HBR.out, Hx.out, HB2.out, Hy.out, h]; simp only [Bool.true_and])
  have HGn : Hid (isClsNoneC f.pool y0 = false → docRight f = false) := Lib.hid (fun h => by unfold docRight; rw [Hy.out, h]; simp)
  clear HBR HB2
  by_cases h0 : y0 = 0
  case neg =>
    have hq0 : (y0 != 0) = true := by simpa using h0
    have HE2 : Hid (isClsNoneC f.pool y0 = isClassC f.pool y0) := Lib.hid (by unfold isClsNoneC; rw [decide_eq_false h0, Bool.false_or])
    have C3 := CC.out y0 w1 HB1.out
    obtain ⟨B3, hB3⟩ : ∃ B, isClassC f.pool y0 = B := ⟨_, rfl⟩
    rw [hB3] at C3 HE2
    have HC3 := Lib.hid C3
    clear C3 hB3 h0
    go_wp2_with fail
    refine HC3.out.mono ?_
    rintro e w2 ⟨rfl, rfl⟩
    clear HC3
    cases B3 with
    | false =>
      have HR : Hid (docRight f = false) := Lib.hid (HGn.out HE2.out)
      go_wp2
      go_ret
      exact ⟨by rw [HR.out]; rfl, HB1.out⟩
    | true =>
    have HG1 := Lib.hid (HG.out HE2.out)
    clear HG HGn HE2
    by_cases hf6 : 64 < nf
    · have HR : Hid (docRight f = false) := Lib.hid (by rw [HG1.out, decide_eq_false (p := f.fields.length ≤ 64) (by rw [Hfl.out]; omega)]; rfl)
      go_wp2
      go_ret
      exact ⟨by rw [HR.out]; rfl, HB1.out⟩
    by_cases hm6 : 64 < nm
    · have HR : Hid (docRight f = false) := Lib.hid (by rw [HG1.out, decide_eq_false (p := f.meths.length ≤ 64) (by rw [Hml.out]; omega)]; simp)
      go_wp2
      go_ret
      exact ⟨by rw [HR.out]; rfl, HB1.out⟩
    have HG2 : Hid (docRight f = (f.fields.all (fieldOk f.pool) && f.meths.all (methOk f.pool))) := Lib.hid (by rw [HG1.out, decide_eq_true (p := f.fields.length ≤ 64) (by rw [Hfl.out]; omega), decide_eq_true (p := f.meths.length ≤ 64) (by rw [Hml.out]; omega)]; rfl)
    clear HG1
    go_wp2
    go_loopw [47] (fun i wr => ∃ k : Nat, k ≤ nf ∧ i = .int .i64 k ∧ Hid (Below w1.heap.size w1 wr) ∧ Hid (∀ (j : Nat) t, j < k → f.fields[j]? = some t → fieldOk f.pool t = true)) (fun i _ => nf - (intOf i).toNat)
    case atStart => exact ⟨0, Nat.zero_le _, rfl, Lib.hid (Below.refl _ _), Lib.hid (fun j t h => absurd h (by omega))⟩
    case round =>
      obtain ⟨k, hk, rfl, HB, HF⟩ := hrel
      have HKr := Lib.hid (HK1.out.of (HB.out.block _ HK1.out.lt))
      have hltK : w.heap.size < wr.heap.size := HKr.out.lt
      have r0 : wr.cell? ⟨w.heap.size, 0, none⟩ = some (.slice A n cap) := HKr.out.cell 0
      have r4 : wr.cell? ⟨w.heap.size, 4, none⟩ = some (.slice Am nm cm) := HKr.out.cell 4
      have HWr : Hid (Below w.heap.size w wr) := Lib.hid (HB1.out.trans (HB.out.mono HB1.out.size))
      by_cases hlt : k < nf
      · obtain ⟨b, o, t, cs, rfl, hx, hb, hr, hcs⟩ := (HI1.out.below HB.out).fields.at_ hlt
        have hr : cs = FieldD.cells t := hr
        subst hr
        obtain ⟨t0, t1, t2⟩ := t
        have c0' : wr.cell? ⟨b, o + k * 3, none⟩ = some (.int .i64 t0) := hcs 0 _ rfl
        have c1' : wr.cell? ⟨b, o + k * 3 + 1, none⟩ = some (.int .i64 t1) := hcs 1 _ rfl
        have c2' : wr.cell? ⟨b, o + k * 3 + 2, none⟩ = some (.int .i64 t2) := hcs 2 _ rfl
        have HA : Hid (∀ cs : Array Value, Below w.heap.size w (wr.alloc (.cells cs 51)) ∧ Below w1.heap.size w1 (wr.alloc (.cells cs 51))) := Lib.hid (fun cs => ⟨HWr.out.alloc HWr.out.size _, HB.out.alloc HB.out.size _⟩)
        have HN : Hid (memF f.pool t0 t1 t2 = false → docRight f = false) := Lib.hid (fun h => by rw [HG2.out, all_no (p := fieldOk f.pool) hx h]; rfl)
        have HY : Hid (memF f.pool t0 t1 t2 = true → ∀ (j : Nat) t, j < k + 1 → f.fields[j]? = some t → fieldOk f.pool t = true) := Lib.hid (fun h => up_one HF.out hx h)
        have C5 := CM.out t0 t1 t2 _ (HA.out #[.int .i64 t0, .int .i64 t1, .int .i64 t2]).1
        obtain ⟨BM, hBM⟩ : ∃ B, memF f.pool t0 t1 t2 = B := ⟨_, rfl⟩
        rw [hBM] at C5 HN HY
        have HC5 := Lib.hid C5
        clear hcs hx C5 hBM
        go_wp2_with fail
        refine HC5.out.mono ?_
        rintro e w5 ⟨rfl, rfl⟩
        cases BM with
        | false =>
          have HR := Lib.hid (HN.out rfl)
          go_wp2
          go_ret
          exact ⟨by rw [HR.out]; rfl, (HA.out _).1⟩
        | true =>
          have HR := Lib.hid (HY.out rfl)
          go_wp2
          go_roundw
          case rel => exact ⟨k + 1, by omega, by go_num, Lib.hid (HA.out _).2, HR⟩
          case measure => simp [intOf]; omega
      · have hkn : k = nf := by omega
        subst hkn
        have HG3 : Hid (docRight f = f.meths.all (methOk f.pool)) := Lib.hid (by rw [HG2.out, all_yes Hfl.out HF.out, Bool.true_and])
        clear a0 a1 a2 a3 a4 HF
        go_wp2
        go_loopw [65] (fun i wr => ∃ k : Nat, k ≤ nm ∧ i = .int .i64 k ∧ Hid (Below w1.heap.size w1 wr) ∧ Hid (∀ (j : Nat) t, j < k → f.meths[j]? = some t → methOk f.pool t = true)) (fun i _ => nm - (intOf i).toNat)
        case atStart => exact ⟨0, Nat.zero_le _, rfl, HB, Lib.hid (fun j t h => absurd h (by omega))⟩
        case round =>
          clear r0 r4 hltK HB HKr HWr
          obtain ⟨j, hj, rfl, HB, HF⟩ := hrel
          have HKr := Lib.hid (HK1.out.of (HB.out.block _ HK1.out.lt))
          have hltK : w.heap.size < wr.heap.size := HKr.out.lt
          have r0 : wr.cell? ⟨w.heap.size, 0, none⟩ = some (.slice A n cap) := HKr.out.cell 0
          have HWr : Hid (Below w.heap.size w wr) := Lib.hid (HB1.out.trans (HB.out.mono HB1.out.size))
          by_cases hlt : j < nm
          · obtain ⟨b, o, t, cs, rfl, hx, hb, hr, hcs⟩ := (HI1.out.below HB.out).meths.at_ hlt
            obtain ⟨m0, m1, m2, bd⟩ := t
            obtain ⟨cb, rfl, hbd⟩ := hr
            obtain ⟨st, lo, cd, tr, mp⟩ := bd
            obtain ⟨uc, ut, um, rfl, ⟨Ac, nc, cc, e1, hB1, hn1⟩, ⟨At, nt, ct, e2, hr1⟩, ⟨An, ni, ci, e3, hr2⟩⟩ := hbd
            cases e1
            cases e2
            cases e3
            have c0' : wr.cell? ⟨b, o + j * 8, none⟩ = some (.int .i64 m0) := hcs 0 _ rfl
            have c1' : wr.cell? ⟨b, o + j * 8 + 1, none⟩ = some (.int .i64 m1) := hcs 1 _ rfl
            have c2' : wr.cell? ⟨b, o + j * 8 + 2, none⟩ = some (.int .i64 m2) := hcs 2 _ rfl
            have c3' : wr.cell? ⟨b, o + j * 8 + 3, none⟩ = some (.int .i64 st) := hcs 3 _ rfl
            have c4' : wr.cell? ⟨b, o + j * 8 + 4, none⟩ = some (.int .i64 lo) := hcs 4 _ rfl
            have c5' : wr.cell? ⟨b, o + j * 8 + 5, none⟩ = some (.slice Ac nc cc) := hcs 5 _ rfl
            have c6' : wr.cell? ⟨b, o + j * 8 + 6, none⟩ = some (.slice At nt ct) := hcs 6 _ rfl
            have c7' : wr.cell? ⟨b, o + j * 8 + 7, none⟩ = some (.slice An ni ci) := hcs 7 _ rfl
            have hBI : BodyIn wr Ac nc cc At nt ct An ni ci ⟨st, lo, cd, tr, mp⟩ := ⟨hB1, hn1, hr1, hr2⟩
            have hba : Below wr.heap.size wr (wr.alloc (.cells #[.int .i64 m0, .int .i64 m1, .int .i64 m2, .int .i64 st, .int .i64 lo, .slice Ac nc cc, .slice At nt ct, .slice An ni ci] 44)) := (Below.refl _ _).alloc (Nat.le_refl _) _
            have HA : Hid (Below w.heap.size w (wr.alloc (.cells #[.int .i64 m0, .int .i64 m1, .int .i64 m2, .int .i64 st, .int .i64 lo, .slice Ac nc cc, .slice At nt ct, .slice An ni ci] 44)) ∧ Below w1.heap.size w1 (wr.alloc (.cells #[.int .i64 m0, .int .i64 m1, .int .i64 m2, .int .i64 st, .int .i64 lo, .slice Ac nc cc, .slice At nt ct, .slice An ni ci] 44))) := Lib.hid ⟨HWr.out.alloc HWr.out.size _, HB.out.alloc HB.out.size _⟩
            have HN : Hid (methF f.pool m0 m1 m2 st lo ⟨st, lo, cd, tr, mp⟩ = false → docRight f = false) := Lib.hid (fun h => by rw [HG3.out, all_no (p := methOk f.pool) hx h])
            have HY : Hid (methF f.pool m0 m1 m2 st lo ⟨st, lo, cd, tr, mp⟩ = true → ∀ (i : Nat) t, i < j + 1 → f.meths[i]? = some t → methOk f.pool t = true) := Lib.hid (fun h => up_one HF.out hx h)
            have C5 := CH.out HZ.out m0 m1 m2 st lo Ac nc cc At nt ct An ni ci ⟨st, lo, cd, tr, mp⟩ _ HA.out.1 (hBI.below hba)
            obtain ⟨BM, hBM⟩ : ∃ B, methF f.pool m0 m1 m2 st lo ⟨st, lo, cd, tr, mp⟩ = B := ⟨_, rfl⟩
            rw [hBM] at C5 HN HY
            have HC5 := Lib.hid C5
            clear hcs hx C5 hBM hB1 hn1 hr1 hr2 hBI hba
            go_wp2_with fail
            refine HC5.out.mono ?_
            rintro e w5 ⟨rfl, hb5⟩
            have HB5 : Hid (Below w.heap.size w w5 ∧ Below w1.heap.size w1 w5) := Lib.hid ⟨HA.out.1.trans (hb5.mono HA.out.1.size), HA.out.2.trans (hb5.mono HA.out.2.size)⟩
            clear hb5 HC5
            cases BM with
            | false =>
              have HR := Lib.hid (HN.out rfl)
              go_wp2
              go_ret
              exact ⟨by rw [HR.out]; rfl, HB5.out.1⟩
            | true =>
              have HR := Lib.hid (HY.out rfl)
              go_wp2
              go_roundw
              case rel => exact ⟨j + 1, by omega, by go_num, Lib.hid HB5.out.2, HR⟩
              case measure => simp [intOf]; omega
          · have hkn : j = nm := by omega
            subst hkn
            have HR : Hid (docRight f = true) := Lib.hid (by rw [HG3.out, all_yes Hml.out HF.out])
            go_wp2
            go_ret
            exact ⟨by rw [HR.out]; rfl, HWr.out⟩
  case pos =>
    have hq0 : (y0 != 0) = false := by simpa using h0
    have HG1 := Lib.hid (HG.out (by rw [h0]; rfl))
    clear HG HGn h0
    by_cases hf6 : 64 < nf
    · have HR : Hid (docRight f = false) := Lib.hid (by rw [HG1.out, decide_eq_false (p := f.fields.length ≤ 64) (by rw [Hfl.out]; omega)]; rfl)
      go_wp2
      go_ret
      exact ⟨by rw [HR.out]; rfl, HB1.out⟩
    by_cases hm6 : 64 < nm
    · have HR : Hid (docRight f = false) := Lib.hid (by rw [HG1.out, decide_eq_false (p := f.meths.length ≤ 64) (by rw [Hml.out]; omega)]; simp)
      go_wp2
      go_ret
      exact ⟨by rw [HR.out]; rfl, HB1.out⟩
    have HG2 : Hid (docRight f = (f.fields.all (fieldOk f.pool) && f.meths.all (methOk f.pool))) := Lib.hid (by rw [HG1.out, decide_eq_true (p := f.fields.length ≤ 64) (by rw [Hfl.out]; omega), decide_eq_true (p := f.meths.length ≤ 64) (by rw [Hml.out]; omega)]; rfl)
    clear HG1
    go_wp2
    go_loopw [47] (fun i wr => ∃ k : Nat, k ≤ nf ∧ i = .int .i64 k ∧ Hid (Below w1.heap.size w1 wr) ∧ Hid (∀ (j : Nat) t, j < k → f.fields[j]? = some t → fieldOk f.pool t = true)) (fun i _ => nf - (intOf i).toNat)
    case atStart => exact ⟨0, Nat.zero_le _, rfl, Lib.hid (Below.refl _ _), Lib.hid (fun j t h => absurd h (by omega))⟩
    case round =>
      obtain ⟨k, hk, rfl, HB, HF⟩ := hrel
      have HKr := Lib.hid (HK1.out.of (HB.out.block _ HK1.out.lt))
      have hltK : w.heap.size < wr.heap.size := HKr.out.lt
      have r0 : wr.cell? ⟨w.heap.size, 0, none⟩ = some (.slice A n cap) := HKr.out.cell 0
      have r4 : wr.cell? ⟨w.heap.size, 4, none⟩ = some (.slice Am nm cm) := HKr.out.cell 4
      have HWr : Hid (Below w.heap.size w wr) := Lib.hid (HB1.out.trans (HB.out.mono HB1.out.size))
      by_cases hlt : k < nf
      · obtain ⟨b, o, t, cs, rfl, hx, hb, hr, hcs⟩ := (HI1.out.below HB.out).fields.at_ hlt
        have hr : cs = FieldD.cells t := hr
        subst hr
        obtain ⟨t0, t1, t2⟩ := t
        have c0' : wr.cell? ⟨b, o + k * 3, none⟩ = some (.int .i64 t0) := hcs 0 _ rfl
        have c1' : wr.cell? ⟨b, o + k * 3 + 1, none⟩ = some (.int .i64 t1) := hcs 1 _ rfl
        have c2' : wr.cell? ⟨b, o + k * 3 + 2, none⟩ = some (.int .i64 t2) := hcs 2 _ rfl
        have HA : Hid (∀ cs : Array Value, Below w.heap.size w (wr.alloc (.cells cs 51)) ∧ Below w1.heap.size w1 (wr.alloc (.cells cs 51))) := Lib.hid (fun cs => ⟨HWr.out.alloc HWr.out.size _, HB.out.alloc HB.out.size _⟩)
        have HN : Hid (memF f.pool t0 t1 t2 = false → docRight f = false) := Lib.hid (fun h => by rw [HG2.out, all_no (p := fieldOk f.pool) hx h]; rfl)
        have HY : Hid (memF f.pool t0 t1 t2 = true → ∀ (j : Nat) t, j < k + 1 → f.fields[j]? = some t → fieldOk f.pool t = true) := Lib.hid (fun h => up_one HF.out hx h)
        have C5 := CM.out t0 t1 t2 _ (HA.out #[.int .i64 t0, .int .i64 t1, .int .i64 t2]).1
        obtain ⟨BM, hBM⟩ : ∃ B, memF f.pool t0 t1 t2 = B := ⟨_, rfl⟩
        rw [hBM] at C5 HN HY
        have HC5 := Lib.hid C5
        clear hcs hx C5 hBM
        go_wp2_with fail
        refine HC5.out.mono ?_
        rintro e w5 ⟨rfl, rfl⟩
        cases BM with
        | false =>
          have HR := Lib.hid (HN.out rfl)
          go_wp2
          go_ret
          exact ⟨by rw [HR.out]; rfl, (HA.out _).1⟩
        | true =>
          have HR := Lib.hid (HY.out rfl)
          go_wp2
          go_roundw
          case rel => exact ⟨k + 1, by omega, by go_num, Lib.hid (HA.out _).2, HR⟩
          case measure => simp [intOf]; omega
      · have hkn : k = nf := by omega
        subst hkn
        have HG3 : Hid (docRight f = f.meths.all (methOk f.pool)) := Lib.hid (by rw [HG2.out, all_yes Hfl.out HF.out, Bool.true_and])
        clear a0 a1 a2 a3 a4 HF
        go_wp2
        go_loopw [65] (fun i wr => ∃ k : Nat, k ≤ nm ∧ i = .int .i64 k ∧ Hid (Below w1.heap.size w1 wr) ∧ Hid (∀ (j : Nat) t, j < k → f.meths[j]? = some t → methOk f.pool t = true)) (fun i _ => nm - (intOf i).toNat)
        case atStart => exact ⟨0, Nat.zero_le _, rfl, HB, Lib.hid (fun j t h => absurd h (by omega))⟩
        case round =>
          clear r0 r4 hltK HB HKr HWr
          obtain ⟨j, hj, rfl, HB, HF⟩ := hrel
          have HKr := Lib.hid (HK1.out.of (HB.out.block _ HK1.out.lt))
          have hltK : w.heap.size < wr.heap.size := HKr.out.lt
          have r0 : wr.cell? ⟨w.heap.size, 0, none⟩ = some (.slice A n cap) := HKr.out.cell 0
          have HWr : Hid (Below w.heap.size w wr) := Lib.hid (HB1.out.trans (HB.out.mono HB1.out.size))
          by_cases hlt : j < nm
          · obtain ⟨b, o, t, cs, rfl, hx, hb, hr, hcs⟩ := (HI1.out.below HB.out).meths.at_ hlt
            obtain ⟨m0, m1, m2, bd⟩ := t
            obtain ⟨cb, rfl, hbd⟩ := hr
            obtain ⟨st, lo, cd, tr, mp⟩ := bd
            obtain ⟨uc, ut, um, rfl, ⟨Ac, nc, cc, e1, hB1, hn1⟩, ⟨At, nt, ct, e2, hr1⟩, ⟨An, ni, ci, e3, hr2⟩⟩ := hbd
            cases e1
            cases e2
            cases e3
            have c0' : wr.cell? ⟨b, o + j * 8, none⟩ = some (.int .i64 m0) := hcs 0 _ rfl
            have c1' : wr.cell? ⟨b, o + j * 8 + 1, none⟩ = some (.int .i64 m1) := hcs 1 _ rfl
            have c2' : wr.cell? ⟨b, o + j * 8 + 2, none⟩ = some (.int .i64 m2) := hcs 2 _ rfl
            have c3' : wr.cell? ⟨b, o + j * 8 + 3, none⟩ = some (.int .i64 st) := hcs 3 _ rfl
            have c4' : wr.cell? ⟨b, o + j * 8 + 4, none⟩ = some (.int .i64 lo) := hcs 4 _ rfl
            have c5' : wr.cell? ⟨b, o + j * 8 + 5, none⟩ = some (.slice Ac nc cc) := hcs 5 _ rfl
            have c6' : wr.cell? ⟨b, o + j * 8 + 6, none⟩ = some (.slice At nt ct) := hcs 6 _ rfl
            have c7' : wr.cell? ⟨b, o + j * 8 + 7, none⟩ = some (.slice An ni ci) := hcs 7 _ rfl
            have hBI : BodyIn wr Ac nc cc At nt ct An ni ci ⟨st, lo, cd, tr, mp⟩ := ⟨hB1, hn1, hr1, hr2⟩
            have hba : Below wr.heap.size wr (wr.alloc (.cells #[.int .i64 m0, .int .i64 m1, .int .i64 m2, .int .i64 st, .int .i64 lo, .slice Ac nc cc, .slice At nt ct, .slice An ni ci] 44)) := (Below.refl _ _).alloc (Nat.le_refl _) _
            have HA : Hid (Below w.heap.size w (wr.alloc (.cells #[.int .i64 m0, .int .i64 m1, .int .i64 m2, .int .i64 st, .int .i64 lo, .slice Ac nc cc, .slice At nt ct, .slice An ni ci] 44)) ∧ Below w1.heap.size w1 (wr.alloc (.cells #[.int .i64 m0, .int .i64 m1, .int .i64 m2, .int .i64 st, .int .i64 lo, .slice Ac nc cc, .slice At nt ct, .slice An ni ci] 44))) := Lib.hid ⟨HWr.out.alloc HWr.out.size _, HB.out.alloc HB.out.size _⟩
            have HN : Hid (methF f.pool m0 m1 m2 st lo ⟨st, lo, cd, tr, mp⟩ = false → docRight f = false) := Lib.hid (fun h => by rw [HG3.out, all_no (p := methOk f.pool) hx h])
            have HY : Hid (methF f.pool m0 m1 m2 st lo ⟨st, lo, cd, tr, mp⟩ = true → ∀ (i : Nat) t, i < j + 1 → f.meths[i]? = some t → methOk f.pool t = true) := Lib.hid (fun h => up_one HF.out hx h)
            have C5 := CH.out HZ.out m0 m1 m2 st lo Ac nc cc At nt ct An ni ci ⟨st, lo, cd, tr, mp⟩ _ HA.out.1 (hBI.below hba)
            obtain ⟨BM, hBM⟩ : ∃ B, methF f.pool m0 m1 m2 st lo ⟨st, lo, cd, tr, mp⟩ = B := ⟨_, rfl⟩
            rw [hBM] at C5 HN HY
            have HC5 := Lib.hid C5
            clear hcs hx C5 hBM hB1 hn1 hr1 hr2 hBI hba
            go_wp2_with fail
            refine HC5.out.mono ?_
            rintro e w5 ⟨rfl, hb5⟩
            have HB5 : Hid (Below w.heap.size w w5 ∧ Below w1.heap.size w1 w5) := Lib.hid ⟨HA.out.1.trans (hb5.mono HA.out.1.size), HA.out.2.trans (hb5.mono HA.out.2.size)⟩
            clear hb5 HC5
            cases BM with
            | false =>
              have HR := Lib.hid (HN.out rfl)
              go_wp2
              go_ret
              exact ⟨by rw [HR.out]; rfl, HB5.out.1⟩
            | true =>
              have HR := Lib.hid (HY.out rfl)
              go_wp2
              go_roundw
              case rel => exact ⟨j + 1, by omega, by go_num, Lib.hid HB5.out.2, HR⟩
              case measure => simp [intOf]; omega
          · have hkn : j = nm := by omega
            subst hkn
            have HR : Hid (docRight f = true) := Lib.hid (by rw [HG3.out, all_yes Hml.out HF.out])
            go_wp2
            go_ret
            exact ⟨by rw [HR.out]; rfl, HWr.out⟩

end Go.Proofs.Ytendpbklcgiafaa
