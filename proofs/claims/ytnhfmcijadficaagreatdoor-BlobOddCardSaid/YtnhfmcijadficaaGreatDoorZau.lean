/- The walks over blob's mayNotBe, and over slices.ContainsFunc at changes: with a function, with a closure that holds one variable; blob's refusal. -/
import Derived.Test.YtnhfmcijadficaaGreatDoorZaq
import Derived.Test.YtnhfmcijadficaaGreatDoorZat
import Derived.Shelf.Abstract
import Derived.Test.YtnhfmcijadficaaGreatDoorZac
namespace Go.Proofs.YtnhfmcijadficaaGreatDoor
set_option maxRecDepth 100000
open Go.RowKit

set_option maxHeartbeats 1000000 in
theorem mayNotBe_any (f : Ch) (w : World) (hf : ByteSl w Empty f.A f.n f.cap f.blob ∧ (f.A = none → f.n = 0 ∧ f.cap = 0)) :
    Calls Tryz.prog 84 #[f.v] w fun e1 w' => e1 = .returned (.bool (!f.may)) ∧ Below w.heap.size w w' := by
  have hr := f.rAt hf
  have Hr := Lib.hid hr
  have Hrec := Lib.hid (chRec_any f 1)
  have hb0 := (Below.refl w.heap.size w).alloc (Nat.le_refl _) (.cells #[.bool f.del, .string f.s, .slice f.A f.n f.cap] 37)
  have Hb0 := Lib.hid hb0
  have hv : f.v = .agg #[.bool f.del, .string f.s, .slice f.A f.n f.cap] := rfl
  rw [hv] at Hrec ⊢
  clear hf hr hb0
  cases hm : f.may
  · have Hm : Hid (mayB (f.rk : Int) 1 (f.s.size : Int) (f.rN : Int) 0 = false) := Lib.hid hm
    clear hm
    go_enter Tryz.func84, Tryz.ntmps84
    go_wp2_with fail
    refine (Hrec.out _).mono ?_
    unfold recV
    rintro e1 w1 ⟨rfl, hb1⟩
    have Hb1 := Lib.hid (Hb0.out.trans (hb1.mono Hb0.out.size))
    clear hb1
    go_wp2_with fail
    refine (rcBytes_no (f.rk : Int) 1 0 f.s f.rA f.rN f.rC _ Hm.out).mono ?_
    rintro e2 w2 ⟨rfl, hb2⟩
    have Hb2 := Lib.hid (Hb1.out.trans (hb2.mono Hb1.out.size))
    clear hb2
    go_wp2_with fail
    go_ret
    exact ⟨rfl, Hb2.out⟩
  · have Hm : Hid (mayB (f.rk : Int) ((1 : Nat) : Int) (f.s.size : Int) (f.rN : Int) ((0 : Nat) : Int) = true) := Lib.hid hm
    clear hm
    go_enter Tryz.func84, Tryz.ntmps84
    go_wp2_with fail
    refine (Hrec.out _).mono ?_
    unfold recV
    rintro e1 w1 ⟨rfl, hb1⟩
    have Hb1 := Lib.hid (Hb0.out.trans (hb1.mono Hb0.out.size))
    clear hb1
    have hy := rcBytes_yes f.rk 1 0 f.s f.rA f.rN f.rC f.rB w1 Hm.out (by decide) (Hr.out.1.only (Only.of_below (S := Empty) Hb1.out) (fun _ _ h => h)) Hr.out.2
    have Hy := Lib.hid hy
    clear hy
    go_wp2_with fail
    refine Hy.out.mono ?_
    rintro e2 w2 ⟨⟨A2, cap2, rfl, _⟩, hb2⟩
    have Hb2 := Lib.hid (Hb1.out.trans (hb2.mono Hb1.out.size))
    clear hb2
    go_wp2_with fail
    go_ret
    exact ⟨rfl, Hb2.out⟩

/-- The place of the first that a test lets by. -/
def firstI (t : Ch → Bool) (l : List Ch) : Int := match l.findIdx? t with | some i => (i : Int) | none => -1

set_option maxHeartbeats 2000000 in
theorem index_plain (g : FuncId) (t : Ch → Bool) (A : Option Addr) (n cap : Nat) (l : List Ch) (w : World) (hC : Chs w Empty A n cap l) (hg : Enters Tryz.prog g)
    (ht : ∀ f ∈ l, ∀ W, Below w.heap.size w W → Calls Tryz.prog g #[f.v] W fun e1 w' => e1 = .returned (.bool (t f)) ∧ Below W.heap.size W w') :
    Calls Tryz.prog 123 #[.slice A n cap, .func (.func g) #[] #[]] w fun e1 w' => e1 = .returned (.int .i64 (firstI t l)) ∧ Below w.heap.size w w' := by
  have HC := Lib.hid hC
  have HT := Lib.hid ht
  have HG := Lib.hid hg
  have hcap : n ≤ cap := hC.2.1
  have hcap2 : cap ≤ 9223372036854775807 := by have := hC.2.2.1; unfold maxLen at this; omega
  clear hC ht hg
  go_enter Tryz.func123, Tryz.ntmps123
  go_wp2_with fail
  go_loopw [8] (fun v wr => ∃ i : Nat, i ≤ n ∧ v = .int .i64 (i : Int) ∧ Hid (∀ j f, j < i → l[j]? = some f → t f = false) ∧ Hid (Below w.heap.size w wr)) (fun v _ => n - (intOf v).toNat)
  case atStart => exact ⟨0, Nat.zero_le _, rfl, Lib.hid (fun j f h _ => absurd h (by omega)), Lib.hid (Below.refl _ _)⟩
  case round =>
    obtain ⟨i, hi, rfl, HF, HB⟩ := hrel
    by_cases hlt : i < n
    · obtain ⟨b, o, f, rfl, hb, -, hf, hc⟩ := (HC.out.below HB.out).at_ hlt
      have Hcall := Lib.hid (HT.out f (List.mem_of_getElem? hf) wr HB.out)
      have hv : f.v = .agg #[.bool f.del, .string f.s, .slice f.A f.n f.cap] := rfl
      rw [hv] at Hcall
      have c0 := hc 0 (by omega)
      have c1 := hc 1 (by omega)
      have c2 := hc 2 (by omega)
      simp [Ch.cells] at c0 c1 c2
      have Hf := Lib.hid hf
      have Hin := Lib.hid (HG.out #[.agg #[.bool f.del, .string f.s, .slice f.A f.n f.cap]] wr)
      clear hc hf hv
      go_wp2_with fail
      rw [Hin.out, Oper.upon_enter]
      refine Hcall.out.mono ?_
      rintro e1 w1 ⟨rfl, hb1⟩
      have HB1 := Lib.hid (HB.out.trans (hb1.mono HB.out.size))
      clear hb1
      cases hm : t f
      · have HF2 : Hid (∀ j q, j < i + 1 → l[j]? = some q → t q = false) := Lib.hid (fun j q hj hq => by
          by_cases hji : j = i
          · subst hji
            rw [Hf.out] at hq
            cases hq
            exact hm
          · exact HF.out j q (by omega) hq)
        clear hm
        go_wp2_with fail
        go_roundw
        case rel => exact ⟨i + 1, by omega, by simp, HF2, HB1⟩
        case measure => simp [intOf]; omega
      · have hfi : firstI t l = (i : Int) := by
          unfold firstI
          have : l.findIdx? t = some i := by
            rw [List.findIdx?_eq_some_iff_getElem]
            have hil : i < l.length := (List.getElem?_eq_some_iff.1 Hf.out).1
            have hfe : l[i] = f := (List.getElem?_eq_some_iff.1 Hf.out).2
            refine ⟨hil, by rw [hfe]; exact hm, fun j hj => ?_⟩
            rw [HF.out j l[j] hj (List.getElem?_eq_getElem (by omega))]
            decide
          rw [this]
        have Hfi := Lib.hid hfi
        clear hm hfi
        go_wp2_with fail
        go_ret
        exact ⟨by rw [Hfi.out]; rfl, HB1.out⟩
    · have hin : i = n := by omega
      subst hin
      have hfi : firstI t l = -1 := by
        unfold firstI
        have : l.findIdx? t = none := by
          rw [List.findIdx?_eq_none_iff]
          intro x hx
          obtain ⟨j, hj, he⟩ := List.mem_iff_getElem.1 hx
          exact HF.out j x (by have := HC.out.1; omega) (by rw [List.getElem?_eq_getElem hj, he])
        rw [this]
      have Hfi := Lib.hid hfi
      clear hfi
      go_wp2_with fail
      go_ret
      exact ⟨by rw [Hfi.out]; rfl, HB.out⟩

theorem contains_plain (g : FuncId) (t : Ch → Bool) (A : Option Addr) (n cap : Nat) (l : List Ch) (w : World) (hC : Chs w Empty A n cap l) (hg : Enters Tryz.prog g)
    (ht : ∀ f ∈ l, ∀ W, Below w.heap.size w W → Calls Tryz.prog g #[f.v] W fun e1 w' => e1 = .returned (.bool (t f)) ∧ Below W.heap.size W w') :
    Calls Tryz.prog 83 #[.slice A n cap, .func (.func g) #[] #[]] w fun e1 w' => e1 = .returned (.bool (l.any t)) ∧ Below w.heap.size w w' := by
  have Hi := Lib.hid (index_plain g t A n cap l w hC hg ht)
  have he : decide (0 ≤ firstI t l) = l.any t := by
    unfold firstI
    cases h : l.findIdx? t with
    | none =>
      rw [List.findIdx?_eq_none_iff] at h
      rw [show l.any t = false from by rw [List.any_eq_false]; intro x hx; rw [h x hx]; decide]
      decide
    | some i =>
      rw [List.findIdx?_eq_some_iff_getElem] at h
      obtain ⟨hi, h1, _⟩ := h
      rw [show l.any t = true from List.any_eq_true.2 ⟨_, List.getElem_mem hi, h1⟩]
      simp
  obtain ⟨q, hq⟩ : ∃ q, q = firstI t l := ⟨_, rfl⟩
  rw [← hq] at Hi he
  have He := Lib.hid he
  clear hC hg ht he hq
  go_enter Tryz.func83, Tryz.ntmps83
  go_wp2_with fail
  refine Hi.out.mono ?_
  rintro e1 w1 ⟨rfl, hb1⟩
  go_wp2_with fail
  go_ret
  exact ⟨by rw [← He.out]; rfl, hb1⟩

set_option maxHeartbeats 2000000 in
theorem index_cap (g : FuncId) (a : Addr) (t : Ch → Bool) (A : Option Addr) (n cap : Nat) (l : List Ch) (w : World) (hC : Chs w Empty A n cap l) (hg : Enters Tryz.prog g)
    (ht : ∀ f ∈ l, ∀ W, Below w.heap.size w W → Calls Tryz.prog g #[f.v, .pointer (some a)] W fun e1 w' => e1 = .returned (.bool (t f)) ∧ Below W.heap.size W w') :
    Calls Tryz.prog 123 #[.slice A n cap, .func (.func g) #[] #[.pointer (some a)]] w fun e1 w' => e1 = .returned (.int .i64 (firstI t l)) ∧ Below w.heap.size w w' := by
  have HC := Lib.hid hC
  have HT := Lib.hid ht
  have HG := Lib.hid hg
  have hcap : n ≤ cap := hC.2.1
  have hcap2 : cap ≤ 9223372036854775807 := by have := hC.2.2.1; unfold maxLen at this; omega
  clear hC ht hg
  go_enter Tryz.func123, Tryz.ntmps123
  go_wp2_with fail
  go_loopw [8] (fun v wr => ∃ i : Nat, i ≤ n ∧ v = .int .i64 (i : Int) ∧ Hid (∀ j f, j < i → l[j]? = some f → t f = false) ∧ Hid (Below w.heap.size w wr)) (fun v _ => n - (intOf v).toNat)
  case atStart => exact ⟨0, Nat.zero_le _, rfl, Lib.hid (fun j f h _ => absurd h (by omega)), Lib.hid (Below.refl _ _)⟩
  case round =>
    obtain ⟨i, hi, rfl, HF, HB⟩ := hrel
    by_cases hlt : i < n
    · obtain ⟨b, o, f, rfl, hb, -, hf, hc⟩ := (HC.out.below HB.out).at_ hlt
      have Hcall := Lib.hid (HT.out f (List.mem_of_getElem? hf) wr HB.out)
      have hv : f.v = .agg #[.bool f.del, .string f.s, .slice f.A f.n f.cap] := rfl
      rw [hv] at Hcall
      have c0 := hc 0 (by omega)
      have c1 := hc 1 (by omega)
      have c2 := hc 2 (by omega)
      simp [Ch.cells] at c0 c1 c2
      have Hf := Lib.hid hf
      have Hin := Lib.hid (HG.out #[.agg #[.bool f.del, .string f.s, .slice f.A f.n f.cap], .pointer (some a)] wr)
      clear hc hf hv
      go_wp2_with fail
      rw [Hin.out, Oper.upon_enter]
      refine Hcall.out.mono ?_
      rintro e1 w1 ⟨rfl, hb1⟩
      have HB1 := Lib.hid (HB.out.trans (hb1.mono HB.out.size))
      clear hb1
      cases hm : t f
      · have HF2 : Hid (∀ j q, j < i + 1 → l[j]? = some q → t q = false) := Lib.hid (fun j q hj hq => by
          by_cases hji : j = i
          · subst hji
            rw [Hf.out] at hq
            cases hq
            exact hm
          · exact HF.out j q (by omega) hq)
        clear hm
        go_wp2_with fail
        go_roundw
        case rel => exact ⟨i + 1, by omega, by simp, HF2, HB1⟩
        case measure => simp [intOf]; omega
      · have hfi : firstI t l = (i : Int) := by
          unfold firstI
          have : l.findIdx? t = some i := by
            rw [List.findIdx?_eq_some_iff_getElem]
            have hil : i < l.length := (List.getElem?_eq_some_iff.1 Hf.out).1
            have hfe : l[i] = f := (List.getElem?_eq_some_iff.1 Hf.out).2
            refine ⟨hil, by rw [hfe]; exact hm, fun j hj => ?_⟩
            rw [HF.out j l[j] hj (List.getElem?_eq_getElem (by omega))]
            decide
          rw [this]
        have Hfi := Lib.hid hfi
        clear hm hfi
        go_wp2_with fail
        go_ret
        exact ⟨by rw [Hfi.out]; rfl, HB1.out⟩
    · have hin : i = n := by omega
      subst hin
      have hfi : firstI t l = -1 := by
        unfold firstI
        have : l.findIdx? t = none := by
          rw [List.findIdx?_eq_none_iff]
          intro x hx
          obtain ⟨j, hj, he⟩ := List.mem_iff_getElem.1 hx
          exact HF.out j x (by have := HC.out.1; omega) (by rw [List.getElem?_eq_getElem hj, he])
        rw [this]
      have Hfi := Lib.hid hfi
      clear hfi
      go_wp2_with fail
      go_ret
      exact ⟨by rw [Hfi.out]; rfl, HB.out⟩

theorem contains_cap (g : FuncId) (a : Addr) (t : Ch → Bool) (A : Option Addr) (n cap : Nat) (l : List Ch) (w : World) (hC : Chs w Empty A n cap l) (hg : Enters Tryz.prog g)
    (ht : ∀ f ∈ l, ∀ W, Below w.heap.size w W → Calls Tryz.prog g #[f.v, .pointer (some a)] W fun e1 w' => e1 = .returned (.bool (t f)) ∧ Below W.heap.size W w') :
    Calls Tryz.prog 83 #[.slice A n cap, .func (.func g) #[] #[.pointer (some a)]] w fun e1 w' => e1 = .returned (.bool (l.any t)) ∧ Below w.heap.size w w' := by
  have Hi := Lib.hid (index_cap g a t A n cap l w hC hg ht)
  have he : decide (0 ≤ firstI t l) = l.any t := by
    unfold firstI
    cases h : l.findIdx? t with
    | none =>
      rw [List.findIdx?_eq_none_iff] at h
      rw [show l.any t = false from by rw [List.any_eq_false]; intro x hx; rw [h x hx]; decide]
      decide
    | some i =>
      rw [List.findIdx?_eq_some_iff_getElem] at h
      obtain ⟨hi, h1, _⟩ := h
      rw [show l.any t = true from List.any_eq_true.2 ⟨_, List.getElem_mem hi, h1⟩]
      simp
  obtain ⟨q, hq⟩ : ∃ q, q = firstI t l := ⟨_, rfl⟩
  rw [← hq] at Hi he
  have He := Lib.hid he
  clear hC hg ht he hq
  go_enter Tryz.func83, Tryz.ntmps83
  go_wp2_with fail
  refine Hi.out.mono ?_
  rintro e1 w1 ⟨rfl, hb1⟩
  go_wp2_with fail
  go_ret
  exact ⟨by rw [← He.out]; rfl, hb1⟩

/-- Do two changes have one key? -/
def keyEq (c d : Ch) : Bool := d.s.toList == c.s.toList

theorem refusal1_any (f c : Ch) (a : Nat) (w : World) (ha : Blk w a 37 #[.bool c.del, .string c.s, .slice c.A c.n c.cap]) :
    Calls Tryz.prog 85 #[f.v, .pointer (some ⟨a, 0, none⟩)] w fun e1 w' => e1 = .returned (.bool (keyEq c f)) ∧ Below w.heap.size w w' := by
  have hv : f.v = .agg #[.bool f.del, .string f.s, .slice f.A f.n f.cap] := rfl
  rw [hv]
  have h1 : w.cell? ⟨a, 1, none⟩ = some (.string c.s) := ha.cell 1
  have hl := ha.lt
  clear ha
  unfold keyEq
  go_enter Tryz.func85, Tryz.ntmps85
  go_wp2
  go_ret
  exact ⟨rfl, (Below.refl _ _).alloc (Nat.le_refl _) _⟩

/-- Has one of them a key that one ahead of it has? -/
def dupB (l : List Ch) : Bool := (List.range l.length).any fun i => match l[i]? with | some c => (l.take i).any (keyEq c) | none => false
/-- Why changes can't be a commit: Commit's errors of ErrArg, ErrExists, ErrLong, in this order. -/
def refuC (l : List Ch) (b : Nat) : Int := if l.length = 0 ∨ 16 < l.length ∨ l.any (fun f => !f.may) = true then 1 else if dupB l = true then 12 else if b / 2 < roomL l then 9 else 0

end Go.Proofs.YtnhfmcijadficaaGreatDoor

/- The walk over blob's refusal: why changes can't be a commit. -/
namespace Go.Proofs.YtnhfmcijadficaaGreatDoor
set_option maxRecDepth 100000
open Go.RowKit

theorem Chs.take_ {w : World} {S : Nat → Prop} {A : Option Addr} {n cap : Nat} {l : List Ch} (h : Chs w S A n cap l) {i : Nat} (hi : i ≤ n) : Chs w S A i cap (l.take i) :=
  ⟨by rw [List.length_take, h.1]; omega, by have := h.2.1; omega, h.2.2.1, fun h0 => by
    obtain ⟨b, o, e, hb, hS, hc⟩ := h.2.2.2.1 (by omega)
    exact ⟨b, o, e, hb, hS, fun j f hf q hq => hc j f (by rw [List.getElem?_take] at hf; split at hf; exact hf; cases hf) q hq⟩, fun f hf => h.2.2.2.2 f (List.mem_of_mem_take hf)⟩

theorem dup_no {l : List Ch} (h : ∀ i c, l[i]? = some c → (l.take i).any (keyEq c) = false) : dupB l = false := by
  unfold dupB
  rw [List.any_eq_false]
  intro i _
  cases hc : l[i]? with
  | none => simp
  | some c => simp only; rw [h i c hc]; decide
theorem dup_yes {l : List Ch} {i : Nat} {c : Ch} (hc : l[i]? = some c) (h : (l.take i).any (keyEq c) = true) : dupB l = true := by
  unfold dupB
  rw [List.any_eq_true]
  exact ⟨i, List.mem_range.2 (List.getElem?_eq_some_iff.1 hc).1, by rw [hc]; exact h⟩

set_option maxHeartbeats 2000000 in
theorem refusal_any (A : Option Addr) (n cap : Nat) (l : List Ch) (b : Nat) (w : World) (hC : Chs w Empty A n cap l) (hb : b ≤ 65536) (hn : n ≤ 1048576) :
    Calls Tryz.prog 44 #[.slice A n cap, .int .i64 (b : Int)] w fun e1 w' => e1 = .returned (.int .i64 (refuC l b)) ∧ Below w.heap.size w w' := by
  have hl := hC.1
  by_cases h0 : n = 0
  · have hr : refuC l b = 1 := by unfold refuC; rw [if_pos (by omega)]
    subst h0
    rw [hr]
    go_enter Tryz.func44, Tryz.ntmps44
    go_wp2_with fail
    go_ret
    exact ⟨rfl, Below.refl _ _⟩
  · by_cases h16 : 16 < n
    · have hr : refuC l b = 1 := by unfold refuC; rw [if_pos (by omega)]
      have hq0 : ((n : Int) == 0) = false := by rw [beq_eq_false_iff_ne]; omega
      rw [hr]
      go_enter Tryz.func44, Tryz.ntmps44
      go_wp2_with fail
      go_ret
      exact ⟨rfl, Below.refl _ _⟩
    · have hq0 : ((n : Int) == 0) = false := by rw [beq_eq_false_iff_ne]; omega
      have hcap : n ≤ cap := hC.2.1
      have hcap2 : cap ≤ 9223372036854775807 := by have := hC.2.2.1; unfold maxLen at this; omega
      have Hct := Lib.hid (contains_plain 84 (fun f => !f.may) A n cap l w hC (enters_of Tryz.func84 (by kernel_rfl) rfl) (fun f hf W hW => mayNotBe_any f W ⟨(hC.2.2.2.2 f hf).1.only (Only.of_below (S := Empty) hW) (fun _ _ h => h), (hC.2.2.2.2 f hf).2⟩))
      have HC := Lib.hid hC
      have Hl := Lib.hid hl
      clear hC hl
      cases hm : l.any (fun f => !f.may)
      · have hmay : ∀ f ∈ l, f.may = true := fun f hf => by
          rw [List.any_eq_false] at hm
          have := hm f hf
          simpa using this
        have Hfair := Lib.hid (fair_of hmay)
        have hr : refuC l b = if dupB l = true then 12 else if b / 2 < roomL l then 9 else 0 := by unfold refuC; rw [if_neg (by rw [hm, Hl.out]; simp; omega)]
        have Hr := Lib.hid hr
        rw [hm] at Hct
        clear hm hmay hr
        go_enter Tryz.func44, Tryz.ntmps44
        go_wp2_with fail
        refine Hct.out.mono ?_
        rintro e1 w1 ⟨rfl, hb1⟩
        have Hb1 := Lib.hid hb1
        clear hb1 Hct
        go_wp2_with fail
        go_loopw [21] (fun v wr => ∃ i : Nat, i ≤ n ∧ v = .int .i64 (i : Int) ∧ Hid (∀ j c, j < i → l[j]? = some c → (l.take j).any (keyEq c) = false) ∧ Hid (Below w.heap.size w wr)) (fun v _ => n - (intOf v).toNat)
        case atStart => exact ⟨0, Nat.zero_le _, rfl, Lib.hid (fun j c h _ => absurd h (by omega)), Hb1⟩
        case round =>
          obtain ⟨i, hi, rfl, HF, HB⟩ := hrel
          by_cases hlt : i < n
          · obtain ⟨bb, o, c, rfl, hbb, -, hf, hc⟩ := (HC.out.below HB.out).at_ hlt
            have c0 := hc 0 (by omega)
            have c1 := hc 1 (by omega)
            have c2 := hc 2 (by omega)
            simp [Ch.cells] at c0 c1 c2
            have Hf := Lib.hid hf
            have hal := (Below.refl wr.heap.size wr).alloc (Nat.le_refl _) (.cells #[.bool c.del, .string c.s, .slice c.A c.n c.cap] 37)
            have hbx := Blk.new wr 37 #[.bool c.del, .string c.s, .slice c.A c.n c.cap]
            have Hct := Lib.hid (contains_cap 85 ⟨wr.heap.size, 0, none⟩ (keyEq c) (some ⟨bb, o, none⟩) i cap (l.take i) _ (((HC.out.below HB.out).below hal).take_ hi) (enters_of Tryz.func85 (by kernel_rfl) rfl) (fun f hf W hW => refusal1_any f c wr.heap.size W (hbx.of (hW.block wr.heap.size (by simp)))))
            have HB1 := Lib.hid (HB.out.trans (hal.mono HB.out.size))
            clear hc hf hal hbx
            cases hd : (l.take i).any (keyEq c)
            · rw [hd] at Hct
              have HF2 : Hid (∀ j q, j < i + 1 → l[j]? = some q → (l.take j).any (keyEq q) = false) := Lib.hid (fun j q hj hq => by
                by_cases hji : j = i
                · subst hji
                  rw [Hf.out] at hq
                  cases hq
                  exact hd
                · exact HF.out j q (by omega) hq)
              clear hd
              go_wp2_with fail
              refine Hct.out.mono ?_
              rintro e2 w2 ⟨rfl, hb2⟩
              have HB2 := Lib.hid (HB1.out.trans (hb2.mono HB1.out.size))
              clear hb2
              go_wp2_with fail
              go_roundw
              case rel => exact ⟨i + 1, by omega, by simp, HF2, HB2⟩
              case measure => simp [intOf]; omega
            · have hr2 : refuC l b = 12 := by rw [Hr.out, if_pos (dup_yes Hf.out hd)]
              have Hr2 := Lib.hid hr2
              rw [hd] at Hct
              clear hd hr2
              go_wp2_with fail
              refine Hct.out.mono ?_
              rintro e2 w2 ⟨rfl, hb2⟩
              have HB2 := Lib.hid (HB1.out.trans (hb2.mono HB1.out.size))
              clear hb2
              go_wp2_with fail
              go_ret
              exact ⟨by rw [Hr2.out]; rfl, HB2.out⟩
          · have hin : i = n := by omega
            subst hin
            have hd : dupB l = false := dup_no (fun j c hc => HF.out j c (by have := (List.getElem?_eq_some_iff.1 hc).1; have := Hl.out; omega) hc)
            have hr2 : refuC l b = if b / 2 < roomL l then 9 else 0 := by rw [Hr.out, if_neg (by rw [hd]; decide)]
            have Hro := Lib.hid (roomOf_any A i cap l wr (HC.out.below HB.out) Hfair.out (by omega))
            have hle := roomL_le l Hfair.out
            rw [Hl.out] at hle
            obtain ⟨M, hM⟩ : ∃ M, M = roomL l := ⟨_, rfl⟩
            rw [← hM] at Hro hr2 hle
            clear hd hM
            by_cases hlong : b / 2 < M
            · rw [if_pos hlong] at hr2
              have Hr2 := Lib.hid hr2
              clear hr2
              go_wp2_with fail
              refine Hro.out.mono ?_
              rintro e2 w2 ⟨rfl, hb2⟩
              have HB2 := Lib.hid (HB.out.trans (hb2.mono HB.out.size))
              clear hb2
              go_wp2_with fail
              go_ret
              exact ⟨by rw [Hr2.out]; rfl, HB2.out⟩
            · rw [if_neg hlong] at hr2
              have Hr2 := Lib.hid hr2
              clear hr2
              go_wp2_with fail
              refine Hro.out.mono ?_
              rintro e2 w2 ⟨rfl, hb2⟩
              have HB2 := Lib.hid (HB.out.trans (hb2.mono HB.out.size))
              clear hb2
              go_wp2_with fail
              go_ret
              exact ⟨by rw [Hr2.out]; rfl, HB2.out⟩
      · have hr : refuC l b = 1 := by unfold refuC; rw [if_pos (Or.inr (Or.inr hm))]
        have Hr := Lib.hid hr
        rw [hm] at Hct
        clear hm hr
        go_enter Tryz.func44, Tryz.ntmps44
        go_wp2_with fail
        refine Hct.out.mono ?_
        rintro e1 w1 ⟨rfl, hb1⟩
        go_wp2_with fail
        go_ret
        exact ⟨by rw [Hr.out]; rfl, hb1⟩

end Go.Proofs.YtnhfmcijadficaaGreatDoor

/- The first of the least of a row by a key, among those that may be taken: as plain data. -/
namespace Go.Proofs.YtnhfmcijadficaaGreatDoor
set_option maxRecDepth 100000
open Go.RowKit

/-- What the i-th one makes of the place that is the least one's so far. -/
def stepB (may : Sc → Bool) (key : Sc → Int) (l : List Sc) (o : Option Nat) (i : Nat) : Option Nat :=
  match l[i]? with
  | none => o
  | some s => if may s = true then (match o with | none => some i | some p => match l[p]? with | none => some p | some t => if key s < key t then some i else some p) else o
def best (may : Sc → Bool) (key : Sc → Int) (l : List Sc) : Nat → Option Nat
  | 0 => none
  | i + 1 => stepB may key l (best may key l i) i

section
variable {may : Sc → Bool} {key : Sc → Int} {l : List Sc} {o : Option Nat} {i p : Nat} {s t : Sc}
theorem stepB_no (hs : l[i]? = some s) (hm : may s = false) : stepB may key l o i = o := by unfold stepB; rw [hs]; simp [hm]
theorem stepB_first (hs : l[i]? = some s) (hm : may s = true) : stepB may key l none i = some i := by unfold stepB; rw [hs]; simp [hm]
theorem stepB_less (hs : l[i]? = some s) (hm : may s = true) (ht : l[p]? = some t) (hk : key s < key t) : stepB may key l (some p) i = some i := by unfold stepB; rw [hs]; simp [hm, ht, hk]
theorem stepB_more (hs : l[i]? = some s) (hm : may s = true) (ht : l[p]? = some t) (hk : ¬ key s < key t) : stepB may key l (some p) i = some p := by unfold stepB; rw [hs]; simp [hm, ht, hk]

/-- What is asked of the least one's place among the first i. -/
def IsBest (may : Sc → Bool) (key : Sc → Int) (l : List Sc) (i : Nat) : Option Nat → Prop
  | none => ∀ j s, j < i → l[j]? = some s → may s = false
  | some p => p < i ∧ ∃ t, l[p]? = some t ∧ may t = true ∧ ∀ j s, j < i → l[j]? = some s → may s = true → key t ≤ key s

theorem best_is (may : Sc → Bool) (key : Sc → Int) (l : List Sc) : ∀ i, i ≤ l.length → IsBest may key l i (best may key l i)
  | 0, _ => fun j s h _ => absurd h (by omega)
  | i + 1, hi => by
    have ih := best_is may key l i (by omega)
    obtain ⟨s, hs⟩ : ∃ s, l[i]? = some s := ⟨_, List.getElem?_eq_getElem (by omega)⟩
    show IsBest may key l (i + 1) (stepB may key l (best may key l i) i)
    revert ih
    cases best may key l i with
    | none =>
      intro ih
      cases hm : may s with
      | false =>
        rw [stepB_no hs hm]
        intro j t hj ht
        by_cases h : j = i
        · subst h
          rw [hs] at ht
          cases ht
          exact hm
        · exact ih j t (by omega) ht
      | true =>
        rw [stepB_first hs hm]
        refine ⟨by omega, s, hs, hm, fun j t hj ht hmt => ?_⟩
        by_cases h : j = i
        · subst h
          rw [hs] at ht
          cases ht
          exact Int.le_refl _
        · rw [ih j t (by omega) ht] at hmt
          cases hmt
    | some p =>
      rintro ⟨hp, t, ht, hmt, hall⟩
      cases hm : may s with
      | false =>
        rw [stepB_no hs hm]
        refine ⟨by omega, t, ht, hmt, fun j u hj hu hmu => ?_⟩
        by_cases h : j = i
        · subst h
          rw [hs] at hu
          cases hu
          rw [hm] at hmu
          cases hmu
        · exact hall j u (by omega) hu hmu
      | true =>
        by_cases hk : key s < key t
        · rw [stepB_less hs hm ht hk]
          refine ⟨by omega, s, hs, hm, fun j u hj hu hmu => ?_⟩
          by_cases h : j = i
          · subst h
            rw [hs] at hu
            cases hu
            exact Int.le_refl _
          · have := hall j u (by omega) hu hmu
            omega
        · rw [stepB_more hs hm ht hk]
          refine ⟨by omega, t, ht, hmt, fun j u hj hu hmu => ?_⟩
          by_cases h : j = i
          · subst h
            rw [hs] at hu
            cases hu
            omega
          · exact hall j u (by omega) hu hmu

theorem best_lt {o : Option Nat} (h : best may key l i = o) (hi : i ≤ l.length) : o = none ∨ ∃ p t, o = some p ∧ p < i ∧ l[p]? = some t := by
  have hb := best_is may key l i hi
  rw [h] at hb
  cases o with
  | none => exact Or.inl rfl
  | some p => obtain ⟨h1, t, h2, _⟩ := hb; exact Or.inr ⟨p, t, rfl, h1, h2⟩

/-- What stands behind the i-th place is not asked. -/
theorem best_same (may : Sc → Bool) (key : Sc → Int) (l l' : List Sc) : ∀ i, (∀ j, j < i → l[j]? = l'[j]?) → i ≤ l.length → best may key l i = best may key l' i
  | 0, _, _ => rfl
  | i + 1, h, hi => by
    have ih := best_same may key l l' i (fun j hj => h j (by omega)) (by omega)
    show stepB may key l (best may key l i) i = stepB may key l' (best may key l' i) i
    rw [← ih]
    rcases best_lt (may := may) (key := key) (l := l) (i := i) rfl (by omega) with e | ⟨p, t, e, hp, ht⟩
    · rw [e]
      unfold stepB
      rw [h i (by omega)]
    · rw [e]
      unfold stepB
      rw [h i (by omega)]
      have hp2 := h p (by omega)
      cases l'[i]? with
      | none => rfl
      | some u => simp only [hp2]

/-- One more that may not be taken changes nothing. -/
theorem best_snoc (may : Sc → Bool) (key : Sc → Int) (l : List Sc) (s : Sc) (hs : may s = false) : best may key (l ++ [s]) (l.length + 1) = best may key l l.length := by
  have h1 : best may key (l ++ [s]) l.length = best may key l l.length := (best_same may key l (l ++ [s]) l.length (fun j hj => by rw [List.getElem?_append_left hj]) (Nat.le_refl _)).symm
  show stepB may key (l ++ [s]) (best may key (l ++ [s]) l.length) l.length = _
  rw [stepB_no (s := s) (by rw [List.getElem?_append_right (Nat.le_refl _)]; simp) hs, h1]

theorem countP_pos_best (l : List Sc) (may : Sc → Bool) (key : Sc → Int) : (best may key l l.length).isSome = decide (0 < l.countP may) := by
  have hb := best_is may key l l.length (Nat.le_refl _)
  cases h : best may key l l.length with
  | none =>
    rw [h] at hb
    have : l.countP may = 0 := by
      rw [List.countP_eq_zero]
      intro s hs
      obtain ⟨j, hj, he⟩ := List.mem_iff_getElem.1 hs
      rw [hb j s hj (by rw [List.getElem?_eq_getElem hj, he])]
      simp
    simp [this]
  | some p =>
    rw [h] at hb
    obtain ⟨hp, t, ht, hm, _⟩ := hb
    have : 0 < l.countP may := List.countP_pos_iff.2 ⟨t, List.mem_of_getElem? ht, hm⟩
    simp [this]
end

end Go.Proofs.YtnhfmcijadficaaGreatDoor
