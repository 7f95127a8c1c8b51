/- The walks over blob's mayNotBe, and over slices.ContainsFunc at changes: with a function, with a closure that holds one variable; blob's refusal. -/
import Derived.Test.YtidbipbangifbaaGreatDoorZau
import Derived.Test.YtidbipbangifbaaGreatDoorZav
import Derived.Shelf.Abstract
namespace Go.Proofs.YtidbipbangifbaaGreatDoor
set_option maxRecDepth 100000
open Go.RowKit

set_option maxHeartbeats 1000000 in
theorem mayNotBe_any (f : Ch) (w : World) (hf : ByteSl w Empty f.A f.n f.cap f.blob ∧ (f.A = none → f.n = 0 ∧ f.cap = 0)) :
    Calls Tryz.prog 105 #[f.v] w fun e1 w' => e1 = .returned (.bool (!f.may)) ∧ Below w.heap.size w w' := by
  have hr := f.rAt hf
  have Hr := Lib.hid hr
  have Hrec := Lib.hid (chRec_any f 1)
  have hb0 := (Below.refl w.heap.size w).alloc (Nat.le_refl _) (.cells #[.bool f.del, .string f.s, .slice f.A f.n f.cap] 103)
  have Hb0 := Lib.hid hb0
  have hv : f.v = .agg #[.bool f.del, .string f.s, .slice f.A f.n f.cap] := rfl
  rw [hv] at Hrec ⊢
  clear hf hr hb0
  cases hm : f.may
  · have Hm : Hid (mayB (f.rk : Int) 1 (f.s.size : Int) (f.rN : Int) 0 = false) := Lib.hid hm
    clear hm
    go_enter Tryz.func105, Tryz.ntmps105
    go_wp2_with fail
    refine (Hrec.out _).mono ?_
    unfold recV
    rintro e1 w1 ⟨rfl, hb1⟩
    have Hb1 := Lib.hid (Hb0.out.trans (hb1.mono Hb0.out.size))
    clear hb1
    go_wp2_with fail
    refine (rcBytes_no (f.rk : Int) 1 0 f.s f.rA f.rN f.rC _ Hm.out).mono ?_
    rintro e2 w2 ⟨rfl, hb2⟩
    have Hb2 := Lib.hid (Hb1.out.trans (hb2.mono Hb1.out.size))
    clear hb2
    go_wp2_with fail
    go_ret
    exact ⟨rfl, Hb2.out⟩
  · have Hm : Hid (mayB (f.rk : Int) ((1 : Nat) : Int) (f.s.size : Int) (f.rN : Int) ((0 : Nat) : Int) = true) := Lib.hid hm
    clear hm
    go_enter Tryz.func105, Tryz.ntmps105
    go_wp2_with fail
    refine (Hrec.out _).mono ?_
    unfold recV
    rintro e1 w1 ⟨rfl, hb1⟩
    have Hb1 := Lib.hid (Hb0.out.trans (hb1.mono Hb0.out.size))
    clear hb1
    have hy := rcBytes_yes f.rk 1 0 f.s f.rA f.rN f.rC f.rB w1 Hm.out (by decide) (Hr.out.1.only (Only.of_below (S := Empty) Hb1.out) (fun _ _ h => h)) Hr.out.2
    have Hy := Lib.hid hy
    clear hy
    go_wp2_with fail
    refine Hy.out.mono ?_
    rintro e2 w2 ⟨⟨A2, cap2, rfl, _⟩, hb2⟩
    have Hb2 := Lib.hid (Hb1.out.trans (hb2.mono Hb1.out.size))
    clear hb2
    go_wp2_with fail
    go_ret
    exact ⟨rfl, Hb2.out⟩

/-- The place of the first that a test lets by. -/
def firstI (t : Ch → Bool) (l : List Ch) : Int := match l.findIdx? t with | some i => (i : Int) | none => -1

set_option maxHeartbeats 2000000 in
theorem index_plain (g : FuncId) (t : Ch → Bool) (A : Option Addr) (n cap : Nat) (l : List Ch) (w : World) (hC : Chs w Empty A n cap l) (hg : Enters Tryz.prog g)
    (ht : ∀ f ∈ l, ∀ W, Below w.heap.size w W → Calls Tryz.prog g #[f.v] W fun e1 w' => e1 = .returned (.bool (t f)) ∧ Below W.heap.size W w') :
    Calls Tryz.prog 131 #[.slice A n cap, .func (.func g) #[] #[]] w fun e1 w' => e1 = .returned (.int .i64 (firstI t l)) ∧ Below w.heap.size w w' := by
  have HC := Lib.hid hC
  have HT := Lib.hid ht
  have HG := Lib.hid hg
  have hcap : n ≤ cap := hC.2.1
  have hcap2 : cap ≤ 9223372036854775807 := by have := hC.2.2.1; unfold maxLen at this; omega
  clear hC ht hg
  go_enter Tryz.func131, Tryz.ntmps131
  go_wp2_with fail
  go_loopw [8] (fun v wr => ∃ i : Nat, i ≤ n ∧ v = .int .i64 (i : Int) ∧ Hid (∀ j f, j < i → l[j]? = some f → t f = false) ∧ Hid (Below w.heap.size w wr)) (fun v _ => n - (intOf v).toNat)
  case atStart => exact ⟨0, Nat.zero_le _, rfl, Lib.hid (fun j f h _ => absurd h (by omega)), Lib.hid (Below.refl _ _)⟩
  case round =>
    obtain ⟨i, hi, rfl, HF, HB⟩ := hrel
    by_cases hlt : i < n
    · obtain ⟨b, o, f, rfl, hb, -, hf, hc⟩ := (HC.out.below HB.out).at_ hlt
      have Hcall := Lib.hid (HT.out f (List.mem_of_getElem? hf) wr HB.out)
      have hv : f.v = .agg #[.bool f.del, .string f.s, .slice f.A f.n f.cap] := rfl
      rw [hv] at Hcall
      have c0 := hc 0 (by omega)
      have c1 := hc 1 (by omega)
      have c2 := hc 2 (by omega)
      simp [Ch.cells] at c0 c1 c2
      have Hf := Lib.hid hf
      have Hin := Lib.hid (HG.out #[.agg #[.bool f.del, .string f.s, .slice f.A f.n f.cap]] wr)
      clear hc hf hv
      go_wp2_with fail
      rw [Hin.out, Oper.upon_enter]
      refine Hcall.out.mono ?_
      rintro e1 w1 ⟨rfl, hb1⟩
      have HB1 := Lib.hid (HB.out.trans (hb1.mono HB.out.size))
      clear hb1
      cases hm : t f
      · have HF2 : Hid (∀ j q, j < i + 1 → l[j]? = some q → t q = false) := Lib.hid (fun j q hj hq => by
          by_cases hji : j = i
          · subst hji
            rw [Hf.out] at hq
            cases hq
            exact hm
          · exact HF.out j q (by omega) hq)
        clear hm
        go_wp2_with fail
        go_roundw
        case rel => exact ⟨i + 1, by omega, by simp, HF2, HB1⟩
        case measure => simp [intOf]; omega
      · have hfi : firstI t l = (i : Int) := by
          unfold firstI
          have : l.findIdx? t = some i := by
            rw [List.findIdx?_eq_some_iff_getElem]
            have hil : i < l.length := (List.getElem?_eq_some_iff.1 Hf.out).1
            have hfe : l[i] = f := (List.getElem?_eq_some_iff.1 Hf.out).2
            refine ⟨hil, by rw [hfe]; exact hm, fun j hj => ?_⟩
            rw [HF.out j l[j] hj (List.getElem?_eq_getElem (by omega))]
            decide
          rw [this]
        have Hfi := Lib.hid hfi
        clear hm hfi
        go_wp2_with fail
        go_ret
        exact ⟨by rw [Hfi.out]; rfl, HB1.out⟩
    · have hin : i = n := by omega
      subst hin
      have hfi : firstI t l = -1 := by
        unfold firstI
        have : l.findIdx? t = none := by
          rw [List.findIdx?_eq_none_iff]
          intro x hx
          obtain ⟨j, hj, he⟩ := List.mem_iff_getElem.1 hx
          exact HF.out j x (by have := HC.out.1; omega) (by rw [List.getElem?_eq_getElem hj, he])
        rw [this]
      have Hfi := Lib.hid hfi
      clear hfi
      go_wp2_with fail
      go_ret
      exact ⟨by rw [Hfi.out]; rfl, HB.out⟩

theorem contains_plain (g : FuncId) (t : Ch → Bool) (A : Option Addr) (n cap : Nat) (l : List Ch) (w : World) (hC : Chs w Empty A n cap l) (hg : Enters Tryz.prog g)
    (ht : ∀ f ∈ l, ∀ W, Below w.heap.size w W → Calls Tryz.prog g #[f.v] W fun e1 w' => e1 = .returned (.bool (t f)) ∧ Below W.heap.size W w') :
    Calls Tryz.prog 104 #[.slice A n cap, .func (.func g) #[] #[]] w fun e1 w' => e1 = .returned (.bool (l.any t)) ∧ Below w.heap.size w w' := by
  have Hi := Lib.hid (index_plain g t A n cap l w hC hg ht)
  have he : decide (0 ≤ firstI t l) = l.any t := by
    unfold firstI
    cases h : l.findIdx? t with
    | none =>
      rw [List.findIdx?_eq_none_iff] at h
      rw [show l.any t = false from by rw [List.any_eq_false]; intro x hx; rw [h x hx]; decide]
      decide
    | some i =>
      rw [List.findIdx?_eq_some_iff_getElem] at h
      obtain ⟨hi, h1, _⟩ := h
      rw [show l.any t = true from List.any_eq_true.2 ⟨_, List.getElem_mem hi, h1⟩]
      simp
  obtain ⟨q, hq⟩ : ∃ q, q = firstI t l := ⟨_, rfl⟩
  rw [← hq] at Hi he
  have He := Lib.hid he
  clear hC hg ht he hq
  go_enter Tryz.func104, Tryz.ntmps104
  go_wp2_with fail
  refine Hi.out.mono ?_
  rintro e1 w1 ⟨rfl, hb1⟩
  go_wp2_with fail
  go_ret
  exact ⟨by rw [← He.out]; rfl, hb1⟩

set_option maxHeartbeats 2000000 in
theorem index_cap (g : FuncId) (a : Addr) (t : Ch → Bool) (A : Option Addr) (n cap : Nat) (l : List Ch) (w : World) (hC : Chs w Empty A n cap l) (hg : Enters Tryz.prog g)
    (ht : ∀ f ∈ l, ∀ W, Below w.heap.size w W → Calls Tryz.prog g #[f.v, .pointer (some a)] W fun e1 w' => e1 = .returned (.bool (t f)) ∧ Below W.heap.size W w') :
    Calls Tryz.prog 131 #[.slice A n cap, .func (.func g) #[] #[.pointer (some a)]] w fun e1 w' => e1 = .returned (.int .i64 (firstI t l)) ∧ Below w.heap.size w w' := by
  have HC := Lib.hid hC
  have HT := Lib.hid ht
  have HG := Lib.hid hg
  have hcap : n ≤ cap := hC.2.1
  have hcap2 : cap ≤ 9223372036854775807 := by have := hC.2.2.1; unfold maxLen at this; omega
  clear hC ht hg
  go_enter Tryz.func131, Tryz.ntmps131
  go_wp2_with fail
  go_loopw [8] (fun v wr => ∃ i : Nat, i ≤ n ∧ v = .int .i64 (i : Int) ∧ Hid (∀ j f, j < i → l[j]? = some f → t f = false) ∧ Hid (Below w.heap.size w wr)) (fun v _ => n - (intOf v).toNat)
  case atStart => exact ⟨0, Nat.zero_le _, rfl, Lib.hid (fun j f h _ => absurd h (by omega)), Lib.hid (Below.refl _ _)⟩
  case round =>
    obtain ⟨i, hi, rfl, HF, HB⟩ := hrel
    by_cases hlt : i < n
    · obtain ⟨b, o, f, rfl, hb, -, hf, hc⟩ := (HC.out.below HB.out).at_ hlt
      have Hcall := Lib.hid (HT.out f (List.mem_of_getElem? hf) wr HB.out)
      have hv : f.v = .agg #[.bool f.del, .string f.s, .slice f.A f.n f.cap] := rfl
      rw [hv] at Hcall
      have c0 := hc 0 (by omega)
      have c1 := hc 1 (by omega)
      have c2 := hc 2 (by omega)
      simp [Ch.cells] at c0 c1 c2
      have Hf := Lib.hid hf
      have Hin := Lib.hid (HG.out #[.agg #[.bool f.del, .string f.s, .slice f.A f.n f.cap], .pointer (some a)] wr)
      clear hc hf hv
      go_wp2_with fail
      rw [Hin.out, Oper.upon_enter]
      refine Hcall.out.mono ?_
      rintro e1 w1 ⟨rfl, hb1⟩
      have HB1 := Lib.hid (HB.out.trans (hb1.mono HB.out.size))
      clear hb1
      cases hm : t f
      · have HF2 : Hid (∀ j q, j < i + 1 → l[j]? = some q → t q = false) := Lib.hid (fun j q hj hq => by
          by_cases hji : j = i
          · subst hji
            rw [Hf.out] at hq
            cases hq
            exact hm
          · exact HF.out j q (by omega) hq)
        clear hm
        go_wp2_with fail
        go_roundw
        case rel => exact ⟨i + 1, by omega, by simp, HF2, HB1⟩
        case measure => simp [intOf]; omega
      · have hfi : firstI t l = (i : Int) := by
          unfold firstI
          have : l.findIdx? t = some i := by
            rw [List.findIdx?_eq_some_iff_getElem]
            have hil : i < l.length := (List.getElem?_eq_some_iff.1 Hf.out).1
            have hfe : l[i] = f := (List.getElem?_eq_some_iff.1 Hf.out).2
            refine ⟨hil, by rw [hfe]; exact hm, fun j hj => ?_⟩
            rw [HF.out j l[j] hj (List.getElem?_eq_getElem (by omega))]
            decide
          rw [this]
        have Hfi := Lib.hid hfi
        clear hm hfi
        go_wp2_with fail
        go_ret
        exact ⟨by rw [Hfi.out]; rfl, HB1.out⟩
    · have hin : i = n := by omega
      subst hin
      have hfi : firstI t l = -1 := by
        unfold firstI
        have : l.findIdx? t = none := by
          rw [List.findIdx?_eq_none_iff]
          intro x hx
          obtain ⟨j, hj, he⟩ := List.mem_iff_getElem.1 hx
          exact HF.out j x (by have := HC.out.1; omega) (by rw [List.getElem?_eq_getElem hj, he])
        rw [this]
      have Hfi := Lib.hid hfi
      clear hfi
      go_wp2_with fail
      go_ret
      exact ⟨by rw [Hfi.out]; rfl, HB.out⟩

theorem contains_cap (g : FuncId) (a : Addr) (t : Ch → Bool) (A : Option Addr) (n cap : Nat) (l : List Ch) (w : World) (hC : Chs w Empty A n cap l) (hg : Enters Tryz.prog g)
    (ht : ∀ f ∈ l, ∀ W, Below w.heap.size w W → Calls Tryz.prog g #[f.v, .pointer (some a)] W fun e1 w' => e1 = .returned (.bool (t f)) ∧ Below W.heap.size W w') :
    Calls Tryz.prog 104 #[.slice A n cap, .func (.func g) #[] #[.pointer (some a)]] w fun e1 w' => e1 = .returned (.bool (l.any t)) ∧ Below w.heap.size w w' := by
  have Hi := Lib.hid (index_cap g a t A n cap l w hC hg ht)
  have he : decide (0 ≤ firstI t l) = l.any t := by
    unfold firstI
    cases h : l.findIdx? t with
    | none =>
      rw [List.findIdx?_eq_none_iff] at h
      rw [show l.any t = false from by rw [List.any_eq_false]; intro x hx; rw [h x hx]; decide]
      decide
    | some i =>
      rw [List.findIdx?_eq_some_iff_getElem] at h
      obtain ⟨hi, h1, _⟩ := h
      rw [show l.any t = true from List.any_eq_true.2 ⟨_, List.getElem_mem hi, h1⟩]
      simp
  obtain ⟨q, hq⟩ : ∃ q, q = firstI t l := ⟨_, rfl⟩
  rw [← hq] at Hi he
  have He := Lib.hid he
  clear hC hg ht he hq
  go_enter Tryz.func104, Tryz.ntmps104
  go_wp2_with fail
  refine Hi.out.mono ?_
  rintro e1 w1 ⟨rfl, hb1⟩
  go_wp2_with fail
  go_ret
  exact ⟨by rw [← He.out]; rfl, hb1⟩

/-- Do two changes have one key? -/
def keyEq (c d : Ch) : Bool := d.s.toList == c.s.toList

theorem refusal1_any (f c : Ch) (a : Nat) (w : World) (ha : Blk w a 103 #[.bool c.del, .string c.s, .slice c.A c.n c.cap]) :
    Calls Tryz.prog 106 #[f.v, .pointer (some ⟨a, 0, none⟩)] w fun e1 w' => e1 = .returned (.bool (keyEq c f)) ∧ Below w.heap.size w w' := by
  have hv : f.v = .agg #[.bool f.del, .string f.s, .slice f.A f.n f.cap] := rfl
  rw [hv]
  have h1 : w.cell? ⟨a, 1, none⟩ = some (.string c.s) := ha.cell 1
  have hl := ha.lt
  clear ha
  unfold keyEq
  go_enter Tryz.func106, Tryz.ntmps106
  go_wp2
  go_ret
  exact ⟨rfl, (Below.refl _ _).alloc (Nat.le_refl _) _⟩

/-- Has one of them a key that one ahead of it has? -/
def dupB (l : List Ch) : Bool := (List.range l.length).any fun i => match l[i]? with | some c => (l.take i).any (keyEq c) | none => false
/-- Why changes can't be a commit: Commit's errors of ErrArg, ErrExists, ErrLong, in this order. -/
def refuC (l : List Ch) (b : Nat) : Int := if l.length = 0 ∨ 16 < l.length ∨ l.any (fun f => !f.may) = true then 1 else if dupB l = true then 12 else if b / 2 < roomL l then 9 else 0

end Go.Proofs.YtidbipbangifbaaGreatDoor

/- The walk over blob's refusal: why changes can't be a commit. -/
namespace Go.Proofs.YtidbipbangifbaaGreatDoor
set_option maxRecDepth 100000
open Go.RowKit

theorem Chs.take_ {w : World} {S : Nat → Prop} {A : Option Addr} {n cap : Nat} {l : List Ch} (h : Chs w S A n cap l) {i : Nat} (hi : i ≤ n) : Chs w S A i cap (l.take i) :=
  ⟨by rw [List.length_take, h.1]; omega, by have := h.2.1; omega, h.2.2.1, fun h0 => by
    obtain ⟨b, o, e, hb, hS, hc⟩ := h.2.2.2.1 (by omega)
    exact ⟨b, o, e, hb, hS, fun j f hf q hq => hc j f (by rw [List.getElem?_take] at hf; split at hf; exact hf; cases hf) q hq⟩, fun f hf => h.2.2.2.2 f (List.mem_of_mem_take hf)⟩

theorem dup_no {l : List Ch} (h : ∀ i c, l[i]? = some c → (l.take i).any (keyEq c) = false) : dupB l = false := by
  unfold dupB
  rw [List.any_eq_false]
  intro i _
  cases hc : l[i]? with
  | none => simp
  | some c => simp only; rw [h i c hc]; decide
theorem dup_yes {l : List Ch} {i : Nat} {c : Ch} (hc : l[i]? = some c) (h : (l.take i).any (keyEq c) = true) : dupB l = true := by
  unfold dupB
  rw [List.any_eq_true]
  exact ⟨i, List.mem_range.2 (List.getElem?_eq_some_iff.1 hc).1, by rw [hc]; exact h⟩

set_option maxHeartbeats 2000000 in
theorem refusal_any (A : Option Addr) (n cap : Nat) (l : List Ch) (b : Nat) (w : World) (hC : Chs w Empty A n cap l) (hb : b ≤ 65536) (hn : n ≤ 1048576) :
    Calls Tryz.prog 74 #[.slice A n cap, .int .i64 (b : Int)] w fun e1 w' => e1 = .returned (.int .i64 (refuC l b)) ∧ Below w.heap.size w w' := by
  have hl := hC.1
  by_cases h0 : n = 0
  · have hr : refuC l b = 1 := by unfold refuC; rw [if_pos (by omega)]
    subst h0
    rw [hr]
    go_enter Tryz.func74, Tryz.ntmps74
    go_wp2_with fail
    go_ret
    exact ⟨rfl, Below.refl _ _⟩
  · by_cases h16 : 16 < n
    · have hr : refuC l b = 1 := by unfold refuC; rw [if_pos (by omega)]
      have hq0 : ((n : Int) == 0) = false := by rw [beq_eq_false_iff_ne]; omega
      rw [hr]
      go_enter Tryz.func74, Tryz.ntmps74
      go_wp2_with fail
      go_ret
      exact ⟨rfl, Below.refl _ _⟩
    · have hq0 : ((n : Int) == 0) = false := by rw [beq_eq_false_iff_ne]; omega
      have hcap : n ≤ cap := hC.2.1
      have hcap2 : cap ≤ 9223372036854775807 := by have := hC.2.2.1; unfold maxLen at this; omega
      have Hct := Lib.hid (contains_plain 105 (fun f => !f.may) A n cap l w hC (enters_of Tryz.func105 (by kernel_rfl) rfl) (fun f hf W hW => mayNotBe_any f W ⟨(hC.2.2.2.2 f hf).1.only (Only.of_below (S := Empty) hW) (fun _ _ h => h), (hC.2.2.2.2 f hf).2⟩))
      have HC := Lib.hid hC
      have Hl := Lib.hid hl
      clear hC hl
      cases hm : l.any (fun f => !f.may)
      · have hmay : ∀ f ∈ l, f.may = true := fun f hf => by
          rw [List.any_eq_false] at hm
          have := hm f hf
          simpa using this
        have Hfair := Lib.hid (fair_of hmay)
        have hr : refuC l b = if dupB l = true then 12 else if b / 2 < roomL l then 9 else 0 := by unfold refuC; rw [if_neg (by rw [hm, Hl.out]; simp; omega)]
        have Hr := Lib.hid hr
        rw [hm] at Hct
        clear hm hmay hr
        go_enter Tryz.func74, Tryz.ntmps74
        go_wp2_with fail
        refine Hct.out.mono ?_
        rintro e1 w1 ⟨rfl, hb1⟩
        have Hb1 := Lib.hid hb1
        clear hb1 Hct
        go_wp2_with fail
        go_loopw [21] (fun v wr => ∃ i : Nat, i ≤ n ∧ v = .int .i64 (i : Int) ∧ Hid (∀ j c, j < i → l[j]? = some c → (l.take j).any (keyEq c) = false) ∧ Hid (Below w.heap.size w wr)) (fun v _ => n - (intOf v).toNat)
        case atStart => exact ⟨0, Nat.zero_le _, rfl, Lib.hid (fun j c h _ => absurd h (by omega)), Hb1⟩
        case round =>
          obtain ⟨i, hi, rfl, HF, HB⟩ := hrel
          by_cases hlt : i < n
          · obtain ⟨bb, o, c, rfl, hbb, -, hf, hc⟩ := (HC.out.below HB.out).at_ hlt
            have c0 := hc 0 (by omega)
            have c1 := hc 1 (by omega)
            have c2 := hc 2 (by omega)
            simp [Ch.cells] at c0 c1 c2
            have Hf := Lib.hid hf
            have hal := (Below.refl wr.heap.size wr).alloc (Nat.le_refl _) (.cells #[.bool c.del, .string c.s, .slice c.A c.n c.cap] 103)
            have hbx := Blk.new wr 103 #[.bool c.del, .string c.s, .slice c.A c.n c.cap]
            have Hct := Lib.hid (contains_cap 106 ⟨wr.heap.size, 0, none⟩ (keyEq c) (some ⟨bb, o, none⟩) i cap (l.take i) _ (((HC.out.below HB.out).below hal).take_ hi) (enters_of Tryz.func106 (by kernel_rfl) rfl) (fun f hf W hW => refusal1_any f c wr.heap.size W (hbx.of (hW.block wr.heap.size (by simp)))))
            have HB1 := Lib.hid (HB.out.trans (hal.mono HB.out.size))
            clear hc hf hal hbx
            cases hd : (l.take i).any (keyEq c)
            · rw [hd] at Hct
              have HF2 : Hid (∀ j q, j < i + 1 → l[j]? = some q → (l.take j).any (keyEq q) = false) := Lib.hid (fun j q hj hq => by
                by_cases hji : j = i
                · subst hji
                  rw [Hf.out] at hq
                  cases hq
                  exact hd
                · exact HF.out j q (by omega) hq)
              clear hd
              go_wp2_with fail
              refine Hct.out.mono ?_
              rintro e2 w2 ⟨rfl, hb2⟩
              have HB2 := Lib.hid (HB1.out.trans (hb2.mono HB1.out.size))
              clear hb2
              go_wp2_with fail
              go_roundw
              case rel => exact ⟨i + 1, by omega, by simp, HF2, HB2⟩
              case measure => simp [intOf]; omega
            · have hr2 : refuC l b = 12 := by rw [Hr.out, if_pos (dup_yes Hf.out hd)]
              have Hr2 := Lib.hid hr2
              rw [hd] at Hct
              clear hd hr2
              go_wp2_with fail
              refine Hct.out.mono ?_
              rintro e2 w2 ⟨rfl, hb2⟩
              have HB2 := Lib.hid (HB1.out.trans (hb2.mono HB1.out.size))
              clear hb2
              go_wp2_with fail
              go_ret
              exact ⟨by rw [Hr2.out]; rfl, HB2.out⟩
          · have hin : i = n := by omega
            subst hin
            have hd : dupB l = false := dup_no (fun j c hc => HF.out j c (by have := (List.getElem?_eq_some_iff.1 hc).1; have := Hl.out; omega) hc)
            have hr2 : refuC l b = if b / 2 < roomL l then 9 else 0 := by rw [Hr.out, if_neg (by rw [hd]; decide)]
            have Hro := Lib.hid (roomOf_any A i cap l wr (HC.out.below HB.out) Hfair.out (by omega))
            have hle := roomL_le l Hfair.out
            rw [Hl.out] at hle
            obtain ⟨M, hM⟩ : ∃ M, M = roomL l := ⟨_, rfl⟩
            rw [← hM] at Hro hr2 hle
            clear hd hM
            by_cases hlong : b / 2 < M
            · rw [if_pos hlong] at hr2
              have Hr2 := Lib.hid hr2
              clear hr2
              go_wp2_with fail
              refine Hro.out.mono ?_
              rintro e2 w2 ⟨rfl, hb2⟩
              have HB2 := Lib.hid (HB.out.trans (hb2.mono HB.out.size))
              clear hb2
              go_wp2_with fail
              go_ret
              exact ⟨by rw [Hr2.out]; rfl, HB2.out⟩
            · rw [if_neg hlong] at hr2
              have Hr2 := Lib.hid hr2
              clear hr2
              go_wp2_with fail
              refine Hro.out.mono ?_
              rintro e2 w2 ⟨rfl, hb2⟩
              have HB2 := Lib.hid (HB.out.trans (hb2.mono HB.out.size))
              clear hb2
              go_wp2_with fail
              go_ret
              exact ⟨by rw [Hr2.out]; rfl, HB2.out⟩
      · have hr : refuC l b = 1 := by unfold refuC; rw [if_pos (Or.inr (Or.inr hm))]
        have Hr := Lib.hid hr
        rw [hm] at Hct
        clear hm hr
        go_enter Tryz.func74, Tryz.ntmps74
        go_wp2_with fail
        refine Hct.out.mono ?_
        rintro e1 w1 ⟨rfl, hb1⟩
        go_wp2_with fail
        go_ret
        exact ⟨by rw [Hr.out]; rfl, hb1⟩

end Go.Proofs.YtidbipbangifbaaGreatDoor
