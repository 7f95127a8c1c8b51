/- The walks over cmp.Compare, the library's binary search over instructions, ops.isPlace. -/
import Derived.Test.YtcpcjcbeeeoabaaDoorEf
namespace Go.Proofs.YtcpcjcbeeeoabaaDoor
set_option maxRecDepth 100000
open Go.RowKit

theorem nanI_any (a : Int) (w : World) : Calls Tryd.prog 42 #[.int .i64 a] w fun e w' => e = .returned (.bool false) ∧ w = w' := by
  go_enter Tryd.func42, Tryd.ntmps42
  go_wp2
  go_ret
  exact ⟨by simp, rfl⟩

theorem compareI_any (a b : Int) (w : World) : Calls Tryd.prog 37 #[.int .i64 a, .int .i64 b] w fun e w' => e = .returned (.int .i64 (cmpV a b)) ∧ w = w' := by
  unfold cmpV
  by_cases h : a < b
  · go_enter Tryd.func37, Tryd.ntmps37
    go_wp2_with ((go_at_call 42; refine (nanI_any _ _).mono ?_; rintro e1 w1 ⟨rfl, rfl⟩))
    go_ret
    simp [h]
  · by_cases h2 : b < a
    · go_enter Tryd.func37, Tryd.ntmps37
      go_wp2_with ((go_at_call 42; refine (nanI_any _ _).mono ?_; rintro e1 w1 ⟨rfl, rfl⟩))
      go_ret
      simp [h, h2]
    · go_enter Tryd.func37, Tryd.ntmps37
      go_wp2_with ((go_at_call 42; refine (nanI_any _ _).mono ?_; rintro e1 w1 ⟨rfl, rfl⟩))
      go_ret
      simp [h, h2]

theorem isPlace1_any (r : RawD) (p : Int) (w : World) : Calls Tryd.prog 36 #[.agg #[.int .i64 r.pl, .int .u8 (r.op : Int), .int .i64 r.a, .int .i64 r.b], .int .i64 p] w fun e w' => e = .returned (.int .i64 (cmpV r.pl p)) ∧ Below w.heap.size w w' := by
  go_enter Tryd.func36, Tryd.ntmps36
  go_wp2_with fail
  refine (compareI_any _ _ _).mono ?_
  rintro e1 w1 ⟨rfl, rfl⟩
  go_wp2
  go_ret
  exact ⟨rfl, (Below.refl _ _).alloc (Nat.le_refl _) _⟩

/-- The places rise. -/
def Rise (l : List RawD) : Prop := ∀ (i j : Nat) x y, i < j → l[i]? = some x → l[j]? = some y → x.pl < y.pl

def Found (l : List RawD) (p : Int) (e : Ending) : Prop := ∃ q : Int, e = .returned (.tuple #[.int .i64 q, .bool (isPl l p)])

def LoAt (l : List RawD) (p : Int) (a : Nat) : Prop := ∀ (q : Nat) (x : RawD), q < a → l[q]? = some x → x.pl < p
def HiAt (l : List RawD) (p : Int) (b : Nat) : Prop := ∀ (q : Nat) (x : RawD), b ≤ q → l[q]? = some x → p ≤ x.pl
theorem LoAt.of {l : List RawD} {p : Int} {m : Nat} {r : RawD} (hR : Rise l) (hr : l[m]? = some r) (h : r.pl < p) : LoAt l p (m + 1) := fun q x hq hx => by
  rcases Nat.lt_or_ge q m with h3 | h3
  · have := hR q m _ _ h3 hx hr; omega
  · obtain rfl : q = m := by omega
    rw [hx] at hr
    obtain rfl := Option.some.inj hr
    exact h
theorem HiAt.of {l : List RawD} {p : Int} {m : Nat} {r : RawD} (hR : Rise l) (hr : l[m]? = some r) (h : p ≤ r.pl) : HiAt l p m := fun q x hq hx => by
  rcases Nat.lt_or_ge m q with h3 | h3
  · have := hR m q _ _ h3 hr hx; omega
  · obtain rfl : q = m := by omega
    rw [hx] at hr
    obtain rfl := Option.some.inj hr
    exact h

theorem isPl_end {l : List RawD} {p : Int} {i : Nat} (h1 : ∀ (q : Nat) x, q < i → l[q]? = some x → x.pl < p) (h2 : ∀ (q : Nat) x, i ≤ q → l[q]? = some x → p ≤ x.pl) (hR : Rise l) :
    isPl l p = (match l[i]? with | some x => x.pl == p | none => false) := by
  rw [Bool.eq_iff_iff]
  unfold isPl
  rw [List.any_eq_true]
  constructor
  · rintro ⟨x, hx, hp⟩
    have hp := beq_iff_eq.1 hp
    obtain ⟨q, hq, rfl⟩ := List.mem_iff_getElem.1 hx
    have hg : l[q]? = some l[q] := List.getElem?_eq_getElem hq
    rcases Nat.lt_trichotomy q i with h | h | h
    · have := h1 q _ h hg; omega
    · subst h
      rw [hg]
      simpa using hp
    · have hi : i < l.length := by omega
      have hgi : l[i]? = some l[i] := List.getElem?_eq_getElem hi
      have := h2 i _ (Nat.le_refl _) hgi
      have := hR i q _ _ h hgi hg
      omega
  · intro h
    cases hg : l[i]? with
    | none => rw [hg] at h; cases h
    | some x =>
      rw [hg] at h
      exact ⟨x, List.mem_of_getElem? hg, h⟩

set_option maxHeartbeats 2000000 in
theorem bsRaw_any (A : Option Addr) (n cap : Nat) (l : List RawD) (p : Int) (w : World) (hL : RawSl w A n cap l) (hn : n ≤ 1048576) (hR : Rise l) :
    Calls Tryd.prog 35 #[.slice A n cap, .int .i64 p, .func (.func 36) #[] #[]] w fun e w' => Found l p e ∧ Below w.heap.size w w' := by
  have hll := hL.1
  have HLl := Lib.hid hll
  have HL := Lib.hid hL
  have HR := Lib.hid hR
  clear hL hll hR
  go_enter Tryd.func35, Tryd.ntmps35
  go_wp2
  go_loopw [9, 10] (fun i j wr => ∃ a b : Nat, a ≤ b ∧ b ≤ n ∧ i = .int .i64 (a : Int) ∧ j = .int .i64 (b : Int) ∧ LoAt l p a ∧ HiAt l p b ∧ Below w.heap.size w wr)
    (fun i j _ => (intOf j).toNat - (intOf i).toNat)
  case atStart =>
    refine ⟨0, n, by omega, by omega, rfl, rfl, (fun q x h => absurd h (by omega)), (fun q x h hq => ?_), Below.refl _ _⟩
    have := (List.getElem?_eq_some_iff.1 hq).1
    have := HLl.out
    omega
  case round =>
    obtain ⟨a, b, hab, hbn, rfl, rfl, h1, h2, hw⟩ := hrel
    by_cases hlt : a < b
    · obtain ⟨m, hm⟩ : ∃ m : Nat, m = (a + b) / 2 := ⟨_, rfl⟩
      have hm1 : a ≤ m := by omega
      have hm2 : m < b := by omega
      have hmi : ((a : Int) + (b : Int)) / 2 = (m : Int) := by omega
      obtain ⟨bb, o, r, rfl, hr, hb, c0, c1, c2, c3⟩ := raw_at (HL.out.below hw) (show m < n by omega)
      have Hr := Lib.hid hr
      have Hw := Lib.hid hw
      clear hr hw hm
      by_cases hc : r.pl < p
      · have hq : cmpV r.pl p = -1 := by unfold cmpV; rw [if_pos hc]
        go_wp2_with ((go_at_call 36; refine (isPlace1_any r p _).mono ?_; rintro e1 w1 ⟨rfl, hb1⟩; rw [hq]; have Hb1 := Lib.hid hb1; clear hb1))
        go_roundw
        case rel => exact ⟨m + 1, b, by omega, hbn, by go_num, rfl, LoAt.of HR.out Hr.out hc, h2, Hw.out.trans (Hb1.out.mono Hw.out.size)⟩
        case measure => simp [intOf]; omega
      · have hq : (cmpV r.pl p < 0) = False := by unfold cmpV; rw [if_neg hc]; split <;> simp
        have hqd : decide (cmpV r.pl p < 0) = false := by simp [hq]
        clear hq
        go_wp2_with ((go_at_call 36; refine (isPlace1_any r p _).mono ?_; rintro e1 w1 ⟨rfl, hb1⟩; have Hb1 := Lib.hid hb1; clear hb1))
        go_roundw
        case rel => exact ⟨a, m, by omega, by omega, rfl, rfl, h1, HiAt.of HR.out Hr.out (by omega), Hw.out.trans (Hb1.out.mono Hw.out.size)⟩
        case measure => simp [intOf]; omega
    · obtain rfl : a = b := by omega
      have HE := Lib.hid (isPl_end h1 h2 HR.out)
      by_cases han : a < n
      · obtain ⟨bb, o, r, rfl, hr, hb, c0, c1, c2, c3⟩ := raw_at (HL.out.below hw) han
        have HE2 : Hid (isPl l p = (cmpV r.pl p == 0)) := Lib.hid (by
          rw [HE.out, hr, Bool.eq_iff_iff]
          unfold cmpV
          simp
          split <;> (try split) <;> omega)
        have Hw := Lib.hid hw
        clear hr hw
        go_wp2_with ((go_at_call 36; refine (isPlace1_any r p _).mono ?_; rintro e1 w1 ⟨rfl, hb1⟩; have Hb1 := Lib.hid hb1; clear hb1))
        go_ret2
        exact ⟨⟨_, by rw [HE2.out]; rfl⟩, Hw.out.trans (Hb1.out.mono Hw.out.size)⟩
      · have HE2 : Hid (isPl l p = false) := Lib.hid (by
          rw [HE.out, List.getElem?_eq_none (by have := HLl.out; omega)])
        have Hw := Lib.hid hw
        have hd : decide (a < n) = false := decide_eq_false han
        clear hw han
        go_wp2
        go_ret2
        exact ⟨⟨_, by rw [HE2.out]; rfl⟩, Hw.out⟩

theorem isPlace_any (A : Option Addr) (n cap : Nat) (l : List RawD) (p : Int) (w : World) (hL : RawSl w A n cap l) (hn : n ≤ 1048576) (hR : Rise l) :
    Calls Tryd.prog 30 #[.slice A n cap, .int .i64 p] w fun e w' => e = .returned (.bool (isPl l p)) ∧ Below w.heap.size w w' := by
  have HL := Lib.hid hL
  have HR := Lib.hid hR
  clear hL hR
  go_enter Tryd.func30, Tryd.ntmps30
  go_wp2_with fail
  refine (bsRaw_any A n cap l p _ HL.out hn HR.out).mono ?_
  rintro e1 w1 ⟨⟨q, rfl⟩, hb⟩
  have Hb := Lib.hid hb
  clear hb
  go_wp2
  go_ret
  exact ⟨rfl, Hb.out⟩

end Go.Proofs.YtcpcjcbeeeoabaaDoor
