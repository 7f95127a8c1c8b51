/- slices.IndexFunc, ContainsFunc at instructions, traps, maps, with a closure that holds one variable; printed by gen/gen_oe.py. -/
import Derived.Test.YtkcjgcogoicffaaDoorOd
import Derived.Shelf.Abstract
namespace Go.Proofs.YtkcjgcogoicffaaDoor
set_option maxRecDepth 100000
open Go.RowKit

/-- The place of the first that a test lets by. -/
def firstX {α : Type} (t : α → Bool) (l : List α) : Int := match l.findIdx? t with | some i => (i : Int) | none => -1
theorem firstX_at {α : Type} {t : α → Bool} {l : List α} {i : Nat} {x : α} (HF : ∀ j q, j < i → l[j]? = some q → t q = false) (hx : l[i]? = some x) (hm : t x = true) : firstX t l = (i : Int) := by
  unfold firstX
  have : l.findIdx? t = some i := by
    rw [List.findIdx?_eq_some_iff_getElem]
    have hil : i < l.length := (List.getElem?_eq_some_iff.1 hx).1
    have hfe : l[i] = x := (List.getElem?_eq_some_iff.1 hx).2
    refine ⟨hil, by rw [hfe]; exact hm, fun j hj => ?_⟩
    rw [HF j l[j] hj (List.getElem?_eq_getElem (by omega))]
    decide
  rw [this]
theorem firstX_no {α : Type} {t : α → Bool} {l : List α} (HF : ∀ j q, j < l.length → l[j]? = some q → t q = false) : firstX t l = -1 := by
  unfold firstX
  have : l.findIdx? t = none := by
    rw [List.findIdx?_eq_none_iff]
    intro x hx
    obtain ⟨j, hj, he⟩ := List.mem_iff_getElem.1 hx
    exact HF j x hj (by rw [List.getElem?_eq_getElem hj, he])
  rw [this]
theorem firstX_any {α : Type} (t : α → Bool) (l : List α) : decide (0 ≤ firstX t l) = l.any t := by
  unfold firstX
  cases h : l.findIdx? t with
  | none =>
    rw [List.findIdx?_eq_none_iff] at h
    rw [show l.any t = false from by rw [List.any_eq_false]; intro x hx; rw [h x hx]; decide]
    decide
  | some i =>
    rw [List.findIdx?_eq_some_iff_getElem] at h
    obtain ⟨hi, h1, _⟩ := h
    rw [show l.any t = true from List.any_eq_true.2 ⟨_, List.getElem_mem hi, h1⟩]
    simp
theorem firstX_find {α : Type} (t : α → Bool) (l : List α) : (firstX t l = -1 ∧ l.find? t = none) ∨ ∃ (i : Nat) (x : α), firstX t l = (i : Int) ∧ l[i]? = some x ∧ l.find? t = some x ∧ i < l.length := by
  unfold firstX
  cases h : l.findIdx? t with
  | none =>
    left
    rw [List.findIdx?_eq_none_iff] at h
    exact ⟨rfl, List.find?_eq_none.2 (fun x hx => by rw [h x hx]; decide)⟩
  | some i =>
    right
    rw [List.findIdx?_eq_some_iff_getElem] at h
    obtain ⟨hi, h1, h2⟩ := h
    refine ⟨i, l[i], rfl, List.getElem?_eq_getElem hi, ?_, hi⟩
    rw [List.find?_eq_some_iff_getElem]
    refine ⟨h1, i, hi, rfl, fun j hj => ?_⟩
    have := h2 j hj
    simpa using this

/-- Where IndexFunc stands. -/
def RelIIn (l : List InD) (t : InD → Bool) (n : Nat) (w : World) (v : Value) (wr : World) : Prop := ∃ k : Nat, k ≤ n ∧ v = .int .i64 (k : Int) ∧ (∀ j q, j < k → l[j]? = some q → t q = false) ∧ Below w.heap.size w wr
set_option maxHeartbeats 1000000 in
theorem indexIn_any (g : FuncId) (a : Addr) (t : InD → Bool) (A : Option Addr) (n cap : Nat) (l : List InD) (w : World) (hC : RowS inT w Empty A n cap l) (hg : Enters Tryd.prog g)
    (ht : ∀ x ∈ l, ∀ (W : World) , Below w.heap.size w W → inT.rep W Empty [.int .u8 (x.op.toNat : Int), .int .i64 x.n, .int .i64 x.m, .string (strB x.cls), .string (strB x.name), .string (strB x.desc), .string (strB x.text)] x → Calls Tryd.prog g #[.agg #[.int .u8 (x.op.toNat : Int), .int .i64 x.n, .int .i64 x.m, .string (strB x.cls), .string (strB x.name), .string (strB x.desc), .string (strB x.text)], .pointer (some a)] W fun e1 w' => e1 = .returned (.bool (t x)) ∧ Below W.heap.size W w') :
    Calls Tryd.prog 40 #[.slice A n cap, .func (.func g) #[] #[.pointer (some a)]] w fun e1 w' => e1 = .returned (.int .i64 (firstX t l)) ∧ Below w.heap.size w w' := by
  have HC := Lib.hid hC
  have HT := Lib.hid ht
  have HG := Lib.hid hg
  have hcap : n ≤ cap := hC.2.1
  have hcap2 : cap ≤ 9223372036854775807 := by have := hC.2.2.1; unfold maxLen at this; omega
  clear hC ht hg
  have HRel : Hid (RelIIn l t n w (.int .i64 0) w) := Lib.hid ⟨0, Nat.zero_le _, rfl, fun j f h _ => absurd h (by omega), Below.refl _ _⟩
  go_enter Tryd.func40, Tryd.ntmps40
  go_wp2_with fail
  go_loopw [8] (fun v wr => RelIIn l t n w v wr) (fun v _ => n - (intOf v).toNat)
  case atStart => exact HRel.out
  case round =>
    clear HRel
    obtain ⟨k, hk, rfl, hF, hB⟩ := hrel
    have HF := Lib.hid hF
    have HB := Lib.hid hB
    clear hF hB
    by_cases hlt : k < n
    · obtain ⟨b, o, x, cs, rfl, hb, -, hx, hcl, hcs, hr⟩ := (HC.out.below HB.out).at_ hlt
      obtain rfl := (show cs = [.int .u8 (x.op.toNat : Int), .int .i64 x.n, .int .i64 x.m, .string (strB x.cls), .string (strB x.name), .string (strB x.desc), .string (strB x.text)] from hr)
      change ∀ j' v, [.int .u8 (x.op.toNat : Int), .int .i64 x.n, .int .i64 x.m, .string (strB x.cls), .string (strB x.name), .string (strB x.desc), .string (strB x.text)][j']? = some v → wr.cell? ⟨b, o + k * 7 + j', none⟩ = some v at hcs
      have d0 : wr.cell? ⟨b, o + k * 7, none⟩ = some (.int .u8 (x.op.toNat : Int)) := by have := hcs 0 _ rfl; simpa using this
      have d1 : wr.cell? ⟨b, o + k * 7 + 1, none⟩ = some (.int .i64 x.n) := by have := hcs 1 _ rfl; simpa using this
      have d2 : wr.cell? ⟨b, o + k * 7 + 2, none⟩ = some (.int .i64 x.m) := by have := hcs 2 _ rfl; simpa using this
      have d3 : wr.cell? ⟨b, o + k * 7 + 3, none⟩ = some (.string (strB x.cls)) := by have := hcs 3 _ rfl; simpa using this
      have d4 : wr.cell? ⟨b, o + k * 7 + 4, none⟩ = some (.string (strB x.name)) := by have := hcs 4 _ rfl; simpa using this
      have d5 : wr.cell? ⟨b, o + k * 7 + 5, none⟩ = some (.string (strB x.desc)) := by have := hcs 5 _ rfl; simpa using this
      have d6 : wr.cell? ⟨b, o + k * 7 + 6, none⟩ = some (.string (strB x.text)) := by have := hcs 6 _ rfl; simpa using this
      have Hcall := Lib.hid (HT.out x (List.mem_of_getElem? hx) wr  HB.out rfl)
      have Hx := Lib.hid hx
      have Hin := Lib.hid (HG.out #[.agg #[.int .u8 (x.op.toNat : Int), .int .i64 x.n, .int .i64 x.m, .string (strB x.cls), .string (strB x.name), .string (strB x.desc), .string (strB x.text)], .pointer (some a)] wr)
      clear hcs hcl hx hr
      go_wp2_with fail
      rw [Hin.out, Oper.upon_enter]
      refine Hcall.out.mono ?_
      rintro e1 w1 ⟨rfl, hb1⟩
      have HB1 := Lib.hid (HB.out.trans (hb1.mono HB.out.size))
      clear hb1
      cases hm : t x
      · have HRel : Hid (RelIIn l t n w (.int .i64 ((k : Int) + 1)) w1) := Lib.hid ⟨k + 1, hlt, by simp, (fun j q hj hq => by
          by_cases hji : j = k
          · subst hji
            rw [Hx.out] at hq
            cases hq
            exact hm
          · exact HF.out j q (by omega) hq), HB1.out⟩
        clear hm
        go_wp2_with fail
        go_roundw
        case rel => exact HRel.out
        case measure => simp [intOf]; omega
      · have Hfi := Lib.hid (firstX_at HF.out Hx.out hm)
        clear hm
        go_wp2_with fail
        go_ret
        exact ⟨by rw [Hfi.out]; rfl, HB1.out⟩
    · have Hfi : Hid (firstX t l = -1) := Lib.hid (firstX_no (fun j q hj hq => HF.out j q (by have := HC.out.1; omega) hq))
      go_wp2_with fail
      go_ret
      exact ⟨by rw [Hfi.out]; rfl, HB.out⟩
theorem containsIn_any (g : FuncId) (a : Addr) (t : InD → Bool) (A : Option Addr) (n cap : Nat) (l : List InD) (w : World) (hC : RowS inT w Empty A n cap l) (hg : Enters Tryd.prog g)
    (ht : ∀ x ∈ l, ∀ (W : World) , Below w.heap.size w W → inT.rep W Empty [.int .u8 (x.op.toNat : Int), .int .i64 x.n, .int .i64 x.m, .string (strB x.cls), .string (strB x.name), .string (strB x.desc), .string (strB x.text)] x → Calls Tryd.prog g #[.agg #[.int .u8 (x.op.toNat : Int), .int .i64 x.n, .int .i64 x.m, .string (strB x.cls), .string (strB x.name), .string (strB x.desc), .string (strB x.text)], .pointer (some a)] W fun e1 w' => e1 = .returned (.bool (t x)) ∧ Below W.heap.size W w') :
    Calls Tryd.prog 27 #[.slice A n cap, .func (.func g) #[] #[.pointer (some a)]] w fun e1 w' => e1 = .returned (.bool (l.any t)) ∧ Below w.heap.size w w' := by
  have Hi := Lib.hid (indexIn_any g a t A n cap l w hC hg ht)
  have he := firstX_any t l
  obtain ⟨q, hq⟩ : ∃ q, q = firstX t l := ⟨_, rfl⟩
  rw [← hq] at Hi he
  have He := Lib.hid he
  clear hC hg ht he hq
  go_enter Tryd.func27, Tryd.ntmps27
  go_wp2_with fail
  refine Hi.out.mono ?_
  rintro e1 w1 ⟨rfl, hb1⟩
  go_wp2_with fail
  go_ret
  exact ⟨by rw [← He.out]; rfl, hb1⟩

/-- Where IndexFunc stands. -/
def RelITr (l : List TrD) (t : TrD → Bool) (n : Nat) (w : World) (v : Value) (wr : World) : Prop := ∃ k : Nat, k ≤ n ∧ v = .int .i64 (k : Int) ∧ (∀ j q, j < k → l[j]? = some q → t q = false) ∧ Below w.heap.size w wr
set_option maxHeartbeats 1000000 in
theorem indexTr_any (g : FuncId) (a : Addr) (t : TrD → Bool) (A : Option Addr) (n cap : Nat) (l : List TrD) (w : World) (hC : RowS trT w Empty A n cap l) (hg : Enters Tryd.prog g)
    (ht : ∀ x ∈ l, ∀ (W : World) , Below w.heap.size w W → trT.rep W Empty [.int .i64 x.a, .int .i64 x.b, .int .i64 x.c, .string (strB x.cls)] x → Calls Tryd.prog g #[.agg #[.int .i64 x.a, .int .i64 x.b, .int .i64 x.c, .string (strB x.cls)], .pointer (some a)] W fun e1 w' => e1 = .returned (.bool (t x)) ∧ Below W.heap.size W w') :
    Calls Tryd.prog 41 #[.slice A n cap, .func (.func g) #[] #[.pointer (some a)]] w fun e1 w' => e1 = .returned (.int .i64 (firstX t l)) ∧ Below w.heap.size w w' := by
  have HC := Lib.hid hC
  have HT := Lib.hid ht
  have HG := Lib.hid hg
  have hcap : n ≤ cap := hC.2.1
  have hcap2 : cap ≤ 9223372036854775807 := by have := hC.2.2.1; unfold maxLen at this; omega
  clear hC ht hg
  have HRel : Hid (RelITr l t n w (.int .i64 0) w) := Lib.hid ⟨0, Nat.zero_le _, rfl, fun j f h _ => absurd h (by omega), Below.refl _ _⟩
  go_enter Tryd.func41, Tryd.ntmps41
  go_wp2_with fail
  go_loopw [8] (fun v wr => RelITr l t n w v wr) (fun v _ => n - (intOf v).toNat)
  case atStart => exact HRel.out
  case round =>
    clear HRel
    obtain ⟨k, hk, rfl, hF, hB⟩ := hrel
    have HF := Lib.hid hF
    have HB := Lib.hid hB
    clear hF hB
    by_cases hlt : k < n
    · obtain ⟨b, o, x, cs, rfl, hb, -, hx, hcl, hcs, hr⟩ := (HC.out.below HB.out).at_ hlt
      obtain rfl := (show cs = [.int .i64 x.a, .int .i64 x.b, .int .i64 x.c, .string (strB x.cls)] from hr)
      change ∀ j' v, [.int .i64 x.a, .int .i64 x.b, .int .i64 x.c, .string (strB x.cls)][j']? = some v → wr.cell? ⟨b, o + k * 4 + j', none⟩ = some v at hcs
      have d0 : wr.cell? ⟨b, o + k * 4, none⟩ = some (.int .i64 x.a) := by have := hcs 0 _ rfl; simpa using this
      have d1 : wr.cell? ⟨b, o + k * 4 + 1, none⟩ = some (.int .i64 x.b) := by have := hcs 1 _ rfl; simpa using this
      have d2 : wr.cell? ⟨b, o + k * 4 + 2, none⟩ = some (.int .i64 x.c) := by have := hcs 2 _ rfl; simpa using this
      have d3 : wr.cell? ⟨b, o + k * 4 + 3, none⟩ = some (.string (strB x.cls)) := by have := hcs 3 _ rfl; simpa using this
      have Hcall := Lib.hid (HT.out x (List.mem_of_getElem? hx) wr  HB.out rfl)
      have Hx := Lib.hid hx
      have Hin := Lib.hid (HG.out #[.agg #[.int .i64 x.a, .int .i64 x.b, .int .i64 x.c, .string (strB x.cls)], .pointer (some a)] wr)
      clear hcs hcl hx hr
      go_wp2_with fail
      rw [Hin.out, Oper.upon_enter]
      refine Hcall.out.mono ?_
      rintro e1 w1 ⟨rfl, hb1⟩
      have HB1 := Lib.hid (HB.out.trans (hb1.mono HB.out.size))
      clear hb1
      cases hm : t x
      · have HRel : Hid (RelITr l t n w (.int .i64 ((k : Int) + 1)) w1) := Lib.hid ⟨k + 1, hlt, by simp, (fun j q hj hq => by
          by_cases hji : j = k
          · subst hji
            rw [Hx.out] at hq
            cases hq
            exact hm
          · exact HF.out j q (by omega) hq), HB1.out⟩
        clear hm
        go_wp2_with fail
        go_roundw
        case rel => exact HRel.out
        case measure => simp [intOf]; omega
      · have Hfi := Lib.hid (firstX_at HF.out Hx.out hm)
        clear hm
        go_wp2_with fail
        go_ret
        exact ⟨by rw [Hfi.out]; rfl, HB1.out⟩
    · have Hfi : Hid (firstX t l = -1) := Lib.hid (firstX_no (fun j q hj hq => HF.out j q (by have := HC.out.1; omega) hq))
      go_wp2_with fail
      go_ret
      exact ⟨by rw [Hfi.out]; rfl, HB.out⟩
theorem containsTr_any (g : FuncId) (a : Addr) (t : TrD → Bool) (A : Option Addr) (n cap : Nat) (l : List TrD) (w : World) (hC : RowS trT w Empty A n cap l) (hg : Enters Tryd.prog g)
    (ht : ∀ x ∈ l, ∀ (W : World) , Below w.heap.size w W → trT.rep W Empty [.int .i64 x.a, .int .i64 x.b, .int .i64 x.c, .string (strB x.cls)] x → Calls Tryd.prog g #[.agg #[.int .i64 x.a, .int .i64 x.b, .int .i64 x.c, .string (strB x.cls)], .pointer (some a)] W fun e1 w' => e1 = .returned (.bool (t x)) ∧ Below W.heap.size W w') :
    Calls Tryd.prog 30 #[.slice A n cap, .func (.func g) #[] #[.pointer (some a)]] w fun e1 w' => e1 = .returned (.bool (l.any t)) ∧ Below w.heap.size w w' := by
  have Hi := Lib.hid (indexTr_any g a t A n cap l w hC hg ht)
  have he := firstX_any t l
  obtain ⟨q, hq⟩ : ∃ q, q = firstX t l := ⟨_, rfl⟩
  rw [← hq] at Hi he
  have He := Lib.hid he
  clear hC hg ht he hq
  go_enter Tryd.func30, Tryd.ntmps30
  go_wp2_with fail
  refine Hi.out.mono ?_
  rintro e1 w1 ⟨rfl, hb1⟩
  go_wp2_with fail
  go_ret
  exact ⟨by rw [← He.out]; rfl, hb1⟩

/-- Where IndexFunc stands. -/
def RelIMp (l : List MpD) (t : MpD → Bool) (n : Nat) (w : World) (v : Value) (wr : World) : Prop := ∃ k : Nat, k ≤ n ∧ v = .int .i64 (k : Int) ∧ (∀ j q, j < k → l[j]? = some q → t q = false) ∧ Below w.heap.size w wr
set_option maxHeartbeats 1000000 in
theorem indexMp_any (g : FuncId) (a : Addr) (t : MpD → Bool) (A : Option Addr) (n cap : Nat) (l : List MpD) (w : World) (hC : RowS mpT w Empty A n cap l) (hg : Enters Tryd.prog g)
    (ht : ∀ x ∈ l, ∀ (W : World) (A1 : Option Addr) (n1 q1 : Nat) (A2 : Option Addr) (n2 q2 : Nat) , Below w.heap.size w W → mpT.rep W Empty [.int .i64 x.at_, .slice A1 n1 q1, .slice A2 n2 q2] x → Calls Tryd.prog g #[.agg #[.int .i64 x.at_, .slice A1 n1 q1, .slice A2 n2 q2], .pointer (some a)] W fun e1 w' => e1 = .returned (.bool (t x)) ∧ Below W.heap.size W w') :
    Calls Tryd.prog 19 #[.slice A n cap, .func (.func g) #[] #[.pointer (some a)]] w fun e1 w' => e1 = .returned (.int .i64 (firstX t l)) ∧ Below w.heap.size w w' := by
  have HC := Lib.hid hC
  have HT := Lib.hid ht
  have HG := Lib.hid hg
  have hcap : n ≤ cap := hC.2.1
  have hcap2 : cap ≤ 9223372036854775807 := by have := hC.2.2.1; unfold maxLen at this; omega
  clear hC ht hg
  have HRel : Hid (RelIMp l t n w (.int .i64 0) w) := Lib.hid ⟨0, Nat.zero_le _, rfl, fun j f h _ => absurd h (by omega), Below.refl _ _⟩
  go_enter Tryd.func19, Tryd.ntmps19
  go_wp2_with fail
  go_loopw [8] (fun v wr => RelIMp l t n w v wr) (fun v _ => n - (intOf v).toNat)
  case atStart => exact HRel.out
  case round =>
    clear HRel
    obtain ⟨k, hk, rfl, hF, hB⟩ := hrel
    have HF := Lib.hid hF
    have HB := Lib.hid hB
    clear hF hB
    by_cases hlt : k < n
    · obtain ⟨b, o, x, cs, rfl, hb, -, hx, hcl, hcs, hr⟩ := (HC.out.below HB.out).at_ hlt
      obtain ⟨_, _, rfl, ⟨A1, n1, q1, e1, hR1⟩, ⟨A2, n2, q2, e2, hR2⟩⟩ := hr
      cases e1
      cases e2
      change ∀ j' v, [.int .i64 x.at_, .slice A1 n1 q1, .slice A2 n2 q2][j']? = some v → wr.cell? ⟨b, o + k * 3 + j', none⟩ = some v at hcs
      have d0 : wr.cell? ⟨b, o + k * 3, none⟩ = some (.int .i64 x.at_) := by have := hcs 0 _ rfl; simpa using this
      have d1 : wr.cell? ⟨b, o + k * 3 + 1, none⟩ = some (.slice A1 n1 q1) := by have := hcs 1 _ rfl; simpa using this
      have d2 : wr.cell? ⟨b, o + k * 3 + 2, none⟩ = some (.slice A2 n2 q2) := by have := hcs 2 _ rfl; simpa using this
      have Hcall := Lib.hid (HT.out x (List.mem_of_getElem? hx) wr A1 n1 q1 A2 n2 q2 HB.out ⟨_, _, rfl, ⟨A1, n1, q1, rfl, hR1⟩, ⟨A2, n2, q2, rfl, hR2⟩⟩)
      have Hx := Lib.hid hx
      have Hin := Lib.hid (HG.out #[.agg #[.int .i64 x.at_, .slice A1 n1 q1, .slice A2 n2 q2], .pointer (some a)] wr)
      clear hcs hcl hx hR1 hR2
      go_wp2_with fail
      rw [Hin.out, Oper.upon_enter]
      refine Hcall.out.mono ?_
      rintro e1 w1 ⟨rfl, hb1⟩
      have HB1 := Lib.hid (HB.out.trans (hb1.mono HB.out.size))
      clear hb1
      cases hm : t x
      · have HRel : Hid (RelIMp l t n w (.int .i64 ((k : Int) + 1)) w1) := Lib.hid ⟨k + 1, hlt, by simp, (fun j q hj hq => by
          by_cases hji : j = k
          · subst hji
            rw [Hx.out] at hq
            cases hq
            exact hm
          · exact HF.out j q (by omega) hq), HB1.out⟩
        clear hm
        go_wp2_with fail
        go_roundw
        case rel => exact HRel.out
        case measure => simp [intOf]; omega
      · have Hfi := Lib.hid (firstX_at HF.out Hx.out hm)
        clear hm
        go_wp2_with fail
        go_ret
        exact ⟨by rw [Hfi.out]; rfl, HB1.out⟩
    · have Hfi : Hid (firstX t l = -1) := Lib.hid (firstX_no (fun j q hj hq => HF.out j q (by have := HC.out.1; omega) hq))
      go_wp2_with fail
      go_ret
      exact ⟨by rw [Hfi.out]; rfl, HB.out⟩

end Go.Proofs.YtkcjgcogoicffaaDoor
