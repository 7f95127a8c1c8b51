/- slices.IndexFunc, ContainsFunc at instructions, traps, maps, with a closure that holds one variable; printed by gen/gen_oe.py. -/
import Derived.Test.YtdkkpcbebhgbiaaGreatDoorZar
import Derived.Shelf.Abstract
namespace Go.Proofs.YtdkkpcbebhgbiaaGreatDoor
set_option maxRecDepth 100000
open Go.RowKit

/-- The place of the first that a test lets by. -/
def firstX {α : Type} (t : α → Bool) (l : List α) : Int := match l.findIdx? t with | some i => (i : Int) | none => -1
theorem firstX_at {α : Type} {t : α → Bool} {l : List α} {i : Nat} {x : α} (HF : ∀ j q, j < i → l[j]? = some q → t q = false) (hx : l[i]? = some x) (hm : t x = true) : firstX t l = (i : Int) := by
  unfold firstX
  have : l.findIdx? t = some i := by
    rw [List.findIdx?_eq_some_iff_getElem]
    have hil : i < l.length := (List.getElem?_eq_some_iff.1 hx).1
    have hfe : l[i] = x := (List.getElem?_eq_some_iff.1 hx).2
    refine ⟨hil, by rw [hfe]; exact hm, fun j hj => ?_⟩
    rw [HF j l[j] hj (List.getElem?_eq_getElem (by omega))]
    decide
  rw [this]
theorem firstX_no {α : Type} {t : α → Bool} {l : List α} (HF : ∀ j q, j < l.length → l[j]? = some q → t q = false) : firstX t l = -1 := by
  unfold firstX
  have : l.findIdx? t = none := by
    rw [List.findIdx?_eq_none_iff]
    intro x hx
    obtain ⟨j, hj, he⟩ := List.mem_iff_getElem.1 hx
    exact HF j x hj (by rw [List.getElem?_eq_getElem hj, he])
  rw [this]
theorem firstX_any {α : Type} (t : α → Bool) (l : List α) : decide (0 ≤ firstX t l) = l.any t := by
  unfold firstX
  cases h : l.findIdx? t with
  | none =>
    rw [List.findIdx?_eq_none_iff] at h
    rw [show l.any t = false from by rw [List.any_eq_false]; intro x hx; rw [h x hx]; decide]
    decide
  | some i =>
    rw [List.findIdx?_eq_some_iff_getElem] at h
    obtain ⟨hi, h1, _⟩ := h
    rw [show l.any t = true from List.any_eq_true.2 ⟨_, List.getElem_mem hi, h1⟩]
    simp
theorem firstX_find {α : Type} (t : α → Bool) (l : List α) : (firstX t l = -1 ∧ l.find? t = none) ∨ ∃ (i : Nat) (x : α), firstX t l = (i : Int) ∧ l[i]? = some x ∧ l.find? t = some x ∧ i < l.length := by
  unfold firstX
  cases h : l.findIdx? t with
  | none =>
    left
    rw [List.findIdx?_eq_none_iff] at h
    exact ⟨rfl, List.find?_eq_none.2 (fun x hx => by rw [h x hx]; decide)⟩
  | some i =>
    right
    rw [List.findIdx?_eq_some_iff_getElem] at h
    obtain ⟨hi, h1, h2⟩ := h
    refine ⟨i, l[i], rfl, List.getElem?_eq_getElem hi, ?_, hi⟩
    rw [List.find?_eq_some_iff_getElem]
    refine ⟨h1, i, hi, rfl, fun j hj => ?_⟩
    have := h2 j hj
    simpa using this

/-- Where IndexFunc stands. -/
def RelIIn (l : List InD) (t : InD → Bool) (n : Nat) (w : World) (v : Value) (wr : World) : Prop := ∃ k : Nat, k ≤ n ∧ v = .int .i64 (k : Int) ∧ (∀ j q, j < k → l[j]? = some q → t q = false) ∧ Below w.heap.size w wr
set_option maxHeartbeats 1000000 in
theorem indexIn_any (g : FuncId) (a : Addr) (t : InD → Bool) (A : Option Addr) (n cap : Nat) (l : List InD) (w : World) (hC : RowS inT w Empty A n cap l) (hg : Enters Tryz.prog g)
    (ht : ∀ x ∈ l, ∀ (W : World) , Below w.heap.size w W → inT.rep W Empty [.int .u8 (x.op.toNat : Int), .int .i64 x.n, .int .i64 x.m, .string (strB x.cls), .string (strB x.name), .string (strB x.desc), .string (strB x.text)] x → Calls Tryz.prog g #[.agg #[.int .u8 (x.op.toNat : Int), .int .i64 x.n, .int .i64 x.m, .string (strB x.cls), .string (strB x.name), .string (strB x.desc), .string (strB x.text)], .pointer (some a)] W fun e1 w' => e1 = .returned (.bool (t x)) ∧ Below W.heap.size W w') :
    Calls Tryz.prog 205 #[.slice A n cap, .func (.func g) #[] #[.pointer (some a)]] w fun e1 w' => e1 = .returned (.int .i64 (firstX t l)) ∧ Below w.heap.size w w' := by
  have HC := Lib.hid hC
  have HT := Lib.hid ht
  have HG := Lib.hid hg
  have hcap : n ≤ cap := hC.2.1
  have hcap2 : cap ≤ 9223372036854775807 := by have := hC.2.2.1; unfold maxLen at this; omega
  clear hC ht hg
  have HRel : Hid (RelIIn l t n w (.int .i64 0) w) := Lib.hid ⟨0, Nat.zero_le _, rfl, fun j f h _ => absurd h (by omega), Below.refl _ _⟩
  go_enter Tryz.func205, Tryz.ntmps205
  go_wp2_with fail
  go_loopw [8] (fun v wr => RelIIn l t n w v wr) (fun v _ => n - (intOf v).toNat)
  case atStart => exact HRel.out
  case round =>
    clear HRel
    obtain ⟨k, hk, rfl, hF, hB⟩ := hrel
    have HF := Lib.hid hF
    have HB := Lib.hid hB
    clear hF hB
    by_cases hlt : k < n
    · obtain ⟨b, o, x, cs, rfl, hb, -, hx, hcl, hcs, hr⟩ := (HC.out.below HB.out).at_ hlt
      obtain rfl := (show cs = [.int .u8 (x.op.toNat : Int), .int .i64 x.n, .int .i64 x.m, .string (strB x.cls), .string (strB x.name), .string (strB x.desc), .string (strB x.text)] from hr)
      change ∀ j' v, [.int .u8 (x.op.toNat : Int), .int .i64 x.n, .int .i64 x.m, .string (strB x.cls), .string (strB x.name), .string (strB x.desc), .string (strB x.text)][j']? = some v → wr.cell? ⟨b, o + k * 7 + j', none⟩ = some v at hcs
      have d0 : wr.cell? ⟨b, o + k * 7, none⟩ = some (.int .u8 (x.op.toNat : Int)) := by have := hcs 0 _ rfl; simpa using this
      have d1 : wr.cell? ⟨b, o + k * 7 + 1, none⟩ = some (.int .i64 x.n) := by have := hcs 1 _ rfl; simpa using this
      have d2 : wr.cell? ⟨b, o + k * 7 + 2, none⟩ = some (.int .i64 x.m) := by have := hcs 2 _ rfl; simpa using this
      have d3 : wr.cell? ⟨b, o + k * 7 + 3, none⟩ = some (.string (strB x.cls)) := by have := hcs 3 _ rfl; simpa using this
      have d4 : wr.cell? ⟨b, o + k * 7 + 4, none⟩ = some (.string (strB x.name)) := by have := hcs 4 _ rfl; simpa using this
      have d5 : wr.cell? ⟨b, o + k * 7 + 5, none⟩ = some (.string (strB x.desc)) := by have := hcs 5 _ rfl; simpa using this
      have d6 : wr.cell? ⟨b, o + k * 7 + 6, none⟩ = some (.string (strB x.text)) := by have := hcs 6 _ rfl; simpa using this
      have Hcall := Lib.hid (HT.out x (List.mem_of_getElem? hx) wr  HB.out rfl)
      have Hx := Lib.hid hx
      have Hin := Lib.hid (HG.out #[.agg #[.int .u8 (x.op.toNat : Int), .int .i64 x.n, .int .i64 x.m, .string (strB x.cls), .string (strB x.name), .string (strB x.desc), .string (strB x.text)], .pointer (some a)] wr)
      clear hcs hcl hx hr
      go_wp2_with fail
      rw [Hin.out, Oper.upon_enter]
      refine Hcall.out.mono ?_
      rintro e1 w1 ⟨rfl, hb1⟩
      have HB1 := Lib.hid (HB.out.trans (hb1.mono HB.out.size))
      clear hb1
      cases hm : t x
      · have HRel : Hid (RelIIn l t n w (.int .i64 ((k : Int) + 1)) w1) := Lib.hid ⟨k + 1, hlt, by simp, (fun j q hj hq => by
          by_cases hji : j = k
          · subst hji
            rw [Hx.out] at hq
            cases hq
            exact hm
          · exact HF.out j q (by omega) hq), HB1.out⟩
        clear hm
        go_wp2_with fail
        go_roundw
        case rel => exact HRel.out
        case measure => simp [intOf]; omega
      · have Hfi := Lib.hid (firstX_at HF.out Hx.out hm)
        clear hm
        go_wp2_with fail
        go_ret
        exact ⟨by rw [Hfi.out]; rfl, HB1.out⟩
    · have Hfi : Hid (firstX t l = -1) := Lib.hid (firstX_no (fun j q hj hq => HF.out j q (by have := HC.out.1; omega) hq))
      go_wp2_with fail
      go_ret
      exact ⟨by rw [Hfi.out]; rfl, HB.out⟩
theorem containsIn_any (g : FuncId) (a : Addr) (t : InD → Bool) (A : Option Addr) (n cap : Nat) (l : List InD) (w : World) (hC : RowS inT w Empty A n cap l) (hg : Enters Tryz.prog g)
    (ht : ∀ x ∈ l, ∀ (W : World) , Below w.heap.size w W → inT.rep W Empty [.int .u8 (x.op.toNat : Int), .int .i64 x.n, .int .i64 x.m, .string (strB x.cls), .string (strB x.name), .string (strB x.desc), .string (strB x.text)] x → Calls Tryz.prog g #[.agg #[.int .u8 (x.op.toNat : Int), .int .i64 x.n, .int .i64 x.m, .string (strB x.cls), .string (strB x.name), .string (strB x.desc), .string (strB x.text)], .pointer (some a)] W fun e1 w' => e1 = .returned (.bool (t x)) ∧ Below W.heap.size W w') :
    Calls Tryz.prog 156 #[.slice A n cap, .func (.func g) #[] #[.pointer (some a)]] w fun e1 w' => e1 = .returned (.bool (l.any t)) ∧ Below w.heap.size w w' := by
  have Hi := Lib.hid (indexIn_any g a t A n cap l w hC hg ht)
  have he := firstX_any t l
  obtain ⟨q, hq⟩ : ∃ q, q = firstX t l := ⟨_, rfl⟩
  rw [← hq] at Hi he
  have He := Lib.hid he
  clear hC hg ht he hq
  go_enter Tryz.func156, Tryz.ntmps156
  go_wp2_with fail
  refine Hi.out.mono ?_
  rintro e1 w1 ⟨rfl, hb1⟩
  go_wp2_with fail
  go_ret
  exact ⟨by rw [← He.out]; rfl, hb1⟩

/-- Where IndexFunc stands. -/
def RelITr (l : List TrD) (t : TrD → Bool) (n : Nat) (w : World) (v : Value) (wr : World) : Prop := ∃ k : Nat, k ≤ n ∧ v = .int .i64 (k : Int) ∧ (∀ j q, j < k → l[j]? = some q → t q = false) ∧ Below w.heap.size w wr
set_option maxHeartbeats 1000000 in
theorem indexTr_any (g : FuncId) (a : Addr) (t : TrD → Bool) (A : Option Addr) (n cap : Nat) (l : List TrD) (w : World) (hC : RowS trT w Empty A n cap l) (hg : Enters Tryz.prog g)
    (ht : ∀ x ∈ l, ∀ (W : World) , Below w.heap.size w W → trT.rep W Empty [.int .i64 x.a, .int .i64 x.b, .int .i64 x.c, .string (strB x.cls)] x → Calls Tryz.prog g #[.agg #[.int .i64 x.a, .int .i64 x.b, .int .i64 x.c, .string (strB x.cls)], .pointer (some a)] W fun e1 w' => e1 = .returned (.bool (t x)) ∧ Below W.heap.size W w') :
    Calls Tryz.prog 203 #[.slice A n cap, .func (.func g) #[] #[.pointer (some a)]] w fun e1 w' => e1 = .returned (.int .i64 (firstX t l)) ∧ Below w.heap.size w w' := by
  have HC := Lib.hid hC
  have HT := Lib.hid ht
  have HG := Lib.hid hg
  have hcap : n ≤ cap := hC.2.1
  have hcap2 : cap ≤ 9223372036854775807 := by have := hC.2.2.1; unfold maxLen at this; omega
  clear hC ht hg
  have HRel : Hid (RelITr l t n w (.int .i64 0) w) := Lib.hid ⟨0, Nat.zero_le _, rfl, fun j f h _ => absurd h (by omega), Below.refl _ _⟩
  go_enter Tryz.func203, Tryz.ntmps203
  go_wp2_with fail
  go_loopw [8] (fun v wr => RelITr l t n w v wr) (fun v _ => n - (intOf v).toNat)
  case atStart => exact HRel.out
  case round =>
    clear HRel
    obtain ⟨k, hk, rfl, hF, hB⟩ := hrel
    have HF := Lib.hid hF
    have HB := Lib.hid hB
    clear hF hB
    by_cases hlt : k < n
    · obtain ⟨b, o, x, cs, rfl, hb, -, hx, hcl, hcs, hr⟩ := (HC.out.below HB.out).at_ hlt
      obtain rfl := (show cs = [.int .i64 x.a, .int .i64 x.b, .int .i64 x.c, .string (strB x.cls)] from hr)
      change ∀ j' v, [.int .i64 x.a, .int .i64 x.b, .int .i64 x.c, .string (strB x.cls)][j']? = some v → wr.cell? ⟨b, o + k * 4 + j', none⟩ = some v at hcs
      have d0 : wr.cell? ⟨b, o + k * 4, none⟩ = some (.int .i64 x.a) := by have := hcs 0 _ rfl; simpa using this
      have d1 : wr.cell? ⟨b, o + k * 4 + 1, none⟩ = some (.int .i64 x.b) := by have := hcs 1 _ rfl; simpa using this
      have d2 : wr.cell? ⟨b, o + k * 4 + 2, none⟩ = some (.int .i64 x.c) := by have := hcs 2 _ rfl; simpa using this
      have d3 : wr.cell? ⟨b, o + k * 4 + 3, none⟩ = some (.string (strB x.cls)) := by have := hcs 3 _ rfl; simpa using this
      have Hcall := Lib.hid (HT.out x (List.mem_of_getElem? hx) wr  HB.out rfl)
      have Hx := Lib.hid hx
      have Hin := Lib.hid (HG.out #[.agg #[.int .i64 x.a, .int .i64 x.b, .int .i64 x.c, .string (strB x.cls)], .pointer (some a)] wr)
      clear hcs hcl hx hr
      go_wp2_with fail
      rw [Hin.out, Oper.upon_enter]
      refine Hcall.out.mono ?_
      rintro e1 w1 ⟨rfl, hb1⟩
      have HB1 := Lib.hid (HB.out.trans (hb1.mono HB.out.size))
      clear hb1
      cases hm : t x
      · have HRel : Hid (RelITr l t n w (.int .i64 ((k : Int) + 1)) w1) := Lib.hid ⟨k + 1, hlt, by simp, (fun j q hj hq => by
          by_cases hji : j = k
          · subst hji
            rw [Hx.out] at hq
            cases hq
            exact hm
          · exact HF.out j q (by omega) hq), HB1.out⟩
        clear hm
        go_wp2_with fail
        go_roundw
        case rel => exact HRel.out
        case measure => simp [intOf]; omega
      · have Hfi := Lib.hid (firstX_at HF.out Hx.out hm)
        clear hm
        go_wp2_with fail
        go_ret
        exact ⟨by rw [Hfi.out]; rfl, HB1.out⟩
    · have Hfi : Hid (firstX t l = -1) := Lib.hid (firstX_no (fun j q hj hq => HF.out j q (by have := HC.out.1; omega) hq))
      go_wp2_with fail
      go_ret
      exact ⟨by rw [Hfi.out]; rfl, HB.out⟩
theorem containsTr_any (g : FuncId) (a : Addr) (t : TrD → Bool) (A : Option Addr) (n cap : Nat) (l : List TrD) (w : World) (hC : RowS trT w Empty A n cap l) (hg : Enters Tryz.prog g)
    (ht : ∀ x ∈ l, ∀ (W : World) , Below w.heap.size w W → trT.rep W Empty [.int .i64 x.a, .int .i64 x.b, .int .i64 x.c, .string (strB x.cls)] x → Calls Tryz.prog g #[.agg #[.int .i64 x.a, .int .i64 x.b, .int .i64 x.c, .string (strB x.cls)], .pointer (some a)] W fun e1 w' => e1 = .returned (.bool (t x)) ∧ Below W.heap.size W w') :
    Calls Tryz.prog 159 #[.slice A n cap, .func (.func g) #[] #[.pointer (some a)]] w fun e1 w' => e1 = .returned (.bool (l.any t)) ∧ Below w.heap.size w w' := by
  have Hi := Lib.hid (indexTr_any g a t A n cap l w hC hg ht)
  have he := firstX_any t l
  obtain ⟨q, hq⟩ : ∃ q, q = firstX t l := ⟨_, rfl⟩
  rw [← hq] at Hi he
  have He := Lib.hid he
  clear hC hg ht he hq
  go_enter Tryz.func159, Tryz.ntmps159
  go_wp2_with fail
  refine Hi.out.mono ?_
  rintro e1 w1 ⟨rfl, hb1⟩
  go_wp2_with fail
  go_ret
  exact ⟨by rw [← He.out]; rfl, hb1⟩

/-- Where IndexFunc stands. -/
def RelIMp (l : List MpD) (t : MpD → Bool) (n : Nat) (w : World) (v : Value) (wr : World) : Prop := ∃ k : Nat, k ≤ n ∧ v = .int .i64 (k : Int) ∧ (∀ j q, j < k → l[j]? = some q → t q = false) ∧ Below w.heap.size w wr
set_option maxHeartbeats 1000000 in
theorem indexMp_any (g : FuncId) (a : Addr) (t : MpD → Bool) (A : Option Addr) (n cap : Nat) (l : List MpD) (w : World) (hC : RowS mpT w Empty A n cap l) (hg : Enters Tryz.prog g)
    (ht : ∀ x ∈ l, ∀ (W : World) (A1 : Option Addr) (n1 q1 : Nat) (A2 : Option Addr) (n2 q2 : Nat) , Below w.heap.size w W → mpT.rep W Empty [.int .i64 x.at_, .slice A1 n1 q1, .slice A2 n2 q2] x → Calls Tryz.prog g #[.agg #[.int .i64 x.at_, .slice A1 n1 q1, .slice A2 n2 q2], .pointer (some a)] W fun e1 w' => e1 = .returned (.bool (t x)) ∧ Below W.heap.size W w') :
    Calls Tryz.prog 95 #[.slice A n cap, .func (.func g) #[] #[.pointer (some a)]] w fun e1 w' => e1 = .returned (.int .i64 (firstX t l)) ∧ Below w.heap.size w w' := by
  have HC := Lib.hid hC
  have HT := Lib.hid ht
  have HG := Lib.hid hg
  have hcap : n ≤ cap := hC.2.1
  have hcap2 : cap ≤ 9223372036854775807 := by have := hC.2.2.1; unfold maxLen at this; omega
  clear hC ht hg
  have HRel : Hid (RelIMp l t n w (.int .i64 0) w) := Lib.hid ⟨0, Nat.zero_le _, rfl, fun j f h _ => absurd h (by omega), Below.refl _ _⟩
  go_enter Tryz.func95, Tryz.ntmps95
  go_wp2_with fail
  go_loopw [8] (fun v wr => RelIMp l t n w v wr) (fun v _ => n - (intOf v).toNat)
  case atStart => exact HRel.out
  case round =>
    clear HRel
    obtain ⟨k, hk, rfl, hF, hB⟩ := hrel
    have HF := Lib.hid hF
    have HB := Lib.hid hB
    clear hF hB
    by_cases hlt : k < n
    · obtain ⟨b, o, x, cs, rfl, hb, -, hx, hcl, hcs, hr⟩ := (HC.out.below HB.out).at_ hlt
      obtain ⟨_, _, rfl, ⟨A1, n1, q1, e1, hR1⟩, ⟨A2, n2, q2, e2, hR2⟩⟩ := hr
      cases e1
      cases e2
      change ∀ j' v, [.int .i64 x.at_, .slice A1 n1 q1, .slice A2 n2 q2][j']? = some v → wr.cell? ⟨b, o + k * 3 + j', none⟩ = some v at hcs
      have d0 : wr.cell? ⟨b, o + k * 3, none⟩ = some (.int .i64 x.at_) := by have := hcs 0 _ rfl; simpa using this
      have d1 : wr.cell? ⟨b, o + k * 3 + 1, none⟩ = some (.slice A1 n1 q1) := by have := hcs 1 _ rfl; simpa using this
      have d2 : wr.cell? ⟨b, o + k * 3 + 2, none⟩ = some (.slice A2 n2 q2) := by have := hcs 2 _ rfl; simpa using this
      have Hcall := Lib.hid (HT.out x (List.mem_of_getElem? hx) wr A1 n1 q1 A2 n2 q2 HB.out ⟨_, _, rfl, ⟨A1, n1, q1, rfl, hR1⟩, ⟨A2, n2, q2, rfl, hR2⟩⟩)
      have Hx := Lib.hid hx
      have Hin := Lib.hid (HG.out #[.agg #[.int .i64 x.at_, .slice A1 n1 q1, .slice A2 n2 q2], .pointer (some a)] wr)
      clear hcs hcl hx hR1 hR2
      go_wp2_with fail
      rw [Hin.out, Oper.upon_enter]
      refine Hcall.out.mono ?_
      rintro e1 w1 ⟨rfl, hb1⟩
      have HB1 := Lib.hid (HB.out.trans (hb1.mono HB.out.size))
      clear hb1
      cases hm : t x
      · have HRel : Hid (RelIMp l t n w (.int .i64 ((k : Int) + 1)) w1) := Lib.hid ⟨k + 1, hlt, by simp, (fun j q hj hq => by
          by_cases hji : j = k
          · subst hji
            rw [Hx.out] at hq
            cases hq
            exact hm
          · exact HF.out j q (by omega) hq), HB1.out⟩
        clear hm
        go_wp2_with fail
        go_roundw
        case rel => exact HRel.out
        case measure => simp [intOf]; omega
      · have Hfi := Lib.hid (firstX_at HF.out Hx.out hm)
        clear hm
        go_wp2_with fail
        go_ret
        exact ⟨by rw [Hfi.out]; rfl, HB1.out⟩
    · have Hfi : Hid (firstX t l = -1) := Lib.hid (firstX_no (fun j q hj hq => HF.out j q (by have := HC.out.1; omega) hq))
      go_wp2_with fail
      go_ret
      exact ⟨by rw [Hfi.out]; rfl, HB.out⟩

end Go.Proofs.YtdkkpcbebhgbiaaGreatDoor

/- The walks over flow's closures, over isRising. -/
namespace Go.Proofs.YtdkkpcbebhgbiaaGreatDoor
set_option maxRecDepth 100000
open Go.RowKit

theorem flFormed1_any (x : InD) (g : Nat) (lo : Int) (w : World) (hlo : 0 ≤ lo ∧ lo ≤ 64) (hT : Spans w) (hg : w.cell? ⟨g, 4, none⟩ = some (.int .i64 lo)) :
    Calls Tryz.prog 154 #[inV x, .pointer (some ⟨g, 0, none⟩)] w fun e w' => e = .returned (.bool (!rightB x lo)) ∧ Below w.heap.size w w' := by
  have hgl := cell_lt hg
  have hal : Below w.heap.size w (w.alloc (.cells (inA x) 98)) := (Below.refl _ _).alloc (Nat.le_refl _) _
  have C := Lib.hid (flRight_any x lo _ hlo (hT.below hal))
  have HAL := Lib.hid hal
  unfold inV inA at *
  clear hal hT
  go_enter Tryz.func154, Tryz.ntmps154
  go_wp2_with fail
  refine C.out.mono ?_
  rintro e w1 ⟨rfl, hb⟩
  go_wp2
  go_ret
  exact ⟨rfl, HAL.out.trans (hb.mono HAL.out.size)⟩

theorem flPlaced1_any (x : InD) (g : Nat) (n : Nat) (w : World) (hn : n ≤ 9223372036854775807) (hT : Spans w) (hg : w.cell? ⟨g, 0, none⟩ = some (.int .i64 (n : Int))) :
    Calls Tryz.prog 157 #[inV x, .pointer (some ⟨g, 0, none⟩)] w fun e w' => e = .returned (.bool (astrayB n x)) ∧ Below w.heap.size w w' := by
  have hgl := cell_lt hg
  have hal : Below w.heap.size w (w.alloc (.cells (inA x) 98)) := (Below.refl _ _).alloc (Nat.le_refl _) _
  have k0 := Blk.new w 98 (inA x)
  obtain ⟨W1, hW1⟩ : ∃ W1, w.alloc (.cells (inA x) 98) = W1 := ⟨_, rfl⟩
  rw [hW1] at hal k0
  have C := Lib.hid (flBranch_any x.op W1 (hT.below hal))
  have CP := Lib.hid (fun (W : World) => flPlaceL_any x.n (n : Int) W (by omega))
  have hsz : w.heap.size < W1.heap.size := k0.lt
  have K1 : Hid (∀ W : World, Below W1.heap.size W1 W → W.cell? ⟨w.heap.size, 1, none⟩ = some (.int .i64 x.n) ∧ W.cell? ⟨g, 0, none⟩ = some (.int .i64 (n : Int))) := Lib.hid (fun W h => ⟨(k0.of (h.block _ hsz)).cell 1, ((hal.trans (h.mono hal.size)).cell (p := ⟨g, 0, none⟩) hgl).trans hg⟩)
  have p0 : W1.cell? ⟨w.heap.size, 0, none⟩ = some (.int .u8 (x.op.toNat : Int)) := k0.cell 0
  have HAL := Lib.hid hal
  have HW1 := Lib.hid hW1
  have HA : Hid (astrayB n x = (branchB x.op && !inI x.n (n : Int))) := Lib.hid rfl
  unfold inV
  unfold inA at HW1
  clear hal hT hW1 k0
  cases hb : branchB x.op with
  | false =>
    rw [hb] at C HA
    go_enter Tryz.func157, Tryz.ntmps157
    go_wp2_with fail
    rw [HW1.out]
    go_wp2_with fail
    refine C.out.mono ?_
    rintro e w1 ⟨rfl, hb⟩
    go_wp2
    go_ret
    exact ⟨by rw [HA.out]; rfl, HAL.out.trans (hb.mono HAL.out.size)⟩
  | true =>
    rw [hb] at C HA
    go_enter Tryz.func157, Tryz.ntmps157
    go_wp2_with fail
    rw [HW1.out]
    go_wp2_with fail
    refine C.out.mono ?_
    rintro e w1 ⟨rfl, hb⟩
    obtain ⟨q0, q1⟩ := K1.out _ hb
    go_wp2_with fail
    refine (CP.out _).mono ?_
    rintro e w2 ⟨rfl, rfl⟩
    go_wp2
    go_ret
    exact ⟨by rw [HA.out]; rfl, HAL.out.trans (hb.mono HAL.out.size)⟩

def trV (t : TrD) : Value := .agg #[.int .i64 t.a, .int .i64 t.b, .int .i64 t.c, .string (strB t.cls)]
theorem flPlaced2_any (t : TrD) (g : Nat) (n : Nat) (w : World) (hg : w.cell? ⟨g, 0, none⟩ = some (.int .i64 (n : Int))) :
    Calls Tryz.prog 158 #[trV t, .pointer (some ⟨g, 0, none⟩)] w fun e w' => e = .returned (.bool (wrongB n t)) ∧ Below w.heap.size w w' := by
  have hgl := cell_lt hg
  have hal : Below w.heap.size w (w.alloc (.cells #[.int .i64 t.a, .int .i64 t.b, .int .i64 t.c, .string (strB t.cls)] 133)) := (Below.refl _ _).alloc (Nat.le_refl _) _
  have HAL := Lib.hid hal
  have CP := Lib.hid (fun (W : World) => flPlaceI_any t.c (n : Int) W)
  have HA : Hid (wrongB n t = ((decide (t.b ≤ t.a) || decide ((n : Int) < t.b)) || !inI t.c (n : Int))) := Lib.hid rfl
  unfold trV
  clear hal
  by_cases h1 : t.b ≤ t.a
  · go_enter Tryz.func158, Tryz.ntmps158
    go_wp2
    go_ret
    exact ⟨by rw [HA.out]; simp [h1], HAL.out⟩
  · by_cases h2 : (n : Int) < t.b
    · go_enter Tryz.func158, Tryz.ntmps158
      go_wp2
      go_ret
      exact ⟨by rw [HA.out]; simp [h2], HAL.out⟩
    · have HA2 : Hid (wrongB n t = !inI t.c (n : Int)) := Lib.hid (by rw [HA.out]; simp [h1, h2])
      go_enter Tryz.func158, Tryz.ntmps158
      go_wp2_with fail
      refine (CP.out _).mono ?_
      rintro e w2 ⟨rfl, rfl⟩
      go_wp2
      go_ret
      exact ⟨by rw [HA2.out]; rfl, HAL.out⟩

/-- Marks of places as they lie. -/
theorem flMapped1_any (t : TrD) (g b n : Nat) (v : Bool) (w : World) (hc : 0 ≤ t.c ∧ t.c < (n : Int)) (hn : n ≤ 1000001) (hg : w.cell? ⟨g, 0, none⟩ = some (.slice (some ⟨b, 0, none⟩) n n)) (hb : w.cell? ⟨b, t.c.toNat, none⟩ = some (.bool v)) :
    Calls Tryz.prog 161 #[trV t, .pointer (some ⟨g, 0, none⟩)] w fun e w' => e = .returned (.bool (!v)) ∧ Below w.heap.size w w' := by
  have hgl := cell_lt hg
  have hbl := cell_lt hb
  obtain ⟨k, hk⟩ : ∃ k : Nat, t.c = (k : Int) := ⟨t.c.toNat, by omega⟩
  have hal : Below w.heap.size w (w.alloc (.cells #[.int .i64 t.a, .int .i64 t.b, .int .i64 (k : Int), .string (strB t.cls)] 133)) := (Below.refl _ _).alloc (Nat.le_refl _) _
  have HAL := Lib.hid hal
  unfold trV
  rw [hk] at hc hb ⊢
  rw [Int.toNat_natCast] at hb
  clear hal hk
  go_enter Tryz.func161, Tryz.ntmps161
  go_wp2
  go_ret
  exact ⟨rfl, HAL.out⟩

/-- A row of maps. -/
theorem mpRow_at {w : World} {A : Option Addr} {n c : Nat} {l : List MpD} (h : RowS mpT w Empty A n c l) {k : Nat} (hk : k < n) : ∃ b o x A1 n1 q1 A2 n2 q2, A = some ⟨b, o, none⟩ ∧ b < w.heap.size ∧ l[k]? = some x ∧ w.cell? ⟨b, o + k * 3, none⟩ = some (.int .i64 x.at_) ∧ w.cell? ⟨b, o + k * 3 + 1, none⟩ = some (.slice A1 n1 q1) ∧ w.cell? ⟨b, o + k * 3 + 2, none⟩ = some (.slice A2 n2 q2) ∧ RowS strT w Empty A1 n1 q1 x.locals ∧ RowS strT w Empty A2 n2 q2 x.stack := by
  obtain ⟨b, o, x, cs, rfl, hb, _, hx, hcl, hcs, hr⟩ := RowS.at_ h hk
  obtain ⟨_, _, rfl, ⟨A1, n1, q1, e1, hR1⟩, ⟨A2, n2, q2, e2, hR2⟩⟩ := hr
  cases e1
  cases e2
  change ∀ j' v, [.int .i64 x.at_, .slice A1 n1 q1, .slice A2 n2 q2][j']? = some v → w.cell? ⟨b, o + k * 3 + j', none⟩ = some v at hcs
  exact ⟨b, o, x, A1, n1, q1, A2, n2, q2, rfl, hb, hx, by have := hcs 0 _ rfl; simpa using this, hcs 1 _ rfl, hcs 2 _ rfl, hR1, hR2⟩

theorem rising_drop {n : Nat} {l : List MpD} {k : Nat} {x : MpD} {last : Int} (hx : l[k]? = some x) : risingB n last (l.drop k) = (!(decide (x.at_ ≤ last) || decide ((n : Int) ≤ x.at_)) && risingB n x.at_ (l.drop (k + 1))) := by
  have hk : k < l.length := (List.getElem?_eq_some_iff.1 hx).1
  rw [List.drop_eq_getElem_cons hk, (List.getElem?_eq_some_iff.1 hx).2]
  rfl
/-- Where isRising stands. -/
def RelRs (l : List MpD) (N n : Nat) (w : World) (v i : Value) (wr : World) : Prop := ∃ (k : Nat) (last : Int), k ≤ n ∧ i = .int .i64 (k : Int) ∧ v = .int .i64 last ∧ risingB N (-1) l = risingB N last (l.drop k) ∧ Below w.heap.size w wr
set_option maxHeartbeats 1000000 in
theorem flRising_any (A : Option Addr) (n c : Nat) (l : List MpD) (N : Nat) (w : World) (h : RowS mpT w Empty A n c l) :
    Calls Tryz.prog 160 #[.slice A n c, .int .i64 (N : Int)] w fun e w' => e = .returned (.bool (risingB N (-1) l)) ∧ Below w.heap.size w w' := by
  have HR := Lib.hid h
  have hc := h.2.1
  have hm := h.2.2.1
  unfold maxLen at hm
  have HL := Lib.hid h.1
  clear h
  have HRel : Hid (RelRs l N n w (.int .i64 (-1)) (.int .i64 0) w) := Lib.hid ⟨0, -1, Nat.zero_le _, rfl, rfl, rfl, Below.refl _ _⟩
  go_enter Tryz.func160, Tryz.ntmps160
  go_wp2_with fail
  go_loopw [5, 10] (fun v i wr => RelRs l N n w v i wr) (fun _ i _ => n - (intOf i).toNat)
  case atStart => exact HRel.out
  case round =>
    clear HRel
    obtain ⟨k, last, hk, rfl, rfl, hr, hB⟩ := hrel
    have HRR := Lib.hid hr
    have HB := Lib.hid hB
    by_cases hlt : k < n
    · obtain ⟨b, o, x, A1, n1, q1, A2, n2, q2, rfl, hb, hx, d0, d1, d2, -, -⟩ := mpRow_at (HR.out.below hB) hlt
      have HD := Lib.hid (rising_drop (n := N) (last := last) hx)
      have HBA := Lib.hid (hB.alloc hB.size (.cells #[.int .i64 x.at_, .slice A1 n1 q1, .slice A2 n2 q2] 44))
      clear hx hr hB
      by_cases h1 : x.at_ ≤ last
      · have HF : Hid (risingB N (-1) l = false) := Lib.hid (by rw [HRR.out, HD.out]; simp [h1])
        go_wp2
        go_ret
        exact ⟨by rw [HF.out]; rfl, HBA.out⟩
      · by_cases h2 : (N : Int) ≤ x.at_
        · have HF : Hid (risingB N (-1) l = false) := Lib.hid (by rw [HRR.out, HD.out]; simp [h2])
          go_wp2
          go_ret
          exact ⟨by rw [HF.out]; rfl, HBA.out⟩
        · have HF : Hid (risingB N (-1) l = risingB N x.at_ (l.drop (k + 1))) := Lib.hid (by rw [HRR.out, HD.out]; simp [h1, h2])
          go_wp2
          go_roundw
          case rel => exact ⟨k + 1, x.at_, hlt, by simp, rfl, HF.out, HBA.out⟩
          case measure => simp [intOf]; omega
    · have HF : Hid (risingB N (-1) l = true) := Lib.hid (by rw [HRR.out, List.drop_eq_nil_of_le (by rw [HL.out]; omega)]; rfl)
      go_wp2
      go_ret
      exact ⟨by rw [HF.out]; rfl, HB.out⟩

end Go.Proofs.YtdkkpcbebhgbiaaGreatDoor
