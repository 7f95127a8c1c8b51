/- The walk over hier's Goes; printed by gen/gen_zk.py. -/
import Derived.Test.YtdkkpcbebhgbiaaGreatDoorZav
namespace Go.Proofs.YtdkkpcbebhgbiaaGreatDoor
set_option maxRecDepth 100000
open Go.RowKit

theorem itemsF_len : ∀ (a b : Bs), (itemsF a b).1.length ≤ a.length ∧ (itemsF a b).2.length ≤ b.length
  | [], b => ⟨Nat.le_refl _, Nat.le_refl _⟩
  | x :: a, b => by
    unfold itemsF
    split
    · have := itemsF_len a b.tail
      simp at this ⊢
      omega
    · exact ⟨Nat.le_refl _, Nat.le_refl _⟩
/-- What is asked of two types of which no dimensions are left to cut off. -/
def goesQ (L : List UnD) (x y : Bs) : Bool := x == y || (x == [78] && refB y) || (hdB 91 x && y == objL cObject) || ofB L x y
def goesP (L : List UnD) (a b : Bs) : Bool := thereU L a && thereU L b && goesQ L (itemsF a b).1 (itemsF a b).2

set_option maxHeartbeats 2000000 in
theorem goes_any (p : Nat) (L : List UnD) (a b : Bs) (w : World) (hW : WAt w p L) (ha : a.length ≤ 1000000) (hb : b.length ≤ 1000000) :
    Calls Tryz.prog 14 #[.pointer (some ⟨p, 0, none⟩), .string (strB a), .string (strB b)] w fun e w' => e = .returned (.bool (goesP L a b)) ∧ Below w.heap.size w w' := by
  have HW := Lib.hid hW
  have HB0 : Hid (Below w.heap.size w w) := Lib.hid (Below.refl _ _)
  have C1 := Lib.hid (fun (W : World) (h : WAt W p L) => isThere_any p L a W h ha)
  have C2 := Lib.hid (fun (W : World) (h : WAt W p L) => isThere_any p L b W h hb)
  have C3 := Lib.hid (fun (W : World) => items_any a b W ha hb)
  obtain ⟨hl1, hl2⟩ := itemsF_len a b
  obtain ⟨x, y, hq⟩ : ∃ x y, itemsF a b = (x, y) := ⟨_, _, rfl⟩
  rw [hq] at hl1 hl2
  change x.length ≤ a.length at hl1
  change y.length ≤ b.length at hl2
  have HQ := Lib.hid hq
  clear hq hW
  have C4 := Lib.hid (fun (W : World) => elem_any x W)
  have C5 := Lib.hid (fun (W : World) => isRef_any y W)
  have C6 := Lib.hid (fun (W : World) (h : WAt W p L) => isOf_any p L x y W h (by omega) (by omega))
  have C7 := Lib.hid (fun (W : World) => object_any cObject W (by decide))
  unfold elemV at C4
  cases h1 : thereU L a with
  | false =>
    rw [h1] at C1
    have HG : Hid (goesP L a b = false) := Lib.hid (by unfold goesP; rw [h1]; rfl)
    clear h1
    go_enter Tryz.func14, Tryz.ntmps14
    go_wp2_with fail
    refine (C1.out _ (HW.out.below HB0.out)).mono ?_
    rintro e w1 ⟨rfl, hb⟩
    have HB1 : Hid (Below w.heap.size w w1) := Lib.hid (HB0.out.trans (hb.mono HB0.out.size))
    clear hb
    go_wp2
    go_ret
    exact ⟨ret_bool (by rw [HG.out]), HB1.out⟩
  | true =>
    rw [h1] at C1
    cases h2 : thereU L b with
    | false =>
      rw [h2] at C2
      have HG : Hid (goesP L a b = false) := Lib.hid (by unfold goesP; rw [h1, h2]; rfl)
      clear h1 h2
      go_enter Tryz.func14, Tryz.ntmps14
      go_wp2_with fail
      refine (C1.out _ (HW.out.below HB0.out)).mono ?_
      rintro e w1 ⟨rfl, hb⟩
      have HB1 : Hid (Below w.heap.size w w1) := Lib.hid (HB0.out.trans (hb.mono HB0.out.size))
      clear hb
      go_wp2_with fail
      refine (C2.out _ (HW.out.below HB1.out)).mono ?_
      rintro e w2 ⟨rfl, hb⟩
      have HB2 : Hid (Below w.heap.size w w2) := Lib.hid (HB1.out.trans (hb.mono HB1.out.size))
      clear hb
      go_wp2
      go_ret
      exact ⟨ret_bool (by rw [HG.out]), HB2.out⟩
    | true =>
      rw [h2] at C2
      have HGP : Hid (goesP L a b = goesQ L x y) := Lib.hid (by unfold goesP; rw [h1, h2, HQ.out]; rfl)
      clear h1 h2
      have h78 : ((strB x).toList = [78]) ↔ x = [78] := by rw [strB_toList]
      cases hE : (x == y) with
      | true =>
        have hE2 : ((strB x).toList == (strB y).toList) = true := by rw [strB_toList, strB_toList]; exact hE
        have HG : Hid (goesP L a b = true) := Lib.hid (by rw [HGP.out]; unfold goesQ; rw [hE]; rfl)
        clear hE h78
        cases hA : hdB 91 x with
        | true =>
          rw [if_pos hA] at C4
          clear hA
          go_enter Tryz.func14, Tryz.ntmps14
          go_wp2_with fail
          refine (C1.out _ (HW.out.below HB0.out)).mono ?_
          rintro e w1 ⟨rfl, hb⟩
          have HB1 : Hid (Below w.heap.size w w1) := Lib.hid (HB0.out.trans (hb.mono HB0.out.size))
          clear hb
          go_wp2_with fail
          refine (C2.out _ (HW.out.below HB1.out)).mono ?_
          rintro e w2 ⟨rfl, hb⟩
          have HB2 : Hid (Below w.heap.size w w2) := Lib.hid (HB1.out.trans (hb.mono HB1.out.size))
          clear hb
          go_wp2_with fail
          refine (C3.out _).mono ?_
          rintro e w3 ⟨he, rfl⟩
          unfold PairV at he
          subst he
          simp only [HQ.out]
          go_wp2_with fail
          refine (C4.out _).mono ?_
          rintro e w4 ⟨rfl, rfl⟩
          go_wp2
          go_ret
          exact ⟨ret_bool (by rw [HG.out]), HB2.out⟩
        | false =>
          rw [if_neg (by rw [hA]; simp)] at C4
          clear hA
          go_enter Tryz.func14, Tryz.ntmps14
          go_wp2_with fail
          refine (C1.out _ (HW.out.below HB0.out)).mono ?_
          rintro e w1 ⟨rfl, hb⟩
          have HB1 : Hid (Below w.heap.size w w1) := Lib.hid (HB0.out.trans (hb.mono HB0.out.size))
          clear hb
          go_wp2_with fail
          refine (C2.out _ (HW.out.below HB1.out)).mono ?_
          rintro e w2 ⟨rfl, hb⟩
          have HB2 : Hid (Below w.heap.size w w2) := Lib.hid (HB1.out.trans (hb.mono HB1.out.size))
          clear hb
          go_wp2_with fail
          refine (C3.out _).mono ?_
          rintro e w3 ⟨he, rfl⟩
          unfold PairV at he
          subst he
          simp only [HQ.out]
          go_wp2_with fail
          refine (C4.out _).mono ?_
          rintro e w4 ⟨rfl, rfl⟩
          go_wp2
          go_ret
          exact ⟨ret_bool (by rw [HG.out]), HB2.out⟩
      | false =>
        have hE2 : ((strB x).toList == (strB y).toList) = false := by rw [strB_toList, strB_toList]; exact hE
        by_cases hN : x = [78]
        · have hN2 : ((strB x).toList == [78]) = true := by rw [strB_toList, hN]; rfl
          have hA : hdB 91 x = false := by rw [hN]; rfl
          rw [if_neg (by rw [hA]; simp)] at C4
          cases hR : refB y with
          | true =>
            rw [hR] at C5
            have HG : Hid (goesP L a b = true) := Lib.hid (by rw [HGP.out]; unfold goesQ; rw [hE, hN, hR]; rfl)
            clear hE h78 hN hA hR
            go_enter Tryz.func14, Tryz.ntmps14
            go_wp2_with fail
            refine (C1.out _ (HW.out.below HB0.out)).mono ?_
            rintro e w1 ⟨rfl, hb⟩
            have HB1 : Hid (Below w.heap.size w w1) := Lib.hid (HB0.out.trans (hb.mono HB0.out.size))
            clear hb
            go_wp2_with fail
            refine (C2.out _ (HW.out.below HB1.out)).mono ?_
            rintro e w2 ⟨rfl, hb⟩
            have HB2 : Hid (Below w.heap.size w w2) := Lib.hid (HB1.out.trans (hb.mono HB1.out.size))
            clear hb
            go_wp2_with fail
            refine (C3.out _).mono ?_
            rintro e w3 ⟨he, rfl⟩
            unfold PairV at he
            subst he
            simp only [HQ.out]
            go_wp2_with fail
            refine (C4.out _).mono ?_
            rintro e w4 ⟨rfl, rfl⟩
            go_wp2_with fail
            refine (C5.out _).mono ?_
            rintro e w5 ⟨rfl, rfl⟩
            go_wp2
            go_ret
            exact ⟨ret_bool (by rw [HG.out]), HB2.out⟩
          | false =>
            rw [hR] at C5
            have HG : Hid (goesP L a b = ofB L x y) := Lib.hid (by rw [HGP.out]; unfold goesQ; rw [hE, hA, hR]; simp)
            clear hE h78 hN hA hR
            go_enter Tryz.func14, Tryz.ntmps14
            go_wp2_with fail
            refine (C1.out _ (HW.out.below HB0.out)).mono ?_
            rintro e w1 ⟨rfl, hb⟩
            have HB1 : Hid (Below w.heap.size w w1) := Lib.hid (HB0.out.trans (hb.mono HB0.out.size))
            clear hb
            go_wp2_with fail
            refine (C2.out _ (HW.out.below HB1.out)).mono ?_
            rintro e w2 ⟨rfl, hb⟩
            have HB2 : Hid (Below w.heap.size w w2) := Lib.hid (HB1.out.trans (hb.mono HB1.out.size))
            clear hb
            go_wp2_with fail
            refine (C3.out _).mono ?_
            rintro e w3 ⟨he, rfl⟩
            unfold PairV at he
            subst he
            simp only [HQ.out]
            go_wp2_with fail
            refine (C4.out _).mono ?_
            rintro e w4 ⟨rfl, rfl⟩
            go_wp2_with fail
            refine (C5.out _).mono ?_
            rintro e w5 ⟨rfl, rfl⟩
            go_wp2_with fail
            refine (C6.out _ (HW.out.below HB2.out)).mono ?_
            rintro e w6 ⟨rfl, hb⟩
            have HB6 : Hid (Below w.heap.size w w6) := Lib.hid (HB2.out.trans (hb.mono HB2.out.size))
            clear hb
            go_wp2
            go_ret
            exact ⟨ret_bool (by rw [HG.out]), HB6.out⟩
        · have hN2 : ((strB x).toList == [78]) = false := by rw [strB_toList]; simpa using hN
          have hN3 : (x == [78]) = false := by simpa using hN
          cases hA : hdB 91 x with
          | false =>
            rw [if_neg (by rw [hA]; simp)] at C4
            have HG : Hid (goesP L a b = ofB L x y) := Lib.hid (by rw [HGP.out]; unfold goesQ; rw [hE, hA, hN3]; simp)
            clear hE h78 hN hA hN3
            go_enter Tryz.func14, Tryz.ntmps14
            go_wp2_with fail
            refine (C1.out _ (HW.out.below HB0.out)).mono ?_
            rintro e w1 ⟨rfl, hb⟩
            have HB1 : Hid (Below w.heap.size w w1) := Lib.hid (HB0.out.trans (hb.mono HB0.out.size))
            clear hb
            go_wp2_with fail
            refine (C2.out _ (HW.out.below HB1.out)).mono ?_
            rintro e w2 ⟨rfl, hb⟩
            have HB2 : Hid (Below w.heap.size w w2) := Lib.hid (HB1.out.trans (hb.mono HB1.out.size))
            clear hb
            go_wp2_with fail
            refine (C3.out _).mono ?_
            rintro e w3 ⟨he, rfl⟩
            unfold PairV at he
            subst he
            simp only [HQ.out]
            go_wp2_with fail
            refine (C4.out _).mono ?_
            rintro e w4 ⟨rfl, rfl⟩
            go_wp2_with fail
            refine (C6.out _ (HW.out.below HB2.out)).mono ?_
            rintro e w6 ⟨rfl, hb⟩
            have HB6 : Hid (Below w.heap.size w w6) := Lib.hid (HB2.out.trans (hb.mono HB2.out.size))
            clear hb
            go_wp2
            go_ret
            exact ⟨ret_bool (by rw [HG.out]), HB6.out⟩
          | true =>
            rw [if_pos hA] at C4
            cases hO : (y == objL cObject) with
            | true =>
              have hO2 : ((strB y).toList == (strB (objL cObject)).toList) = true := by rw [strB_toList, strB_toList]; exact hO
              have HG : Hid (goesP L a b = true) := Lib.hid (by rw [HGP.out]; unfold goesQ; rw [hE, hA, hN3, hO]; simp)
              clear hE h78 hN hA hN3 hO
              go_enter Tryz.func14, Tryz.ntmps14
              go_wp2_with fail
              refine (C1.out _ (HW.out.below HB0.out)).mono ?_
              rintro e w1 ⟨rfl, hb⟩
              have HB1 : Hid (Below w.heap.size w w1) := Lib.hid (HB0.out.trans (hb.mono HB0.out.size))
              clear hb
              go_wp2_with fail
              refine (C2.out _ (HW.out.below HB1.out)).mono ?_
              rintro e w2 ⟨rfl, hb⟩
              have HB2 : Hid (Below w.heap.size w w2) := Lib.hid (HB1.out.trans (hb.mono HB1.out.size))
              clear hb
              go_wp2_with fail
              refine (C3.out _).mono ?_
              rintro e w3 ⟨he, rfl⟩
              unfold PairV at he
              subst he
              simp only [HQ.out]
              go_wp2_with fail
              refine (C4.out _).mono ?_
              rintro e w4 ⟨rfl, rfl⟩
              go_wp2_with fail
              refine (C7.out _).mono ?_
              rintro e w7 ⟨rfl, rfl⟩
              go_wp2
              go_ret
              exact ⟨ret_bool (by rw [HG.out]), HB2.out⟩
            | false =>
              have hO2 : ((strB y).toList == (strB (objL cObject)).toList) = false := by rw [strB_toList, strB_toList]; exact hO
              have HG : Hid (goesP L a b = ofB L x y) := Lib.hid (by rw [HGP.out]; unfold goesQ; rw [hE, hA, hN3, hO]; simp)
              clear hE h78 hN hA hN3 hO
              go_enter Tryz.func14, Tryz.ntmps14
              go_wp2_with fail
              refine (C1.out _ (HW.out.below HB0.out)).mono ?_
              rintro e w1 ⟨rfl, hb⟩
              have HB1 : Hid (Below w.heap.size w w1) := Lib.hid (HB0.out.trans (hb.mono HB0.out.size))
              clear hb
              go_wp2_with fail
              refine (C2.out _ (HW.out.below HB1.out)).mono ?_
              rintro e w2 ⟨rfl, hb⟩
              have HB2 : Hid (Below w.heap.size w w2) := Lib.hid (HB1.out.trans (hb.mono HB1.out.size))
              clear hb
              go_wp2_with fail
              refine (C3.out _).mono ?_
              rintro e w3 ⟨he, rfl⟩
              unfold PairV at he
              subst he
              simp only [HQ.out]
              go_wp2_with fail
              refine (C4.out _).mono ?_
              rintro e w4 ⟨rfl, rfl⟩
              go_wp2_with fail
              refine (C7.out _).mono ?_
              rintro e w7 ⟨rfl, rfl⟩
              go_wp2_with fail
              refine (C6.out _ (HW.out.below HB2.out)).mono ?_
              rintro e w6 ⟨rfl, hb⟩
              have HB6 : Hid (Below w.heap.size w w6) := Lib.hid (HB2.out.trans (hb.mono HB2.out.size))
              clear hb
              go_wp2
              go_ret
              exact ⟨ret_bool (by rw [HG.out]), HB6.out⟩

end Go.Proofs.YtdkkpcbebhgbiaaGreatDoor

/- The walks over hier.areAll at five types; printed by gen/gen_zl.py. -/
namespace Go.Proofs.YtdkkpcbebhgbiaaGreatDoor
set_option maxRecDepth 100000
open Go.RowKit

/-- The first place that isn't so; -1: there is none. -/
def idxF {α : Type} (P : α → Bool) (l : List α) : Int := match l.findIdx? (fun x => !P x) with
  | none => -1
  | some i => i
theorem idxF_all {α : Type} {P : α → Bool} {l : List α} (h : l.all P = true) : idxF P l = -1 := by
  unfold idxF
  rw [List.findIdx?_eq_none_iff.2 (fun x hx => by simp [List.all_eq_true.1 h x hx])]
theorem idxF_at {α : Type} {P : α → Bool} {l : List α} {k : Nat} {x : α} (h : (l.take k).all P = true) (hx : l[k]? = some x) (hp : P x = false) : idxF P l = k := by
  unfold idxF
  have : l.findIdx? (fun x => !P x) = some k := by
    rw [List.findIdx?_eq_some_iff_getElem]
    obtain ⟨hk, e⟩ := List.getElem?_eq_some_iff.1 hx
    refine ⟨hk, by rw [e, hp]; rfl, fun j hj => ?_⟩
    have hj2 : l[j] ∈ l.take k := by
      have : (l.take k)[j]? = some l[j] := by rw [List.getElem?_take_of_lt hj, List.getElem?_eq_getElem (by omega)]
      exact List.mem_of_getElem? this
    rw [List.all_eq_true.1 h _ hj2]
    simp
  rw [this]
theorem all_take {α : Type} {P : α → Bool} {l : List α} {k : Nat} {x : α} (h : (l.take k).all P = true) (hx : l[k]? = some x) (hp : P x = true) : (l.take (k + 1)).all P = true := by
  rw [List.take_add_one, hx, List.all_append, h]
  simp [hp]
theorem idxF_geq {α : Type} (P : α → Bool) (l : List α) : decide (0 ≤ idxF P l) = !l.all P := by
  cases h : l.all P with
  | true => rw [idxF_all h]; rfl
  | false =>
    unfold idxF
    cases hf : l.findIdx? (fun x => !P x) with
    | none =>
      have := List.findIdx?_eq_none_iff.1 hf
      have h2 : l.all P = true := List.all_eq_true.2 (fun x hx => by simpa using this x hx)
      rw [h] at h2
      cases h2
    | some i => simp
theorem idxF_lo {α : Type} (P : α → Bool) (l : List α) : -1 ≤ idxF P l ∧ idxF P l ≤ l.length := by
  unfold idxF
  cases hf : l.findIdx? (fun x => !P x) with
  | none => simp
  | some i =>
    rw [List.findIdx?_eq_some_iff_getElem] at hf
    obtain ⟨hk, _⟩ := hf
    simp
    omega

/-- What is asked of an item: what the call of the function value answers. -/
def PredU (p : Nat) (B : Nat) (w0 : World) (l : List UnD) (P : UnD → Bool) : Prop := ∀ (W : World) (x : UnD) (Af : Option Addr) (nf cf : Nat) (Am : Option Addr) (nm cm : Nat) , Below B w0 W → x ∈ l → unW.rep W Empty [.string (strB x.name), .string (strB x.super), .slice Af nf cf, .slice Am nm cm] x →
  Calls Tryz.prog 55 #[.pointer (some ⟨p, 0, none⟩), .agg #[.string (strB x.name), .string (strB x.super), .slice Af nf cf, .slice Am nm cm]] W fun e W' => e = .returned (.bool (P x)) ∧ Below W.heap.size W W'
theorem allU1_any (p : Nat) (B : Nat) (w0 w : World) (l : List UnD) (P : UnD → Bool) (hP : PredU p B w0 l P) (hw : Below B w0 w) (hB : B ≤ w0.heap.size) (g : Nat) (x : UnD) (Af : Option Addr) (nf cf : Nat) (Am : Option Addr) (nm cm : Nat) (hx : x ∈ l) (hr : unW.rep w Empty [.string (strB x.name), .string (strB x.super), .slice Af nf cf, .slice Am nm cm] x)
    (hg : w.cell? ⟨g, 0, none⟩ = some (.func (.func 55) #[.pointer (some ⟨p, 0, none⟩)] #[])) :
    Calls Tryz.prog 108 #[.agg #[.string (strB x.name), .string (strB x.super), .slice Af nf cf, .slice Am nm cm], .pointer (some ⟨g, 0, none⟩)] w fun e w' => e = .returned (.bool (!P x)) ∧ Below w.heap.size w w' := by
  have hgl := cell_lt hg
  have hbx : Below w.heap.size w (w.alloc (.cells #[.string (strB x.name), .string (strB x.super), .slice Af nf cf, .slice Am nm cm] 82)) := (Below.refl _ _).alloc (Nat.le_refl _) _
  have C1 := Lib.hid (hP (w.alloc (.cells #[.string (strB x.name), .string (strB x.super), .slice Af nf cf, .slice Am nm cm] 82)) x Af  nf  cf  Am  nm  cm (hw.alloc (Nat.le_trans hB hw.size) _) hx (unW.next hr (Only.of_below (S := Empty) hbx) (fun _ _ h => h)))
  clear hbx
  clear hr hP
  go_enter Tryz.func108, Tryz.ntmps108
  go_wp2_with fail
  refine C1.out.mono ?_
  rintro e w1 ⟨rfl, hb⟩
  go_wp2
  go_ret
  exact ⟨rfl, ((Below.refl _ _).alloc (Nat.le_refl _) _).trans (hb.mono (by simp))⟩

/-- Where IndexFunc stands at a round's head. -/
def RelXU (l : List UnD) (P : UnD → Bool) (n : Nat) (w : World) (i : Value) (wr : World) : Prop := ∃ k : Nat, k ≤ n ∧ i = .int .i64 (k : Int) ∧ (l.take k).all P = true ∧ Below w.heap.size w wr
set_option maxHeartbeats 1000000 in
theorem idxU_any (p : Nat) (B : Nat) (w0 w : World) (l : List UnD) (P : UnD → Bool) (hP : PredU p B w0 l P) (hw : Below B w0 w) (hB : B ≤ w0.heap.size) (g : Nat) (A : Option Addr) (n cap : Nat) (hR : RowS unW w Empty A n cap l) (hn : n ≤ 1000000)
    (hg : w.cell? ⟨g, 0, none⟩ = some (.func (.func 55) #[.pointer (some ⟨p, 0, none⟩)] #[])) :
    Calls Tryz.prog 163 #[.slice A n cap, .func (.func 108) #[] #[.pointer (some ⟨g, 0, none⟩)]] w fun e w' => e = .returned (.int .i64 (idxF P l)) ∧ Below w.heap.size w w' := by
  have hgl := cell_lt hg
  have hnc := hR.2.1
  have hlen := hR.1
  have hcm := hR.2.2.1
  unfold maxLen at hcm
  have HL := Lib.hid hlen
  have HR := Lib.hid hR
  clear hlen hR
  have HRel : Hid (RelXU l P n w (.int .i64 0) w) := Lib.hid ⟨0, Nat.zero_le _, rfl, rfl, Below.refl _ _⟩
  go_enter Tryz.func163, Tryz.ntmps163
  go_wp2
  go_loopw [8] (fun i wr => RelXU l P n w i wr) (fun i _ => n - (intOf i).toNat)
  case atStart => exact HRel.out
  case round =>
    clear HRel
    obtain ⟨k, hk, rfl, hall, hBw⟩ := hrel
    have HA := Lib.hid hall
    clear hall
    by_cases hlt : k < n
    · obtain ⟨b, o, x, cs, rfl, hb, _, hx, hcl, hcs, hr⟩ := (HR.out.below hBw).at_ hlt
      obtain ⟨Af, nf, cf, Am, nm, cm, rfl, hrep⟩ := hr
      change ∀ j v, [.string (strB x.name), .string (strB x.super), .slice Af nf cf, .slice Am nm cm][j]? = some v → wr.cell? ⟨b, o + k * 4 + j, none⟩ = some v at hcs
      have d0 : wr.cell? ⟨b, o + k * 4, none⟩ = some (.string (strB x.name)) := by have := hcs 0 _ rfl; simpa using this
      have d1 : wr.cell? ⟨b, o + k * 4 + 1, none⟩ = some (.string (strB x.super)) := by have := hcs 1 _ rfl; simpa using this
      have d2 : wr.cell? ⟨b, o + k * 4 + 2, none⟩ = some (.slice Af nf cf) := by have := hcs 2 _ rfl; simpa using this
      have d3 : wr.cell? ⟨b, o + k * 4 + 3, none⟩ = some (.slice Am nm cm) := by have := hcs 3 _ rfl; simpa using this
      have hxm : x ∈ l := List.mem_of_getElem? hx
      have C1 := Lib.hid (allU1_any p B w0 wr l P hP (hw.trans (hBw.mono (Nat.le_trans hB hw.size))) hB g x Af  nf  cf  Am  nm  cm hxm ⟨Af, nf, cf, Am, nm, cm, rfl, hrep⟩ ((hBw.cell (p := ⟨g, 0, none⟩) hgl).trans hg))
      have HX := Lib.hid hx
      clear hcs hx hcl
      try clear hr
      cases hp : P x with
      | true =>
        rw [hp] at C1
        have HRel : Hid (RelXU l P n w (.int .i64 ((k : Int) + 1)) wr) := Lib.hid ⟨k + 1, hlt, by simp, all_take HA.out HX.out hp, hBw⟩
        clear hp hP
        go_wp2_with fail
        refine C1.out.mono ?_
        rintro e w1 ⟨rfl, hb1⟩
        go_wp2
        go_roundw
        case rel =>
          obtain ⟨k', h1, h2, h3, h4⟩ := HRel.out
          exact ⟨k', h1, h2, h3, h4.trans (hb1.mono hBw.size)⟩
        case measure => simp [intOf]; omega
      | false =>
        rw [hp] at C1
        have HI : Hid (idxF P l = k) := Lib.hid (idxF_at HA.out HX.out hp)
        clear hp hP
        go_wp2_with fail
        refine C1.out.mono ?_
        rintro e w1 ⟨rfl, hb1⟩
        go_wp2
        go_ret
        exact ⟨by rw [HI.out]; rfl, hBw.trans (hb1.mono hBw.size)⟩
    · have HI : Hid (idxF P l = -1) := Lib.hid (idxF_all (by
        have := HA.out
        rwa [List.take_of_length_le (by rw [HL.out]; omega)] at this))
      clear hP
      go_wp2
      go_ret
      exact ⟨by rw [HI.out]; rfl, hBw⟩

theorem allU_any (p : Nat) (B : Nat) (w0 w : World) (l : List UnD) (P : UnD → Bool) (hP : PredU p B w0 l P) (hw : Below B w0 w) (hB : B ≤ w0.heap.size) (A : Option Addr) (n cap : Nat) (hR : RowS unW w Empty A n cap l) (hn : n ≤ 1000000) :
    Calls Tryz.prog 54 #[.slice A n cap, (.func (.func 55) #[.pointer (some ⟨p, 0, none⟩)] #[])] w fun e w' => e = .returned (.bool (l.all P)) ∧ Below w.heap.size w w' := by
  have hb1 : Below w.heap.size w (w.alloc (.cells #[(.func (.func 55) #[.pointer (some ⟨p, 0, none⟩)] #[])] 93)) := (Below.refl _ _).alloc (Nat.le_refl _) _
  have C0 := idxU_any p B w0 (w.alloc (.cells #[(.func (.func 55) #[.pointer (some ⟨p, 0, none⟩)] #[])] 93)) l P hP (hw.trans (hb1.mono (Nat.le_trans hB hw.size))) hB w.heap.size A n cap (hR.below hb1) hn ((Blk.new w _ _).cell 0)
  have hlo := idxF_lo P l
  have hg := idxF_geq P l
  have hlen := hR.1
  have hlo1 := hlo.1
  have hlo2 : idxF P l ≤ 1000000 := by omega
  obtain ⟨i, hi⟩ : ∃ i, idxF P l = i := ⟨_, rfl⟩
  rw [hi] at C0 hlo1 hlo2 hg
  have HG := Lib.hid hg
  have C1 : Hid (Calls Tryz.prog 107 #[.slice A n cap, .func (.func 108) #[] #[.pointer (some ⟨w.heap.size, 0, none⟩)]] (w.alloc (.cells #[(.func (.func 55) #[.pointer (some ⟨p, 0, none⟩)] #[])] 93)) fun e w' => e = .returned (.bool (!l.all P)) ∧ Below w.heap.size w w') := Lib.hid (by
    have H0 := Lib.hid C0
    clear C0 hi hlo hg hlen hR hP
    go_enter Tryz.func107, Tryz.ntmps107
    go_wp2_with fail
    refine H0.out.mono ?_
    rintro e w1 ⟨rfl, hb⟩
    go_wp2
    go_ret
    exact ⟨ret_bool HG.out, hb1.trans (hb.mono (by simp))⟩)
  clear C0 hi hlo hg hlen hR hP hb1 hlo1 hlo2
  go_enter Tryz.func54, Tryz.ntmps54
  go_wp2_with fail
  refine C1.out.mono ?_
  rintro e w1 ⟨rfl, hb⟩
  go_wp2
  go_ret
  exact ⟨ret_bool (by simp), hb⟩

/-- What is asked of an item: what the call of the function value answers. -/
def PredF (p : Nat) (B : Nat) (w0 : World) (l : List FdD) (P : FdD → Bool) : Prop := ∀ (W : World) (x : FdD) , Below B w0 W → x ∈ l → fdT.rep W Empty [.bool x.static, .string (strB x.name), .string (strB x.desc)] x →
  Calls Tryz.prog 116 #[.pointer (some ⟨p, 0, none⟩), .agg #[.bool x.static, .string (strB x.name), .string (strB x.desc)]] W fun e W' => e = .returned (.bool (P x)) ∧ Below W.heap.size W W'
theorem allF1_any (p : Nat) (B : Nat) (w0 w : World) (l : List FdD) (P : FdD → Bool) (hP : PredF p B w0 l P) (hw : Below B w0 w) (hB : B ≤ w0.heap.size) (g : Nat) (x : FdD) (hx : x ∈ l) (hr : fdT.rep w Empty [.bool x.static, .string (strB x.name), .string (strB x.desc)] x)
    (hg : w.cell? ⟨g, 0, none⟩ = some (.func (.func 116) #[.pointer (some ⟨p, 0, none⟩)] #[])) :
    Calls Tryz.prog 167 #[.agg #[.bool x.static, .string (strB x.name), .string (strB x.desc)], .pointer (some ⟨g, 0, none⟩)] w fun e w' => e = .returned (.bool (!P x)) ∧ Below w.heap.size w w' := by
  have hgl := cell_lt hg
  have hbx : Below w.heap.size w (w.alloc (.cells #[.bool x.static, .string (strB x.name), .string (strB x.desc)] 95)) := (Below.refl _ _).alloc (Nat.le_refl _) _
  have C1 := Lib.hid (hP (w.alloc (.cells #[.bool x.static, .string (strB x.name), .string (strB x.desc)] 95)) x  (hw.alloc (Nat.le_trans hB hw.size) _) hx (fdT.next hr (Only.of_below (S := Empty) hbx) (fun _ _ h => h)))
  clear hbx
  clear hr hP
  go_enter Tryz.func167, Tryz.ntmps167
  go_wp2_with fail
  refine C1.out.mono ?_
  rintro e w1 ⟨rfl, hb⟩
  go_wp2
  go_ret
  exact ⟨rfl, ((Below.refl _ _).alloc (Nat.le_refl _) _).trans (hb.mono (by simp))⟩

/-- Where IndexFunc stands at a round's head. -/
def RelXF (l : List FdD) (P : FdD → Bool) (n : Nat) (w : World) (i : Value) (wr : World) : Prop := ∃ k : Nat, k ≤ n ∧ i = .int .i64 (k : Int) ∧ (l.take k).all P = true ∧ Below w.heap.size w wr
set_option maxHeartbeats 1000000 in
theorem idxF_any (p : Nat) (B : Nat) (w0 w : World) (l : List FdD) (P : FdD → Bool) (hP : PredF p B w0 l P) (hw : Below B w0 w) (hB : B ≤ w0.heap.size) (g : Nat) (A : Option Addr) (n cap : Nat) (hR : RowS fdT w Empty A n cap l) (hn : n ≤ 1000000)
    (hg : w.cell? ⟨g, 0, none⟩ = some (.func (.func 116) #[.pointer (some ⟨p, 0, none⟩)] #[])) :
    Calls Tryz.prog 208 #[.slice A n cap, .func (.func 167) #[] #[.pointer (some ⟨g, 0, none⟩)]] w fun e w' => e = .returned (.int .i64 (idxF P l)) ∧ Below w.heap.size w w' := by
  have hgl := cell_lt hg
  have hnc := hR.2.1
  have hlen := hR.1
  have hcm := hR.2.2.1
  unfold maxLen at hcm
  have HL := Lib.hid hlen
  have HR := Lib.hid hR
  clear hlen hR
  have HRel : Hid (RelXF l P n w (.int .i64 0) w) := Lib.hid ⟨0, Nat.zero_le _, rfl, rfl, Below.refl _ _⟩
  go_enter Tryz.func208, Tryz.ntmps208
  go_wp2
  go_loopw [8] (fun i wr => RelXF l P n w i wr) (fun i _ => n - (intOf i).toNat)
  case atStart => exact HRel.out
  case round =>
    clear HRel
    obtain ⟨k, hk, rfl, hall, hBw⟩ := hrel
    have HA := Lib.hid hall
    clear hall
    by_cases hlt : k < n
    · obtain ⟨b, o, x, cs, rfl, hb, _, hx, hcl, hcs, hr⟩ := (HR.out.below hBw).at_ hlt
      obtain rfl := (show cs = [.bool x.static, .string (strB x.name), .string (strB x.desc)] from hr)
      change ∀ j v, [.bool x.static, .string (strB x.name), .string (strB x.desc)][j]? = some v → wr.cell? ⟨b, o + k * 3 + j, none⟩ = some v at hcs
      have d0 : wr.cell? ⟨b, o + k * 3, none⟩ = some (.bool x.static) := by have := hcs 0 _ rfl; simpa using this
      have d1 : wr.cell? ⟨b, o + k * 3 + 1, none⟩ = some (.string (strB x.name)) := by have := hcs 1 _ rfl; simpa using this
      have d2 : wr.cell? ⟨b, o + k * 3 + 2, none⟩ = some (.string (strB x.desc)) := by have := hcs 2 _ rfl; simpa using this
      have hxm : x ∈ l := List.mem_of_getElem? hx
      have C1 := Lib.hid (allF1_any p B w0 wr l P hP (hw.trans (hBw.mono (Nat.le_trans hB hw.size))) hB g x  hxm rfl ((hBw.cell (p := ⟨g, 0, none⟩) hgl).trans hg))
      have HX := Lib.hid hx
      clear hcs hx hcl
      try clear hr
      cases hp : P x with
      | true =>
        rw [hp] at C1
        have HRel : Hid (RelXF l P n w (.int .i64 ((k : Int) + 1)) wr) := Lib.hid ⟨k + 1, hlt, by simp, all_take HA.out HX.out hp, hBw⟩
        clear hp hP
        go_wp2_with fail
        refine C1.out.mono ?_
        rintro e w1 ⟨rfl, hb1⟩
        go_wp2
        go_roundw
        case rel =>
          obtain ⟨k', h1, h2, h3, h4⟩ := HRel.out
          exact ⟨k', h1, h2, h3, h4.trans (hb1.mono hBw.size)⟩
        case measure => simp [intOf]; omega
      | false =>
        rw [hp] at C1
        have HI : Hid (idxF P l = k) := Lib.hid (idxF_at HA.out HX.out hp)
        clear hp hP
        go_wp2_with fail
        refine C1.out.mono ?_
        rintro e w1 ⟨rfl, hb1⟩
        go_wp2
        go_ret
        exact ⟨by rw [HI.out]; rfl, hBw.trans (hb1.mono hBw.size)⟩
    · have HI : Hid (idxF P l = -1) := Lib.hid (idxF_all (by
        have := HA.out
        rwa [List.take_of_length_le (by rw [HL.out]; omega)] at this))
      clear hP
      go_wp2
      go_ret
      exact ⟨by rw [HI.out]; rfl, hBw⟩

theorem allF_any (p : Nat) (B : Nat) (w0 w : World) (l : List FdD) (P : FdD → Bool) (hP : PredF p B w0 l P) (hw : Below B w0 w) (hB : B ≤ w0.heap.size) (A : Option Addr) (n cap : Nat) (hR : RowS fdT w Empty A n cap l) (hn : n ≤ 1000000) :
    Calls Tryz.prog 115 #[.slice A n cap, (.func (.func 116) #[.pointer (some ⟨p, 0, none⟩)] #[])] w fun e w' => e = .returned (.bool (l.all P)) ∧ Below w.heap.size w w' := by
  have hb1 : Below w.heap.size w (w.alloc (.cells #[(.func (.func 116) #[.pointer (some ⟨p, 0, none⟩)] #[])] 161)) := (Below.refl _ _).alloc (Nat.le_refl _) _
  have C0 := idxF_any p B w0 (w.alloc (.cells #[(.func (.func 116) #[.pointer (some ⟨p, 0, none⟩)] #[])] 161)) l P hP (hw.trans (hb1.mono (Nat.le_trans hB hw.size))) hB w.heap.size A n cap (hR.below hb1) hn ((Blk.new w _ _).cell 0)
  have hlo := idxF_lo P l
  have hg := idxF_geq P l
  have hlen := hR.1
  have hlo1 := hlo.1
  have hlo2 : idxF P l ≤ 1000000 := by omega
  obtain ⟨i, hi⟩ : ∃ i, idxF P l = i := ⟨_, rfl⟩
  rw [hi] at C0 hlo1 hlo2 hg
  have HG := Lib.hid hg
  have C1 : Hid (Calls Tryz.prog 166 #[.slice A n cap, .func (.func 167) #[] #[.pointer (some ⟨w.heap.size, 0, none⟩)]] (w.alloc (.cells #[(.func (.func 116) #[.pointer (some ⟨p, 0, none⟩)] #[])] 161)) fun e w' => e = .returned (.bool (!l.all P)) ∧ Below w.heap.size w w') := Lib.hid (by
    have H0 := Lib.hid C0
    clear C0 hi hlo hg hlen hR hP
    go_enter Tryz.func166, Tryz.ntmps166
    go_wp2_with fail
    refine H0.out.mono ?_
    rintro e w1 ⟨rfl, hb⟩
    go_wp2
    go_ret
    exact ⟨ret_bool HG.out, hb1.trans (hb.mono (by simp))⟩)
  clear C0 hi hlo hg hlen hR hP hb1 hlo1 hlo2
  go_enter Tryz.func115, Tryz.ntmps115
  go_wp2_with fail
  refine C1.out.mono ?_
  rintro e w1 ⟨rfl, hb⟩
  go_wp2
  go_ret
  exact ⟨ret_bool (by simp), hb⟩

/-- What is asked of an item: what the call of the function value answers. -/
def PredM (g1 g2 : Nat) (B : Nat) (w0 : World) (l : List MeD) (P : MeD → Bool) : Prop := ∀ (W : World) (x : MeD) (Ac : Option Addr) (nc cc : Nat) (At : Option Addr) (nt ct : Nat) (Ap : Option Addr) (np cp : Nat) , Below B w0 W → x ∈ l → meW.rep W Empty [.bool x.static, .string (strB x.name), .string (strB x.desc), .int .i64 x.stack, .int .i64 x.locals, .slice Ac nc cc, .slice At nt ct, .slice Ap np cp] x →
  Calls Tryz.prog 118 #[.agg #[.bool x.static, .string (strB x.name), .string (strB x.desc), .int .i64 x.stack, .int .i64 x.locals, .slice Ac nc cc, .slice At nt ct, .slice Ap np cp], .pointer (some ⟨g1, 0, none⟩), .pointer (some ⟨g2, 0, none⟩)] W fun e W' => e = .returned (.bool (P x)) ∧ Below W.heap.size W W'
theorem allM1_any (g1 g2 : Nat) (B : Nat) (w0 w : World) (l : List MeD) (P : MeD → Bool) (hP : PredM g1 g2 B w0 l P) (hw : Below B w0 w) (hB : B ≤ w0.heap.size) (g : Nat) (x : MeD) (Ac : Option Addr) (nc cc : Nat) (At : Option Addr) (nt ct : Nat) (Ap : Option Addr) (np cp : Nat) (hx : x ∈ l) (hr : meW.rep w Empty [.bool x.static, .string (strB x.name), .string (strB x.desc), .int .i64 x.stack, .int .i64 x.locals, .slice Ac nc cc, .slice At nt ct, .slice Ap np cp] x)
    (hg : w.cell? ⟨g, 0, none⟩ = some (.func (.func 118) #[] #[.pointer (some ⟨g1, 0, none⟩), .pointer (some ⟨g2, 0, none⟩)])) :
    Calls Tryz.prog 170 #[.agg #[.bool x.static, .string (strB x.name), .string (strB x.desc), .int .i64 x.stack, .int .i64 x.locals, .slice Ac nc cc, .slice At nt ct, .slice Ap np cp], .pointer (some ⟨g, 0, none⟩)] w fun e w' => e = .returned (.bool (!P x)) ∧ Below w.heap.size w w' := by
  have hgl := cell_lt hg
  have hbx : Below w.heap.size w (w.alloc (.cells #[.bool x.static, .string (strB x.name), .string (strB x.desc), .int .i64 x.stack, .int .i64 x.locals, .slice Ac nc cc, .slice At nt ct, .slice Ap np cp] 41)) := (Below.refl _ _).alloc (Nat.le_refl _) _
  have C1 := Lib.hid (hP (w.alloc (.cells #[.bool x.static, .string (strB x.name), .string (strB x.desc), .int .i64 x.stack, .int .i64 x.locals, .slice Ac nc cc, .slice At nt ct, .slice Ap np cp] 41)) x Ac  nc  cc  At  nt  ct  Ap  np  cp (hw.alloc (Nat.le_trans hB hw.size) _) hx (meW.next hr (Only.of_below (S := Empty) hbx) (fun _ _ h => h)))
  clear hbx
  clear hr hP
  go_enter Tryz.func170, Tryz.ntmps170
  go_wp2_with fail
  refine C1.out.mono ?_
  rintro e w1 ⟨rfl, hb⟩
  go_wp2
  go_ret
  exact ⟨rfl, ((Below.refl _ _).alloc (Nat.le_refl _) _).trans (hb.mono (by simp))⟩

/-- Where IndexFunc stands at a round's head. -/
def RelXM (l : List MeD) (P : MeD → Bool) (n : Nat) (w : World) (i : Value) (wr : World) : Prop := ∃ k : Nat, k ≤ n ∧ i = .int .i64 (k : Int) ∧ (l.take k).all P = true ∧ Below w.heap.size w wr
set_option maxHeartbeats 1000000 in
theorem idxM_any (g1 g2 : Nat) (B : Nat) (w0 w : World) (l : List MeD) (P : MeD → Bool) (hP : PredM g1 g2 B w0 l P) (hw : Below B w0 w) (hB : B ≤ w0.heap.size) (g : Nat) (A : Option Addr) (n cap : Nat) (hR : RowS meW w Empty A n cap l) (hn : n ≤ 1000000)
    (hg : w.cell? ⟨g, 0, none⟩ = some (.func (.func 118) #[] #[.pointer (some ⟨g1, 0, none⟩), .pointer (some ⟨g2, 0, none⟩)])) :
    Calls Tryz.prog 210 #[.slice A n cap, .func (.func 170) #[] #[.pointer (some ⟨g, 0, none⟩)]] w fun e w' => e = .returned (.int .i64 (idxF P l)) ∧ Below w.heap.size w w' := by
  have hgl := cell_lt hg
  have hnc := hR.2.1
  have hlen := hR.1
  have hcm := hR.2.2.1
  unfold maxLen at hcm
  have HL := Lib.hid hlen
  have HR := Lib.hid hR
  clear hlen hR
  have HRel : Hid (RelXM l P n w (.int .i64 0) w) := Lib.hid ⟨0, Nat.zero_le _, rfl, rfl, Below.refl _ _⟩
  go_enter Tryz.func210, Tryz.ntmps210
  go_wp2
  go_loopw [8] (fun i wr => RelXM l P n w i wr) (fun i _ => n - (intOf i).toNat)
  case atStart => exact HRel.out
  case round =>
    clear HRel
    obtain ⟨k, hk, rfl, hall, hBw⟩ := hrel
    have HA := Lib.hid hall
    clear hall
    by_cases hlt : k < n
    · obtain ⟨b, o, x, cs, rfl, hb, _, hx, hcl, hcs, hr⟩ := (HR.out.below hBw).at_ hlt
      obtain ⟨Ac, nc, cc, At, nt, ct, Ap, np, cp, rfl, hrep⟩ := hr
      change ∀ j v, [.bool x.static, .string (strB x.name), .string (strB x.desc), .int .i64 x.stack, .int .i64 x.locals, .slice Ac nc cc, .slice At nt ct, .slice Ap np cp][j]? = some v → wr.cell? ⟨b, o + k * 8 + j, none⟩ = some v at hcs
      have d0 : wr.cell? ⟨b, o + k * 8, none⟩ = some (.bool x.static) := by have := hcs 0 _ rfl; simpa using this
      have d1 : wr.cell? ⟨b, o + k * 8 + 1, none⟩ = some (.string (strB x.name)) := by have := hcs 1 _ rfl; simpa using this
      have d2 : wr.cell? ⟨b, o + k * 8 + 2, none⟩ = some (.string (strB x.desc)) := by have := hcs 2 _ rfl; simpa using this
      have d3 : wr.cell? ⟨b, o + k * 8 + 3, none⟩ = some (.int .i64 x.stack) := by have := hcs 3 _ rfl; simpa using this
      have d4 : wr.cell? ⟨b, o + k * 8 + 4, none⟩ = some (.int .i64 x.locals) := by have := hcs 4 _ rfl; simpa using this
      have d5 : wr.cell? ⟨b, o + k * 8 + 5, none⟩ = some (.slice Ac nc cc) := by have := hcs 5 _ rfl; simpa using this
      have d6 : wr.cell? ⟨b, o + k * 8 + 6, none⟩ = some (.slice At nt ct) := by have := hcs 6 _ rfl; simpa using this
      have d7 : wr.cell? ⟨b, o + k * 8 + 7, none⟩ = some (.slice Ap np cp) := by have := hcs 7 _ rfl; simpa using this
      have hxm : x ∈ l := List.mem_of_getElem? hx
      have C1 := Lib.hid (allM1_any g1 g2 B w0 wr l P hP (hw.trans (hBw.mono (Nat.le_trans hB hw.size))) hB g x Ac  nc  cc  At  nt  ct  Ap  np  cp hxm ⟨Ac, nc, cc, At, nt, ct, Ap, np, cp, rfl, hrep⟩ ((hBw.cell (p := ⟨g, 0, none⟩) hgl).trans hg))
      have HX := Lib.hid hx
      clear hcs hx hcl
      try clear hr
      cases hp : P x with
      | true =>
        rw [hp] at C1
        have HRel : Hid (RelXM l P n w (.int .i64 ((k : Int) + 1)) wr) := Lib.hid ⟨k + 1, hlt, by simp, all_take HA.out HX.out hp, hBw⟩
        clear hp hP
        go_wp2_with fail
        refine C1.out.mono ?_
        rintro e w1 ⟨rfl, hb1⟩
        go_wp2
        go_roundw
        case rel =>
          obtain ⟨k', h1, h2, h3, h4⟩ := HRel.out
          exact ⟨k', h1, h2, h3, h4.trans (hb1.mono hBw.size)⟩
        case measure => simp [intOf]; omega
      | false =>
        rw [hp] at C1
        have HI : Hid (idxF P l = k) := Lib.hid (idxF_at HA.out HX.out hp)
        clear hp hP
        go_wp2_with fail
        refine C1.out.mono ?_
        rintro e w1 ⟨rfl, hb1⟩
        go_wp2
        go_ret
        exact ⟨by rw [HI.out]; rfl, hBw.trans (hb1.mono hBw.size)⟩
    · have HI : Hid (idxF P l = -1) := Lib.hid (idxF_all (by
        have := HA.out
        rwa [List.take_of_length_le (by rw [HL.out]; omega)] at this))
      clear hP
      go_wp2
      go_ret
      exact ⟨by rw [HI.out]; rfl, hBw⟩

theorem allM_any (g1 g2 : Nat) (B : Nat) (w0 w : World) (l : List MeD) (P : MeD → Bool) (hP : PredM g1 g2 B w0 l P) (hw : Below B w0 w) (hB : B ≤ w0.heap.size) (A : Option Addr) (n cap : Nat) (hR : RowS meW w Empty A n cap l) (hn : n ≤ 1000000) :
    Calls Tryz.prog 117 #[.slice A n cap, (.func (.func 118) #[] #[.pointer (some ⟨g1, 0, none⟩), .pointer (some ⟨g2, 0, none⟩)])] w fun e w' => e = .returned (.bool (l.all P)) ∧ Below w.heap.size w w' := by
  have hb1 : Below w.heap.size w (w.alloc (.cells #[(.func (.func 118) #[] #[.pointer (some ⟨g1, 0, none⟩), .pointer (some ⟨g2, 0, none⟩)])] 45)) := (Below.refl _ _).alloc (Nat.le_refl _) _
  have C0 := idxM_any g1 g2 B w0 (w.alloc (.cells #[(.func (.func 118) #[] #[.pointer (some ⟨g1, 0, none⟩), .pointer (some ⟨g2, 0, none⟩)])] 45)) l P hP (hw.trans (hb1.mono (Nat.le_trans hB hw.size))) hB w.heap.size A n cap (hR.below hb1) hn ((Blk.new w _ _).cell 0)
  have hlo := idxF_lo P l
  have hg := idxF_geq P l
  have hlen := hR.1
  have hlo1 := hlo.1
  have hlo2 : idxF P l ≤ 1000000 := by omega
  obtain ⟨i, hi⟩ : ∃ i, idxF P l = i := ⟨_, rfl⟩
  rw [hi] at C0 hlo1 hlo2 hg
  have HG := Lib.hid hg
  have C1 : Hid (Calls Tryz.prog 169 #[.slice A n cap, .func (.func 170) #[] #[.pointer (some ⟨w.heap.size, 0, none⟩)]] (w.alloc (.cells #[(.func (.func 118) #[] #[.pointer (some ⟨g1, 0, none⟩), .pointer (some ⟨g2, 0, none⟩)])] 45)) fun e w' => e = .returned (.bool (!l.all P)) ∧ Below w.heap.size w w') := Lib.hid (by
    have H0 := Lib.hid C0
    clear C0 hi hlo hg hlen hR hP
    go_enter Tryz.func169, Tryz.ntmps169
    go_wp2_with fail
    refine H0.out.mono ?_
    rintro e w1 ⟨rfl, hb⟩
    go_wp2
    go_ret
    exact ⟨ret_bool HG.out, hb1.trans (hb.mono (by simp))⟩)
  clear C0 hi hlo hg hlen hR hP hb1 hlo1 hlo2
  go_enter Tryz.func117, Tryz.ntmps117
  go_wp2_with fail
  refine C1.out.mono ?_
  rintro e w1 ⟨rfl, hb⟩
  go_wp2
  go_ret
  exact ⟨ret_bool (by simp), hb⟩

/-- What is asked of an item: what the call of the function value answers. -/
def PredS (p : Nat) (B : Nat) (w0 : World) (l : List Bs) (P : Bs → Bool) : Prop := ∀ (W : World) (x : Bs) , Below B w0 W → x ∈ l → strT.rep W Empty [.string (strB x)] x →
  Calls Tryz.prog 58 #[.pointer (some ⟨p, 0, none⟩), .string (strB x)] W fun e W' => e = .returned (.bool (P x)) ∧ Below W.heap.size W W'
theorem allS1_any (p : Nat) (B : Nat) (w0 w : World) (l : List Bs) (P : Bs → Bool) (hP : PredS p B w0 l P) (hw : Below B w0 w) (hB : B ≤ w0.heap.size) (g : Nat) (x : Bs) (hx : x ∈ l) (hr : strT.rep w Empty [.string (strB x)] x)
    (hg : w.cell? ⟨g, 0, none⟩ = some (.func (.func 58) #[.pointer (some ⟨p, 0, none⟩)] #[])) :
    Calls Tryz.prog 212 #[.string (strB x), .pointer (some ⟨g, 0, none⟩)] w fun e w' => e = .returned (.bool (!P x)) ∧ Below w.heap.size w w' := by
  have hgl := cell_lt hg
  have C1 := Lib.hid (hP w x hw hx hr)
  clear hr hP
  go_enter Tryz.func212, Tryz.ntmps212
  go_wp2_with fail
  refine C1.out.mono ?_
  rintro e w1 ⟨rfl, hb⟩
  go_wp2
  go_ret
  exact ⟨rfl, hb⟩

/-- Where IndexFunc stands at a round's head. -/
def RelXS (l : List Bs) (P : Bs → Bool) (n : Nat) (w : World) (i : Value) (wr : World) : Prop := ∃ k : Nat, k ≤ n ∧ i = .int .i64 (k : Int) ∧ (l.take k).all P = true ∧ Below w.heap.size w wr
set_option maxHeartbeats 1000000 in
theorem idxS_any (p : Nat) (B : Nat) (w0 w : World) (l : List Bs) (P : Bs → Bool) (hP : PredS p B w0 l P) (hw : Below B w0 w) (hB : B ≤ w0.heap.size) (g : Nat) (A : Option Addr) (n cap : Nat) (hR : RowS strT w Empty A n cap l) (hn : n ≤ 1000000)
    (hg : w.cell? ⟨g, 0, none⟩ = some (.func (.func 58) #[.pointer (some ⟨p, 0, none⟩)] #[])) :
    Calls Tryz.prog 232 #[.slice A n cap, .func (.func 212) #[] #[.pointer (some ⟨g, 0, none⟩)]] w fun e w' => e = .returned (.int .i64 (idxF P l)) ∧ Below w.heap.size w w' := by
  have hgl := cell_lt hg
  have hnc := hR.2.1
  have hlen := hR.1
  have hcm := hR.2.2.1
  unfold maxLen at hcm
  have HL := Lib.hid hlen
  have HR := Lib.hid hR
  clear hlen hR
  have HRel : Hid (RelXS l P n w (.int .i64 0) w) := Lib.hid ⟨0, Nat.zero_le _, rfl, rfl, Below.refl _ _⟩
  go_enter Tryz.func232, Tryz.ntmps232
  go_wp2
  go_loopw [8] (fun i wr => RelXS l P n w i wr) (fun i _ => n - (intOf i).toNat)
  case atStart => exact HRel.out
  case round =>
    clear HRel
    obtain ⟨k, hk, rfl, hall, hBw⟩ := hrel
    have HA := Lib.hid hall
    clear hall
    by_cases hlt : k < n
    · obtain ⟨b, o, x, cs, rfl, hb, _, hx, hcl, hcs, hr⟩ := (HR.out.below hBw).at_ hlt
      obtain rfl := (show cs = [.string (strB x)] from hr)
      change ∀ j v, [.string (strB x)][j]? = some v → wr.cell? ⟨b, o + k * 1 + j, none⟩ = some v at hcs
      have d0 : wr.cell? ⟨b, o + k, none⟩ = some (.string (strB x)) := by have := hcs 0 _ rfl; simpa using this
      have hxm : x ∈ l := List.mem_of_getElem? hx
      have C1 := Lib.hid (allS1_any p B w0 wr l P hP (hw.trans (hBw.mono (Nat.le_trans hB hw.size))) hB g x  hxm rfl ((hBw.cell (p := ⟨g, 0, none⟩) hgl).trans hg))
      have HX := Lib.hid hx
      clear hcs hx hcl
      try clear hr
      cases hp : P x with
      | true =>
        rw [hp] at C1
        have HRel : Hid (RelXS l P n w (.int .i64 ((k : Int) + 1)) wr) := Lib.hid ⟨k + 1, hlt, by simp, all_take HA.out HX.out hp, hBw⟩
        clear hp hP
        go_wp2_with fail
        refine C1.out.mono ?_
        rintro e w1 ⟨rfl, hb1⟩
        go_wp2
        go_roundw
        case rel =>
          obtain ⟨k', h1, h2, h3, h4⟩ := HRel.out
          exact ⟨k', h1, h2, h3, h4.trans (hb1.mono hBw.size)⟩
        case measure => simp [intOf]; omega
      | false =>
        rw [hp] at C1
        have HI : Hid (idxF P l = k) := Lib.hid (idxF_at HA.out HX.out hp)
        clear hp hP
        go_wp2_with fail
        refine C1.out.mono ?_
        rintro e w1 ⟨rfl, hb1⟩
        go_wp2
        go_ret
        exact ⟨by rw [HI.out]; rfl, hBw.trans (hb1.mono hBw.size)⟩
    · have HI : Hid (idxF P l = -1) := Lib.hid (idxF_all (by
        have := HA.out
        rwa [List.take_of_length_le (by rw [HL.out]; omega)] at this))
      clear hP
      go_wp2
      go_ret
      exact ⟨by rw [HI.out]; rfl, hBw⟩

theorem allS_any (p : Nat) (B : Nat) (w0 w : World) (l : List Bs) (P : Bs → Bool) (hP : PredS p B w0 l P) (hw : Below B w0 w) (hB : B ≤ w0.heap.size) (A : Option Addr) (n cap : Nat) (hR : RowS strT w Empty A n cap l) (hn : n ≤ 1000000) :
    Calls Tryz.prog 171 #[.slice A n cap, (.func (.func 58) #[.pointer (some ⟨p, 0, none⟩)] #[])] w fun e w' => e = .returned (.bool (l.all P)) ∧ Below w.heap.size w w' := by
  have hb1 : Below w.heap.size w (w.alloc (.cells #[(.func (.func 58) #[.pointer (some ⟨p, 0, none⟩)] #[])] 36)) := (Below.refl _ _).alloc (Nat.le_refl _) _
  have C0 := idxS_any p B w0 (w.alloc (.cells #[(.func (.func 58) #[.pointer (some ⟨p, 0, none⟩)] #[])] 36)) l P hP (hw.trans (hb1.mono (Nat.le_trans hB hw.size))) hB w.heap.size A n cap (hR.below hb1) hn ((Blk.new w _ _).cell 0)
  have hlo := idxF_lo P l
  have hg := idxF_geq P l
  have hlen := hR.1
  have hlo1 := hlo.1
  have hlo2 : idxF P l ≤ 1000000 := by omega
  obtain ⟨i, hi⟩ : ∃ i, idxF P l = i := ⟨_, rfl⟩
  rw [hi] at C0 hlo1 hlo2 hg
  have HG := Lib.hid hg
  have C1 : Hid (Calls Tryz.prog 211 #[.slice A n cap, .func (.func 212) #[] #[.pointer (some ⟨w.heap.size, 0, none⟩)]] (w.alloc (.cells #[(.func (.func 58) #[.pointer (some ⟨p, 0, none⟩)] #[])] 36)) fun e w' => e = .returned (.bool (!l.all P)) ∧ Below w.heap.size w w') := Lib.hid (by
    have H0 := Lib.hid C0
    clear C0 hi hlo hg hlen hR hP
    go_enter Tryz.func211, Tryz.ntmps211
    go_wp2_with fail
    refine H0.out.mono ?_
    rintro e w1 ⟨rfl, hb⟩
    go_wp2
    go_ret
    exact ⟨ret_bool HG.out, hb1.trans (hb.mono (by simp))⟩)
  clear C0 hi hlo hg hlen hR hP hb1 hlo1 hlo2
  go_enter Tryz.func171, Tryz.ntmps171
  go_wp2_with fail
  refine C1.out.mono ?_
  rintro e w1 ⟨rfl, hb⟩
  go_wp2
  go_ret
  exact ⟨ret_bool (by simp), hb⟩

/-- What is asked of an item: what the call of the function value answers. -/
def PredT (g1 : Nat) (B : Nat) (w0 : World) (l : List TrD) (P : TrD → Bool) : Prop := ∀ (W : World) (x : TrD) , Below B w0 W → x ∈ l → trT.rep W Empty [.int .i64 x.a, .int .i64 x.b, .int .i64 x.c, .string (strB x.cls)] x →
  Calls Tryz.prog 173 #[.agg #[.int .i64 x.a, .int .i64 x.b, .int .i64 x.c, .string (strB x.cls)], .pointer (some ⟨g1, 0, none⟩)] W fun e W' => e = .returned (.bool (P x)) ∧ Below W.heap.size W W'
theorem allT1_any (g1 : Nat) (B : Nat) (w0 w : World) (l : List TrD) (P : TrD → Bool) (hP : PredT g1 B w0 l P) (hw : Below B w0 w) (hB : B ≤ w0.heap.size) (g : Nat) (x : TrD) (hx : x ∈ l) (hr : trT.rep w Empty [.int .i64 x.a, .int .i64 x.b, .int .i64 x.c, .string (strB x.cls)] x)
    (hg : w.cell? ⟨g, 0, none⟩ = some (.func (.func 173) #[] #[.pointer (some ⟨g1, 0, none⟩)])) :
    Calls Tryz.prog 213 #[.agg #[.int .i64 x.a, .int .i64 x.b, .int .i64 x.c, .string (strB x.cls)], .pointer (some ⟨g, 0, none⟩)] w fun e w' => e = .returned (.bool (!P x)) ∧ Below w.heap.size w w' := by
  have hgl := cell_lt hg
  have hbx : Below w.heap.size w (w.alloc (.cells #[.int .i64 x.a, .int .i64 x.b, .int .i64 x.c, .string (strB x.cls)] 133)) := (Below.refl _ _).alloc (Nat.le_refl _) _
  have C1 := Lib.hid (hP (w.alloc (.cells #[.int .i64 x.a, .int .i64 x.b, .int .i64 x.c, .string (strB x.cls)] 133)) x  (hw.alloc (Nat.le_trans hB hw.size) _) hx (trT.next hr (Only.of_below (S := Empty) hbx) (fun _ _ h => h)))
  clear hbx
  clear hr hP
  go_enter Tryz.func213, Tryz.ntmps213
  go_wp2_with fail
  refine C1.out.mono ?_
  rintro e w1 ⟨rfl, hb⟩
  go_wp2
  go_ret
  exact ⟨rfl, ((Below.refl _ _).alloc (Nat.le_refl _) _).trans (hb.mono (by simp))⟩

/-- Where IndexFunc stands at a round's head. -/
def RelXT (l : List TrD) (P : TrD → Bool) (n : Nat) (w : World) (i : Value) (wr : World) : Prop := ∃ k : Nat, k ≤ n ∧ i = .int .i64 (k : Int) ∧ (l.take k).all P = true ∧ Below w.heap.size w wr
set_option maxHeartbeats 1000000 in
theorem idxT_any (g1 : Nat) (B : Nat) (w0 w : World) (l : List TrD) (P : TrD → Bool) (hP : PredT g1 B w0 l P) (hw : Below B w0 w) (hB : B ≤ w0.heap.size) (g : Nat) (A : Option Addr) (n cap : Nat) (hR : RowS trT w Empty A n cap l) (hn : n ≤ 1000000)
    (hg : w.cell? ⟨g, 0, none⟩ = some (.func (.func 173) #[] #[.pointer (some ⟨g1, 0, none⟩)])) :
    Calls Tryz.prog 203 #[.slice A n cap, .func (.func 213) #[] #[.pointer (some ⟨g, 0, none⟩)]] w fun e w' => e = .returned (.int .i64 (idxF P l)) ∧ Below w.heap.size w w' := by
  have hgl := cell_lt hg
  have hnc := hR.2.1
  have hlen := hR.1
  have hcm := hR.2.2.1
  unfold maxLen at hcm
  have HL := Lib.hid hlen
  have HR := Lib.hid hR
  clear hlen hR
  have HRel : Hid (RelXT l P n w (.int .i64 0) w) := Lib.hid ⟨0, Nat.zero_le _, rfl, rfl, Below.refl _ _⟩
  go_enter Tryz.func203, Tryz.ntmps203
  go_wp2
  go_loopw [8] (fun i wr => RelXT l P n w i wr) (fun i _ => n - (intOf i).toNat)
  case atStart => exact HRel.out
  case round =>
    clear HRel
    obtain ⟨k, hk, rfl, hall, hBw⟩ := hrel
    have HA := Lib.hid hall
    clear hall
    by_cases hlt : k < n
    · obtain ⟨b, o, x, cs, rfl, hb, _, hx, hcl, hcs, hr⟩ := (HR.out.below hBw).at_ hlt
      obtain rfl := (show cs = [.int .i64 x.a, .int .i64 x.b, .int .i64 x.c, .string (strB x.cls)] from hr)
      change ∀ j v, [.int .i64 x.a, .int .i64 x.b, .int .i64 x.c, .string (strB x.cls)][j]? = some v → wr.cell? ⟨b, o + k * 4 + j, none⟩ = some v at hcs
      have d0 : wr.cell? ⟨b, o + k * 4, none⟩ = some (.int .i64 x.a) := by have := hcs 0 _ rfl; simpa using this
      have d1 : wr.cell? ⟨b, o + k * 4 + 1, none⟩ = some (.int .i64 x.b) := by have := hcs 1 _ rfl; simpa using this
      have d2 : wr.cell? ⟨b, o + k * 4 + 2, none⟩ = some (.int .i64 x.c) := by have := hcs 2 _ rfl; simpa using this
      have d3 : wr.cell? ⟨b, o + k * 4 + 3, none⟩ = some (.string (strB x.cls)) := by have := hcs 3 _ rfl; simpa using this
      have hxm : x ∈ l := List.mem_of_getElem? hx
      have C1 := Lib.hid (allT1_any g1 B w0 wr l P hP (hw.trans (hBw.mono (Nat.le_trans hB hw.size))) hB g x  hxm rfl ((hBw.cell (p := ⟨g, 0, none⟩) hgl).trans hg))
      have HX := Lib.hid hx
      clear hcs hx hcl
      try clear hr
      cases hp : P x with
      | true =>
        rw [hp] at C1
        have HRel : Hid (RelXT l P n w (.int .i64 ((k : Int) + 1)) wr) := Lib.hid ⟨k + 1, hlt, by simp, all_take HA.out HX.out hp, hBw⟩
        clear hp hP
        go_wp2_with fail
        refine C1.out.mono ?_
        rintro e w1 ⟨rfl, hb1⟩
        go_wp2
        go_roundw
        case rel =>
          obtain ⟨k', h1, h2, h3, h4⟩ := HRel.out
          exact ⟨k', h1, h2, h3, h4.trans (hb1.mono hBw.size)⟩
        case measure => simp [intOf]; omega
      | false =>
        rw [hp] at C1
        have HI : Hid (idxF P l = k) := Lib.hid (idxF_at HA.out HX.out hp)
        clear hp hP
        go_wp2_with fail
        refine C1.out.mono ?_
        rintro e w1 ⟨rfl, hb1⟩
        go_wp2
        go_ret
        exact ⟨by rw [HI.out]; rfl, hBw.trans (hb1.mono hBw.size)⟩
    · have HI : Hid (idxF P l = -1) := Lib.hid (idxF_all (by
        have := HA.out
        rwa [List.take_of_length_le (by rw [HL.out]; omega)] at this))
      clear hP
      go_wp2
      go_ret
      exact ⟨by rw [HI.out]; rfl, hBw⟩

theorem allT_any (g1 : Nat) (B : Nat) (w0 w : World) (l : List TrD) (P : TrD → Bool) (hP : PredT g1 B w0 l P) (hw : Below B w0 w) (hB : B ≤ w0.heap.size) (A : Option Addr) (n cap : Nat) (hR : RowS trT w Empty A n cap l) (hn : n ≤ 1000000) :
    Calls Tryz.prog 172 #[.slice A n cap, (.func (.func 173) #[] #[.pointer (some ⟨g1, 0, none⟩)])] w fun e w' => e = .returned (.bool (l.all P)) ∧ Below w.heap.size w w' := by
  have hb1 : Below w.heap.size w (w.alloc (.cells #[(.func (.func 173) #[] #[.pointer (some ⟨g1, 0, none⟩)])] 183)) := (Below.refl _ _).alloc (Nat.le_refl _) _
  have C0 := idxT_any g1 B w0 (w.alloc (.cells #[(.func (.func 173) #[] #[.pointer (some ⟨g1, 0, none⟩)])] 183)) l P hP (hw.trans (hb1.mono (Nat.le_trans hB hw.size))) hB w.heap.size A n cap (hR.below hb1) hn ((Blk.new w _ _).cell 0)
  have hlo := idxF_lo P l
  have hg := idxF_geq P l
  have hlen := hR.1
  have hlo1 := hlo.1
  have hlo2 : idxF P l ≤ 1000000 := by omega
  obtain ⟨i, hi⟩ : ∃ i, idxF P l = i := ⟨_, rfl⟩
  rw [hi] at C0 hlo1 hlo2 hg
  have HG := Lib.hid hg
  have C1 : Hid (Calls Tryz.prog 159 #[.slice A n cap, .func (.func 213) #[] #[.pointer (some ⟨w.heap.size, 0, none⟩)]] (w.alloc (.cells #[(.func (.func 173) #[] #[.pointer (some ⟨g1, 0, none⟩)])] 183)) fun e w' => e = .returned (.bool (!l.all P)) ∧ Below w.heap.size w w') := Lib.hid (by
    have H0 := Lib.hid C0
    clear C0 hi hlo hg hlen hR hP
    go_enter Tryz.func159, Tryz.ntmps159
    go_wp2_with fail
    refine H0.out.mono ?_
    rintro e w1 ⟨rfl, hb⟩
    go_wp2
    go_ret
    exact ⟨ret_bool HG.out, hb1.trans (hb.mono (by simp))⟩)
  clear C0 hi hlo hg hlen hR hP hb1 hlo1 hlo2
  go_enter Tryz.func172, Tryz.ntmps172
  go_wp2_with fail
  refine C1.out.mono ?_
  rintro e w1 ⟨rfl, hb⟩
  go_wp2
  go_ret
  exact ⟨ret_bool (by simp), hb⟩

end Go.Proofs.YtdkkpcbebhgbiaaGreatDoor

/- The walks over hier.areOwn at three types; printed by gen/gen_zm.py. -/
namespace Go.Proofs.YtdkkpcbebhgbiaaGreatDoor
set_option maxRecDepth 100000
open Go.RowKit

/-- The set of a list's items, as a map answers. -/
def setF {κ : Type} [DecidableEq κ] (l : List κ) (q : κ) : Option Unit := if q ∈ l then some () else none
theorem setF_snoc {κ : Type} [DecidableEq κ] (l : List κ) (k q : κ) : (if q = k then some () else setF l q) = setF (l ++ [k]) q := by
  unfold setF
  by_cases h : q = k
  · subst h; simp
  · simp [h]
theorem setF_isSome {κ : Type} [DecidableEq κ] (l : List κ) (k : κ) : (setF l k).isSome = decide (k ∈ l) := by
  unfold setF
  by_cases h : k ∈ l <;> simp [h]
theorem take_map_snoc {α κ : Type} (f : α → κ) {l : List α} {k : Nat} {x : α} (h : l[k]? = some x) : (l.take (k + 1)).map f = (l.take k).map f ++ [f x] := by
  rw [List.take_add_one, h]
  simp

theorem keyU_any (x : UnD) (Af : Option Addr) (nf cf : Nat) (Am : Option Addr) (nm cm : Nat) (w : World) : Calls Tryz.prog 53 #[.agg #[.string (strB x.name), .string (strB x.super), .slice Af nf cf, .slice Am nm cm]] w fun e w' => e = .returned (.string (strB x.name)) ∧ Below w.heap.size w w' := by
  go_enter Tryz.func53, Tryz.ntmps53
  go_wp2
  go_ret
  exact ⟨rfl, (Below.refl _ _).alloc (Nat.le_refl _) _⟩

/-- Where areOwn stands at a round's head. -/
def RelOU (l : List UnD) (n : Nat) (w : World) (i : Value) (wr : World) : Prop := ∃ k : Nat, k ≤ n ∧ i = .int .i64 (k : Int) ∧ MapK Tryz.prog 9 strKV voidV wr w.heap.size (cntA ((l.take k).map fun x => x.name)) (setF ((l.take k).map fun x => x.name)) ∧ Below w.heap.size w wr ∧ w.heap.size < wr.heap.size
set_option maxHeartbeats 1000000 in
theorem ownU_any (w : World) (l : List UnD) (A : Option Addr) (n cap : Nat) (hR : RowS unW w Empty A n cap l) (hn : n ≤ 1000000) (hsm : ∀ x ∈ l, x.name.length ≤ 1000000) :
    Calls Tryz.prog 52 #[.slice A n cap, .func (.func 53) #[] #[]] w fun e w' => e = .returned (.bool (decide ((l.map fun x => x.name).Nodup))) ∧ Below w.heap.size w w' := by
  have hmm := @run_makeMap Tryz.prog
  have hnc := hR.2.1
  have hcm := hR.2.2.1
  unfold maxLen at hcm
  have HL := Lib.hid hR.1
  have HR := Lib.hid hR
  have HS := Lib.hid hsm
  clear hR hsm
  have HRel : Hid (RelOU l n w (.int .i64 0) (w.alloc (.map #[] 0))) := Lib.hid ⟨0, Nat.zero_le _, rfl, (MapK.made w _ _ _ _).ext (fun q => rfl), (Below.refl _ _).alloc (Nat.le_refl _) _, by simp⟩
  go_enter Tryz.func52, Tryz.ntmps52
  go_wp2
  clear hmm
  go_loopw [11] (fun i wr => RelOU l n w i wr) (fun i _ => n - (intOf i).toNat)
  case atStart => exact HRel.out
  case round =>
    clear HRel
    obtain ⟨k, hk, rfl, hM, hBw, hlt0⟩ := hrel
    by_cases hlt : k < n
    · obtain ⟨b, o, x, cs, rfl, hb, _, hx, hcl, hcs, hr⟩ := (HR.out.below hBw).at_ hlt
      obtain ⟨Af, nf, cf, Am, nm, cm, rfl, hrep⟩ := hr
      change ∀ j v, [.string (strB x.name), .string (strB x.super), .slice Af nf cf, .slice Am nm cm][j]? = some v → wr.cell? ⟨b, o + k * 4 + j, none⟩ = some v at hcs
      have d0 : wr.cell? ⟨b, o + k * 4, none⟩ = some (.string (strB x.name)) := by have := hcs 0 _ rfl; simpa using this
      have d1 : wr.cell? ⟨b, o + k * 4 + 1, none⟩ = some (.string (strB x.super)) := by have := hcs 1 _ rfl; simpa using this
      have d2 : wr.cell? ⟨b, o + k * 4 + 2, none⟩ = some (.slice Af nf cf) := by have := hcs 2 _ rfl; simpa using this
      have d3 : wr.cell? ⟨b, o + k * 4 + 3, none⟩ = some (.slice Am nm cm) := by have := hcs 3 _ rfl; simpa using this
      have hsm := HS.out x (List.mem_of_getElem? hx)
      obtain ⟨kl, hkl⟩ := (⟨_, str_key x.name hsm⟩ : ∃ kl, keyOf Tryz.prog 9 (strKV x.name) = some kl)
      have HKey := Lib.hid hkl
      have HX := Lib.hid hx
      have HM := Lib.hid hM
      have hkn : (k : Int) < 9223372036854775807 := by omega
      clear hcs hx hcl hsm hM hkl
      try clear hr
      go_wp2_with fail
      refine (keyU_any x Af  nf  cf  Am  nm  cm _).mono ?_
      rintro e w1 ⟨rfl, hb1⟩
      have hb2 : Below wr.heap.size wr w1 := ((Below.refl wr.heap.size wr).alloc (Nat.le_refl _) _).trans (hb1.mono (by simp))
      have hcnt := cntA_le ((l.take k).map fun x => x.name)
      have hcnt2 : cntA ((l.take k).map fun x => x.name) < maxLen := by
        rw [List.length_map, List.length_take] at hcnt
        unfold maxLen
        omega
      obtain ⟨w2, hrun, hM2, ho2⟩ := (HM.out.below hb2).store Tryz.strKeyed Tryz.underlying154 strKV_inj hcnt2 HKey.out ()
      have hb3 : Below w.heap.size w w2 := (hBw.trans (hb2.mono hBw.size)).trans (ho2.below (hBw.trans (hb2.mono hBw.size)).size (fun j hj e => by omega))
      have HRel : Hid (RelOU l n w (.int .i64 ((k : Int) + 1)) w2) := Lib.hid ⟨k + 1, hlt, by simp, by
        rw [take_map_snoc _ HX.out, cntA_snoc]
        refine MapK.ext ?_ (fun q => setF_snoc _ _ _)
        have := hM2
        rw [setF_isSome] at this
        simpa using this, hb3, Nat.lt_of_lt_of_le hlt0 (Nat.le_trans hb2.size ho2.size)⟩
      simp only [strKV, voidV] at hrun
      clear hM2 ho2 hb3 hcnt hcnt2 hb2
      go_wp2
      go_roundw
      case rel => exact HRel.out
      case measure => simp [intOf]; omega
    · have hkn : k = n := by omega
      have hlen := hM.len Tryz.underlying154 3
      have e1 : l.take k = l := List.take_of_length_le (by rw [HL.out]; omega)
      have hcnt := cntA_le (l.map fun x => x.name)
      rw [e1] at hlen
      have hD : Hid ((((cntA (l.map fun x => x.name) : Nat) : Int) == (n : Int)) = decide ((l.map fun x => x.name).Nodup)) := Lib.hid (by
        have h1 := cntA_eq (l.map fun x => x.name)
        rw [List.length_map, HL.out] at h1
        by_cases hd : (l.map fun x => x.name).Nodup
        · rw [h1.2 hd, decide_eq_true hd]; simp
        · rw [decide_eq_false hd]
          have : cntA (l.map fun x => x.name) ≠ n := fun e => hd (h1.1 e)
          simp
          omega)
      clear hkn e1 hM hcnt
      go_wp2
      go_ret
      exact ⟨ret_bool hD.out, hBw⟩

theorem keyF_any (x : FdD) (w : World) : Calls Tryz.prog 112 #[.agg #[.bool x.static, .string (strB x.name), .string (strB x.desc)]] w fun e w' => e = .returned (.string (strB x.name)) ∧ Below w.heap.size w w' := by
  go_enter Tryz.func112, Tryz.ntmps112
  go_wp2
  go_ret
  exact ⟨rfl, (Below.refl _ _).alloc (Nat.le_refl _) _⟩

/-- Where areOwn stands at a round's head. -/
def RelOF (l : List FdD) (n : Nat) (w : World) (i : Value) (wr : World) : Prop := ∃ k : Nat, k ≤ n ∧ i = .int .i64 (k : Int) ∧ MapK Tryz.prog 9 strKV voidV wr w.heap.size (cntA ((l.take k).map fun x => x.name)) (setF ((l.take k).map fun x => x.name)) ∧ Below w.heap.size w wr ∧ w.heap.size < wr.heap.size
set_option maxHeartbeats 1000000 in
theorem ownF_any (w : World) (l : List FdD) (A : Option Addr) (n cap : Nat) (hR : RowS fdT w Empty A n cap l) (hn : n ≤ 1000000) (hsm : ∀ x ∈ l, x.name.length ≤ 1000000) :
    Calls Tryz.prog 111 #[.slice A n cap, .func (.func 112) #[] #[]] w fun e w' => e = .returned (.bool (decide ((l.map fun x => x.name).Nodup))) ∧ Below w.heap.size w w' := by
  have hmm := @run_makeMap Tryz.prog
  have hnc := hR.2.1
  have hcm := hR.2.2.1
  unfold maxLen at hcm
  have HL := Lib.hid hR.1
  have HR := Lib.hid hR
  have HS := Lib.hid hsm
  clear hR hsm
  have HRel : Hid (RelOF l n w (.int .i64 0) (w.alloc (.map #[] 0))) := Lib.hid ⟨0, Nat.zero_le _, rfl, (MapK.made w _ _ _ _).ext (fun q => rfl), (Below.refl _ _).alloc (Nat.le_refl _) _, by simp⟩
  go_enter Tryz.func111, Tryz.ntmps111
  go_wp2
  clear hmm
  go_loopw [11] (fun i wr => RelOF l n w i wr) (fun i _ => n - (intOf i).toNat)
  case atStart => exact HRel.out
  case round =>
    clear HRel
    obtain ⟨k, hk, rfl, hM, hBw, hlt0⟩ := hrel
    by_cases hlt : k < n
    · obtain ⟨b, o, x, cs, rfl, hb, _, hx, hcl, hcs, hr⟩ := (HR.out.below hBw).at_ hlt
      obtain rfl := (show cs = [.bool x.static, .string (strB x.name), .string (strB x.desc)] from hr)
      change ∀ j v, [.bool x.static, .string (strB x.name), .string (strB x.desc)][j]? = some v → wr.cell? ⟨b, o + k * 3 + j, none⟩ = some v at hcs
      have d0 : wr.cell? ⟨b, o + k * 3, none⟩ = some (.bool x.static) := by have := hcs 0 _ rfl; simpa using this
      have d1 : wr.cell? ⟨b, o + k * 3 + 1, none⟩ = some (.string (strB x.name)) := by have := hcs 1 _ rfl; simpa using this
      have d2 : wr.cell? ⟨b, o + k * 3 + 2, none⟩ = some (.string (strB x.desc)) := by have := hcs 2 _ rfl; simpa using this
      have hsm := HS.out x (List.mem_of_getElem? hx)
      obtain ⟨kl, hkl⟩ := (⟨_, str_key x.name hsm⟩ : ∃ kl, keyOf Tryz.prog 9 (strKV x.name) = some kl)
      have HKey := Lib.hid hkl
      have HX := Lib.hid hx
      have HM := Lib.hid hM
      have hkn : (k : Int) < 9223372036854775807 := by omega
      clear hcs hx hcl hsm hM hkl
      try clear hr
      go_wp2_with fail
      refine (keyF_any x  _).mono ?_
      rintro e w1 ⟨rfl, hb1⟩
      have hb2 : Below wr.heap.size wr w1 := ((Below.refl wr.heap.size wr).alloc (Nat.le_refl _) _).trans (hb1.mono (by simp))
      have hcnt := cntA_le ((l.take k).map fun x => x.name)
      have hcnt2 : cntA ((l.take k).map fun x => x.name) < maxLen := by
        rw [List.length_map, List.length_take] at hcnt
        unfold maxLen
        omega
      obtain ⟨w2, hrun, hM2, ho2⟩ := (HM.out.below hb2).store Tryz.strKeyed Tryz.underlying154 strKV_inj hcnt2 HKey.out ()
      have hb3 : Below w.heap.size w w2 := (hBw.trans (hb2.mono hBw.size)).trans (ho2.below (hBw.trans (hb2.mono hBw.size)).size (fun j hj e => by omega))
      have HRel : Hid (RelOF l n w (.int .i64 ((k : Int) + 1)) w2) := Lib.hid ⟨k + 1, hlt, by simp, by
        rw [take_map_snoc _ HX.out, cntA_snoc]
        refine MapK.ext ?_ (fun q => setF_snoc _ _ _)
        have := hM2
        rw [setF_isSome] at this
        simpa using this, hb3, Nat.lt_of_lt_of_le hlt0 (Nat.le_trans hb2.size ho2.size)⟩
      simp only [strKV, voidV] at hrun
      clear hM2 ho2 hb3 hcnt hcnt2 hb2
      go_wp2
      go_roundw
      case rel => exact HRel.out
      case measure => simp [intOf]; omega
    · have hkn : k = n := by omega
      have hlen := hM.len Tryz.underlying154 3
      have e1 : l.take k = l := List.take_of_length_le (by rw [HL.out]; omega)
      have hcnt := cntA_le (l.map fun x => x.name)
      rw [e1] at hlen
      have hD : Hid ((((cntA (l.map fun x => x.name) : Nat) : Int) == (n : Int)) = decide ((l.map fun x => x.name).Nodup)) := Lib.hid (by
        have h1 := cntA_eq (l.map fun x => x.name)
        rw [List.length_map, HL.out] at h1
        by_cases hd : (l.map fun x => x.name).Nodup
        · rw [h1.2 hd, decide_eq_true hd]; simp
        · rw [decide_eq_false hd]
          have : cntA (l.map fun x => x.name) ≠ n := fun e => hd (h1.1 e)
          simp
          omega)
      clear hkn e1 hM hcnt
      go_wp2
      go_ret
      exact ⟨ret_bool hD.out, hBw⟩

theorem keyM_any (x : MeD) (Ac : Option Addr) (nc cc : Nat) (At : Option Addr) (nt ct : Nat) (Ap : Option Addr) (np cp : Nat) (w : World) : Calls Tryz.prog 114 #[.agg #[.bool x.static, .string (strB x.name), .string (strB x.desc), .int .i64 x.stack, .int .i64 x.locals, .slice Ac nc cc, .slice At nt ct, .slice Ap np cp]] w fun e w' => e = .returned (.agg #[.string (strB []), .string (strB x.name), .string (strB x.desc)]) ∧ Below w.heap.size w w' := by
  go_enter Tryz.func114, Tryz.ntmps114
  go_wp2
  refine bodyPost_ret (v := .agg #[.string (strB []), .string (strB x.name), .string (strB x.desc)]) ?_ rfl ⟨rfl, ?_⟩
  · simp [results, Tryz.f114, go_sem, strB]
  · exact ((Below.refl _ _).alloc (Nat.le_refl _) _).alloc (by simp) _

/-- Where areOwn stands at a round's head. -/
def RelOM (l : List MeD) (n : Nat) (w : World) (i : Value) (wr : World) : Prop := ∃ k : Nat, k ≤ n ∧ i = .int .i64 (k : Int) ∧ MapK Tryz.prog 153 memKV voidV wr w.heap.size (cntA ((l.take k).map fun x => (([], x.name, x.desc) : Key3))) (setF ((l.take k).map fun x => (([], x.name, x.desc) : Key3))) ∧ Below w.heap.size w wr ∧ w.heap.size < wr.heap.size
set_option maxHeartbeats 1000000 in
theorem ownM_any (w : World) (l : List MeD) (A : Option Addr) (n cap : Nat) (hR : RowS meW w Empty A n cap l) (hn : n ≤ 1000000) (hsm : ∀ x ∈ l, x.name.length ≤ 1000000 ∧ x.desc.length ≤ 1000000) :
    Calls Tryz.prog 113 #[.slice A n cap, .func (.func 114) #[] #[]] w fun e w' => e = .returned (.bool (decide ((l.map fun x => (([], x.name, x.desc) : Key3)).Nodup))) ∧ Below w.heap.size w w' := by
  have hmm := @run_makeMap Tryz.prog
  have hnc := hR.2.1
  have hcm := hR.2.2.1
  unfold maxLen at hcm
  have HL := Lib.hid hR.1
  have HR := Lib.hid hR
  have HS := Lib.hid hsm
  clear hR hsm
  have HRel : Hid (RelOM l n w (.int .i64 0) (w.alloc (.map #[] 0))) := Lib.hid ⟨0, Nat.zero_le _, rfl, (MapK.made w _ _ _ _).ext (fun q => rfl), (Below.refl _ _).alloc (Nat.le_refl _) _, by simp⟩
  go_enter Tryz.func113, Tryz.ntmps113
  go_wp2
  clear hmm
  go_loopw [11] (fun i wr => RelOM l n w i wr) (fun i _ => n - (intOf i).toNat)
  case atStart => exact HRel.out
  case round =>
    clear HRel
    obtain ⟨k, hk, rfl, hM, hBw, hlt0⟩ := hrel
    by_cases hlt : k < n
    · obtain ⟨b, o, x, cs, rfl, hb, _, hx, hcl, hcs, hr⟩ := (HR.out.below hBw).at_ hlt
      obtain ⟨Ac, nc, cc, At, nt, ct, Ap, np, cp, rfl, hrep⟩ := hr
      change ∀ j v, [.bool x.static, .string (strB x.name), .string (strB x.desc), .int .i64 x.stack, .int .i64 x.locals, .slice Ac nc cc, .slice At nt ct, .slice Ap np cp][j]? = some v → wr.cell? ⟨b, o + k * 8 + j, none⟩ = some v at hcs
      have d0 : wr.cell? ⟨b, o + k * 8, none⟩ = some (.bool x.static) := by have := hcs 0 _ rfl; simpa using this
      have d1 : wr.cell? ⟨b, o + k * 8 + 1, none⟩ = some (.string (strB x.name)) := by have := hcs 1 _ rfl; simpa using this
      have d2 : wr.cell? ⟨b, o + k * 8 + 2, none⟩ = some (.string (strB x.desc)) := by have := hcs 2 _ rfl; simpa using this
      have d3 : wr.cell? ⟨b, o + k * 8 + 3, none⟩ = some (.int .i64 x.stack) := by have := hcs 3 _ rfl; simpa using this
      have d4 : wr.cell? ⟨b, o + k * 8 + 4, none⟩ = some (.int .i64 x.locals) := by have := hcs 4 _ rfl; simpa using this
      have d5 : wr.cell? ⟨b, o + k * 8 + 5, none⟩ = some (.slice Ac nc cc) := by have := hcs 5 _ rfl; simpa using this
      have d6 : wr.cell? ⟨b, o + k * 8 + 6, none⟩ = some (.slice At nt ct) := by have := hcs 6 _ rfl; simpa using this
      have d7 : wr.cell? ⟨b, o + k * 8 + 7, none⟩ = some (.slice Ap np cp) := by have := hcs 7 _ rfl; simpa using this
      have hsm := HS.out x (List.mem_of_getElem? hx)
      obtain ⟨kl, hkl⟩ := mem_key ([], x.name, x.desc) (by simp) hsm.1 hsm.2
      have HKey := Lib.hid hkl
      have HX := Lib.hid hx
      have HM := Lib.hid hM
      have hkn : (k : Int) < 9223372036854775807 := by omega
      clear hcs hx hcl hsm hM hkl
      try clear hr
      go_wp2_with fail
      refine (keyM_any x Ac  nc  cc  At  nt  ct  Ap  np  cp _).mono ?_
      rintro e w1 ⟨rfl, hb1⟩
      have hb2 : Below wr.heap.size wr w1 := ((Below.refl wr.heap.size wr).alloc (Nat.le_refl _) _).trans (hb1.mono (by simp))
      have hcnt := cntA_le ((l.take k).map fun x => (([], x.name, x.desc) : Key3))
      have hcnt2 : cntA ((l.take k).map fun x => (([], x.name, x.desc) : Key3)) < maxLen := by
        rw [List.length_map, List.length_take] at hcnt
        unfold maxLen
        omega
      obtain ⟨w2, hrun, hM2, ho2⟩ := (HM.out.below hb2).store Tryz.memKeyed Tryz.underlying193 memKV_inj hcnt2 HKey.out ()
      have hb3 : Below w.heap.size w w2 := (hBw.trans (hb2.mono hBw.size)).trans (ho2.below (hBw.trans (hb2.mono hBw.size)).size (fun j hj e => by omega))
      have HRel : Hid (RelOM l n w (.int .i64 ((k : Int) + 1)) w2) := Lib.hid ⟨k + 1, hlt, by simp, by
        rw [take_map_snoc _ HX.out, cntA_snoc]
        refine MapK.ext ?_ (fun q => setF_snoc _ _ _)
        have := hM2
        rw [setF_isSome] at this
        simpa using this, hb3, Nat.lt_of_lt_of_le hlt0 (Nat.le_trans hb2.size ho2.size)⟩
      simp only [memKV, voidV] at hrun
      clear hM2 ho2 hb3 hcnt hcnt2 hb2
      go_wp2
      go_roundw
      case rel => exact HRel.out
      case measure => simp [intOf]; omega
    · have hkn : k = n := by omega
      have hlen := hM.len Tryz.underlying193 3
      have e1 : l.take k = l := List.take_of_length_le (by rw [HL.out]; omega)
      have hcnt := cntA_le (l.map fun x => (([], x.name, x.desc) : Key3))
      rw [e1] at hlen
      have hD : Hid ((((cntA (l.map fun x => (([], x.name, x.desc) : Key3)) : Nat) : Int) == (n : Int)) = decide ((l.map fun x => (([], x.name, x.desc) : Key3)).Nodup)) := Lib.hid (by
        have h1 := cntA_eq (l.map fun x => (([], x.name, x.desc) : Key3))
        rw [List.length_map, HL.out] at h1
        by_cases hd : (l.map fun x => (([], x.name, x.desc) : Key3)).Nodup
        · rw [h1.2 hd, decide_eq_true hd]; simp
        · rw [decide_eq_false hd]
          have : cntA (l.map fun x => (([], x.name, x.desc) : Key3)) ≠ n := fun e => hd (h1.1 e)
          simp
          omega)
      clear hkn e1 hM hcnt
      go_wp2
      go_ret
      exact ⟨ret_bool hD.out, hBw⟩

end Go.Proofs.YtdkkpcbebhgbiaaGreatDoor
