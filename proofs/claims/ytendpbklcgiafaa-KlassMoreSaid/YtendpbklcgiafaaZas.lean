/- The walk over the document's Decode. -/
import Derived.Test.YtendpbklcgiafaaZaq
import Derived.Deep.DeepCutAuto
import Derived.Deep.RegionHeld3
import Derived.IntWalk
import Derived.Test.YtendpbklcgiafaaZao
namespace Go.Proofs.Ytendpbklcgiafaa
set_option maxRecDepth 100000
open Go.RowKit

theorem add_pos (ad : Addr) (j : Nat) (h : j ≠ 0) : ad.add j = ⟨ad.block, ad.off + j, none⟩ := by unfold Addr.add; rw [if_neg h]

/-- Is it of two bytes, of three, by its first one and by how many are left? -/
def two (x l : Nat) : Bool := decide (192 ≤ x ∧ x < 224 ∧ 1 ≤ l)
def three (x l : Nat) : Bool := decide (224 ≤ x ∧ x < 240 ∧ 2 ≤ l)
theorem refV_two (x : UInt8) (t : List UInt8) (h : two x.toNat t.length = true) : refV (x :: t) = (((x.toNat : Int) - 192) * 64 + ((t.getD 0 0).toNat : Int) - 128, 2) := by
  unfold refV
  simp only
  rw [if_pos (by unfold two at h; simpa using h)]
theorem refV_three (x : UInt8) (t : List UInt8) (h0 : two x.toNat t.length = false) (h : three x.toNat t.length = true) : refV (x :: t) = (((x.toNat : Int) - 224) * 4096 + (((t.getD 0 0).toNat : Int) - 128) * 64 + ((t.getD 1 0).toNat : Int) - 128, 3) := by
  unfold refV
  simp only
  rw [if_neg (by unfold two at h0; simpa using h0), if_pos (by unfold three at h; simpa using h)]
theorem refV_one (x : UInt8) (t : List UInt8) (h0 : two x.toNat t.length = false) (h : three x.toNat t.length = false) : refV (x :: t) = ((x.toNat : Int), 1) := by
  unfold refV
  simp only
  rw [if_neg (by unfold two at h0; simpa using h0), if_neg (by unfold three at h; simpa using h)]

/-- Is it none? -/
def badB (v : Int) (m : Nat) (ys : List UInt8) : Bool := !decide (0 ≤ v ∧ v ≤ 65535 ∧ encU v.toNat = ys.take m)
theorem wpList_append_16 {ops : Array Oper} {rest : List Oper} {q : Oper} {u : Act} {w : World} {S : Nat → Prop} {Q : Exit → Act → World → Prop} (hgd : q.guard = none) (s x : Operand) (hq : q.op = .call { callee := .builtin .append, args := #[s, x], argTypes := #[92, 92] })
    (base : Nat) (B : Option Addr) (m0 c0 : Nat) (zs : List Nat) (hs : u.eval s = .slice B m0 c0) (hown : GotR cells16 1 107 base w B m0 c0 zs) (A : Option Addr) (m c : Nat) (l : List Nat)
    (hx : u.eval x = .slice A m c) (hB : RowSl cells16 1 w S A m c l) (hn : A = none → m = 0 ∧ c = 0) (hm : m0 + m ≤ 16777216) (hbase : base ≤ w.heap.size)
    (h : ∀ A' c' w', GotR cells16 1 107 base w' A' (m0 + m) c' (zs ++ l) → w.grownBy w' (Value.slice B m0 c0).ownBlock → (∀ g, (Value.slice B m0 c0).ownBlock = some g → base ≤ g) → wpList Try.prog ops Q rest (u.put q.dst (.slice A' (m0 + m) c')) w') : wpList Try.prog ops Q (q :: rest) u w :=
  wpList_append_rows cells16_len cells16_one (by decide) 92 107 _ 2 Try.underlying92 Try.infoU16 (by simp [Value.cells]) (by decide) hgd s x hq base B m0 c0 zs hs hown A m c l hx hB hn hm hbase (fun A' c' w' h1 h2 h3 _ => h A' c' w' h1 h2 h3)

set_option maxHeartbeats 4000000 in
theorem refDecode_any (A : Option Addr) (n cap : Nat) (xs : List UInt8) (r : Option (List Nat)) (w : World) (hB : ByteSl w Empty A n cap xs) (hr : DecR xs r) (hn : n ≤ 100000) :
    Calls Try.prog 37 #[.slice A n cap] w fun e w' => Decoded w w' r e := by
  have HB := Lib.hid hB
  have HR := Lib.hid hr
  clear hB hr
  go_enter Try.func37, Try.ntmps37
  go_wp2
  go_loopw [4, 5, 6, 7, 8] (fun o i _ _ _ wr => ∃ (Ao : Option Addr) (co k : Nat) (l : List Nat) (r1 : Option (List Nat)), o = .slice Ao l.length co ∧ i = .int .i64 (k : Int) ∧ k ≤ n ∧ l.length ≤ k ∧ Hid (DecR (xs.drop k) r1) ∧ Hid (r = r1.map (l ++ ·)) ∧ Hid (GotR cells16 1 107 w.heap.size wr Ao l.length co l) ∧ Hid (Below w.heap.size w wr)) (fun _ i _ _ _ _ => n - (intOf i).toNat)
  case atStart => exact ⟨none, 0, 0, [], r, rfl, rfl, Nat.zero_le _, Nat.le_refl _, HR, Lib.hid (by simp), Lib.hid (GotR.nil_ _ _ _ _ _), Lib.hid (Below.refl _ _)⟩
  case round =>
    obtain ⟨Ao, co, k, l, r1, rfl, rfl, hk, hlk, HR1, HM, HG, HW⟩ := hrel
    by_cases hlt : k < n
    · obtain ⟨ad, x, rfl, hb, _, hx, hc⟩ := HB.out.at_ hlt
      have hc2 := (HW.out.cell (p := ad.add k) (by rw [addr_add_block]; exact hb)).trans hc
      unfold B8 at hc2
      have hxl := x.toNat_lt
      obtain ⟨t, hxt⟩ : ∃ t, xs.drop k = x :: t := by
        obtain ⟨h1, h2⟩ := List.getElem?_eq_some_iff.1 hx
        exact ⟨_, by rw [List.drop_eq_getElem_cons h1, h2]⟩
      have htl : t.length = n - k - 1 := by
        have := congrArg List.length hxt
        rw [List.length_drop, List.length_cons, HB.out.1] at this
        omega
      have Hxt := Lib.hid hxt
      have Htl := Lib.hid htl
      clear hc hx hxt htl
      go_upto_region 6 with (fail)
      go_cut [31] (fun b wx => b = .bool (two x.toNat t.length) ∧ wx = wr)
      case first =>
        by_cases h1 : 192 ≤ x.toNat
        · have a1 : decide ((x.toNat : Int) ≥ 192) = true := by simp; omega
          by_cases h2 : x.toNat < 224
          · have a2 : decide ((x.toNat : Int) < 224) = true := by simp; omega
            by_cases h3 : k + 1 < n
            · have e : two x.toNat t.length = true := by unfold two; exact decide_eq_true (by have := Htl.out; omega)
              have E := Lib.hid e
              have a3 : decide ((k : Int) + 1 < n) = true := by simp; omega
              clear e
              go_wp2
              go_meet
              exact ⟨by rw [E.out], rfl⟩
            · have e : two x.toNat t.length = false := by unfold two; exact decide_eq_false (by have := Htl.out; omega)
              have E := Lib.hid e
              have a3 : decide ((k : Int) + 1 < n) = false := by simp; omega
              clear e
              go_wp2
              go_meet
              exact ⟨by rw [E.out], rfl⟩
          · have e : two x.toNat t.length = false := by unfold two; exact decide_eq_false (by have := Htl.out; omega)
            have E := Lib.hid e
            have a2 : decide ((x.toNat : Int) < 224) = false := by simp; omega
            clear e
            go_wp2
            go_meet
            exact ⟨by rw [E.out], rfl⟩
        · have e : two x.toNat t.length = false := by unfold two; exact decide_eq_false (by have := Htl.out; omega)
          have E := Lib.hid e
          have a1 : decide ((x.toNat : Int) ≥ 192) = false := by simp; omega
          clear e
          go_wp2
          go_meet
          exact ⟨by rw [E.out], rfl⟩
      case rest =>
        obtain ⟨rfl, rfl⟩ := hcut
        obtain ⟨T, hT⟩ : ∃ T, T = two x.toNat t.length := ⟨_, rfl⟩
        rw [← hT]
        have HT := Lib.hid hT
        clear hT
        obtain ⟨v, m, hvm⟩ : ∃ v m, refV (x :: t) = (v, m) := ⟨_, _, rfl⟩
        have Hvm := Lib.hid hvm
        clear hvm
        go_upto_if 31 with (fail)
        go_cut [7, 8] (fun a b wx => a = .int .i64 v ∧ b = .int .i64 (m : Int) ∧ ∃ q, wx = wc.drewN q)
        case first =>
          cases T with
          | true =>
            have h2 : two x.toNat t.length = true := HT.out.symm
            have hv := refV_two x t h2
            rw [Hvm.out] at hv
            obtain ⟨hv1, rfl⟩ := Prod.mk.inj hv
            have hb2 : 192 ≤ x.toNat ∧ x.toNat < 224 ∧ 1 ≤ t.length := by unfold two at h2; exact of_decide_eq_true h2
            obtain ⟨y, hy⟩ : ∃ y, t[0]? = some y := ⟨_, List.getElem?_eq_getElem (by omega)⟩
            have hyd : t.getD 0 0 = y := by simp [List.getD, hy]
            rw [hyd] at hv1
            have hyl := y.toNat_lt
            have hxy : xs[k + 1]? = some y := by
              have h := congrArg (fun l => l[1]?) Hxt.out
              simpa [hy] using h
            have hcy := (HW.out.cell (p := ad.add (k + 1)) (by rw [addr_add_block]; exact hb)).trans (HB.out.cells_ (by omega) hxy)
            unfold B8 at hcy
            rw [add_pos _ _ (by omega)] at hcy
            have HV1 := Lib.hid hv1
            have hk1 : k + 1 < n := by have := Htl.out; omega
            have hb3 := hb2.1
            have hb4 := hb2.2.1
            clear hv hv1 hb2 hy hyd hxy h2
            go_wp2
            go_meet
            exact ⟨by rw [HV1.out], rfl, 0, rfl⟩
          | false =>
            have h2f : two x.toNat t.length = false := HT.out.symm
            by_cases h3 : three x.toNat t.length = true
            · have hv := refV_three x t h2f h3
              rw [Hvm.out] at hv
              obtain ⟨hv1, rfl⟩ := Prod.mk.inj hv
              have hb2 : 224 ≤ x.toNat ∧ x.toNat < 240 ∧ 2 ≤ t.length := by unfold three at h3; exact of_decide_eq_true h3
              obtain ⟨y, hy⟩ : ∃ y, t[0]? = some y := ⟨_, List.getElem?_eq_getElem (by omega)⟩
              obtain ⟨z, hz⟩ : ∃ z, t[1]? = some z := ⟨_, List.getElem?_eq_getElem (by omega)⟩
              have hyd : t.getD 0 0 = y := by simp [List.getD, hy]
              have hzd : t.getD 1 0 = z := by simp [List.getD, hz]
              rw [hyd, hzd] at hv1
              have hyl := y.toNat_lt
              have hzl := z.toNat_lt
              have hxy : xs[k + 1]? = some y := by
                have h := congrArg (fun l => l[1]?) Hxt.out
                simpa [hy] using h
              have hxz : xs[k + 2]? = some z := by
                have h := congrArg (fun l => l[2]?) Hxt.out
                simpa [hz] using h
              have hcy := (HW.out.cell (p := ad.add (k + 1)) (by rw [addr_add_block]; exact hb)).trans (HB.out.cells_ (by omega) hxy)
              have hcz := (HW.out.cell (p := ad.add (k + 2)) (by rw [addr_add_block]; exact hb)).trans (HB.out.cells_ (by omega) hxz)
              unfold B8 at hcy hcz
              rw [add_pos _ _ (by omega)] at hcy hcz
              have HV1 := Lib.hid hv1
              have hk1 : k + 1 < n := by have := Htl.out; omega
              have hk2 : k + 2 < n := by have := Htl.out; omega
              have a1 : decide ((x.toNat : Int) ≥ 224) = true := by simp; omega
              have a2 : decide ((x.toNat : Int) < 240) = true := by simp; omega
              have a3 : decide ((k : Int) + 2 < n) = true := by simp; omega
              have hb3 := hb2.1
              have hb4 := hb2.2.1
              clear hv hv1 hb2 hy hyd hxy hz hzd hxz h2f h3
              go_wp2
              go_quiet (fail)
              go_wp2
              go_meet
              exact ⟨by rw [HV1.out], rfl, _, rfl⟩
            · have h3f : three x.toNat t.length = false := by rw [Bool.eq_false_iff]; exact h3
              have hv := refV_one x t h2f h3f
              rw [Hvm.out] at hv
              obtain ⟨hv1, rfl⟩ := Prod.mk.inj hv
              have HV1 := Lib.hid hv1
              have hb2 : ¬ (224 ≤ x.toNat ∧ x.toNat < 240 ∧ 2 ≤ t.length) := by unfold three at h3f; exact of_decide_eq_false h3f
              clear hv hv1 h3 h3f h2f
              by_cases h1 : 224 ≤ x.toNat
              · have a1 : decide ((x.toNat : Int) ≥ 224) = true := by simp; omega
                by_cases h5 : x.toNat < 240
                · have a2 : decide ((x.toNat : Int) < 240) = true := by simp; omega
                  have a3 : decide ((k : Int) + 2 < n) = false := by simp; have := Htl.out; omega
                  clear hb2
                  go_wp2
                  go_meet
                  exact ⟨by rw [HV1.out], rfl, 0, rfl⟩
                · have a2 : decide ((x.toNat : Int) < 240) = false := by simp; omega
                  clear hb2
                  go_wp2
                  go_meet
                  exact ⟨by rw [HV1.out], rfl, 0, rfl⟩
              · have a1 : decide ((x.toNat : Int) ≥ 224) = false := by simp; omega
                clear hb2
                go_wp2
                go_meet
                exact ⟨by rw [HV1.out], rfl, 0, rfl⟩
        case rest =>
          obtain ⟨rfl, rfl, q, rfl⟩ := hcut
          have hvl := refV_len (xs.drop k) (by rw [Hxt.out]; simp)
          rw [Hxt.out, Hvm.out] at hvl
          obtain ⟨hm1, hm2, hm3⟩ := hvl
          have hm2 : m ≤ t.length + 1 := hm2
          have hkm : k + m ≤ n := by have := Htl.out; omega
          have hm1 : 1 ≤ m := hm1
          have hm3 : m ≤ 3 := hm3
          have hBw : ByteSl wc Empty (some ad) n cap xs := HB.out.only (Only.of_below (S := Empty) HW.out) (fun _ _ h => h)
          have hnc := HB.out.2.1
          have hcm : cap ≤ 9223372036854775807 := by have := HB.out.2.2.1; unfold maxLen at this; exact this
          have hSl : ByteSl wc Empty (some (ad.add k)) m (cap - k) ((x :: t).take m) := by
            by_cases hk0 : k = 0
            · subst hk0
              have e0 : ad.add 0 = ad := by rcases ad with ⟨b, o, sp⟩; cases sp <;> simp [Addr.add]
              rw [e0, ← Hxt.out, List.drop_zero, Nat.sub_zero]
              exact hBw.take_ m (by omega)
            · rw [← Hxt.out]
              exact (hBw.from_ k hk hk0).take_ m (by omega)
          have HSl := Lib.hid hSl
          clear hm2 hBw hSl hc2
          go_upto_region 12 with (fail)
          have hO0 : Only Empty wc (wc.drewN q) := (Only.refl _ _).drewN q
          go_cut [95] (fun b wx => b = .bool (badB v m (x :: t)) ∧ Only Empty wc wx)
          case first =>
            by_cases h0 : v < 0
            · have E : Hid (badB v m (x :: t) = true) := Lib.hid (by unfold badB; rw [Bool.not_eq_true', decide_eq_false_iff_not]; omega)
              have a1 : decide (v < 0) = true := by simp; omega
              go_wp2
              go_quiet (fail)
              go_wp2
              go_meet
              exact ⟨by rw [E.out], hO0.drewN _⟩
            · by_cases h1 : v > 65535
              · have E : Hid (badB v m (x :: t) = true) := Lib.hid (by unfold badB; rw [Bool.not_eq_true', decide_eq_false_iff_not]; omega)
                have a1 : decide (v < 0) = false := by simp; omega
                have a2 : decide (v > 65535) = true := by simp; omega
                go_wp2
                go_quiet (fail)
                go_wp2
                go_meet
                exact ⟨by rw [E.out], hO0.drewN _⟩
              · obtain ⟨u, rfl⟩ := Int.eq_ofNat_of_zero_le (by omega : 0 ≤ v)
                have hu : u < 65536 := by omega
                have a1 : decide ((u : Int) < 0) = false := by simp
                have a2 : decide ((u : Int) > 65535) = false := by simp; omega
                have E : Hid (badB (u : Int) m (x :: t) = ((strB (encU u)).toList != (strB ((x :: t).take m)).toList)) := Lib.hid (by
                  rw [strB_toList, strB_toList]
                  unfold badB
                  rw [Int.toNat_natCast]
                  by_cases he : encU u = (x :: t).take m
                  · have : decide (0 ≤ (u : Int) ∧ (u : Int) ≤ 65535 ∧ encU u = (x :: t).take m) = true := decide_eq_true ⟨by omega, by omega, he⟩
                    rw [this, he]
                    simp
                  · have : decide (0 ≤ (u : Int) ∧ (u : Int) ≤ 65535 ∧ encU u = (x :: t).take m) = false := decide_eq_false (fun h => he h.2.2)
                    rw [this]
                    simp [bne, he])
                obtain ⟨p1, hp1⟩ : ∃ p1, p1 = strB (encU u) := ⟨_, rfl⟩
                obtain ⟨p2, hp2⟩ : ∃ p2, p2 = strB ((x :: t).take m) := ⟨_, rfl⟩
                rw [← hp1, ← hp2] at E
                have hs0 : (convert 31 9 (.slice (some (ad.add k)) m (cap - k))).run Try.prog (wc.drewN q) = .ok (.string p2) (wc.drewN q) := by
                  rw [hp2]
                  exact conv_bytes (HSl.out.only ((Only.refl Empty wc).drewN q) (fun _ _ h => h))
                have HI : Hid (∀ W, Only Empty wc W → (convert 31 9 (.slice (some (ad.add k)) m (cap - k))).run Try.prog W = .ok (.string p2) W) := Lib.hid (fun W hW => by
                  rw [hp2]
                  exact conv_bytes (HSl.out.only hW (fun _ _ h => h)))
                have HY : Hid (∀ W, Only Empty wc W → Calls Try.prog 47 #[.int .u16 (u : Int)] W fun e W' => (∃ u2, e = .returned u2 ∧ ∀ W2, Only Empty W' W2 → (convert 31 9 u2).run Try.prog W2 = .ok (.string p1) W2) ∧ Only Empty wc W' ∧ Only Empty W W') := Lib.hid (fun W hW =>
                  (refUnit_any u W hu).mono fun e W' ⟨he, hw⟩ => by
                    have hl := ByteSl.lit W Empty (encU u) (sizeU u) (encU_len u) (fun h => h) (by have := sizeU_pos u; unfold maxLen; omega)
                    rw [← hw] at hl
                    have ho : Only Empty W W' := by rw [hw]; exact (Only.refl _ _).alloc _
                    exact ⟨⟨_, he, fun W2 hW2 => by rw [hp1]; exact conv_bytes (hl.only hW2 (fun _ _ h => h))⟩, hW.trans ho, ho⟩)
                have hO1 : Only Empty wc (wc.drewN (q + 1)) := (Only.refl _ _).drewN _
                have hs1 := HI.out _ hO1
                have hck : ¬ cap = k := by omega
                have hi1 : (k : Int) + (m : Int) ≤ (cap : Int) := by omega
                have hi2 : ((k : Int) + (m : Int)).toNat = k + m := by omega
                have hi3 : (k : Int) ≤ (k : Int) + (m : Int) := by omega
                have hi4 : 0 ≤ (k : Int) + (m : Int) := by omega
                have hi5 : IntKind.i64.wrap ((k : Int) + (m : Int)) = (k : Int) + (m : Int) := IntWalk.i64_in _ (by omega)
                have hi6 : IntKind.u16.wrap (u : Int) = (u : Int) := by rw [IntKind.wrap_u16]; omega
                have hi7 : k + m ≤ cap := by omega
                clear h0 h1 hp1 hp2
                go_region_held (fun W => (convert 31 9 (.slice (some (ad.add k)) m (cap - k))).run Try.prog W = .ok (.string p2) W) (first | exact hs0 | exact hs1 | exact hs10)
                  ((go_at_call 47; (with_reducible refine (HY.out _ hO1).mono ?_); rintro e10 w10 ⟨⟨u10, rfl, hcv10⟩, hO10, hP10⟩; have hs10 := HI.out _ hO10; have hc10 := hcv10 _ (Only.refl _ _)))
                all_goals
                  go_wp2
                  go_meet
                  exact ⟨by rw [E.out]; rfl, (by first | exact hO10 | exact hO10.drew)⟩
          case rest =>
            obtain ⟨rfl, hOc⟩ := hcut
            obtain ⟨N, hN⟩ : ∃ N, N = badB v m (x :: t) := ⟨_, rfl⟩
            rw [← hN]
            have HN := Lib.hid hN
            have HWc := Lib.hid (HW.out.trans (hOc.below (B := w.heap.size) HW.out.size (fun _ _ h => h)))
            have HGc := Lib.hid (HG.out.only cells16_len hOc (fun _ _ _ h => h))
            clear hN hOc
            cases N with
            | true =>
              have hb1 : unitF (x :: t) = ((unitF (x :: t)).1, 0) := by
                by_cases h0 : (unitF (x :: t)).2 = 0
                · rw [← h0]
                · have h := unit_refOk _ h0
                  unfold refOk at h
                  rw [Hvm.out] at h
                  have hb := HN.out.symm
                  unfold badB at hb
                  rw [Bool.not_eq_true', decide_eq_false_iff_not] at hb
                  exact absurd h hb
              have hr1 : r1 = none := decR_fun (.bad (by rw [Hxt.out]; simp) (by rw [Hxt.out, hb1])) _ HR1.out
              have hrn : r = none := by rw [HM.out, hr1]; rfl
              have Hrn := Lib.hid hrn
              clear hb1 hr1 hrn
              go_wp2
              go_ret2
              rw [Hrn.out]
              exact ⟨rfl, HWc.out⟩
            | false =>
              have hok : refOk (x :: t) := by
                have hb := HN.out.symm
                unfold badB at hb
                rw [Bool.not_eq_false', decide_eq_true_iff] at hb
                unfold refOk
                rw [Hvm.out]
                exact hb
              have hunit := refOk_unit _ (by simp) hok
              rw [Hvm.out] at hunit
              unfold refOk at hok
              rw [Hvm.out] at hok
              obtain ⟨hv0, hv1, _⟩ := hok
              have hv0 : 0 ≤ v := hv0
              have hv1 : v ≤ 65535 := hv1
              obtain ⟨u, rfl⟩ := Int.eq_ofNat_of_zero_le hv0
              have hunit : unitF (x :: t) = (u, m) := by rw [hunit]; simp
              have hu : u < 65536 := by omega
              obtain ⟨r2, hr2⟩ : ∃ r2, DecR ((x :: t).drop m) r2 := decR_ex _ _ (Nat.le_refl _)
              have hr1 : r1 = r2.map (u :: ·) := by
                have h := DecR.go (b := x :: t) (r := r2) (by rw [hunit]; show m ≠ 0; omega) (by rw [hunit]; exact hr2)
                rw [hunit] at h
                have h3 := HR1.out
                rw [Hxt.out] at h3
                exact decR_fun h _ h3
              have HM2 : Hid (r = r2.map ((l ++ [u]) ++ ·)) := Lib.hid (by
                rw [HM.out, hr1]
                cases r2 with
                | none => rfl
                | some l2 => simp)
              have HR2 : Hid (DecR (xs.drop (k + m)) r2) := Lib.hid (by
                rw [← List.drop_drop, Hxt.out]
                exact hr2)
              have HLt : Hid (RowSl cells16 1 (wc.alloc (.cells #[.int .u16 (u : Int)] 107)) Empty (some ⟨wc.heap.size, 0, none⟩) 1 1 [u]) := Lib.hid (RowSl.lit cells16_len _ _ _ [u] 1 [.int .u16 (u : Int)] rfl rfl (by unfold maxLen; omega) (fun h => h))
              have HG2 := Lib.hid (HGc.out.alloc cells16_len (.cells #[.int .u16 (u : Int)] 107))
              have HW2 := Lib.hid (HWc.out.alloc HWc.out.size (.cells #[.int .u16 (u : Int)] 107))
              obtain ⟨L, hL⟩ : ∃ L, L = l.length := ⟨_, rfl⟩
              rw [← hL] at HGc HG2 hlk ⊢
              have HL := Lib.hid hL
              clear hunit hr2 hr1 hL HG HW HGc HWc
              go_wp2_with (at_builtin; refine wpList_append_16 rfl (.tmp 96) (.tmp 99) rfl w.heap.size Ao L co l rfl HG2.out (some ⟨wc.heap.size, 0, none⟩) 1 1 [u] rfl HLt.out (fun h => by cases h) (by omega) HW2.out.size ?_; intro A' c' w' hg' hgr' hr')
              have HG3 := Lib.hid hg'
              have HW3 := Lib.hid (below_gotR HW2.out HW2.out.size hgr' hr' (Nat.le_refl _))
              clear hg' hgr' hr'
              have hl2 : L + 1 = (l ++ [u]).length := by simp; exact HL.out
              have Hl2 := Lib.hid hl2
              clear hl2
              go_wp2
              go_roundw
              case rel => exact ⟨A', c', k + m, l ++ [u], r2, by rw [← Hl2.out], by go_num, hkm, by rw [← Hl2.out]; omega, HR2, HM2, (by rw [← Hl2.out]; exact HG3), HW3⟩
              case measure => simp [intOf]; omega
    · have hkn : k = n := by omega
      have hr1 : r1 = some [] := decR_fun (by rw [List.drop_of_length_le (by have := HB.out.1; omega)]; exact .nil) _ HR1.out
      have hrn : r = some l := by rw [HM.out, hr1]; simp
      subst hrn
      clear hr1 hkn
      go_wp2
      go_ret2
      exact ⟨⟨_, _, rfl, HG.out.row⟩, HW.out⟩

end Go.Proofs.Ytendpbklcgiafaa

/- Words for the walk over the document's right (layer 11). -/
namespace Go.Proofs.Ytendpbklcgiafaa
set_option maxRecDepth 100000
open Go.RowKit

theorem rightR_no {l : List Cst} {k : Nat} {c : Cst} (hc : l[k]? = some c) (h : headR c = false) : rightR l k = false := by
  unfold rightR
  rw [hc]
  simp only
  rw [h]
  rfl
theorem rightR_yes {l : List Cst} {k : Nat} {c : Cst} (hc : l[k]? = some c) (h : headR c = true) : rightR l k = tailR l k c := by
  unfold rightR
  rw [hc]
  simp only
  rw [h]
  rfl
theorem str_ne (s : List UInt8) (h : s ≠ []) : ¬ (strB s).toList = [] := by
  rw [strB_toList]
  exact h
/-- A place of a pool, as the walks over it want it. -/
structure PlaceC (w : World) (b o n cap k : Nat) (l : List Cst) (c : Cst) : Prop where
  pool : PoolSl w (some ⟨b, o, none⟩) n cap l
  get : l[k]? = some c
  lt : b < w.heap.size
  c0 : w.cell? ⟨b, o + k * 5, none⟩ = some (.int .i64 c.tag)
  c1 : w.cell? ⟨b, o + k * 5 + 1, none⟩ = some (.int .i64 c.a)
  c2 : w.cell? ⟨b, o + k * 5 + 2, none⟩ = some (.int .i64 c.b)
  c3 : w.cell? ⟨b, o + k * 5 + 3, none⟩ = some (.int .i64 c.n)
  c4 : w.cell? ⟨b, o + k * 5 + 4, none⟩ = some (.string (strB c.s))
  hn : n ≤ 1000000
  hk : k < n
  ok : c.ok
  short : c.s.length ≤ 100000
theorem decode_c (s : List UInt8) (hs : s.length ≤ 100000) (A : Option Addr) (cap : Nat) (W : World) (hB : ByteSl W Empty A s.length cap s) :
    Calls Try.prog 37 #[.slice A s.length cap] W fun e w' => ∃ u, e = .returned (.tuple #[u, .int .i64 (if (decF s).isSome = true then 0 else 8)]) ∧ Below W.heap.size W w' :=
  (refDecode_any A s.length cap s _ W hB (decF_is s) hs).mono fun e w' h => by
    unfold Decoded at h
    cases hd : decF s with
    | none => rw [hd] at h; exact ⟨_, h.1, h.2⟩
    | some t =>
      rw [hd] at h
      obtain ⟨⟨A, c, he, _⟩, hb⟩ := h
      exact ⟨_, he, hb⟩

end Go.Proofs.Ytendpbklcgiafaa

/- The document's right (layer 11), a tag at a time. -/
namespace Go.Proofs.Ytendpbklcgiafaa
set_option maxRecDepth 100000
open Go.RowKit

set_option maxHeartbeats 1000000 in
theorem refright_1 (n cap k : Nat) (l : List Cst) (w : World) (b o : Nat) (a b' nn : Int) (s : List UInt8) (H : PlaceC w b o n cap k l ⟨1, a, b', nn, s⟩) :
    Calls Try.prog 21 #[.slice (some ⟨b, o, none⟩) n cap, .int .i64 (k : Int)] w fun e w' => e = .returned (.bool (rightR l k)) ∧ Below w.heap.size w w' := by
  obtain ⟨hP, hc, hb, h0, h1, h2, h3, h4, hn, hk, hok, hcs⟩ := H
  have hcn := hok.n
  simp only at h0 h1 h2 h3 h4 hcs hcn
  have CI : Hid (∀ p t W, Below w.heap.size w W → Calls Try.prog 38 #[.slice (some ⟨b, o, none⟩) n cap, .int .i64 p, .int .i64 t] W fun e w' => e = .returned (.bool (isF l p t)) ∧ W = w') := Lib.hid (fun p t W h => is_any _ n cap l p t W (hP.below h) hn)
  have HB0 : Hid (∀ o', Below w.heap.size w (w.alloc o')) := Lib.hid (fun o' => (Below.refl _ _).alloc (Nat.le_refl _) o')
  have HP := Lib.hid hP
  have Hok := Lib.hid hok
  clear hP hok
  by_cases xN : nn = 0
  case neg =>
    have HE : Hid (rightR l k = false) := Lib.hid (rightR_no hc (by unfold headR; exact decide_eq_false (by simp [xN])))
    have hq : (nn == 0) = false := by simpa using xN
    have hq2 : (nn != 0) = true := by simpa using xN
    clear hc xN
    go_enter Try.func21, Try.ntmps21
    go_wp2
    go_ret
    exact ⟨by rw [HE.out]; rfl, HB0.out _⟩
  subst xN
  by_cases xB : b' = 0
  case neg =>
    have HE : Hid (rightR l k = false) := Lib.hid (rightR_no hc (by unfold headR; exact decide_eq_false (by simp [xB])))
    have hq : (b' == 0) = false := by simpa using xB
    have hq2 : (b' != 0) = true := by simpa using xB
    clear hc xB
    go_enter Try.func21, Try.ntmps21
    go_wp2
    go_ret
    exact ⟨by rw [HE.out]; rfl, HB0.out _⟩
  subst xB
  by_cases xA : a = 0
  case neg =>
    have HE : Hid (rightR l k = false) := Lib.hid (rightR_no hc (by unfold headR; exact decide_eq_false (by simp [xA])))
    have hq : (a == 0) = false := by simpa using xA
    have hq2 : (a != 0) = true := by simpa using xA
    clear hc xA
    go_enter Try.func21, Try.ntmps21
    go_wp2
    go_ret
    exact ⟨by rw [HE.out]; rfl, HB0.out _⟩
  subst xA
  have HE0 := rightR_yes hc (by unfold headR; exact decide_eq_true (by simp))
  have HE : Hid (rightR l k = (decide (s.length ≤ 65535) && (decF s).isSome)) := Lib.hid HE0
  have hsz : (strB s).size = s.length := strB_size s
  have HB0' : Hid (∀ o' W, Below (w.alloc o').heap.size (w.alloc o') W → Below w.heap.size w W) := Lib.hid (fun o' W h => (HB0.out o').trans (h.mono (HB0.out o').size))
  obtain ⟨m, hm⟩ : ∃ m, s.length = m := ⟨_, rfl⟩
  have CV := Lib.hid (fun W => conv_str s m hm (by omega) W)
  have CD : Hid (∀ A cap W, ByteSl W Empty A m cap s → Calls Try.prog 37 #[.slice A m cap] W fun e w' => ∃ u, e = .returned (.tuple #[u, .int .i64 (if (decF s).isSome = true then 0 else 8)]) ∧ Below W.heap.size W w') := Lib.hid (fun A cap W hB => by
    have := decode_c s (by omega) A cap W (by rw [hm]; exact hB)
    rwa [hm] at this)
  rw [hm] at hsz HE
  obtain ⟨cp, w1, hcv, hb1, hB1⟩ := CV.out (w.alloc (.cells #[.int .i64 1, .int .i64 0, .int .i64 0, .int .i64 0, .string (strB s)] 30))
  have hh : (w.alloc (.cells #[.int .i64 1, .int .i64 0, .int .i64 0, .int .i64 0, .string (strB s)] 30)).heap.size = w.heap.size + 1 := by simp
  have hk1 : w1.cell? ⟨w.heap.size, 4, none⟩ = some (.string (strB s)) := (((Blk.new w 30 #[.int .i64 1, .int .i64 0, .int .i64 0, .int .i64 0, .string (strB s)]).of (hb1.block _ (by simp))).cell 4)
  have HK1 : Hid (Blk w1 w.heap.size 30 #[.int .i64 1, .int .i64 0, .int .i64 0, .int .i64 0, .string (strB s)]) := Lib.hid ((Blk.new w 30 #[.int .i64 1, .int .i64 0, .int .i64 0, .int .i64 0, .string (strB s)]).of (hb1.block _ (by simp)))
  have HB1 := Lib.hid (HB0'.out _ _ hb1)
  have CD1 := Lib.hid (CD.out _ _ _ hB1)
  rw [hh] at hcv CD1
  clear hc hm hb1 hB1 hh HE0 hcs
  go_enter Try.func21, Try.ntmps21
  go_wp2_with fail
  refine CD1.out.mono ?_
  rintro e w2 ⟨u, rfl, hb2⟩
  have HB2 := Lib.hid (HB1.out.trans (hb2.mono HB1.out.size))
  have hk2 : w2.cell? ⟨w.heap.size, 4, none⟩ = some (.string (strB s)) := (HK1.out.of (hb2.block _ (HK1.out.lt))).cell 4
  clear hb2 hk1
  cases hD : (decF s).isSome with
  | true =>
    rw [hD, Bool.and_true] at HE
    simp only [if_true]
    by_cases hle : m ≤ 65535
    · have hd : decide ((m : Int) ≤ 65535) = true := decide_eq_true (by omega)
      have HF : Hid (rightR l k = true) := Lib.hid (by rw [HE.out, decide_eq_true hle])
      clear hle
      go_wp2
      go_ret
      exact ⟨by rw [HF.out]; rfl, HB2.out⟩
    · have hd : decide ((m : Int) ≤ 65535) = false := decide_eq_false (by omega)
      have HF : Hid (rightR l k = false) := Lib.hid (by rw [HE.out, decide_eq_false hle])
      clear hle
      go_wp2
      go_ret
      exact ⟨by rw [HF.out]; rfl, HB2.out⟩
  | false =>
    rw [hD, Bool.and_false] at HE
    simp only [Bool.false_eq_true, if_false]
    go_wp2
    go_ret
    exact ⟨by rw [HE.out]; rfl, HB2.out⟩

set_option maxHeartbeats 1000000 in
theorem refright_3 (n cap k : Nat) (l : List Cst) (w : World) (b o : Nat) (a b' nn : Int) (s : List UInt8) (H : PlaceC w b o n cap k l ⟨3, a, b', nn, s⟩) :
    Calls Try.prog 21 #[.slice (some ⟨b, o, none⟩) n cap, .int .i64 (k : Int)] w fun e w' => e = .returned (.bool (rightR l k)) ∧ Below w.heap.size w w' := by
  obtain ⟨hP, hc, hb, h0, h1, h2, h3, h4, hn, hk, hok, hcs⟩ := H
  have hcn := hok.n
  simp only at h0 h1 h2 h3 h4 hcs hcn
  have CI : Hid (∀ p t W, Below w.heap.size w W → Calls Try.prog 38 #[.slice (some ⟨b, o, none⟩) n cap, .int .i64 p, .int .i64 t] W fun e w' => e = .returned (.bool (isF l p t)) ∧ W = w') := Lib.hid (fun p t W h => is_any _ n cap l p t W (hP.below h) hn)
  have HB0 : Hid (∀ o', Below w.heap.size w (w.alloc o')) := Lib.hid (fun o' => (Below.refl _ _).alloc (Nat.le_refl _) o')
  have HP := Lib.hid hP
  have Hok := Lib.hid hok
  clear hP hok
  by_cases xS : s = []
  case neg =>
    have HE : Hid (rightR l k = false) := Lib.hid (rightR_no hc (by unfold headR; exact decide_eq_false (by simp [xS])))
    have hq := str_ne s xS
    clear hc xS
    go_enter Try.func21, Try.ntmps21
    go_wp2
    go_ret
    exact ⟨by rw [HE.out]; rfl, HB0.out _⟩
  subst xS
  have hS0 : (strB []).toList = [] := strB_toList []
  by_cases xB : b' = 0
  case neg =>
    have HE : Hid (rightR l k = false) := Lib.hid (rightR_no hc (by unfold headR; exact decide_eq_false (by simp [xB])))
    have hq : (b' == 0) = false := by simpa using xB
    have hq2 : (b' != 0) = true := by simpa using xB
    clear hc xB
    go_enter Try.func21, Try.ntmps21
    go_wp2
    go_ret
    exact ⟨by rw [HE.out]; rfl, HB0.out _⟩
  subst xB
  by_cases xA : a = 0
  case neg =>
    have HE : Hid (rightR l k = false) := Lib.hid (rightR_no hc (by unfold headR; exact decide_eq_false (by simp [xA])))
    have hq : (a == 0) = false := by simpa using xA
    have hq2 : (a != 0) = true := by simpa using xA
    clear hc xA
    go_enter Try.func21, Try.ntmps21
    go_wp2
    go_ret
    exact ⟨by rw [HE.out]; rfl, HB0.out _⟩
  subst xA
  have HE0 := rightR_yes hc (by unfold headR; exact decide_eq_true (by simp))
  have HE : Hid (rightR l k = (nn == wrap64 (wrap32 nn))) := Lib.hid (by
    rw [HE0, show wrap64 (wrap32 nn) = wrap32 nn by unfold wrap64 wrap32; omega]
    rfl)
  clear hc HE0
  go_enter Try.func21, Try.ntmps21
  go_wp2
  go_ret
  exact ⟨by rw [HE.out]; rfl, HB0.out _⟩

end Go.Proofs.Ytendpbklcgiafaa

/- The document's right (layer 11), a tag at a time. -/
namespace Go.Proofs.Ytendpbklcgiafaa
set_option maxRecDepth 100000
open Go.RowKit

set_option maxHeartbeats 1000000 in
theorem refright_7 (n cap k : Nat) (l : List Cst) (w : World) (b o : Nat) (a b' nn : Int) (s : List UInt8) (H : PlaceC w b o n cap k l ⟨7, a, b', nn, s⟩) :
    Calls Try.prog 21 #[.slice (some ⟨b, o, none⟩) n cap, .int .i64 (k : Int)] w fun e w' => e = .returned (.bool (rightR l k)) ∧ Below w.heap.size w w' := by
  obtain ⟨hP, hc, hb, h0, h1, h2, h3, h4, hn, hk, hok, hcs⟩ := H
  have hcn := hok.n
  simp only at h0 h1 h2 h3 h4 hcs hcn
  have CI : Hid (∀ p t W, Below w.heap.size w W → Calls Try.prog 38 #[.slice (some ⟨b, o, none⟩) n cap, .int .i64 p, .int .i64 t] W fun e w' => e = .returned (.bool (isF l p t)) ∧ W = w') := Lib.hid (fun p t W h => is_any _ n cap l p t W (hP.below h) hn)
  have HB0 : Hid (∀ o', Below w.heap.size w (w.alloc o')) := Lib.hid (fun o' => (Below.refl _ _).alloc (Nat.le_refl _) o')
  have HP := Lib.hid hP
  have Hok := Lib.hid hok
  clear hP hok
  by_cases xS : s = []
  case neg =>
    have HE : Hid (rightR l k = false) := Lib.hid (rightR_no hc (by unfold headR; exact decide_eq_false (by simp [xS])))
    have hq := str_ne s xS
    clear hc xS
    go_enter Try.func21, Try.ntmps21
    go_wp2
    go_ret
    exact ⟨by rw [HE.out]; rfl, HB0.out _⟩
  subst xS
  have hS0 : (strB []).toList = [] := strB_toList []
  by_cases xN : nn = 0
  case neg =>
    have HE : Hid (rightR l k = false) := Lib.hid (rightR_no hc (by unfold headR; exact decide_eq_false (by simp [xN])))
    have hq : (nn == 0) = false := by simpa using xN
    have hq2 : (nn != 0) = true := by simpa using xN
    clear hc xN
    go_enter Try.func21, Try.ntmps21
    go_wp2
    go_ret
    exact ⟨by rw [HE.out]; rfl, HB0.out _⟩
  subst xN
  by_cases xB : b' = 0
  case neg =>
    have HE : Hid (rightR l k = false) := Lib.hid (rightR_no hc (by unfold headR; exact decide_eq_false (by simp [xB])))
    have hq : (b' == 0) = false := by simpa using xB
    have hq2 : (b' != 0) = true := by simpa using xB
    clear hc xB
    go_enter Try.func21, Try.ntmps21
    go_wp2
    go_ret
    exact ⟨by rw [HE.out]; rfl, HB0.out _⟩
  subst xB
  have HE0 := rightR_yes hc (by unfold headR; exact decide_eq_true (by simp))
  have HE : Hid (rightR l k = isF l a 1) := Lib.hid HE0
  clear hc HE0
  go_enter Try.func21, Try.ntmps21
  go_wp2_with fail
  refine (CI.out _ _ _ (HB0.out _)).mono ?_
  rintro e w2 ⟨rfl, rfl⟩
  go_wp2
  go_ret
  exact ⟨by rw [HE.out]; rfl, HB0.out _⟩

set_option maxHeartbeats 1000000 in
theorem refright_8 (n cap k : Nat) (l : List Cst) (w : World) (b o : Nat) (a b' nn : Int) (s : List UInt8) (H : PlaceC w b o n cap k l ⟨8, a, b', nn, s⟩) :
    Calls Try.prog 21 #[.slice (some ⟨b, o, none⟩) n cap, .int .i64 (k : Int)] w fun e w' => e = .returned (.bool (rightR l k)) ∧ Below w.heap.size w w' := by
  obtain ⟨hP, hc, hb, h0, h1, h2, h3, h4, hn, hk, hok, hcs⟩ := H
  have hcn := hok.n
  simp only at h0 h1 h2 h3 h4 hcs hcn
  have CI : Hid (∀ p t W, Below w.heap.size w W → Calls Try.prog 38 #[.slice (some ⟨b, o, none⟩) n cap, .int .i64 p, .int .i64 t] W fun e w' => e = .returned (.bool (isF l p t)) ∧ W = w') := Lib.hid (fun p t W h => is_any _ n cap l p t W (hP.below h) hn)
  have HB0 : Hid (∀ o', Below w.heap.size w (w.alloc o')) := Lib.hid (fun o' => (Below.refl _ _).alloc (Nat.le_refl _) o')
  have HP := Lib.hid hP
  have Hok := Lib.hid hok
  clear hP hok
  by_cases xS : s = []
  case neg =>
    have HE : Hid (rightR l k = false) := Lib.hid (rightR_no hc (by unfold headR; exact decide_eq_false (by simp [xS])))
    have hq := str_ne s xS
    clear hc xS
    go_enter Try.func21, Try.ntmps21
    go_wp2
    go_ret
    exact ⟨by rw [HE.out]; rfl, HB0.out _⟩
  subst xS
  have hS0 : (strB []).toList = [] := strB_toList []
  by_cases xN : nn = 0
  case neg =>
    have HE : Hid (rightR l k = false) := Lib.hid (rightR_no hc (by unfold headR; exact decide_eq_false (by simp [xN])))
    have hq : (nn == 0) = false := by simpa using xN
    have hq2 : (nn != 0) = true := by simpa using xN
    clear hc xN
    go_enter Try.func21, Try.ntmps21
    go_wp2
    go_ret
    exact ⟨by rw [HE.out]; rfl, HB0.out _⟩
  subst xN
  by_cases xB : b' = 0
  case neg =>
    have HE : Hid (rightR l k = false) := Lib.hid (rightR_no hc (by unfold headR; exact decide_eq_false (by simp [xB])))
    have hq : (b' == 0) = false := by simpa using xB
    have hq2 : (b' != 0) = true := by simpa using xB
    clear hc xB
    go_enter Try.func21, Try.ntmps21
    go_wp2
    go_ret
    exact ⟨by rw [HE.out]; rfl, HB0.out _⟩
  subst xB
  have HE0 := rightR_yes hc (by unfold headR; exact decide_eq_true (by simp))
  have HE : Hid (rightR l k = isF l a 1) := Lib.hid HE0
  clear hc HE0
  go_enter Try.func21, Try.ntmps21
  go_wp2_with fail
  refine (CI.out _ _ _ (HB0.out _)).mono ?_
  rintro e w2 ⟨rfl, rfl⟩
  go_wp2
  go_ret
  exact ⟨by rw [HE.out]; rfl, HB0.out _⟩

set_option maxHeartbeats 1000000 in
theorem refright_0 (n cap k : Nat) (l : List Cst) (w : World) (b o : Nat) (a b' nn : Int) (s : List UInt8) (H : PlaceC w b o n cap k l ⟨0, a, b', nn, s⟩) :
    Calls Try.prog 21 #[.slice (some ⟨b, o, none⟩) n cap, .int .i64 (k : Int)] w fun e w' => e = .returned (.bool (rightR l k)) ∧ Below w.heap.size w w' := by
  obtain ⟨hP, hc, hb, h0, h1, h2, h3, h4, hn, hk, hok, hcs⟩ := H
  have hcn := hok.n
  simp only at h0 h1 h2 h3 h4 hcs hcn
  have CI : Hid (∀ p t W, Below w.heap.size w W → Calls Try.prog 38 #[.slice (some ⟨b, o, none⟩) n cap, .int .i64 p, .int .i64 t] W fun e w' => e = .returned (.bool (isF l p t)) ∧ W = w') := Lib.hid (fun p t W h => is_any _ n cap l p t W (hP.below h) hn)
  have HB0 : Hid (∀ o', Below w.heap.size w (w.alloc o')) := Lib.hid (fun o' => (Below.refl _ _).alloc (Nat.le_refl _) o')
  have HP := Lib.hid hP
  have Hok := Lib.hid hok
  clear hP hok
  by_cases xS : s = []
  case neg =>
    have HE : Hid (rightR l k = false) := Lib.hid (rightR_no hc (by unfold headR; exact decide_eq_false (by simp [xS])))
    have hq := str_ne s xS
    clear hc xS
    go_enter Try.func21, Try.ntmps21
    go_wp2
    go_ret
    exact ⟨by rw [HE.out]; rfl, HB0.out _⟩
  subst xS
  have hS0 : (strB []).toList = [] := strB_toList []
  by_cases xN : nn = 0
  case neg =>
    have HE : Hid (rightR l k = false) := Lib.hid (rightR_no hc (by unfold headR; exact decide_eq_false (by simp [xN])))
    have hq : (nn == 0) = false := by simpa using xN
    have hq2 : (nn != 0) = true := by simpa using xN
    clear hc xN
    go_enter Try.func21, Try.ntmps21
    go_wp2
    go_ret
    exact ⟨by rw [HE.out]; rfl, HB0.out _⟩
  subst xN
  by_cases xB : b' = 0
  case neg =>
    have HE : Hid (rightR l k = false) := Lib.hid (rightR_no hc (by unfold headR; exact decide_eq_false (by simp [xB])))
    have hq : (b' == 0) = false := by simpa using xB
    have hq2 : (b' != 0) = true := by simpa using xB
    clear hc xB
    go_enter Try.func21, Try.ntmps21
    go_wp2
    go_ret
    exact ⟨by rw [HE.out]; rfl, HB0.out _⟩
  subst xB
  by_cases xA : a = 0
  case neg =>
    have HE : Hid (rightR l k = false) := Lib.hid (rightR_no hc (by unfold headR; exact decide_eq_false (by simp [xA])))
    have hq : (a == 0) = false := by simpa using xA
    have hq2 : (a != 0) = true := by simpa using xA
    clear hc xA
    go_enter Try.func21, Try.ntmps21
    go_wp2
    go_ret
    exact ⟨by rw [HE.out]; rfl, HB0.out _⟩
  subst xA
  have HE0 := rightR_yes hc (by unfold headR; exact decide_eq_true (by simp))
  have HE1 : rightR l k = decide (k = 0 ∨ (l[k - 1]?.map (·.tag)) = some 5) := HE0
  by_cases hk0 : k = 0
  case pos =>
    subst hk0
    have HE : Hid (rightR l 0 = true) := Lib.hid (by rw [HE1]; simp)
    rw [Nat.zero_mul, Nat.add_zero] at h0 h1 h2 h3 h4
    clear hc HE0 HE1
    go_enter Try.func21, Try.ntmps21
    go_wp2
    go_ret
    exact ⟨by rw [HE.out]; rfl, HB0.out _⟩
  case neg =>
    obtain ⟨b2, o2, d, hA, hd, _, g0, -⟩ := pool_at HP.out (show k - 1 < n by omega)
    obtain ⟨rfl, rfl⟩ : b = b2 ∧ o = o2 := by simpa using hA
    have HE : Hid (rightR l k = (d.tag == 5)) := Lib.hid (by
      rw [HE1, hd, Bool.eq_iff_iff]
      simp [hk0])
    have hq0 : ((k : Int) == 0) = false := by simpa using hk0
    have hkt : ((k : Int) - 1).toNat = k - 1 := by omega
    clear hc HE0 HE1 hd hA
    go_enter Try.func21, Try.ntmps21
    go_wp2
    go_ret
    exact ⟨by rw [HE.out]; rfl, HB0.out _⟩

end Go.Proofs.Ytendpbklcgiafaa

/- The document's right (layer 11), a tag at a time. -/
namespace Go.Proofs.Ytendpbklcgiafaa
set_option maxRecDepth 100000
open Go.RowKit

set_option maxHeartbeats 1000000 in
theorem refright_9 (n cap k : Nat) (l : List Cst) (w : World) (b o : Nat) (a b' nn : Int) (s : List UInt8) (H : PlaceC w b o n cap k l ⟨9, a, b', nn, s⟩) :
    Calls Try.prog 21 #[.slice (some ⟨b, o, none⟩) n cap, .int .i64 (k : Int)] w fun e w' => e = .returned (.bool (rightR l k)) ∧ Below w.heap.size w w' := by
  obtain ⟨hP, hc, hb, h0, h1, h2, h3, h4, hn, hk, hok, hcs⟩ := H
  have hcn := hok.n
  simp only at h0 h1 h2 h3 h4 hcs hcn
  have CI : Hid (∀ p t W, Below w.heap.size w W → Calls Try.prog 38 #[.slice (some ⟨b, o, none⟩) n cap, .int .i64 p, .int .i64 t] W fun e w' => e = .returned (.bool (isF l p t)) ∧ W = w') := Lib.hid (fun p t W h => is_any _ n cap l p t W (hP.below h) hn)
  have HB0 : Hid (∀ o', Below w.heap.size w (w.alloc o')) := Lib.hid (fun o' => (Below.refl _ _).alloc (Nat.le_refl _) o')
  have HP := Lib.hid hP
  have Hok := Lib.hid hok
  clear hP hok
  by_cases xS : s = []
  case neg =>
    have HE : Hid (rightR l k = false) := Lib.hid (rightR_no hc (by unfold headR; exact decide_eq_false (by simp [xS])))
    have hq := str_ne s xS
    clear hc xS
    go_enter Try.func21, Try.ntmps21
    go_wp2
    go_ret
    exact ⟨by rw [HE.out]; rfl, HB0.out _⟩
  subst xS
  have hS0 : (strB []).toList = [] := strB_toList []
  by_cases xN : nn = 0
  case neg =>
    have HE : Hid (rightR l k = false) := Lib.hid (rightR_no hc (by unfold headR; exact decide_eq_false (by simp [xN])))
    have hq : (nn == 0) = false := by simpa using xN
    have hq2 : (nn != 0) = true := by simpa using xN
    clear hc xN
    go_enter Try.func21, Try.ntmps21
    go_wp2
    go_ret
    exact ⟨by rw [HE.out]; rfl, HB0.out _⟩
  subst xN
  have HE0 := rightR_yes hc (by unfold headR; exact decide_eq_true (by simp))
  have HE : Hid (rightR l k = (isF l a 7 && isF l b' 12)) := Lib.hid HE0
  clear hc HE0
  obtain ⟨X, hX⟩ : ∃ X, isF l a 7 = X := ⟨_, rfl⟩
  have CX := CI.out a 7
  rw [hX] at CX HE
  have CX := Lib.hid CX
  clear hX
  go_enter Try.func21, Try.ntmps21
  go_wp2_with fail
  refine (CX.out _ (HB0.out _)).mono ?_
  rintro e w2 ⟨rfl, rfl⟩
  cases X with
  | true =>
    go_wp2_with fail
    refine (CI.out _ _ _ (HB0.out _)).mono ?_
    rintro e w2 ⟨rfl, rfl⟩
    go_wp2
    go_ret
    exact ⟨by rw [HE.out]; rfl, HB0.out _⟩
  | false =>
    go_wp2
    go_ret
    exact ⟨by rw [HE.out]; rfl, HB0.out _⟩

set_option maxHeartbeats 1000000 in
theorem refright_10 (n cap k : Nat) (l : List Cst) (w : World) (b o : Nat) (a b' nn : Int) (s : List UInt8) (H : PlaceC w b o n cap k l ⟨10, a, b', nn, s⟩) :
    Calls Try.prog 21 #[.slice (some ⟨b, o, none⟩) n cap, .int .i64 (k : Int)] w fun e w' => e = .returned (.bool (rightR l k)) ∧ Below w.heap.size w w' := by
  obtain ⟨hP, hc, hb, h0, h1, h2, h3, h4, hn, hk, hok, hcs⟩ := H
  have hcn := hok.n
  simp only at h0 h1 h2 h3 h4 hcs hcn
  have CI : Hid (∀ p t W, Below w.heap.size w W → Calls Try.prog 38 #[.slice (some ⟨b, o, none⟩) n cap, .int .i64 p, .int .i64 t] W fun e w' => e = .returned (.bool (isF l p t)) ∧ W = w') := Lib.hid (fun p t W h => is_any _ n cap l p t W (hP.below h) hn)
  have HB0 : Hid (∀ o', Below w.heap.size w (w.alloc o')) := Lib.hid (fun o' => (Below.refl _ _).alloc (Nat.le_refl _) o')
  have HP := Lib.hid hP
  have Hok := Lib.hid hok
  clear hP hok
  by_cases xS : s = []
  case neg =>
    have HE : Hid (rightR l k = false) := Lib.hid (rightR_no hc (by unfold headR; exact decide_eq_false (by simp [xS])))
    have hq := str_ne s xS
    clear hc xS
    go_enter Try.func21, Try.ntmps21
    go_wp2
    go_ret
    exact ⟨by rw [HE.out]; rfl, HB0.out _⟩
  subst xS
  have hS0 : (strB []).toList = [] := strB_toList []
  by_cases xN : nn = 0
  case neg =>
    have HE : Hid (rightR l k = false) := Lib.hid (rightR_no hc (by unfold headR; exact decide_eq_false (by simp [xN])))
    have hq : (nn == 0) = false := by simpa using xN
    have hq2 : (nn != 0) = true := by simpa using xN
    clear hc xN
    go_enter Try.func21, Try.ntmps21
    go_wp2
    go_ret
    exact ⟨by rw [HE.out]; rfl, HB0.out _⟩
  subst xN
  have HE0 := rightR_yes hc (by unfold headR; exact decide_eq_true (by simp))
  have HE : Hid (rightR l k = (isF l a 7 && isF l b' 12)) := Lib.hid HE0
  clear hc HE0
  obtain ⟨X, hX⟩ : ∃ X, isF l a 7 = X := ⟨_, rfl⟩
  have CX := CI.out a 7
  rw [hX] at CX HE
  have CX := Lib.hid CX
  clear hX
  go_enter Try.func21, Try.ntmps21
  go_wp2_with fail
  refine (CX.out _ (HB0.out _)).mono ?_
  rintro e w2 ⟨rfl, rfl⟩
  cases X with
  | true =>
    go_wp2_with fail
    refine (CI.out _ _ _ (HB0.out _)).mono ?_
    rintro e w2 ⟨rfl, rfl⟩
    go_wp2
    go_ret
    exact ⟨by rw [HE.out]; rfl, HB0.out _⟩
  | false =>
    go_wp2
    go_ret
    exact ⟨by rw [HE.out]; rfl, HB0.out _⟩

set_option maxHeartbeats 1000000 in
theorem refright_12 (n cap k : Nat) (l : List Cst) (w : World) (b o : Nat) (a b' nn : Int) (s : List UInt8) (H : PlaceC w b o n cap k l ⟨12, a, b', nn, s⟩) :
    Calls Try.prog 21 #[.slice (some ⟨b, o, none⟩) n cap, .int .i64 (k : Int)] w fun e w' => e = .returned (.bool (rightR l k)) ∧ Below w.heap.size w w' := by
  obtain ⟨hP, hc, hb, h0, h1, h2, h3, h4, hn, hk, hok, hcs⟩ := H
  have hcn := hok.n
  simp only at h0 h1 h2 h3 h4 hcs hcn
  have CI : Hid (∀ p t W, Below w.heap.size w W → Calls Try.prog 38 #[.slice (some ⟨b, o, none⟩) n cap, .int .i64 p, .int .i64 t] W fun e w' => e = .returned (.bool (isF l p t)) ∧ W = w') := Lib.hid (fun p t W h => is_any _ n cap l p t W (hP.below h) hn)
  have HB0 : Hid (∀ o', Below w.heap.size w (w.alloc o')) := Lib.hid (fun o' => (Below.refl _ _).alloc (Nat.le_refl _) o')
  have HP := Lib.hid hP
  have Hok := Lib.hid hok
  clear hP hok
  by_cases xS : s = []
  case neg =>
    have HE : Hid (rightR l k = false) := Lib.hid (rightR_no hc (by unfold headR; exact decide_eq_false (by simp [xS])))
    have hq := str_ne s xS
    clear hc xS
    go_enter Try.func21, Try.ntmps21
    go_wp2
    go_ret
    exact ⟨by rw [HE.out]; rfl, HB0.out _⟩
  subst xS
  have hS0 : (strB []).toList = [] := strB_toList []
  by_cases xN : nn = 0
  case neg =>
    have HE : Hid (rightR l k = false) := Lib.hid (rightR_no hc (by unfold headR; exact decide_eq_false (by simp [xN])))
    have hq : (nn == 0) = false := by simpa using xN
    have hq2 : (nn != 0) = true := by simpa using xN
    clear hc xN
    go_enter Try.func21, Try.ntmps21
    go_wp2
    go_ret
    exact ⟨by rw [HE.out]; rfl, HB0.out _⟩
  subst xN
  have HE0 := rightR_yes hc (by unfold headR; exact decide_eq_true (by simp))
  have HE : Hid (rightR l k = (isF l a 1 && isF l b' 1)) := Lib.hid HE0
  clear hc HE0
  obtain ⟨X, hX⟩ : ∃ X, isF l a 1 = X := ⟨_, rfl⟩
  have CX := CI.out a 1
  rw [hX] at CX HE
  have CX := Lib.hid CX
  clear hX
  go_enter Try.func21, Try.ntmps21
  go_wp2_with fail
  refine (CX.out _ (HB0.out _)).mono ?_
  rintro e w2 ⟨rfl, rfl⟩
  cases X with
  | true =>
    go_wp2_with fail
    refine (CI.out _ _ _ (HB0.out _)).mono ?_
    rintro e w2 ⟨rfl, rfl⟩
    go_wp2
    go_ret
    exact ⟨by rw [HE.out]; rfl, HB0.out _⟩
  | false =>
    go_wp2
    go_ret
    exact ⟨by rw [HE.out]; rfl, HB0.out _⟩

end Go.Proofs.Ytendpbklcgiafaa
