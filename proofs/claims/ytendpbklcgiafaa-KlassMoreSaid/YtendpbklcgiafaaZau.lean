/- The walk over klass's row, of a writer. -/
import Derived.Test.YtendpbklcgiafaaZar
namespace Go.Proofs.Ytendpbklcgiafaa
set_option maxRecDepth 100000
open Go.RowKit

set_option maxHeartbeats 4000000 in
theorem kRowTrap_wr {α : Type} {c : Cx} (hm : c.m = .wr) (most : Nat) (hmost : most ≤ 255) (mostV : Int) (hmv : mostV = (most : Int)) {K : Nat} {R : RepT α} {e : Enc α} {cost : Nat} {blank : List Value → α → Prop} (hI : Item c K R e cost blank) (hk : R.k = 4) (hu : Uniq e) (hcost : cost ≤ 1000000)
    (eK : ∀ (args : Array Value) (W : World), (callFunc K args).run Try.prog W = .ok (.enter K args) W)
    (w : World) (g : Nat) (S : Nat → Prop) (N : Nat) (s : Option (List UInt8)) (b off : Nat) (A : Option Addr) (n cap : Nat) (l : List α) (hP : PassAt c w g S N s) (hN : N + (2 + most * cost) ≤ 16000000) (hb : ¬ S b) (hT : Tgt c w b off [.slice A n cap]) (hL : RowS R w (Zs c S b) A n cap l) :
    Calls Try.prog 55 #[c.m.v g, .pointer (some ⟨b, off, none⟩), .int .i64 mostV, .func (.func K) #[c.cv] #[]] w (After c w g S (N + (2 + most * cost)) s b off (rowT R) (rowE most e) l) := by
  have hrd : c.m.isRd = false := by rw [hm]; rfl
  have hnl := hL.1
  have hcm : cap ≤ 9223372036854775807 := by have h2 := hL.2.2.1; unfold maxLen at h2; omega
  have hnc : n ≤ cap := hL.2.1
  have hc0 : w.cell? ⟨b, off, none⟩ = some (.slice A n cap) := by have := hT.cell 0 _ rfl; rwa [Nat.add_zero] at this
  -- the box of n
  have hP1 : PassAt c (w.alloc (.cells #[.int .i64 (n : Int)] 3)) g S N s := hP.only ((Only.refl Empty w).alloc _) (fun _ _ h => h.elim) (fun _ _ h => h.elim)
  have hO1 : Ov c (w.alloc (.cells #[.int .i64 (n : Int)] 3)) g S w.heap.size 0 1 (w.alloc (.cells #[.int .i64 (n : Int)] 3)) S N s [.int .i64 (n : Int)] := Ov.start hP1 (Tgt.new hP 3 [.int .i64 (n : Int)]) rfl (hP.fresh (Nat.le_refl _))
  have hs1 : (w.alloc (.cells #[.int .i64 (n : Int)] 3)).heap.size = w.heap.size + 1 := by simp
  have C1 := hO1.numUp (W := (w.alloc (.cells #[.int .i64 (n : Int)] 3)).alloc (.cells #[.int .i64 mostV] 3)) ((Only.refl Empty _).alloc _) (w.heap.size + 1) most hmv (by have h := Blk.new (w.alloc (.cells #[.int .i64 (n : Int)] 3)) 3 #[.int .i64 mostV]; rwa [hs1] at h) (by rw [hs1]; exact Nat.le_refl _) (by omega) 0 rfl (by omega)
  rw [Nat.add_zero] at C1
  have rG := fun W => reach_goes c.m g W
  have eG : ∀ (args : Array Value) (W : World), (callFunc 17 args).run Try.prog W = .ok (.enter 17 args) W := fun args W => by kernel_rfl
  have HP := Lib.hid hP
  have HT := Lib.hid hT
  have HL := Lib.hid hL
  have Hb := Lib.hid hb
  have HM := Lib.hid hm
  have HI := Lib.hid hI
  have HR : Hid (c.m.isRd = false) := Lib.hid hrd
  have Hnl := Lib.hid hnl
  have Hk := Lib.hid hk
  have hnz : 0 < n → ∃ bb oo, A = some ⟨bb, oo, none⟩ := fun h0 => by
    obtain ⟨bb, oo, h, _⟩ := hL.2.2.2.2 h0
    exact ⟨bb, oo, h⟩
  have Hnz := Lib.hid hnz
  obtain ⟨T, hTy⟩ : ∃ T, T = c.m.T := ⟨_, rfl⟩
  have hp : c.m.v g = .iface T (.pointer (some ⟨g, 0, none⟩)) := by rw [hTy]; rfl
  obtain ⟨cv, hcv⟩ : ∃ cv, cv = c.cv := ⟨_, rfl⟩
  rw [hp] at C1 ⊢
  rw [← hTy] at rG
  rw [← hcv]
  have Hp := Lib.hid hp
  have Hcv := Lib.hid hcv
  have HC1 := Lib.hid C1
  have Hmv := Lib.hid hmv
  clear C1 hTy hp hcv hP hT hL hb hm hI hrd hnl hk hP1 hO1 hs1 hnz hmv
  go_enter Try.func55, Try.ntmps55
  go_wp2_with (go_at_call 42; refine (kUpTo_any _ _).mono ?_; rintro e1 wu ⟨rfl, rfl⟩)
  refine HC1.out.mono ?_
  rintro e1 w1 ⟨rfl, S1, s1, x1, hO1, hS1⟩
  obtain ⟨hP1, hs1, hO1'⟩ := hO1.done.went (w := w) ((Only.refl Empty w).alloc _) (Nat.le_refl _)
  have hx1 : x1 = (n : Int) := by
    rw [HR.out] at hS1
    exact hS1.1
  subst hx1
  have hSt : s1 = s.bind fun out => (kindE (upToC most) 2 (n : Int)).map (out ++ ·) := by
    rw [HR.out] at hS1
    exact hS1.2
  have HS1 := Lib.hid hS1
  have HSt := Lib.hid hSt
  have HP1 := Lib.hid hP1
  have Hs1 := Lib.hid hs1
  have HO1 := Lib.hid hO1'
  have n1 : w1.cell? ⟨w.heap.size, 0, none⟩ = some (.int .i64 (n : Int)) := by have := hO1.tgt.cell 0 _ rfl; exact this
  have d1 : w1.cell? ⟨b, off, none⟩ = some (.slice A n cap) := (hO1'.cell (p := ⟨b, off, none⟩) HT.out.lt Hb.out).trans hc0
  clear hS1 hSt hP1 hs1 hO1 hO1' HC1 hc0
  have HL1 : Hid (RowS R w1 (Zs c S1 b) A n cap l) := Lib.hid (HL.out.next (HO1.out.mono (fun _ _ h => .inl h)) (Zs.mono Hs1.out))
  go_wp2_with fail
  refine (goesOn_any HP1.out).mono ?_
  rintro e2 w2 ⟨rfl, rfl⟩
  cases hs : s1 with
  | none =>
    subst hs
    rw [show (none : Option (List UInt8)).isSome = false from rfl]
    go_wp2
    go_end0
    refine ⟨rfl, S1, none, [.slice A n cap], l, ?_, HT.out.only HO1.out Hb.out, ⟨A, n, cap, rfl, HL1.out.mono (fun q _ hq => Zn_wr HM.out _ _ _ q hq)⟩, ?_⟩
    · exact Done.own (HP1.out.more (by omega)) Hs1.out HO1.out b off 1 Hb.out HT.out.lt
    · exact Stp.row (by omega) (by rw [Hnl.out]) HS1.out (Stp.none_ _ _) (fun h => absurd rfl h)
  | some z1 =>
    subst hs
    rw [show (some z1).isSome = true from rfl]
    have hnm : n ≤ most := by
      have h := HSt.out
      cases s with
      | none => cases h
      | some z =>
        unfold kindE at h
        by_cases hu : upToC most (n : Int) = true
        · unfold upToC at hu
          have := of_decide_eq_true hu
          omega
        · rw [if_neg hu] at h
          cases h
    go_wp2
    go_loopw [] (fun wr => Hid (Only Empty w1 wr)) (fun _ => 0)
    case atStart => exact Lib.hid (Only.refl _ _)
    case round =>
      have hOr := hrel.out
      have nr : wr.cell? ⟨w.heap.size, 0, none⟩ = some (.int .i64 (n : Int)) := (hOr.cell (p := ⟨w.heap.size, 0, none⟩) (World.block_lt_of_cell? _ _ n1) (fun h => h)).trans n1
      have dr : wr.cell? ⟨b, off, none⟩ = some (.slice A n cap) := (hOr.cell (p := ⟨b, off, none⟩) (World.block_lt_of_cell? _ _ d1) (fun h => h)).trans d1
      have HOr := Lib.hid hOr
      clear hrel hOr n1 d1
      go_wp2
      go_quiet (fail)
      go_wp2
      have hO2 : Only Empty w1 (wr.drewN nq) := HOr.out.trans ((Only.refl Empty wr).drewN nq)
      have HW0 : Hid (RowW c w1 g S1 e (N + 2) cost (some z1) l 0 (wr.drewN nq)) := Lib.hid ⟨S1, some z1, by rw [Nat.zero_mul]; exact HP1.out.only hO2 (fun _ _ h => h.elim) (fun _ _ h => h.elim), fun _ h => .inl h, hO2.mono (fun _ _ h => h.elim), by rw [List.take_zero]; exact Stp.many_nil _ _ _⟩
      have d2 : w1.cell? ⟨b, off, none⟩ = some (.slice A n cap) := (HOr.out.cell (p := ⟨b, off, none⟩) (Nat.lt_of_lt_of_le HT.out.lt HO1.out.size) (fun h => h)).symm.trans dr
      have HD2 := Lib.hid d2
      have hbS1 : ¬ S1 b := fun h => by
        rcases Hs1.out b h with h | h
        · exact Hb.out h
        · have := HT.out.lt; omega
      have HbS1 := Lib.hid hbS1
      clear nr dr hO2 d2 hbS1
      obtain ⟨wo, rfl⟩ : ∃ wo : World, wo = wr := ⟨_, rfl⟩
      go_loopw [40] (fun i wv => ∃ k : Nat, k ≤ n ∧ i = .int .i64 k ∧ Hid (RowW c w1 g S1 e (N + 2) cost (some z1) l k wv)) (fun i _ => n - (intOf i).toNat)
      case atStart => exact ⟨0, Nat.zero_le _, rfl, HW0⟩
      case round =>
        clear HW0
        obtain ⟨k, hk, rfl, HRW⟩ := hrel
        obtain ⟨Sk, sk, hPk, hsk, hOk, hSk⟩ := HRW.out.ex
        have dk : wr.cell? ⟨b, off, none⟩ = some (.slice A n cap) := (hOk.cell (p := ⟨b, off, none⟩) (Nat.lt_of_lt_of_le HT.out.lt HO1.out.size) HbS1.out).trans HD2.out
        have HPk := Lib.hid hPk
        have Hsk := Lib.hid hsk
        have HOk := Lib.hid hOk
        have HSk := Lib.hid hSk
        clear hPk hsk hOk hSk HRW
        by_cases hlt : k < n
        · obtain ⟨bb, oo, rfl⟩ := Hnz.out (by omega)
          have hLk := HL1.out.next (HOk.out.mono (fun _ _ h => .inl h)) (Zs.mono (b := b) Hsk.out)
          obtain ⟨bb', oo', e1, hbb, hZb, hit⟩ := hLk.2.2.2.2 (by omega)
          cases e1
          obtain ⟨x, hx⟩ : ∃ x, l[k]? = some x := ⟨l[k]'(by rw [Hnl.out]; omega), List.getElem?_eq_getElem _⟩
          obtain ⟨cs, hcs, hrep⟩ := hit k x hx
          rw [Hk.out] at hcs
          have hTk : Tgt c wr bb (oo + k * 4) cs := ⟨hbb, hcs, fun h => by rw [HR.out] at h; cases h⟩
          have hkc : (k + 1) * cost ≤ most * cost := Nat.mul_le_mul_right _ (by omega)
          have hkc' : (k + 1) * cost = k * cost + cost := Nat.succ_mul _ _
          have CI := HI.out wr g Sk (N + 2 + k * cost) sk bb (oo + k * 4) cs x HPk.out (by omega) (fun h => hZb (.inl h)) hTk (R.next hrep (Only.refl _ _) (fun q _ h => Zs_wr HM.out _ _ _ q h)) (fun h => by rw [HR.out] at h; cases h)
          rw [Hp.out, ← Hcv.out] at CI
          have HCI := Lib.hid CI
          have Hx := Lib.hid hx
          have HbS : Hid (¬ Zs c Sk b bb ∧ bb < wr.heap.size) := Lib.hid ⟨hZb, hbb⟩
          clear CI hTk hit hrep hLk hx hcs hZb hbb
          go_wp2_with fail
          refine HCI.out.mono ?_
          rintro e5 w5 ⟨rfl, S5, s5, cs5, x5, hD5, hT5, hR5, hS5⟩
          have hx5 : x5 = x := by
            rw [HR.out] at hS5
            exact hS5.1
          subst hx5
          have HW5 : Hid (RowW c w1 g S1 e (N + 2) cost (some z1) l (k + 1) w5) := Lib.hid (by
            refine ⟨S5, s5, by rw [hkc', ← Nat.add_assoc]; exact hD5.pass, fun q hq => ?_, HOk.out.trans' (hD5.only.mono (fun q _ h => (Zs_wr HM.out _ _ b q h).resolve_right (fun h2 => by rw [HR.out] at h2; cases h2.1))) (fun q hq h => ?_), ?_⟩
            · rcases hD5.sub q hq with h | h
              · exact Hsk.out q h
              · exact .inr (Nat.le_trans HOk.out.size h)
            · rcases Hsk.out q h with h | h
              · exact h
              · omega
            · have h5 := Stp.many_snoc hu (by rw [List.length_take, Hnl.out]; omega) HSk.out (by rw [HR.out] at hS5; exact hS5)
              rw [← take_one l k x5 Hx.out] at h5
              exact h5)
          clear hD5 hT5 hR5 hS5 HCI dk hkc hkc'
          go_wp2
          go_roundw
          case rel => exact ⟨k + 1, by omega, by go_num, HW5⟩
          case measure => simp [intOf]; omega
        · have hkn : k = n := by omega
          subst hkn
          go_wp2
          go_end0
          have hkm : k * cost ≤ most * cost := Nat.mul_le_mul_right _ hnm
          have hOw : Only S w wr := HO1.out.trans' HOk.out (fun q hq h => (Hs1.out q h).resolve_right (by omega))
          have hsub : ∀ q, Sk q → S q ∨ w.heap.size ≤ q := fun q hq => by
            rcases Hsk.out q hq with h | h
            · exact Hs1.out q h
            · exact .inr (Nat.le_trans HO1.out.size h)
          refine ⟨rfl, Sk, sk, [.slice A k cap], l, ?_, HT.out.only hOw Hb.out, ⟨A, k, cap, rfl, (HL1.out.next (HOk.out.mono (fun _ _ h => .inl h)) (Zs.mono (b := b) Hsk.out)).mono (fun q _ hq => Zn_wr HM.out _ _ _ q hq)⟩, ?_⟩
          · exact Done.own (HPk.out.more (by omega)) hsub hOw b off 1 Hb.out HT.out.lt
          · have h5 := HSk.out
            rw [List.take_of_length_le (by rw [Hnl.out]; omega)] at h5
            refine Stp.row (by omega) (by rw [Hnl.out]) HS1.out (by rw [HR.out]; simpa using h5) (fun _ => by rw [Hnl.out])

end Go.Proofs.Ytendpbklcgiafaa

/- The walk over klass's row, of a reader. -/
namespace Go.Proofs.Ytendpbklcgiafaa
set_option maxRecDepth 100000
open Go.RowKit

def zkRowTrap : Unit → List Value := fun _ => [.int .i64 0, .int .i64 0, .int .i64 0, .int .i64 0]
theorem zkRowTrap_len : ∀ u, (zkRowTrap u).length = 4 := fun _ => rfl
theorem infokRowTrap : (Try.prog.info? 70).map (fun i => (i.zero, i.size, i.bytes)) = some (some (.agg #[.int .i64 0, .int .i64 0, .int .i64 0, .int .i64 0]), 4, 32) := by kernel_rfl

set_option maxHeartbeats 4000000 in
theorem kRowTrap_rd {α : Type} {c : Cx} (hrd : c.m.isRd = true) (most : Nat) (hmost : most ≤ 255) (mostV : Int) (hmv : mostV = (most : Int)) {K : Nat} {R : RepT α} {e : Enc α} {cost : Nat} {blank : List Value → α → Prop} (hI : Item c K R e cost blank) (hk : R.k = 4) (hu : Uniq e) (hcost : cost ≤ 1000000)
    (v0 : α) (hz : ∀ w Z, R.rep w Z [.int .i64 0, .int .i64 0, .int .i64 0, .int .i64 0] v0) (hbl : blank [.int .i64 0, .int .i64 0, .int .i64 0, .int .i64 0] v0)
    (eK : ∀ (args : Array Value) (W : World), (callFunc K args).run Try.prog W = .ok (.enter K args) W)
    (w : World) (g : Nat) (S : Nat → Prop) (N : Nat) (s : Option (List UInt8)) (b off : Nat) (hP : PassAt c w g S N s) (hN : N + (2 + most * cost) ≤ 16000000) (hb : ¬ S b) (hT : Tgt c w b off [.slice none 0 0]) :
    Calls Try.prog 55 #[c.m.v g, .pointer (some ⟨b, off, none⟩), .int .i64 mostV, .func (.func K) #[c.cv] #[]] w (After c w g S (N + (2 + most * cost)) s b off (rowT R) (rowE most e) []) := by
  have hc0 : w.cell? ⟨b, off, none⟩ = some (.slice none 0 0) := by have := hT.cell 0 _ rfl; rwa [Nat.add_zero] at this
  have hP1 : PassAt c (w.alloc (.cells #[.int .i64 0] 3)) g S N s := hP.only ((Only.refl Empty w).alloc _) (fun _ _ h => h.elim) (fun _ _ h => h.elim)
  have hO1 : Ov c (w.alloc (.cells #[.int .i64 0] 3)) g S w.heap.size 0 1 (w.alloc (.cells #[.int .i64 0] 3)) S N s [.int .i64 0] := Ov.start hP1 (Tgt.new hP 3 [.int .i64 0]) rfl (hP.fresh (Nat.le_refl _))
  have hs1 : (w.alloc (.cells #[.int .i64 0] 3)).heap.size = w.heap.size + 1 := by simp
  have C1 := hO1.numUp (W := (w.alloc (.cells #[.int .i64 0] 3)).alloc (.cells #[.int .i64 mostV] 3)) ((Only.refl Empty _).alloc _) (w.heap.size + 1) most hmv (by have h := Blk.new (w.alloc (.cells #[.int .i64 0] 3)) 3 #[.int .i64 mostV]; rwa [hs1] at h) (by rw [hs1]; exact Nat.le_refl _) (by omega) 0 rfl (by omega)
  rw [Nat.add_zero] at C1
  have rG := fun W => reach_goes c.m g W
  have eG : ∀ (args : Array Value) (W : World), (callFunc 17 args).run Try.prog W = .ok (.enter 17 args) W := fun args W => by kernel_rfl
  have HP := Lib.hid hP
  have HT := Lib.hid hT
  have Hb := Lib.hid hb
  have HI := Lib.hid hI
  have HR : Hid (c.m.isRd = true) := Lib.hid hrd
  have Hk := Lib.hid hk
  have Hz := Lib.hid hz
  have Hbl := Lib.hid hbl
  obtain ⟨T, hTy⟩ : ∃ T, T = c.m.T := ⟨_, rfl⟩
  have hp : c.m.v g = .iface T (.pointer (some ⟨g, 0, none⟩)) := by rw [hTy]; rfl
  obtain ⟨cv, hcv⟩ : ∃ cv, cv = c.cv := ⟨_, rfl⟩
  rw [hp] at C1 ⊢
  rw [← hTy] at rG
  rw [← hcv]
  have Hp := Lib.hid hp
  have Hcv := Lib.hid hcv
  have HC1 := Lib.hid C1
  have Hmv := Lib.hid hmv
  clear C1 hTy hp hcv hP hT hb hI hrd hk hP1 hO1 hs1 hmv hz hbl
  go_enter Try.func55, Try.ntmps55
  go_wp2_with (go_at_call 42; refine (kUpTo_any _ _).mono ?_; rintro e1 wu ⟨rfl, rfl⟩)
  refine HC1.out.mono ?_
  rintro e1 w1 ⟨rfl, S1, s1, x1, hO1, hS1⟩
  obtain ⟨hP1, hs1, hO1'⟩ := hO1.done.went (w := w) ((Only.refl Empty w).alloc _) (Nat.le_refl _)
  have HS1 := Lib.hid hS1
  have HP1 := Lib.hid hP1
  have Hs1 := Lib.hid hs1
  have HO1 := Lib.hid hO1'
  have n1 : w1.cell? ⟨w.heap.size, 0, none⟩ = some (.int .i64 x1) := by have := hO1.tgt.cell 0 _ rfl; exact this
  have d1 : w1.cell? ⟨b, off, none⟩ = some (.slice none 0 0) := (hO1'.cell (p := ⟨b, off, none⟩) HT.out.lt Hb.out).trans hc0
  have hT1 := HT.out.only hO1' Hb.out
  have HT1 := Lib.hid hT1
  clear hS1 hP1 hs1 hO1 hO1' HC1 hc0 hT1
  go_wp2_with fail
  refine (goesOn_any HP1.out).mono ?_
  rintro e2 w2 ⟨rfl, rfl⟩
  cases hs : s1 with
  | none =>
    subst hs
    rw [show (none : Option (List UInt8)).isSome = false from rfl]
    go_wp2
    go_end0
    refine ⟨rfl, S1, none, [.slice none 0 0], [], ?_, HT1.out, ⟨none, 0, 0, rfl, rowS_nil _ _ _⟩, ?_⟩
    · exact Done.own (HP1.out.more (by omega)) Hs1.out HO1.out b off 1 Hb.out HT.out.lt
    · exact Stp.row (by omega) rfl HS1.out (Stp.none_ _ _) (fun h => absurd rfl h)
  | some z1 =>
    subst hs
    rw [show (some z1).isSome = true from rfl]
    obtain ⟨nn, hnn, hnm⟩ : ∃ nn : Nat, x1 = (nn : Int) ∧ nn ≤ most := by
      have h := HS1.out
      rw [HR.out] at h
      cases s with
      | none => cases h
      | some z =>
        rcases h with ⟨r, h1, h2⟩ | ⟨h1, _⟩
        · obtain ⟨h3, _⟩ := kind_reads (fits_up most (by omega)) h2
          unfold upToC at h3
          have := of_decide_eq_true h3
          exact ⟨x1.toNat, by omega, by omega⟩
        · cases h1
    subst hnn
    have HQ0 : Hid (RowG c g S1 N z1 b off zkRowTrap 4 70 w1 0 w1) := Lib.hid ⟨HP1.out, Only.refl _ _, fun _ _ => rfl, ⟨none, 0, HT1.out, GotR.nil_ _ _ _ _ _⟩⟩
    have hbS1 : ¬ S1 b := fun h => by
      rcases Hs1.out b h with h | h
      · exact Hb.out h
      · have := HT.out.lt; omega
    have HbS1 := Lib.hid hbS1
    have Hb1 : Hid (b < w1.heap.size ∧ b < w.heap.size) := Lib.hid ⟨Nat.lt_of_lt_of_le HT.out.lt HO1.out.size, HT.out.lt⟩
    have HN1 : Hid (w.heap.size < w1.heap.size) := Lib.hid (World.block_lt_of_cell? _ _ n1)
    have HB1 : Hid (w1.cell? ⟨w.heap.size, 0, none⟩ = some (.int .i64 (nn : Int))) := Lib.hid n1
    clear hbS1 n1 d1
    go_wp2
    go_loopg [] nn (fun k wr => ∃ j : Nat, j ≤ nn ∧ nn ≤ j + k ∧ Hid (RowG c g S1 N z1 b off zkRowTrap 4 70 w1 j wr))
    case atStart => exact ⟨0, Nat.zero_le _, by omega, HQ0⟩
    case round =>
      clear HQ0
      obtain ⟨j, hj, hjk, HQ⟩ := hrel
      obtain ⟨Ar, cr, hTr, hGr⟩ := HQ.out.ex
      have nr : wr.cell? ⟨w.heap.size, 0, none⟩ = some (.int .i64 (nn : Int)) := (HQ.out.only.cell (p := ⟨w.heap.size, 0, none⟩) HN1.out (fun e => by have h := Hb1.out.2; have e2 : w.heap.size = b := e; omega)).trans HB1.out
      have dr : wr.cell? ⟨b, off, none⟩ = some (.slice Ar j cr) := by have := hTr.cell 0 _ rfl; rwa [Nat.add_zero] at this
      have HTr := Lib.hid hTr
      have HGr := Lib.hid hGr
      clear hTr hGr
      by_cases hlt : j < nn
      · go_wp2
        go_quiet (fail)
        go_wp2_with fail
        obtain ⟨W4, hW4⟩ : ∃ W4, W4 = (wr.drewN nq).alloc (.cells #[.int .i64 0, .int .i64 0, .int .i64 0, .int .i64 0] 70) := ⟨_, rfl⟩
        rw [← hW4]
        have HE4 : Hid (Only Empty wr W4) := Lib.hid (by rw [hW4]; exact ((Only.refl Empty wr).drewN nq).alloc _)
        have HB4 : Hid (Blk W4 wr.heap.size 70 #[.int .i64 0, .int .i64 0, .int .i64 0, .int .i64 0]) := Lib.hid (by rw [hW4]; exact Blk.new (wr.drewN nq) 70 #[.int .i64 0, .int .i64 0, .int .i64 0, .int .i64 0])
        have HE5 : Hid (Only Empty wr ((W4.alloc (.cells #[.int .i64 0, .int .i64 0, .int .i64 0, .int .i64 0] 70)).drew)) := Lib.hid ((HE4.out.alloc _).drew)
        have HB5 : Hid (Blk ((W4.alloc (.cells #[.int .i64 0, .int .i64 0, .int .i64 0, .int .i64 0] 70)).drew) wr.heap.size 70 #[.int .i64 0, .int .i64 0, .int .i64 0, .int .i64 0]) := Lib.hid ((HB4.out.alloc _).drew)
        have HG5 : Hid (GotR zkRowTrap 4 70 w1.heap.size ((W4.alloc (.cells #[.int .i64 0, .int .i64 0, .int .i64 0, .int .i64 0] 70)).drew) Ar j cr (List.replicate j ())) := Lib.hid (HGr.out.only zkRowTrap_len HE5.out (fun _ _ _ h => h))
        have HL5 : Hid (RowSl zkRowTrap 4 ((W4.alloc (.cells #[.int .i64 0, .int .i64 0, .int .i64 0, .int .i64 0] 70)).drew) Empty (some ⟨W4.heap.size, 0, none⟩) 1 1 [()]) := Lib.hid ((RowSl.lit zkRowTrap_len W4 Empty 70 [()] 1 [.int .i64 0, .int .i64 0, .int .i64 0, .int .i64 0] rfl rfl (by unfold maxLen; omega) (fun h => h)).only ((Only.refl Empty _).drew) (fun _ _ h => h))
        have HS5 : Hid (w1.heap.size ≤ ((W4.alloc (.cells #[.int .i64 0, .int .i64 0, .int .i64 0, .int .i64 0] 70)).drew).heap.size) := Lib.hid (Nat.le_trans HQ.out.only.size HE5.out.size)
        have d4 : W4.cell? ⟨b, off, none⟩ = some (.slice Ar j cr) := (HE4.out.cell (p := ⟨b, off, none⟩) HTr.out.lt (fun h => h)).trans dr
        have d5 : ((W4.alloc (.cells #[.int .i64 0, .int .i64 0, .int .i64 0, .int .i64 0] 70)).drew).cell? ⟨b, off, none⟩ = some (.slice Ar j cr) := (HE5.out.cell (p := ⟨b, off, none⟩) HTr.out.lt (fun h => h)).trans dr
        have sB : ∀ W, Blk W wr.heap.size 70 #[.int .i64 0, .int .i64 0, .int .i64 0, .int .i64 0] → W.cell? ⟨wr.heap.size, 0, none⟩ = some (.int .i64 0) ∧ W.cell? ⟨wr.heap.size, 1, none⟩ = some (.int .i64 0) ∧ W.cell? ⟨wr.heap.size, 2, none⟩ = some (.int .i64 0) ∧ W.cell? ⟨wr.heap.size, 3, none⟩ = some (.int .i64 0) := fun W h => ⟨h.cell 0, h.cell 1, h.cell 2, h.cell 3⟩
        have hS4 := sB _ HB4.out
        have hS5 := sB _ HB5.out
        clear hW4 dr nr
        refine wp_region_held_drew (S := fun W => W.cell? ⟨wr.heap.size, 0, none⟩ = some (.int .i64 0) ∧ W.cell? ⟨wr.heap.size, 1, none⟩ = some (.int .i64 0) ∧ W.cell? ⟨wr.heap.size, 2, none⟩ = some (.int .i64 0) ∧ W.cell? ⟨wr.heap.size, 3, none⟩ = some (.int .i64 0)) (by kernel_rfl) hS4 (fun hHeld0 => ?_)
        refine take_yes 0 28 ?_ rfl rfl (by kernel_rfl) (by kernel_rfl) (by kernel_rfl) (fun _ _ _ h => h) (by kernel_rfl) ?_ (by assumption) ?_; rotate_left; (focus (intro w hSw; (try dsimp only at hSw); go_simp; all_goals first | with_reducible rfl)); simp only [Act.put, List.setIfInBounds_toArray, List.set_cons_zero, List.set_cons_succ]
        refine take_yes 1 29 ?_ rfl rfl (by kernel_rfl) (by kernel_rfl) (by kernel_rfl) (fun _ _ _ h => h) (by kernel_rfl) ?_ (by assumption) ?_; rotate_left; (focus (intro w hSw; (try dsimp only at hSw); go_simp; all_goals first | with_reducible rfl)); simp only [Act.put, List.setIfInBounds_toArray, List.set_cons_zero, List.set_cons_succ]
        refine take_yes 2 30 ?_ rfl rfl (by kernel_rfl) (by kernel_rfl) (by kernel_rfl) (fun _ _ _ h => h) (by kernel_rfl) ?_ (by assumption) ?_; rotate_left; (focus (intro w hSw; (try dsimp only at hSw); go_simp; all_goals first | with_reducible rfl)); simp only [Act.put, List.setIfInBounds_toArray, List.set_cons_zero, List.set_cons_succ]
        refine take_yes 4 32 (.agg #[.int .i64 0, .int .i64 0, .int .i64 0, .int .i64 0]) rfl rfl (by kernel_rfl) (by kernel_rfl) (by kernel_rfl) (fun _ _ _ h => h) (by kernel_rfl) ?_ (by assumption) ?_; (focus (intro w hSw; (try dsimp only at hSw); go_simp; all_goals first | with_reducible rfl)); simp only [Act.put, List.setIfInBounds_toArray, List.set_cons_zero, List.set_cons_succ]
        refine wpAnyH_ready (rs := [3, 5]) (by kernel_rfl) (by simp) ?_
        refine AllReadyH.cons rfl (fun K hK => ?_) (AllReadyH.cons rfl (fun K hK => ?_) AllReadyH.nil)
        · go_simp
          refine hK.out _ _ (hS4) (fun _ => ?_)
          clear hK K
          try simp only [Act.put, List.setIfInBounds_toArray, List.set_cons_zero, List.set_cons_succ]
          refine wpAnyH_ready (rs := [5]) (by kernel_rfl) (by simp) ?_
          refine AllReadyH.cons rfl (fun K hK => ?_) AllReadyH.nil
          go_simp
          refine hK.out _ _ (hS5) (fun _ => ?_)
          clear hK K
          try simp only [Act.put, List.setIfInBounds_toArray, List.set_cons_zero, List.set_cons_succ]
          refine wpAnyH_ready (rs := [6]) (by kernel_rfl) (by simp) ?_
          refine AllReadyH.cons rfl (fun K hK => ?_) AllReadyH.nil
          obtain ⟨A6, c6, W6, hrun, hG6, hgr6, -⟩ := run_append_rows (w := (W4.alloc (.cells #[.int .i64 0, .int .i64 0, .int .i64 0, .int .i64 0] 70)).drew) (cells := zkRowTrap) zkRowTrap_len (fun _ v hv => by simp [zkRowTrap] at hv; first | (rcases hv with rfl | rfl | rfl | rfl | rfl | rfl | rfl | rfl <;> rfl) | (rcases hv with rfl | rfl | rfl <;> rfl) | (rcases hv with rfl | rfl <;> rfl) | (subst hv; rfl)) (by decide) 41 70 (.agg #[.int .i64 0, .int .i64 0, .int .i64 0, .int .i64 0]) 32 Try.underlying41 infokRowTrap rfl (by decide) 41 w1.heap.size Ar j cr (List.replicate j ()) HG5.out ⟨W4.heap.size, 0, none⟩ 1 1 [()] HL5.out (by omega) HS5.out
          obtain ⟨hQ7, hBk, b6, f6, l6⟩ := HQ.out.next zkRowTrap_len HR.out HbS1.out Hb1.out.1 HP1.out HTr.out HGr.out HE5.out hgr6 hG6
          have HQ7 := Lib.hid hQ7
          have hS6 := sB W6 (hBk _ _ _ HB5.out (Nat.le_refl _)).1
          have hS7 := sB _ (hBk _ _ _ HB5.out (Nat.le_refl _)).2
          clear hQ7 hBk hG6 hgr6
          refine step_append_eq (ts := 41) rfl (.tmp 31) (.tmp 33) rfl rfl rfl rfl hrun ?_
          refine hK.out _ _ (hS6) (fun _ => ?_)
          clear hK K
          try simp only [Act.put, List.setIfInBounds_toArray, List.set_cons_zero, List.set_cons_succ]
          refine take_yes 7 35 ?_ rfl rfl (by kernel_rfl) (by kernel_rfl) (by kernel_rfl) (fun _ _ _ h => h) (by kernel_rfl) ?_ (by assumption) ?_; rotate_left; (focus (intro w hSw; (try dsimp only at hSw); go_simp; all_goals first | with_reducible rfl)); simp only [Act.put, List.setIfInBounds_toArray, List.set_cons_zero, List.set_cons_succ]
          refine wpAnyH_ready (rs := [8]) (by kernel_rfl) (by simp) ?_
          refine AllReadyH.cons rfl (fun K hK => ?_) AllReadyH.nil
          go_simp
          refine hK.out _ _ (hS7) (fun _ => ?_)
          clear hK K
          try simp only [Act.put, List.setIfInBounds_toArray, List.set_cons_zero, List.set_cons_succ]
          refine wpAnyH_done (by kernel_rfl) ?_ _
          clear hrun b6 f6 l6 hS6 hS7
          go_wp2
          go_roundg (nn - (j + 1))
          case measure => omega
          case rel => exact ⟨j + 1, by omega, by omega, HQ7⟩
        · go_simp
          refine hK.out _ _ (hS5) (fun _ => ?_)
          clear hK K
          try simp only [Act.put, List.setIfInBounds_toArray, List.set_cons_zero, List.set_cons_succ]
          refine wpAnyH_ready (rs := [3]) (by kernel_rfl) (by simp) ?_
          refine AllReadyH.cons rfl (fun K hK => ?_) AllReadyH.nil
          go_simp
          refine hK.out _ _ (hS5) (fun _ => ?_)
          clear hK K
          try simp only [Act.put, List.setIfInBounds_toArray, List.set_cons_zero, List.set_cons_succ]
          refine wpAnyH_ready (rs := [6]) (by kernel_rfl) (by simp) ?_
          refine AllReadyH.cons rfl (fun K hK => ?_) AllReadyH.nil
          obtain ⟨A6, c6, W6, hrun, hG6, hgr6, -⟩ := run_append_rows (w := (W4.alloc (.cells #[.int .i64 0, .int .i64 0, .int .i64 0, .int .i64 0] 70)).drew) (cells := zkRowTrap) zkRowTrap_len (fun _ v hv => by simp [zkRowTrap] at hv; first | (rcases hv with rfl | rfl | rfl | rfl | rfl | rfl | rfl | rfl <;> rfl) | (rcases hv with rfl | rfl | rfl <;> rfl) | (rcases hv with rfl | rfl <;> rfl) | (subst hv; rfl)) (by decide) 41 70 (.agg #[.int .i64 0, .int .i64 0, .int .i64 0, .int .i64 0]) 32 Try.underlying41 infokRowTrap rfl (by decide) 41 w1.heap.size Ar j cr (List.replicate j ()) HG5.out ⟨W4.heap.size, 0, none⟩ 1 1 [()] HL5.out (by omega) HS5.out
          obtain ⟨hQ7, hBk, b6, f6, l6⟩ := HQ.out.next zkRowTrap_len HR.out HbS1.out Hb1.out.1 HP1.out HTr.out HGr.out HE5.out hgr6 hG6
          have HQ7 := Lib.hid hQ7
          have hS6 := sB W6 (hBk _ _ _ HB5.out (Nat.le_refl _)).1
          have hS7 := sB _ (hBk _ _ _ HB5.out (Nat.le_refl _)).2
          clear hQ7 hBk hG6 hgr6
          refine step_append_eq (ts := 41) rfl (.tmp 31) (.tmp 33) rfl rfl rfl rfl hrun ?_
          refine hK.out _ _ (hS6) (fun _ => ?_)
          clear hK K
          try simp only [Act.put, List.setIfInBounds_toArray, List.set_cons_zero, List.set_cons_succ]
          refine take_yes 7 35 ?_ rfl rfl (by kernel_rfl) (by kernel_rfl) (by kernel_rfl) (fun _ _ _ h => h) (by kernel_rfl) ?_ (by assumption) ?_; rotate_left; (focus (intro w hSw; (try dsimp only at hSw); go_simp; all_goals first | with_reducible rfl)); simp only [Act.put, List.setIfInBounds_toArray, List.set_cons_zero, List.set_cons_succ]
          refine wpAnyH_ready (rs := [8]) (by kernel_rfl) (by simp) ?_
          refine AllReadyH.cons rfl (fun K hK => ?_) AllReadyH.nil
          go_simp
          refine hK.out _ _ (hS7) (fun _ => ?_)
          clear hK K
          try simp only [Act.put, List.setIfInBounds_toArray, List.set_cons_zero, List.set_cons_succ]
          refine wpAnyH_done (by kernel_rfl) ?_ _
          clear hrun b6 f6 l6 hS6 hS7
          go_wp2
          go_roundg (nn - (j + 1))
          case measure => omega
          case rel => exact ⟨j + 1, by omega, by omega, HQ7⟩
      · have hjn : j = nn := by omega
        subst hjn
        go_wp2
        go_quiet (fail)
        go_wp2
        have HE2 : Hid (Only Empty wr (wr.drewN nq)) := Lib.hid ((Only.refl Empty wr).drewN nq)
        obtain ⟨w2, hw2⟩ : ∃ w2, w2 = wr.drewN nq := ⟨_, rfl⟩
        rw [← hw2] at HE2 ⊢
        have HQ2 : Hid (RowG c g S1 N z1 b off zkRowTrap 4 70 w1 j w2) := Lib.hid ⟨HQ.out.pass.only HE2.out (fun _ _ h => h.elim) (fun _ _ h => h.elim), HQ.out.only.trans' HE2.out (fun _ _ h => h.elim), fun o ho => (HE2.out.cell (p := ⟨b, o, none⟩) HTr.out.lt (fun h => h)).trans (HQ.out.rest o ho), Ar, cr, HTr.out.only HE2.out (fun h => h), HGr.out.only zkRowTrap_len HE2.out (fun _ _ _ h => h)⟩
        have HT2 : Hid (Tgt c w2 b off [.slice Ar j cr]) := Lib.hid (HTr.out.only HE2.out (fun h => h))
        have HG2 : Hid (GotR zkRowTrap 4 70 w1.heap.size w2 Ar j cr (List.replicate j ())) := Lib.hid (HGr.out.only zkRowTrap_len HE2.out (fun _ _ _ h => h))
        have HD2 : Hid (w2.cell? ⟨b, off, none⟩ = some (.slice Ar j cr)) := Lib.hid (by have := HT2.out.cell 0 _ rfl; rwa [Nat.add_zero] at this)
        have HW0 : Hid (RowI c g S1 N z1 b Ar zkRowTrap 4 R e cost v0 w2 j 0 w2) := Lib.hid (RowI.start HQ2.out.pass HG2.out zkRowTrap_len (fun q hq => HP1.out.new q hq) HR.out)
        have hnc2 : j ≤ cr := HG2.out.row.2.1
        have hcm2 : cr ≤ 9223372036854775807 := by have h2 := HG2.out.row.2.2.1; unfold maxLen at h2; omega
        clear nr dr hw2 HE2 HTr HGr HQ
        obtain ⟨wo, rfl⟩ : ∃ wo : World, wo = wr := ⟨_, rfl⟩
        go_loopw [40] (fun i wv => ∃ k : Nat, k ≤ j ∧ i = .int .i64 k ∧ Hid (RowI c g S1 N z1 b Ar zkRowTrap 4 R e cost v0 w2 j k wv)) (fun i _ => j - (intOf i).toNat)
        case atStart => exact ⟨0, Nat.zero_le _, rfl, HW0⟩
        case round =>
          clear HW0
          obtain ⟨k, hk, rfl, HRW⟩ := hrel
          obtain ⟨Sk, sk, done, hPk, hsk, hOk, hSk, hdl, hex⟩ := HRW.out.ex
          have hbr : ∀ r o, Ar = some ⟨r, o, none⟩ → w1.heap.size ≤ r := fun r o h => (HG2.out.own.lt r (by rw [h]; rfl)).1
          have dk : wr.cell? ⟨b, off, none⟩ = some (.slice Ar j cr) := (hOk.cell (p := ⟨b, off, none⟩) HT2.out.lt (fun h => by
            rcases h with h | ⟨o, h⟩
            · exact HbS1.out h
            · have := hbr b o h; have := Hb1.out.1; omega)).trans HD2.out
          have HPk := Lib.hid hPk
          have Hsk := Lib.hid hsk
          have HOk := Lib.hid hOk
          have HSk := Lib.hid hSk
          have Hdl := Lib.hid hdl
          have Hex := Lib.hid hex
          have Hbr := Lib.hid hbr
          clear hPk hsk hOk hSk hdl hex HRW hbr
          by_cases hlt : k < j
          · obtain ⟨r, rfl, hrl, hXr, hBr, hdone, hblank⟩ := Hex.out (by omega)
            have hkc : (k + 1) * cost ≤ most * cost := Nat.mul_le_mul_right _ (by omega)
            have hkc' : (k + 1) * cost = k * cost + cost := Nat.succ_mul _ _
            have hSr : ¬ Sk r := fun h => by
              rcases Hsk.out r h with h | h
              · have := HP1.out.lt r h; have := Hbr.out r 0 rfl; omega
              · omega
            have hTk : Tgt c wr r (k * 4) [.int .i64 0, .int .i64 0, .int .i64 0, .int .i64 0] := ⟨Nat.lt_of_lt_of_le hrl HOk.out.size, fun i v hv => hblank k (Nat.le_refl _) hlt i v hv, fun _ => ⟨hXr, hBr⟩⟩
            have CI := HI.out wr g Sk (N + 2 + k * cost) sk r (k * 4) [.int .i64 0, .int .i64 0, .int .i64 0, .int .i64 0] v0 HPk.out (by omega) hSr hTk (Hz.out _ _) (fun _ => Hbl.out)
            rw [Hp.out, ← Hcv.out] at CI
            have HCI := Lib.hid CI
            have Hr : Hid (r < w2.heap.size ∧ c.X r) := Lib.hid ⟨hrl, hXr⟩
            have Hdone := Lib.hid hdone
            have Hblank := Lib.hid hblank
            clear CI hTk hSr hrl hXr hBr hdone hblank
            go_wp2_with fail
            refine HCI.out.mono ?_
            rintro e5 w5 ⟨rfl, S5, s5, cs5, x5, hD5, hT5, hR5, hS5⟩
            rw [HR.out] at hS5
            have HW5 : Hid (RowI c g S1 N z1 b (some ⟨r, 0, none⟩) zkRowTrap 4 R e cost v0 w2 j (k + 1) w5) := Lib.hid (RowI.next HR.out Hk.out hu Hsk.out HOk.out HSk.out Hdl.out rfl Hr.out.1 Hr.out.2 Hdone.out Hblank.out hD5 hT5 hR5 hS5)
            clear hD5 hT5 hR5 hS5 HCI dk hkc hkc'
            go_wp2
            go_roundw
            case rel => exact ⟨k + 1, by omega, by go_num, HW5⟩
            case measure => simp [intOf]; omega
          · have hkn : k = j := by omega
            subst hkn
            go_wp2
            go_end0
            have hkm : k * cost ≤ most * cost := Nat.mul_le_mul_right _ hnm
            have hbo : ¬ (S1 b ∨ ∃ o, Ar = some ⟨b, o, none⟩) := fun h => by
              rcases h with h | ⟨o, h⟩
              · exact HbS1.out h
              · have := Hbr.out b o h; have := Hb1.out.1; omega
            have hO12 : Only (Zs c S b) w w2 := (HO1.out.mono (fun _ _ h => .inl h)).trans (HQ2.out.only.mono (fun q _ h => .inr ⟨HR.out, h⟩))
            have hOw : Only (Zs c S b) w wr := hO12.trans' HOk.out (fun q hq h => by
              rcases h with h | ⟨o, h⟩
              · exact .inl ((Hs1.out q h).resolve_right (by omega))
              · have := Hbr.out q o h; have := HO1.out.size; omega)
            have hsub : ∀ q, Sk q → S q ∨ w.heap.size ≤ q := fun q hq => by
              rcases Hsk.out q hq with h | h
              · exact Hs1.out q h
              · exact .inr (Nat.le_trans hO12.size h)
            refine ⟨rfl, Sk, sk, [.slice Ar k cr], done, ⟨HPk.out.more (by omega), hsub, hOw, fun o ho => ?_⟩, HT2.out.only HOk.out hbo, ⟨Ar, k, cr, rfl, ?_⟩, ?_⟩
            · rw [HOk.out.cell (p := ⟨b, o, none⟩) HT2.out.lt hbo, HQ2.out.rest o (by show o ≠ off; have ho : o < off ∨ off + 1 ≤ o := ho; omega)]
              exact HO1.out.cell (p := ⟨b, o, none⟩) HT.out.lt Hb.out
            · rcases Nat.eq_zero_or_pos k with h0 | h0
              · subst h0
                exact RowI.rows (r := 0) (w2 := w2) Hk.out Hdl.out HG2.out.row.2.1 HG2.out.row.2.2.1 HG2.out.isNil (fun h => absurd h (by omega)) (by have := HO1.out.size; have := HQ2.out.only.size; omega)
              · obtain ⟨r, eA, hrl, hXr, hBr, hdone, hblank⟩ := Hex.out h0
                refine RowI.rows (r := r) (w2 := w2) Hk.out Hdl.out HG2.out.row.2.1 HG2.out.row.2.2.1 HG2.out.isNil (fun _ => ⟨eA, Nat.lt_of_lt_of_le hrl HOk.out.size, fun h => ?_, ?_, hdone⟩) (by have := HO1.out.size; have := HQ2.out.only.size; omega)
                · rcases Hsk.out r h with h | h
                  · have := HP1.out.lt r h; have := Hbr.out r 0 eA; omega
                  · omega
                · have := Hbr.out r 0 eA; have := HO1.out.size; omega
            · refine Stp.row (n := 0) (n' := (k : Int)) (by omega) rfl HS1.out ?_ (fun _ => by rw [Hdl.out])
              rw [HR.out]
              have h5 := HSk.out
              show Stp true (manyE e (k : Int).toNat) (some z1) [] sk done
              rw [Int.toNat_natCast]
              exact h5

end Go.Proofs.Ytendpbklcgiafaa

/- The walk over klass's row, of a writer. -/
namespace Go.Proofs.Ytendpbklcgiafaa
set_option maxRecDepth 100000
open Go.RowKit

set_option maxHeartbeats 4000000 in
theorem kRowSlot_wr {α : Type} {c : Cx} (hm : c.m = .wr) (most : Nat) (hmost : most ≤ 255) (mostV : Int) (hmv : mostV = (most : Int)) {K : Nat} {R : RepT α} {e : Enc α} {cost : Nat} {blank : List Value → α → Prop} (hI : Item c K R e cost blank) (hk : R.k = 2) (hu : Uniq e) (hcost : cost ≤ 1000000)
    (eK : ∀ (args : Array Value) (W : World), (callFunc K args).run Try.prog W = .ok (.enter K args) W)
    (w : World) (g : Nat) (S : Nat → Prop) (N : Nat) (s : Option (List UInt8)) (b off : Nat) (A : Option Addr) (n cap : Nat) (l : List α) (hP : PassAt c w g S N s) (hN : N + (2 + most * cost) ≤ 16000000) (hb : ¬ S b) (hT : Tgt c w b off [.slice A n cap]) (hL : RowS R w (Zs c S b) A n cap l) :
    Calls Try.prog 62 #[c.m.v g, .pointer (some ⟨b, off, none⟩), .int .i64 mostV, .func (.func K) #[c.cv] #[]] w (After c w g S (N + (2 + most * cost)) s b off (rowT R) (rowE most e) l) := by
  have hrd : c.m.isRd = false := by rw [hm]; rfl
  have hnl := hL.1
  have hcm : cap ≤ 9223372036854775807 := by have h2 := hL.2.2.1; unfold maxLen at h2; omega
  have hnc : n ≤ cap := hL.2.1
  have hc0 : w.cell? ⟨b, off, none⟩ = some (.slice A n cap) := by have := hT.cell 0 _ rfl; rwa [Nat.add_zero] at this
  -- the box of n
  have hP1 : PassAt c (w.alloc (.cells #[.int .i64 (n : Int)] 3)) g S N s := hP.only ((Only.refl Empty w).alloc _) (fun _ _ h => h.elim) (fun _ _ h => h.elim)
  have hO1 : Ov c (w.alloc (.cells #[.int .i64 (n : Int)] 3)) g S w.heap.size 0 1 (w.alloc (.cells #[.int .i64 (n : Int)] 3)) S N s [.int .i64 (n : Int)] := Ov.start hP1 (Tgt.new hP 3 [.int .i64 (n : Int)]) rfl (hP.fresh (Nat.le_refl _))
  have hs1 : (w.alloc (.cells #[.int .i64 (n : Int)] 3)).heap.size = w.heap.size + 1 := by simp
  have C1 := hO1.numUp (W := (w.alloc (.cells #[.int .i64 (n : Int)] 3)).alloc (.cells #[.int .i64 mostV] 3)) ((Only.refl Empty _).alloc _) (w.heap.size + 1) most hmv (by have h := Blk.new (w.alloc (.cells #[.int .i64 (n : Int)] 3)) 3 #[.int .i64 mostV]; rwa [hs1] at h) (by rw [hs1]; exact Nat.le_refl _) (by omega) 0 rfl (by omega)
  rw [Nat.add_zero] at C1
  have rG := fun W => reach_goes c.m g W
  have eG : ∀ (args : Array Value) (W : World), (callFunc 17 args).run Try.prog W = .ok (.enter 17 args) W := fun args W => by kernel_rfl
  have HP := Lib.hid hP
  have HT := Lib.hid hT
  have HL := Lib.hid hL
  have Hb := Lib.hid hb
  have HM := Lib.hid hm
  have HI := Lib.hid hI
  have HR : Hid (c.m.isRd = false) := Lib.hid hrd
  have Hnl := Lib.hid hnl
  have Hk := Lib.hid hk
  have hnz : 0 < n → ∃ bb oo, A = some ⟨bb, oo, none⟩ := fun h0 => by
    obtain ⟨bb, oo, h, _⟩ := hL.2.2.2.2 h0
    exact ⟨bb, oo, h⟩
  have Hnz := Lib.hid hnz
  obtain ⟨T, hTy⟩ : ∃ T, T = c.m.T := ⟨_, rfl⟩
  have hp : c.m.v g = .iface T (.pointer (some ⟨g, 0, none⟩)) := by rw [hTy]; rfl
  obtain ⟨cv, hcv⟩ : ∃ cv, cv = c.cv := ⟨_, rfl⟩
  rw [hp] at C1 ⊢
  rw [← hTy] at rG
  rw [← hcv]
  have Hp := Lib.hid hp
  have Hcv := Lib.hid hcv
  have HC1 := Lib.hid C1
  have Hmv := Lib.hid hmv
  clear C1 hTy hp hcv hP hT hL hb hm hI hrd hnl hk hP1 hO1 hs1 hnz hmv
  go_enter Try.func62, Try.ntmps62
  go_wp2_with (go_at_call 42; refine (kUpTo_any _ _).mono ?_; rintro e1 wu ⟨rfl, rfl⟩)
  refine HC1.out.mono ?_
  rintro e1 w1 ⟨rfl, S1, s1, x1, hO1, hS1⟩
  obtain ⟨hP1, hs1, hO1'⟩ := hO1.done.went (w := w) ((Only.refl Empty w).alloc _) (Nat.le_refl _)
  have hx1 : x1 = (n : Int) := by
    rw [HR.out] at hS1
    exact hS1.1
  subst hx1
  have hSt : s1 = s.bind fun out => (kindE (upToC most) 2 (n : Int)).map (out ++ ·) := by
    rw [HR.out] at hS1
    exact hS1.2
  have HS1 := Lib.hid hS1
  have HSt := Lib.hid hSt
  have HP1 := Lib.hid hP1
  have Hs1 := Lib.hid hs1
  have HO1 := Lib.hid hO1'
  have n1 : w1.cell? ⟨w.heap.size, 0, none⟩ = some (.int .i64 (n : Int)) := by have := hO1.tgt.cell 0 _ rfl; exact this
  have d1 : w1.cell? ⟨b, off, none⟩ = some (.slice A n cap) := (hO1'.cell (p := ⟨b, off, none⟩) HT.out.lt Hb.out).trans hc0
  clear hS1 hSt hP1 hs1 hO1 hO1' HC1 hc0
  have HL1 : Hid (RowS R w1 (Zs c S1 b) A n cap l) := Lib.hid (HL.out.next (HO1.out.mono (fun _ _ h => .inl h)) (Zs.mono Hs1.out))
  go_wp2_with fail
  refine (goesOn_any HP1.out).mono ?_
  rintro e2 w2 ⟨rfl, rfl⟩
  cases hs : s1 with
  | none =>
    subst hs
    rw [show (none : Option (List UInt8)).isSome = false from rfl]
    go_wp2
    go_end0
    refine ⟨rfl, S1, none, [.slice A n cap], l, ?_, HT.out.only HO1.out Hb.out, ⟨A, n, cap, rfl, HL1.out.mono (fun q _ hq => Zn_wr HM.out _ _ _ q hq)⟩, ?_⟩
    · exact Done.own (HP1.out.more (by omega)) Hs1.out HO1.out b off 1 Hb.out HT.out.lt
    · exact Stp.row (by omega) (by rw [Hnl.out]) HS1.out (Stp.none_ _ _) (fun h => absurd rfl h)
  | some z1 =>
    subst hs
    rw [show (some z1).isSome = true from rfl]
    have hnm : n ≤ most := by
      have h := HSt.out
      cases s with
      | none => cases h
      | some z =>
        unfold kindE at h
        by_cases hu : upToC most (n : Int) = true
        · unfold upToC at hu
          have := of_decide_eq_true hu
          omega
        · rw [if_neg hu] at h
          cases h
    go_wp2
    go_loopw [] (fun wr => Hid (Only Empty w1 wr)) (fun _ => 0)
    case atStart => exact Lib.hid (Only.refl _ _)
    case round =>
      have hOr := hrel.out
      have nr : wr.cell? ⟨w.heap.size, 0, none⟩ = some (.int .i64 (n : Int)) := (hOr.cell (p := ⟨w.heap.size, 0, none⟩) (World.block_lt_of_cell? _ _ n1) (fun h => h)).trans n1
      have dr : wr.cell? ⟨b, off, none⟩ = some (.slice A n cap) := (hOr.cell (p := ⟨b, off, none⟩) (World.block_lt_of_cell? _ _ d1) (fun h => h)).trans d1
      have HOr := Lib.hid hOr
      clear hrel hOr n1 d1
      go_wp2
      go_quiet (fail)
      go_wp2
      have hO2 : Only Empty w1 (wr.drewN nq) := HOr.out.trans ((Only.refl Empty wr).drewN nq)
      have HW0 : Hid (RowW c w1 g S1 e (N + 2) cost (some z1) l 0 (wr.drewN nq)) := Lib.hid ⟨S1, some z1, by rw [Nat.zero_mul]; exact HP1.out.only hO2 (fun _ _ h => h.elim) (fun _ _ h => h.elim), fun _ h => .inl h, hO2.mono (fun _ _ h => h.elim), by rw [List.take_zero]; exact Stp.many_nil _ _ _⟩
      have d2 : w1.cell? ⟨b, off, none⟩ = some (.slice A n cap) := (HOr.out.cell (p := ⟨b, off, none⟩) (Nat.lt_of_lt_of_le HT.out.lt HO1.out.size) (fun h => h)).symm.trans dr
      have HD2 := Lib.hid d2
      have hbS1 : ¬ S1 b := fun h => by
        rcases Hs1.out b h with h | h
        · exact Hb.out h
        · have := HT.out.lt; omega
      have HbS1 := Lib.hid hbS1
      clear nr dr hO2 d2 hbS1
      obtain ⟨wo, rfl⟩ : ∃ wo : World, wo = wr := ⟨_, rfl⟩
      go_loopw [40] (fun i wv => ∃ k : Nat, k ≤ n ∧ i = .int .i64 k ∧ Hid (RowW c w1 g S1 e (N + 2) cost (some z1) l k wv)) (fun i _ => n - (intOf i).toNat)
      case atStart => exact ⟨0, Nat.zero_le _, rfl, HW0⟩
      case round =>
        clear HW0
        obtain ⟨k, hk, rfl, HRW⟩ := hrel
        obtain ⟨Sk, sk, hPk, hsk, hOk, hSk⟩ := HRW.out.ex
        have dk : wr.cell? ⟨b, off, none⟩ = some (.slice A n cap) := (hOk.cell (p := ⟨b, off, none⟩) (Nat.lt_of_lt_of_le HT.out.lt HO1.out.size) HbS1.out).trans HD2.out
        have HPk := Lib.hid hPk
        have Hsk := Lib.hid hsk
        have HOk := Lib.hid hOk
        have HSk := Lib.hid hSk
        clear hPk hsk hOk hSk HRW
        by_cases hlt : k < n
        · obtain ⟨bb, oo, rfl⟩ := Hnz.out (by omega)
          have hLk := HL1.out.next (HOk.out.mono (fun _ _ h => .inl h)) (Zs.mono (b := b) Hsk.out)
          obtain ⟨bb', oo', e1, hbb, hZb, hit⟩ := hLk.2.2.2.2 (by omega)
          cases e1
          obtain ⟨x, hx⟩ : ∃ x, l[k]? = some x := ⟨l[k]'(by rw [Hnl.out]; omega), List.getElem?_eq_getElem _⟩
          obtain ⟨cs, hcs, hrep⟩ := hit k x hx
          rw [Hk.out] at hcs
          have hTk : Tgt c wr bb (oo + k * 2) cs := ⟨hbb, hcs, fun h => by rw [HR.out] at h; cases h⟩
          have hkc : (k + 1) * cost ≤ most * cost := Nat.mul_le_mul_right _ (by omega)
          have hkc' : (k + 1) * cost = k * cost + cost := Nat.succ_mul _ _
          have CI := HI.out wr g Sk (N + 2 + k * cost) sk bb (oo + k * 2) cs x HPk.out (by omega) (fun h => hZb (.inl h)) hTk (R.next hrep (Only.refl _ _) (fun q _ h => Zs_wr HM.out _ _ _ q h)) (fun h => by rw [HR.out] at h; cases h)
          rw [Hp.out, ← Hcv.out] at CI
          have HCI := Lib.hid CI
          have Hx := Lib.hid hx
          have HbS : Hid (¬ Zs c Sk b bb ∧ bb < wr.heap.size) := Lib.hid ⟨hZb, hbb⟩
          clear CI hTk hit hrep hLk hx hcs hZb hbb
          go_wp2_with fail
          refine HCI.out.mono ?_
          rintro e5 w5 ⟨rfl, S5, s5, cs5, x5, hD5, hT5, hR5, hS5⟩
          have hx5 : x5 = x := by
            rw [HR.out] at hS5
            exact hS5.1
          subst hx5
          have HW5 : Hid (RowW c w1 g S1 e (N + 2) cost (some z1) l (k + 1) w5) := Lib.hid (by
            refine ⟨S5, s5, by rw [hkc', ← Nat.add_assoc]; exact hD5.pass, fun q hq => ?_, HOk.out.trans' (hD5.only.mono (fun q _ h => (Zs_wr HM.out _ _ b q h).resolve_right (fun h2 => by rw [HR.out] at h2; cases h2.1))) (fun q hq h => ?_), ?_⟩
            · rcases hD5.sub q hq with h | h
              · exact Hsk.out q h
              · exact .inr (Nat.le_trans HOk.out.size h)
            · rcases Hsk.out q h with h | h
              · exact h
              · omega
            · have h5 := Stp.many_snoc hu (by rw [List.length_take, Hnl.out]; omega) HSk.out (by rw [HR.out] at hS5; exact hS5)
              rw [← take_one l k x5 Hx.out] at h5
              exact h5)
          clear hD5 hT5 hR5 hS5 HCI dk hkc hkc'
          go_wp2
          go_roundw
          case rel => exact ⟨k + 1, by omega, by go_num, HW5⟩
          case measure => simp [intOf]; omega
        · have hkn : k = n := by omega
          subst hkn
          go_wp2
          go_end0
          have hkm : k * cost ≤ most * cost := Nat.mul_le_mul_right _ hnm
          have hOw : Only S w wr := HO1.out.trans' HOk.out (fun q hq h => (Hs1.out q h).resolve_right (by omega))
          have hsub : ∀ q, Sk q → S q ∨ w.heap.size ≤ q := fun q hq => by
            rcases Hsk.out q hq with h | h
            · exact Hs1.out q h
            · exact .inr (Nat.le_trans HO1.out.size h)
          refine ⟨rfl, Sk, sk, [.slice A k cap], l, ?_, HT.out.only hOw Hb.out, ⟨A, k, cap, rfl, (HL1.out.next (HOk.out.mono (fun _ _ h => .inl h)) (Zs.mono (b := b) Hsk.out)).mono (fun q _ hq => Zn_wr HM.out _ _ _ q hq)⟩, ?_⟩
          · exact Done.own (HPk.out.more (by omega)) hsub hOw b off 1 Hb.out HT.out.lt
          · have h5 := HSk.out
            rw [List.take_of_length_le (by rw [Hnl.out]; omega)] at h5
            refine Stp.row (by omega) (by rw [Hnl.out]) HS1.out (by rw [HR.out]; simpa using h5) (fun _ => by rw [Hnl.out])

end Go.Proofs.Ytendpbklcgiafaa

/- The walk over klass's row, of a reader. -/
namespace Go.Proofs.Ytendpbklcgiafaa
set_option maxRecDepth 100000
open Go.RowKit

def zkRowSlot : Unit → List Value := fun _ => [.int .i64 0, .int .i64 0]
theorem zkRowSlot_len : ∀ u, (zkRowSlot u).length = 2 := fun _ => rfl
theorem infokRowSlot : (Try.prog.info? 98).map (fun i => (i.zero, i.size, i.bytes)) = some (some (.agg #[.int .i64 0, .int .i64 0]), 2, 16) := by kernel_rfl

set_option maxHeartbeats 4000000 in
theorem kRowSlot_rd {α : Type} {c : Cx} (hrd : c.m.isRd = true) (most : Nat) (hmost : most ≤ 255) (mostV : Int) (hmv : mostV = (most : Int)) {K : Nat} {R : RepT α} {e : Enc α} {cost : Nat} {blank : List Value → α → Prop} (hI : Item c K R e cost blank) (hk : R.k = 2) (hu : Uniq e) (hcost : cost ≤ 1000000)
    (v0 : α) (hz : ∀ w Z, R.rep w Z [.int .i64 0, .int .i64 0] v0) (hbl : blank [.int .i64 0, .int .i64 0] v0)
    (eK : ∀ (args : Array Value) (W : World), (callFunc K args).run Try.prog W = .ok (.enter K args) W)
    (w : World) (g : Nat) (S : Nat → Prop) (N : Nat) (s : Option (List UInt8)) (b off : Nat) (hP : PassAt c w g S N s) (hN : N + (2 + most * cost) ≤ 16000000) (hb : ¬ S b) (hT : Tgt c w b off [.slice none 0 0]) :
    Calls Try.prog 62 #[c.m.v g, .pointer (some ⟨b, off, none⟩), .int .i64 mostV, .func (.func K) #[c.cv] #[]] w (After c w g S (N + (2 + most * cost)) s b off (rowT R) (rowE most e) []) := by
  have hc0 : w.cell? ⟨b, off, none⟩ = some (.slice none 0 0) := by have := hT.cell 0 _ rfl; rwa [Nat.add_zero] at this
  have hP1 : PassAt c (w.alloc (.cells #[.int .i64 0] 3)) g S N s := hP.only ((Only.refl Empty w).alloc _) (fun _ _ h => h.elim) (fun _ _ h => h.elim)
  have hO1 : Ov c (w.alloc (.cells #[.int .i64 0] 3)) g S w.heap.size 0 1 (w.alloc (.cells #[.int .i64 0] 3)) S N s [.int .i64 0] := Ov.start hP1 (Tgt.new hP 3 [.int .i64 0]) rfl (hP.fresh (Nat.le_refl _))
  have hs1 : (w.alloc (.cells #[.int .i64 0] 3)).heap.size = w.heap.size + 1 := by simp
  have C1 := hO1.numUp (W := (w.alloc (.cells #[.int .i64 0] 3)).alloc (.cells #[.int .i64 mostV] 3)) ((Only.refl Empty _).alloc _) (w.heap.size + 1) most hmv (by have h := Blk.new (w.alloc (.cells #[.int .i64 0] 3)) 3 #[.int .i64 mostV]; rwa [hs1] at h) (by rw [hs1]; exact Nat.le_refl _) (by omega) 0 rfl (by omega)
  rw [Nat.add_zero] at C1
  have rG := fun W => reach_goes c.m g W
  have eG : ∀ (args : Array Value) (W : World), (callFunc 17 args).run Try.prog W = .ok (.enter 17 args) W := fun args W => by kernel_rfl
  have HP := Lib.hid hP
  have HT := Lib.hid hT
  have Hb := Lib.hid hb
  have HI := Lib.hid hI
  have HR : Hid (c.m.isRd = true) := Lib.hid hrd
  have Hk := Lib.hid hk
  have Hz := Lib.hid hz
  have Hbl := Lib.hid hbl
  obtain ⟨T, hTy⟩ : ∃ T, T = c.m.T := ⟨_, rfl⟩
  have hp : c.m.v g = .iface T (.pointer (some ⟨g, 0, none⟩)) := by rw [hTy]; rfl
  obtain ⟨cv, hcv⟩ : ∃ cv, cv = c.cv := ⟨_, rfl⟩
  rw [hp] at C1 ⊢
  rw [← hTy] at rG
  rw [← hcv]
  have Hp := Lib.hid hp
  have Hcv := Lib.hid hcv
  have HC1 := Lib.hid C1
  have Hmv := Lib.hid hmv
  clear C1 hTy hp hcv hP hT hb hI hrd hk hP1 hO1 hs1 hmv hz hbl
  go_enter Try.func62, Try.ntmps62
  go_wp2_with (go_at_call 42; refine (kUpTo_any _ _).mono ?_; rintro e1 wu ⟨rfl, rfl⟩)
  refine HC1.out.mono ?_
  rintro e1 w1 ⟨rfl, S1, s1, x1, hO1, hS1⟩
  obtain ⟨hP1, hs1, hO1'⟩ := hO1.done.went (w := w) ((Only.refl Empty w).alloc _) (Nat.le_refl _)
  have HS1 := Lib.hid hS1
  have HP1 := Lib.hid hP1
  have Hs1 := Lib.hid hs1
  have HO1 := Lib.hid hO1'
  have n1 : w1.cell? ⟨w.heap.size, 0, none⟩ = some (.int .i64 x1) := by have := hO1.tgt.cell 0 _ rfl; exact this
  have d1 : w1.cell? ⟨b, off, none⟩ = some (.slice none 0 0) := (hO1'.cell (p := ⟨b, off, none⟩) HT.out.lt Hb.out).trans hc0
  have hT1 := HT.out.only hO1' Hb.out
  have HT1 := Lib.hid hT1
  clear hS1 hP1 hs1 hO1 hO1' HC1 hc0 hT1
  go_wp2_with fail
  refine (goesOn_any HP1.out).mono ?_
  rintro e2 w2 ⟨rfl, rfl⟩
  cases hs : s1 with
  | none =>
    subst hs
    rw [show (none : Option (List UInt8)).isSome = false from rfl]
    go_wp2
    go_end0
    refine ⟨rfl, S1, none, [.slice none 0 0], [], ?_, HT1.out, ⟨none, 0, 0, rfl, rowS_nil _ _ _⟩, ?_⟩
    · exact Done.own (HP1.out.more (by omega)) Hs1.out HO1.out b off 1 Hb.out HT.out.lt
    · exact Stp.row (by omega) rfl HS1.out (Stp.none_ _ _) (fun h => absurd rfl h)
  | some z1 =>
    subst hs
    rw [show (some z1).isSome = true from rfl]
    obtain ⟨nn, hnn, hnm⟩ : ∃ nn : Nat, x1 = (nn : Int) ∧ nn ≤ most := by
      have h := HS1.out
      rw [HR.out] at h
      cases s with
      | none => cases h
      | some z =>
        rcases h with ⟨r, h1, h2⟩ | ⟨h1, _⟩
        · obtain ⟨h3, _⟩ := kind_reads (fits_up most (by omega)) h2
          unfold upToC at h3
          have := of_decide_eq_true h3
          exact ⟨x1.toNat, by omega, by omega⟩
        · cases h1
    subst hnn
    have HQ0 : Hid (RowG c g S1 N z1 b off zkRowSlot 2 98 w1 0 w1) := Lib.hid ⟨HP1.out, Only.refl _ _, fun _ _ => rfl, ⟨none, 0, HT1.out, GotR.nil_ _ _ _ _ _⟩⟩
    have hbS1 : ¬ S1 b := fun h => by
      rcases Hs1.out b h with h | h
      · exact Hb.out h
      · have := HT.out.lt; omega
    have HbS1 := Lib.hid hbS1
    have Hb1 : Hid (b < w1.heap.size ∧ b < w.heap.size) := Lib.hid ⟨Nat.lt_of_lt_of_le HT.out.lt HO1.out.size, HT.out.lt⟩
    have HN1 : Hid (w.heap.size < w1.heap.size) := Lib.hid (World.block_lt_of_cell? _ _ n1)
    have HB1 : Hid (w1.cell? ⟨w.heap.size, 0, none⟩ = some (.int .i64 (nn : Int))) := Lib.hid n1
    clear hbS1 n1 d1
    go_wp2
    go_loopg [] nn (fun k wr => ∃ j : Nat, j ≤ nn ∧ nn ≤ j + k ∧ Hid (RowG c g S1 N z1 b off zkRowSlot 2 98 w1 j wr))
    case atStart => exact ⟨0, Nat.zero_le _, by omega, HQ0⟩
    case round =>
      clear HQ0
      obtain ⟨j, hj, hjk, HQ⟩ := hrel
      obtain ⟨Ar, cr, hTr, hGr⟩ := HQ.out.ex
      have nr : wr.cell? ⟨w.heap.size, 0, none⟩ = some (.int .i64 (nn : Int)) := (HQ.out.only.cell (p := ⟨w.heap.size, 0, none⟩) HN1.out (fun e => by have h := Hb1.out.2; have e2 : w.heap.size = b := e; omega)).trans HB1.out
      have dr : wr.cell? ⟨b, off, none⟩ = some (.slice Ar j cr) := by have := hTr.cell 0 _ rfl; rwa [Nat.add_zero] at this
      have HTr := Lib.hid hTr
      have HGr := Lib.hid hGr
      clear hTr hGr
      by_cases hlt : j < nn
      · go_wp2
        go_quiet (fail)
        go_wp2_with fail
        obtain ⟨W4, hW4⟩ : ∃ W4, W4 = (wr.drewN nq).alloc (.cells #[.int .i64 0, .int .i64 0] 98) := ⟨_, rfl⟩
        rw [← hW4]
        have HE4 : Hid (Only Empty wr W4) := Lib.hid (by rw [hW4]; exact ((Only.refl Empty wr).drewN nq).alloc _)
        have HB4 : Hid (Blk W4 wr.heap.size 98 #[.int .i64 0, .int .i64 0]) := Lib.hid (by rw [hW4]; exact Blk.new (wr.drewN nq) 98 #[.int .i64 0, .int .i64 0])
        have HE5 : Hid (Only Empty wr ((W4.alloc (.cells #[.int .i64 0, .int .i64 0] 98)).drew)) := Lib.hid ((HE4.out.alloc _).drew)
        have HB5 : Hid (Blk ((W4.alloc (.cells #[.int .i64 0, .int .i64 0] 98)).drew) wr.heap.size 98 #[.int .i64 0, .int .i64 0]) := Lib.hid ((HB4.out.alloc _).drew)
        have HG5 : Hid (GotR zkRowSlot 2 98 w1.heap.size ((W4.alloc (.cells #[.int .i64 0, .int .i64 0] 98)).drew) Ar j cr (List.replicate j ())) := Lib.hid (HGr.out.only zkRowSlot_len HE5.out (fun _ _ _ h => h))
        have HL5 : Hid (RowSl zkRowSlot 2 ((W4.alloc (.cells #[.int .i64 0, .int .i64 0] 98)).drew) Empty (some ⟨W4.heap.size, 0, none⟩) 1 1 [()]) := Lib.hid ((RowSl.lit zkRowSlot_len W4 Empty 98 [()] 1 [.int .i64 0, .int .i64 0] rfl rfl (by unfold maxLen; omega) (fun h => h)).only ((Only.refl Empty _).drew) (fun _ _ h => h))
        have HS5 : Hid (w1.heap.size ≤ ((W4.alloc (.cells #[.int .i64 0, .int .i64 0] 98)).drew).heap.size) := Lib.hid (Nat.le_trans HQ.out.only.size HE5.out.size)
        have d4 : W4.cell? ⟨b, off, none⟩ = some (.slice Ar j cr) := (HE4.out.cell (p := ⟨b, off, none⟩) HTr.out.lt (fun h => h)).trans dr
        have d5 : ((W4.alloc (.cells #[.int .i64 0, .int .i64 0] 98)).drew).cell? ⟨b, off, none⟩ = some (.slice Ar j cr) := (HE5.out.cell (p := ⟨b, off, none⟩) HTr.out.lt (fun h => h)).trans dr
        have sB : ∀ W, Blk W wr.heap.size 98 #[.int .i64 0, .int .i64 0] → W.cell? ⟨wr.heap.size, 0, none⟩ = some (.int .i64 0) ∧ W.cell? ⟨wr.heap.size, 1, none⟩ = some (.int .i64 0) := fun W h => ⟨h.cell 0, h.cell 1⟩
        have hS4 := sB _ HB4.out
        have hS5 := sB _ HB5.out
        clear hW4 dr nr
        refine wp_region_held_drew (S := fun W => W.cell? ⟨wr.heap.size, 0, none⟩ = some (.int .i64 0) ∧ W.cell? ⟨wr.heap.size, 1, none⟩ = some (.int .i64 0)) (by kernel_rfl) hS4 (fun hHeld0 => ?_)
        refine take_yes 0 28 ?_ rfl rfl (by kernel_rfl) (by kernel_rfl) (by kernel_rfl) (fun _ _ _ h => h) (by kernel_rfl) ?_ (by assumption) ?_; rotate_left; (focus (intro w hSw; (try dsimp only at hSw); go_simp; all_goals first | with_reducible rfl)); simp only [Act.put, List.setIfInBounds_toArray, List.set_cons_zero, List.set_cons_succ]
        refine take_yes 1 29 ?_ rfl rfl (by kernel_rfl) (by kernel_rfl) (by kernel_rfl) (fun _ _ _ h => h) (by kernel_rfl) ?_ (by assumption) ?_; rotate_left; (focus (intro w hSw; (try dsimp only at hSw); go_simp; all_goals first | with_reducible rfl)); simp only [Act.put, List.setIfInBounds_toArray, List.set_cons_zero, List.set_cons_succ]
        refine take_yes 2 30 ?_ rfl rfl (by kernel_rfl) (by kernel_rfl) (by kernel_rfl) (fun _ _ _ h => h) (by kernel_rfl) ?_ (by assumption) ?_; rotate_left; (focus (intro w hSw; (try dsimp only at hSw); go_simp; all_goals first | with_reducible rfl)); simp only [Act.put, List.setIfInBounds_toArray, List.set_cons_zero, List.set_cons_succ]
        refine take_yes 4 32 (.agg #[.int .i64 0, .int .i64 0]) rfl rfl (by kernel_rfl) (by kernel_rfl) (by kernel_rfl) (fun _ _ _ h => h) (by kernel_rfl) ?_ (by assumption) ?_; (focus (intro w hSw; (try dsimp only at hSw); go_simp; all_goals first | with_reducible rfl)); simp only [Act.put, List.setIfInBounds_toArray, List.set_cons_zero, List.set_cons_succ]
        refine wpAnyH_ready (rs := [3, 5]) (by kernel_rfl) (by simp) ?_
        refine AllReadyH.cons rfl (fun K hK => ?_) (AllReadyH.cons rfl (fun K hK => ?_) AllReadyH.nil)
        · go_simp
          refine hK.out _ _ (hS4) (fun _ => ?_)
          clear hK K
          try simp only [Act.put, List.setIfInBounds_toArray, List.set_cons_zero, List.set_cons_succ]
          refine wpAnyH_ready (rs := [5]) (by kernel_rfl) (by simp) ?_
          refine AllReadyH.cons rfl (fun K hK => ?_) AllReadyH.nil
          go_simp
          refine hK.out _ _ (hS5) (fun _ => ?_)
          clear hK K
          try simp only [Act.put, List.setIfInBounds_toArray, List.set_cons_zero, List.set_cons_succ]
          refine wpAnyH_ready (rs := [6]) (by kernel_rfl) (by simp) ?_
          refine AllReadyH.cons rfl (fun K hK => ?_) AllReadyH.nil
          obtain ⟨A6, c6, W6, hrun, hG6, hgr6, -⟩ := run_append_rows (w := (W4.alloc (.cells #[.int .i64 0, .int .i64 0] 98)).drew) (cells := zkRowSlot) zkRowSlot_len (fun _ v hv => by simp [zkRowSlot] at hv; first | (rcases hv with rfl | rfl | rfl | rfl | rfl | rfl | rfl | rfl <;> rfl) | (rcases hv with rfl | rfl | rfl <;> rfl) | (rcases hv with rfl | rfl <;> rfl) | (subst hv; rfl)) (by decide) 45 98 (.agg #[.int .i64 0, .int .i64 0]) 16 Try.underlying45 infokRowSlot rfl (by decide) 45 w1.heap.size Ar j cr (List.replicate j ()) HG5.out ⟨W4.heap.size, 0, none⟩ 1 1 [()] HL5.out (by omega) HS5.out
          obtain ⟨hQ7, hBk, b6, f6, l6⟩ := HQ.out.next zkRowSlot_len HR.out HbS1.out Hb1.out.1 HP1.out HTr.out HGr.out HE5.out hgr6 hG6
          have HQ7 := Lib.hid hQ7
          have hS6 := sB W6 (hBk _ _ _ HB5.out (Nat.le_refl _)).1
          have hS7 := sB _ (hBk _ _ _ HB5.out (Nat.le_refl _)).2
          clear hQ7 hBk hG6 hgr6
          refine step_append_eq (ts := 45) rfl (.tmp 31) (.tmp 33) rfl rfl rfl rfl hrun ?_
          refine hK.out _ _ (hS6) (fun _ => ?_)
          clear hK K
          try simp only [Act.put, List.setIfInBounds_toArray, List.set_cons_zero, List.set_cons_succ]
          refine take_yes 7 35 ?_ rfl rfl (by kernel_rfl) (by kernel_rfl) (by kernel_rfl) (fun _ _ _ h => h) (by kernel_rfl) ?_ (by assumption) ?_; rotate_left; (focus (intro w hSw; (try dsimp only at hSw); go_simp; all_goals first | with_reducible rfl)); simp only [Act.put, List.setIfInBounds_toArray, List.set_cons_zero, List.set_cons_succ]
          refine wpAnyH_ready (rs := [8]) (by kernel_rfl) (by simp) ?_
          refine AllReadyH.cons rfl (fun K hK => ?_) AllReadyH.nil
          go_simp
          refine hK.out _ _ (hS7) (fun _ => ?_)
          clear hK K
          try simp only [Act.put, List.setIfInBounds_toArray, List.set_cons_zero, List.set_cons_succ]
          refine wpAnyH_done (by kernel_rfl) ?_ _
          clear hrun b6 f6 l6 hS6 hS7
          go_wp2
          go_roundg (nn - (j + 1))
          case measure => omega
          case rel => exact ⟨j + 1, by omega, by omega, HQ7⟩
        · go_simp
          refine hK.out _ _ (hS5) (fun _ => ?_)
          clear hK K
          try simp only [Act.put, List.setIfInBounds_toArray, List.set_cons_zero, List.set_cons_succ]
          refine wpAnyH_ready (rs := [3]) (by kernel_rfl) (by simp) ?_
          refine AllReadyH.cons rfl (fun K hK => ?_) AllReadyH.nil
          go_simp
          refine hK.out _ _ (hS5) (fun _ => ?_)
          clear hK K
          try simp only [Act.put, List.setIfInBounds_toArray, List.set_cons_zero, List.set_cons_succ]
          refine wpAnyH_ready (rs := [6]) (by kernel_rfl) (by simp) ?_
          refine AllReadyH.cons rfl (fun K hK => ?_) AllReadyH.nil
          obtain ⟨A6, c6, W6, hrun, hG6, hgr6, -⟩ := run_append_rows (w := (W4.alloc (.cells #[.int .i64 0, .int .i64 0] 98)).drew) (cells := zkRowSlot) zkRowSlot_len (fun _ v hv => by simp [zkRowSlot] at hv; first | (rcases hv with rfl | rfl | rfl | rfl | rfl | rfl | rfl | rfl <;> rfl) | (rcases hv with rfl | rfl | rfl <;> rfl) | (rcases hv with rfl | rfl <;> rfl) | (subst hv; rfl)) (by decide) 45 98 (.agg #[.int .i64 0, .int .i64 0]) 16 Try.underlying45 infokRowSlot rfl (by decide) 45 w1.heap.size Ar j cr (List.replicate j ()) HG5.out ⟨W4.heap.size, 0, none⟩ 1 1 [()] HL5.out (by omega) HS5.out
          obtain ⟨hQ7, hBk, b6, f6, l6⟩ := HQ.out.next zkRowSlot_len HR.out HbS1.out Hb1.out.1 HP1.out HTr.out HGr.out HE5.out hgr6 hG6
          have HQ7 := Lib.hid hQ7
          have hS6 := sB W6 (hBk _ _ _ HB5.out (Nat.le_refl _)).1
          have hS7 := sB _ (hBk _ _ _ HB5.out (Nat.le_refl _)).2
          clear hQ7 hBk hG6 hgr6
          refine step_append_eq (ts := 45) rfl (.tmp 31) (.tmp 33) rfl rfl rfl rfl hrun ?_
          refine hK.out _ _ (hS6) (fun _ => ?_)
          clear hK K
          try simp only [Act.put, List.setIfInBounds_toArray, List.set_cons_zero, List.set_cons_succ]
          refine take_yes 7 35 ?_ rfl rfl (by kernel_rfl) (by kernel_rfl) (by kernel_rfl) (fun _ _ _ h => h) (by kernel_rfl) ?_ (by assumption) ?_; rotate_left; (focus (intro w hSw; (try dsimp only at hSw); go_simp; all_goals first | with_reducible rfl)); simp only [Act.put, List.setIfInBounds_toArray, List.set_cons_zero, List.set_cons_succ]
          refine wpAnyH_ready (rs := [8]) (by kernel_rfl) (by simp) ?_
          refine AllReadyH.cons rfl (fun K hK => ?_) AllReadyH.nil
          go_simp
          refine hK.out _ _ (hS7) (fun _ => ?_)
          clear hK K
          try simp only [Act.put, List.setIfInBounds_toArray, List.set_cons_zero, List.set_cons_succ]
          refine wpAnyH_done (by kernel_rfl) ?_ _
          clear hrun b6 f6 l6 hS6 hS7
          go_wp2
          go_roundg (nn - (j + 1))
          case measure => omega
          case rel => exact ⟨j + 1, by omega, by omega, HQ7⟩
      · have hjn : j = nn := by omega
        subst hjn
        go_wp2
        go_quiet (fail)
        go_wp2
        have HE2 : Hid (Only Empty wr (wr.drewN nq)) := Lib.hid ((Only.refl Empty wr).drewN nq)
        obtain ⟨w2, hw2⟩ : ∃ w2, w2 = wr.drewN nq := ⟨_, rfl⟩
        rw [← hw2] at HE2 ⊢
        have HQ2 : Hid (RowG c g S1 N z1 b off zkRowSlot 2 98 w1 j w2) := Lib.hid ⟨HQ.out.pass.only HE2.out (fun _ _ h => h.elim) (fun _ _ h => h.elim), HQ.out.only.trans' HE2.out (fun _ _ h => h.elim), fun o ho => (HE2.out.cell (p := ⟨b, o, none⟩) HTr.out.lt (fun h => h)).trans (HQ.out.rest o ho), Ar, cr, HTr.out.only HE2.out (fun h => h), HGr.out.only zkRowSlot_len HE2.out (fun _ _ _ h => h)⟩
        have HT2 : Hid (Tgt c w2 b off [.slice Ar j cr]) := Lib.hid (HTr.out.only HE2.out (fun h => h))
        have HG2 : Hid (GotR zkRowSlot 2 98 w1.heap.size w2 Ar j cr (List.replicate j ())) := Lib.hid (HGr.out.only zkRowSlot_len HE2.out (fun _ _ _ h => h))
        have HD2 : Hid (w2.cell? ⟨b, off, none⟩ = some (.slice Ar j cr)) := Lib.hid (by have := HT2.out.cell 0 _ rfl; rwa [Nat.add_zero] at this)
        have HW0 : Hid (RowI c g S1 N z1 b Ar zkRowSlot 2 R e cost v0 w2 j 0 w2) := Lib.hid (RowI.start HQ2.out.pass HG2.out zkRowSlot_len (fun q hq => HP1.out.new q hq) HR.out)
        have hnc2 : j ≤ cr := HG2.out.row.2.1
        have hcm2 : cr ≤ 9223372036854775807 := by have h2 := HG2.out.row.2.2.1; unfold maxLen at h2; omega
        clear nr dr hw2 HE2 HTr HGr HQ
        obtain ⟨wo, rfl⟩ : ∃ wo : World, wo = wr := ⟨_, rfl⟩
        go_loopw [40] (fun i wv => ∃ k : Nat, k ≤ j ∧ i = .int .i64 k ∧ Hid (RowI c g S1 N z1 b Ar zkRowSlot 2 R e cost v0 w2 j k wv)) (fun i _ => j - (intOf i).toNat)
        case atStart => exact ⟨0, Nat.zero_le _, rfl, HW0⟩
        case round =>
          clear HW0
          obtain ⟨k, hk, rfl, HRW⟩ := hrel
          obtain ⟨Sk, sk, done, hPk, hsk, hOk, hSk, hdl, hex⟩ := HRW.out.ex
          have hbr : ∀ r o, Ar = some ⟨r, o, none⟩ → w1.heap.size ≤ r := fun r o h => (HG2.out.own.lt r (by rw [h]; rfl)).1
          have dk : wr.cell? ⟨b, off, none⟩ = some (.slice Ar j cr) := (hOk.cell (p := ⟨b, off, none⟩) HT2.out.lt (fun h => by
            rcases h with h | ⟨o, h⟩
            · exact HbS1.out h
            · have := hbr b o h; have := Hb1.out.1; omega)).trans HD2.out
          have HPk := Lib.hid hPk
          have Hsk := Lib.hid hsk
          have HOk := Lib.hid hOk
          have HSk := Lib.hid hSk
          have Hdl := Lib.hid hdl
          have Hex := Lib.hid hex
          have Hbr := Lib.hid hbr
          clear hPk hsk hOk hSk hdl hex HRW hbr
          by_cases hlt : k < j
          · obtain ⟨r, rfl, hrl, hXr, hBr, hdone, hblank⟩ := Hex.out (by omega)
            have hkc : (k + 1) * cost ≤ most * cost := Nat.mul_le_mul_right _ (by omega)
            have hkc' : (k + 1) * cost = k * cost + cost := Nat.succ_mul _ _
            have hSr : ¬ Sk r := fun h => by
              rcases Hsk.out r h with h | h
              · have := HP1.out.lt r h; have := Hbr.out r 0 rfl; omega
              · omega
            have hTk : Tgt c wr r (k * 2) [.int .i64 0, .int .i64 0] := ⟨Nat.lt_of_lt_of_le hrl HOk.out.size, fun i v hv => hblank k (Nat.le_refl _) hlt i v hv, fun _ => ⟨hXr, hBr⟩⟩
            have CI := HI.out wr g Sk (N + 2 + k * cost) sk r (k * 2) [.int .i64 0, .int .i64 0] v0 HPk.out (by omega) hSr hTk (Hz.out _ _) (fun _ => Hbl.out)
            rw [Hp.out, ← Hcv.out] at CI
            have HCI := Lib.hid CI
            have Hr : Hid (r < w2.heap.size ∧ c.X r) := Lib.hid ⟨hrl, hXr⟩
            have Hdone := Lib.hid hdone
            have Hblank := Lib.hid hblank
            clear CI hTk hSr hrl hXr hBr hdone hblank
            go_wp2_with fail
            refine HCI.out.mono ?_
            rintro e5 w5 ⟨rfl, S5, s5, cs5, x5, hD5, hT5, hR5, hS5⟩
            rw [HR.out] at hS5
            have HW5 : Hid (RowI c g S1 N z1 b (some ⟨r, 0, none⟩) zkRowSlot 2 R e cost v0 w2 j (k + 1) w5) := Lib.hid (RowI.next HR.out Hk.out hu Hsk.out HOk.out HSk.out Hdl.out rfl Hr.out.1 Hr.out.2 Hdone.out Hblank.out hD5 hT5 hR5 hS5)
            clear hD5 hT5 hR5 hS5 HCI dk hkc hkc'
            go_wp2
            go_roundw
            case rel => exact ⟨k + 1, by omega, by go_num, HW5⟩
            case measure => simp [intOf]; omega
          · have hkn : k = j := by omega
            subst hkn
            go_wp2
            go_end0
            have hkm : k * cost ≤ most * cost := Nat.mul_le_mul_right _ hnm
            have hbo : ¬ (S1 b ∨ ∃ o, Ar = some ⟨b, o, none⟩) := fun h => by
              rcases h with h | ⟨o, h⟩
              · exact HbS1.out h
              · have := Hbr.out b o h; have := Hb1.out.1; omega
            have hO12 : Only (Zs c S b) w w2 := (HO1.out.mono (fun _ _ h => .inl h)).trans (HQ2.out.only.mono (fun q _ h => .inr ⟨HR.out, h⟩))
            have hOw : Only (Zs c S b) w wr := hO12.trans' HOk.out (fun q hq h => by
              rcases h with h | ⟨o, h⟩
              · exact .inl ((Hs1.out q h).resolve_right (by omega))
              · have := Hbr.out q o h; have := HO1.out.size; omega)
            have hsub : ∀ q, Sk q → S q ∨ w.heap.size ≤ q := fun q hq => by
              rcases Hsk.out q hq with h | h
              · exact Hs1.out q h
              · exact .inr (Nat.le_trans hO12.size h)
            refine ⟨rfl, Sk, sk, [.slice Ar k cr], done, ⟨HPk.out.more (by omega), hsub, hOw, fun o ho => ?_⟩, HT2.out.only HOk.out hbo, ⟨Ar, k, cr, rfl, ?_⟩, ?_⟩
            · rw [HOk.out.cell (p := ⟨b, o, none⟩) HT2.out.lt hbo, HQ2.out.rest o (by show o ≠ off; have ho : o < off ∨ off + 1 ≤ o := ho; omega)]
              exact HO1.out.cell (p := ⟨b, o, none⟩) HT.out.lt Hb.out
            · rcases Nat.eq_zero_or_pos k with h0 | h0
              · subst h0
                exact RowI.rows (r := 0) (w2 := w2) Hk.out Hdl.out HG2.out.row.2.1 HG2.out.row.2.2.1 HG2.out.isNil (fun h => absurd h (by omega)) (by have := HO1.out.size; have := HQ2.out.only.size; omega)
              · obtain ⟨r, eA, hrl, hXr, hBr, hdone, hblank⟩ := Hex.out h0
                refine RowI.rows (r := r) (w2 := w2) Hk.out Hdl.out HG2.out.row.2.1 HG2.out.row.2.2.1 HG2.out.isNil (fun _ => ⟨eA, Nat.lt_of_lt_of_le hrl HOk.out.size, fun h => ?_, ?_, hdone⟩) (by have := HO1.out.size; have := HQ2.out.only.size; omega)
                · rcases Hsk.out r h with h | h
                  · have := HP1.out.lt r h; have := Hbr.out r 0 eA; omega
                  · omega
                · have := Hbr.out r 0 eA; have := HO1.out.size; omega
            · refine Stp.row (n := 0) (n' := (k : Int)) (by omega) rfl HS1.out ?_ (fun _ => by rw [Hdl.out])
              rw [HR.out]
              have h5 := HSk.out
              show Stp true (manyE e (k : Int).toNat) (some z1) [] sk done
              rw [Int.toNat_natCast]
              exact h5

end Go.Proofs.Ytendpbklcgiafaa

/- The walk over klass's row, of a writer. -/
namespace Go.Proofs.Ytendpbklcgiafaa
set_option maxRecDepth 100000
open Go.RowKit

set_option maxHeartbeats 4000000 in
theorem kRowField_wr {α : Type} {c : Cx} (hm : c.m = .wr) (most : Nat) (hmost : most ≤ 255) (mostV : Int) (hmv : mostV = (most : Int)) {K : Nat} {R : RepT α} {e : Enc α} {cost : Nat} {blank : List Value → α → Prop} (hI : Item c K R e cost blank) (hk : R.k = 3) (hu : Uniq e) (hcost : cost ≤ 1000000)
    (eK : ∀ (args : Array Value) (W : World), (callFunc K args).run Try.prog W = .ok (.enter K args) W)
    (w : World) (g : Nat) (S : Nat → Prop) (N : Nat) (s : Option (List UInt8)) (b off : Nat) (A : Option Addr) (n cap : Nat) (l : List α) (hP : PassAt c w g S N s) (hN : N + (2 + most * cost) ≤ 16000000) (hb : ¬ S b) (hT : Tgt c w b off [.slice A n cap]) (hL : RowS R w (Zs c S b) A n cap l) :
    Calls Try.prog 31 #[c.m.v g, .pointer (some ⟨b, off, none⟩), .int .i64 mostV, .func (.func K) #[c.cv] #[]] w (After c w g S (N + (2 + most * cost)) s b off (rowT R) (rowE most e) l) := by
  have hrd : c.m.isRd = false := by rw [hm]; rfl
  have hnl := hL.1
  have hcm : cap ≤ 9223372036854775807 := by have h2 := hL.2.2.1; unfold maxLen at h2; omega
  have hnc : n ≤ cap := hL.2.1
  have hc0 : w.cell? ⟨b, off, none⟩ = some (.slice A n cap) := by have := hT.cell 0 _ rfl; rwa [Nat.add_zero] at this
  -- the box of n
  have hP1 : PassAt c (w.alloc (.cells #[.int .i64 (n : Int)] 3)) g S N s := hP.only ((Only.refl Empty w).alloc _) (fun _ _ h => h.elim) (fun _ _ h => h.elim)
  have hO1 : Ov c (w.alloc (.cells #[.int .i64 (n : Int)] 3)) g S w.heap.size 0 1 (w.alloc (.cells #[.int .i64 (n : Int)] 3)) S N s [.int .i64 (n : Int)] := Ov.start hP1 (Tgt.new hP 3 [.int .i64 (n : Int)]) rfl (hP.fresh (Nat.le_refl _))
  have hs1 : (w.alloc (.cells #[.int .i64 (n : Int)] 3)).heap.size = w.heap.size + 1 := by simp
  have C1 := hO1.numUp (W := (w.alloc (.cells #[.int .i64 (n : Int)] 3)).alloc (.cells #[.int .i64 mostV] 3)) ((Only.refl Empty _).alloc _) (w.heap.size + 1) most hmv (by have h := Blk.new (w.alloc (.cells #[.int .i64 (n : Int)] 3)) 3 #[.int .i64 mostV]; rwa [hs1] at h) (by rw [hs1]; exact Nat.le_refl _) (by omega) 0 rfl (by omega)
  rw [Nat.add_zero] at C1
  have rG := fun W => reach_goes c.m g W
  have eG : ∀ (args : Array Value) (W : World), (callFunc 17 args).run Try.prog W = .ok (.enter 17 args) W := fun args W => by kernel_rfl
  have HP := Lib.hid hP
  have HT := Lib.hid hT
  have HL := Lib.hid hL
  have Hb := Lib.hid hb
  have HM := Lib.hid hm
  have HI := Lib.hid hI
  have HR : Hid (c.m.isRd = false) := Lib.hid hrd
  have Hnl := Lib.hid hnl
  have Hk := Lib.hid hk
  have hnz : 0 < n → ∃ bb oo, A = some ⟨bb, oo, none⟩ := fun h0 => by
    obtain ⟨bb, oo, h, _⟩ := hL.2.2.2.2 h0
    exact ⟨bb, oo, h⟩
  have Hnz := Lib.hid hnz
  obtain ⟨T, hTy⟩ : ∃ T, T = c.m.T := ⟨_, rfl⟩
  have hp : c.m.v g = .iface T (.pointer (some ⟨g, 0, none⟩)) := by rw [hTy]; rfl
  obtain ⟨cv, hcv⟩ : ∃ cv, cv = c.cv := ⟨_, rfl⟩
  rw [hp] at C1 ⊢
  rw [← hTy] at rG
  rw [← hcv]
  have Hp := Lib.hid hp
  have Hcv := Lib.hid hcv
  have HC1 := Lib.hid C1
  have Hmv := Lib.hid hmv
  clear C1 hTy hp hcv hP hT hL hb hm hI hrd hnl hk hP1 hO1 hs1 hnz hmv
  go_enter Try.func31, Try.ntmps31
  go_wp2_with (go_at_call 42; refine (kUpTo_any _ _).mono ?_; rintro e1 wu ⟨rfl, rfl⟩)
  refine HC1.out.mono ?_
  rintro e1 w1 ⟨rfl, S1, s1, x1, hO1, hS1⟩
  obtain ⟨hP1, hs1, hO1'⟩ := hO1.done.went (w := w) ((Only.refl Empty w).alloc _) (Nat.le_refl _)
  have hx1 : x1 = (n : Int) := by
    rw [HR.out] at hS1
    exact hS1.1
  subst hx1
  have hSt : s1 = s.bind fun out => (kindE (upToC most) 2 (n : Int)).map (out ++ ·) := by
    rw [HR.out] at hS1
    exact hS1.2
  have HS1 := Lib.hid hS1
  have HSt := Lib.hid hSt
  have HP1 := Lib.hid hP1
  have Hs1 := Lib.hid hs1
  have HO1 := Lib.hid hO1'
  have n1 : w1.cell? ⟨w.heap.size, 0, none⟩ = some (.int .i64 (n : Int)) := by have := hO1.tgt.cell 0 _ rfl; exact this
  have d1 : w1.cell? ⟨b, off, none⟩ = some (.slice A n cap) := (hO1'.cell (p := ⟨b, off, none⟩) HT.out.lt Hb.out).trans hc0
  clear hS1 hSt hP1 hs1 hO1 hO1' HC1 hc0
  have HL1 : Hid (RowS R w1 (Zs c S1 b) A n cap l) := Lib.hid (HL.out.next (HO1.out.mono (fun _ _ h => .inl h)) (Zs.mono Hs1.out))
  go_wp2_with fail
  refine (goesOn_any HP1.out).mono ?_
  rintro e2 w2 ⟨rfl, rfl⟩
  cases hs : s1 with
  | none =>
    subst hs
    rw [show (none : Option (List UInt8)).isSome = false from rfl]
    go_wp2
    go_end0
    refine ⟨rfl, S1, none, [.slice A n cap], l, ?_, HT.out.only HO1.out Hb.out, ⟨A, n, cap, rfl, HL1.out.mono (fun q _ hq => Zn_wr HM.out _ _ _ q hq)⟩, ?_⟩
    · exact Done.own (HP1.out.more (by omega)) Hs1.out HO1.out b off 1 Hb.out HT.out.lt
    · exact Stp.row (by omega) (by rw [Hnl.out]) HS1.out (Stp.none_ _ _) (fun h => absurd rfl h)
  | some z1 =>
    subst hs
    rw [show (some z1).isSome = true from rfl]
    have hnm : n ≤ most := by
      have h := HSt.out
      cases s with
      | none => cases h
      | some z =>
        unfold kindE at h
        by_cases hu : upToC most (n : Int) = true
        · unfold upToC at hu
          have := of_decide_eq_true hu
          omega
        · rw [if_neg hu] at h
          cases h
    go_wp2
    go_loopw [] (fun wr => Hid (Only Empty w1 wr)) (fun _ => 0)
    case atStart => exact Lib.hid (Only.refl _ _)
    case round =>
      have hOr := hrel.out
      have nr : wr.cell? ⟨w.heap.size, 0, none⟩ = some (.int .i64 (n : Int)) := (hOr.cell (p := ⟨w.heap.size, 0, none⟩) (World.block_lt_of_cell? _ _ n1) (fun h => h)).trans n1
      have dr : wr.cell? ⟨b, off, none⟩ = some (.slice A n cap) := (hOr.cell (p := ⟨b, off, none⟩) (World.block_lt_of_cell? _ _ d1) (fun h => h)).trans d1
      have HOr := Lib.hid hOr
      clear hrel hOr n1 d1
      go_wp2
      go_quiet (fail)
      go_wp2
      have hO2 : Only Empty w1 (wr.drewN nq) := HOr.out.trans ((Only.refl Empty wr).drewN nq)
      have HW0 : Hid (RowW c w1 g S1 e (N + 2) cost (some z1) l 0 (wr.drewN nq)) := Lib.hid ⟨S1, some z1, by rw [Nat.zero_mul]; exact HP1.out.only hO2 (fun _ _ h => h.elim) (fun _ _ h => h.elim), fun _ h => .inl h, hO2.mono (fun _ _ h => h.elim), by rw [List.take_zero]; exact Stp.many_nil _ _ _⟩
      have d2 : w1.cell? ⟨b, off, none⟩ = some (.slice A n cap) := (HOr.out.cell (p := ⟨b, off, none⟩) (Nat.lt_of_lt_of_le HT.out.lt HO1.out.size) (fun h => h)).symm.trans dr
      have HD2 := Lib.hid d2
      have hbS1 : ¬ S1 b := fun h => by
        rcases Hs1.out b h with h | h
        · exact Hb.out h
        · have := HT.out.lt; omega
      have HbS1 := Lib.hid hbS1
      clear nr dr hO2 d2 hbS1
      obtain ⟨wo, rfl⟩ : ∃ wo : World, wo = wr := ⟨_, rfl⟩
      go_loopw [40] (fun i wv => ∃ k : Nat, k ≤ n ∧ i = .int .i64 k ∧ Hid (RowW c w1 g S1 e (N + 2) cost (some z1) l k wv)) (fun i _ => n - (intOf i).toNat)
      case atStart => exact ⟨0, Nat.zero_le _, rfl, HW0⟩
      case round =>
        clear HW0
        obtain ⟨k, hk, rfl, HRW⟩ := hrel
        obtain ⟨Sk, sk, hPk, hsk, hOk, hSk⟩ := HRW.out.ex
        have dk : wr.cell? ⟨b, off, none⟩ = some (.slice A n cap) := (hOk.cell (p := ⟨b, off, none⟩) (Nat.lt_of_lt_of_le HT.out.lt HO1.out.size) HbS1.out).trans HD2.out
        have HPk := Lib.hid hPk
        have Hsk := Lib.hid hsk
        have HOk := Lib.hid hOk
        have HSk := Lib.hid hSk
        clear hPk hsk hOk hSk HRW
        by_cases hlt : k < n
        · obtain ⟨bb, oo, rfl⟩ := Hnz.out (by omega)
          have hLk := HL1.out.next (HOk.out.mono (fun _ _ h => .inl h)) (Zs.mono (b := b) Hsk.out)
          obtain ⟨bb', oo', e1, hbb, hZb, hit⟩ := hLk.2.2.2.2 (by omega)
          cases e1
          obtain ⟨x, hx⟩ : ∃ x, l[k]? = some x := ⟨l[k]'(by rw [Hnl.out]; omega), List.getElem?_eq_getElem _⟩
          obtain ⟨cs, hcs, hrep⟩ := hit k x hx
          rw [Hk.out] at hcs
          have hTk : Tgt c wr bb (oo + k * 3) cs := ⟨hbb, hcs, fun h => by rw [HR.out] at h; cases h⟩
          have hkc : (k + 1) * cost ≤ most * cost := Nat.mul_le_mul_right _ (by omega)
          have hkc' : (k + 1) * cost = k * cost + cost := Nat.succ_mul _ _
          have CI := HI.out wr g Sk (N + 2 + k * cost) sk bb (oo + k * 3) cs x HPk.out (by omega) (fun h => hZb (.inl h)) hTk (R.next hrep (Only.refl _ _) (fun q _ h => Zs_wr HM.out _ _ _ q h)) (fun h => by rw [HR.out] at h; cases h)
          rw [Hp.out, ← Hcv.out] at CI
          have HCI := Lib.hid CI
          have Hx := Lib.hid hx
          have HbS : Hid (¬ Zs c Sk b bb ∧ bb < wr.heap.size) := Lib.hid ⟨hZb, hbb⟩
          clear CI hTk hit hrep hLk hx hcs hZb hbb
          go_wp2_with fail
          refine HCI.out.mono ?_
          rintro e5 w5 ⟨rfl, S5, s5, cs5, x5, hD5, hT5, hR5, hS5⟩
          have hx5 : x5 = x := by
            rw [HR.out] at hS5
            exact hS5.1
          subst hx5
          have HW5 : Hid (RowW c w1 g S1 e (N + 2) cost (some z1) l (k + 1) w5) := Lib.hid (by
            refine ⟨S5, s5, by rw [hkc', ← Nat.add_assoc]; exact hD5.pass, fun q hq => ?_, HOk.out.trans' (hD5.only.mono (fun q _ h => (Zs_wr HM.out _ _ b q h).resolve_right (fun h2 => by rw [HR.out] at h2; cases h2.1))) (fun q hq h => ?_), ?_⟩
            · rcases hD5.sub q hq with h | h
              · exact Hsk.out q h
              · exact .inr (Nat.le_trans HOk.out.size h)
            · rcases Hsk.out q h with h | h
              · exact h
              · omega
            · have h5 := Stp.many_snoc hu (by rw [List.length_take, Hnl.out]; omega) HSk.out (by rw [HR.out] at hS5; exact hS5)
              rw [← take_one l k x5 Hx.out] at h5
              exact h5)
          clear hD5 hT5 hR5 hS5 HCI dk hkc hkc'
          go_wp2
          go_roundw
          case rel => exact ⟨k + 1, by omega, by go_num, HW5⟩
          case measure => simp [intOf]; omega
        · have hkn : k = n := by omega
          subst hkn
          go_wp2
          go_end0
          have hkm : k * cost ≤ most * cost := Nat.mul_le_mul_right _ hnm
          have hOw : Only S w wr := HO1.out.trans' HOk.out (fun q hq h => (Hs1.out q h).resolve_right (by omega))
          have hsub : ∀ q, Sk q → S q ∨ w.heap.size ≤ q := fun q hq => by
            rcases Hsk.out q hq with h | h
            · exact Hs1.out q h
            · exact .inr (Nat.le_trans HO1.out.size h)
          refine ⟨rfl, Sk, sk, [.slice A k cap], l, ?_, HT.out.only hOw Hb.out, ⟨A, k, cap, rfl, (HL1.out.next (HOk.out.mono (fun _ _ h => .inl h)) (Zs.mono (b := b) Hsk.out)).mono (fun q _ hq => Zn_wr HM.out _ _ _ q hq)⟩, ?_⟩
          · exact Done.own (HPk.out.more (by omega)) hsub hOw b off 1 Hb.out HT.out.lt
          · have h5 := HSk.out
            rw [List.take_of_length_le (by rw [Hnl.out]; omega)] at h5
            refine Stp.row (by omega) (by rw [Hnl.out]) HS1.out (by rw [HR.out]; simpa using h5) (fun _ => by rw [Hnl.out])

end Go.Proofs.Ytendpbklcgiafaa
