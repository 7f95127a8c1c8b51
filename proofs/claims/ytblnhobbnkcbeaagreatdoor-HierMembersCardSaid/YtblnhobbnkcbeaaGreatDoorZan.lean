/- The walk over the document's Line (layer 16). -/
import Derived.Test.YtblnhobbnkcbeaaGreatDoorZam
import Derived.Laws.OwnMore
namespace Go.Proofs.YtblnhobbnkcbeaaGreatDoor
set_option maxRecDepth 100000
open Go.RowKit

def rawU (x : UnD) (Af : Option Addr) (nf cf : Nat) (Am : Option Addr) (nm cm : Nat) : Raw 4 := ⟨[.string (strB x.name), .string (strB x.super), .slice Af nf cf, .slice Am nm cm], rfl, by simp [Value.oneCell']⟩
theorem rawU_rep {w : World} {x : UnD} {Af : Option Addr} {nf cf : Nat} {Am : Option Addr} {nm cm : Nat} (h : UnAt4 w x Af nf cf Am nm cm) : RepL unW w [rawU x Af nf cf Am nm cm] [x] :=
  ⟨rfl, fun i r y h1 h2 => by
    cases i with
    | succ i => exact nomatch (show (none : Option (Raw unW.k)) = some r from h1)
    | zero =>
      have e1 : rawU x Af nf cf Am nm cm = r := Option.some.inj h1
      have e2 : x = y := Option.some.inj h2
      subst e1; subst e2
      exact ⟨Af, nf, cf, Am, nm, cm, rfl, h.1, h.2⟩⟩
/-- What changes a block that isn't the row's. -/
theorem GotR.far {α : Type} {cells : α → List Value} {k : Nat} {t : TypeId} {base g2 : Nat} {A : Option Addr} {n c : Nat} {l : List α} {w w' : World} (hk : ∀ f, (cells f).length = k) (h : GotR cells k t base w A n c l) (hne : (Value.slice A n c).ownBlock ≠ some g2) (o : Only (· = g2) w w') : GotR cells k t base w' A n c l := by
  rcases h.here with h0 | ⟨g, cur, h1, hg, hb, _⟩
  · subst h0
    obtain ⟨rfl, rfl⟩ := h.isNil rfl
    have hl : l = [] := List.eq_nil_of_length_eq_zero h.row.1
    subst hl
    exact GotR.nil_ _ _ _ _ _
  · subst h1
    have hgx : g ≠ g2 := fun e => hne (by simp [Value.ownBlock, e])
    have own' : w'.ownsRow base t k (.slice (some ⟨g, 0, none⟩) n c) n (l.flatMap cells) := by
      rcases h.own.2 with ⟨e, _⟩ | ⟨g', cap', cur', e, hg', hh, r⟩
      · cases e
      · cases e
        exact ⟨h.own.1, Or.inr ⟨g, c, cur', rfl, hg', (o.block g (Array.getElem?_eq_some_iff.1 hh).1 hgx).trans hh, r⟩⟩
    obtain ⟨A', c', e, h'⟩ := GotR.of_own hk own' h.row.1
    cases e
    exact h'
/-- The block of a row of the call's own is there. -/
theorem GotR.lt_ {α : Type} {cells : α → List Value} {k : Nat} {t : TypeId} {base : Nat} {w : World} {A : Option Addr} {n c : Nat} {l : List α} (h : GotR cells k t base w A n c l) : (Value.slice A n c).ownBlock ≠ some w.heap.size := by
  rcases h.here with rfl | ⟨g, cur, rfl, _, hb, _⟩
  · obtain ⟨rfl, rfl⟩ := h.isNil rfl
    simp [Value.ownBlock]
  · have := hb.lt
    simp [Value.ownBlock]
    omega
/-- What stands in Line's cell. -/
def CurU (L : List UnD) (d : Bs) (w wr : World) (g : Nat) (ok : Bool) : Prop := match findU L d with
  | none => ok = false
  | some x => ok = true ∧ ∃ Af nf cf Am nm cm, Blk wr g 85 #[.string (strB x.name), .string (strB x.super), .slice Af nf cf, .slice Am nm cm] ∧ UnAt4 w x Af nf cf Am nm cm
def RelN (L : List UnD) (c : Bs) (n : Nat) (w : World) (o t ok : Value) (wr : World) : Prop :=
  ∃ (k : Nat) (A : Option Addr) (cp : Nat) (rs : List (Raw 4)) (pre : List UnD) (d : Bs) (g : Nat) (b : Bool), k ≤ n + 1 ∧ o = .slice A k cp ∧ t = .pointer (some ⟨g, 0, none⟩) ∧ ok = .bool b ∧ pre.length = k ∧ (∀ j, lineU L (k + j) c = pre ++ lineU L j d) ∧
    GotR rawC 4 85 w.heap.size wr A k cp rs ∧ RepL unW w rs pre ∧ CurU L d w wr g b ∧ Below w.heap.size w wr ∧ (Value.slice A k cp).ownBlock ≠ some g
def lenSl : Value → Nat
  | .slice _ n _ => n
  | _ => 0
theorem reln_next {L : List UnD} {c : Bs} {n k : Nat} {w w3 : World} {A3 : Option Addr} {c3 : Nat} {rs : List (Raw 4)} {pre : List UnD} {x : UnD} {d : Bs} {g3 : Nat} {cs : Array Value} (v0 v1 v2 v3 : Value) (b' : Bool) (hk : k + 1 ≤ n + 1) (hp : pre.length = k) (hl : ∀ j, lineU L (k + 1 + j) c = (pre ++ [x]) ++ lineU L j d)
    (hG : GotR rawC 4 85 w.heap.size w3 A3 (k + 1) c3 rs) (hr : RepL unW w rs (pre ++ [x])) (hB : Below w.heap.size w w3) (hne : (Value.slice A3 (k + 1) c3).ownBlock ≠ some g3) (kb : Blk w3 g3 85 cs) (hg : w.heap.size ≤ g3)
    (hc : match findU L d with | none => b' = false | some y => b' = true ∧ ∃ Af nf cf Am nm cm, v0 = .string (strB y.name) ∧ v1 = .string (strB y.super) ∧ v2 = .slice Af nf cf ∧ v3 = .slice Am nm cm ∧ UnAt4 w y Af nf cf Am nm cm) (hcs : cs.size = 4 := by rfl) :
    RelN L c n w (.slice A3 (k + 1) c3) (.pointer (some ⟨g3, 0, none⟩)) (.bool b') ((((w3.setCell ⟨g3, 0, none⟩ v0).setCell ⟨g3, 1, none⟩ v1).setCell ⟨g3, 2, none⟩ v2).setCell ⟨g3, 3, none⟩ v3) := by
  have ho : Only (· = g3) w3 ((((w3.setCell ⟨g3, 0, none⟩ v0).setCell ⟨g3, 1, none⟩ v1).setCell ⟨g3, 2, none⟩ v2).setCell ⟨g3, 3, none⟩ v3) := ((((Only.refl (· = g3) w3).setCell (p := ⟨g3, 0, none⟩) (Or.inl rfl) _).setCell (p := ⟨g3, 1, none⟩) (Or.inl rfl) _).setCell (p := ⟨g3, 2, none⟩) (Or.inl rfl) _).setCell (p := ⟨g3, 3, none⟩) (Or.inl rfl) _
  obtain ⟨a0, a1, a2, a3, rfl⟩ : ∃ a0 a1 a2 a3, cs = #[a0, a1, a2, a3] := by
    obtain ⟨l⟩ := cs
    match l, hcs with
    | [a0, a1, a2, a3], _ => exact ⟨a0, a1, a2, a3, rfl⟩
  have kb2 : Blk ((((w3.setCell ⟨g3, 0, none⟩ v0).setCell ⟨g3, 1, none⟩ v1).setCell ⟨g3, 2, none⟩ v2).setCell ⟨g3, 3, none⟩ v3) g3 85 #[v0, v1, v2, v3] := (((kb.set_ 0 v0).set_ 1 v1).set_ 2 v2).set_ 3 v3
  refine ⟨k + 1, A3, c3, rs, pre ++ [x], d, g3, b', hk, rfl, rfl, rfl, (by simp [hp]), hl, hG.far rawC_len hne ho, hr, ?_, hB.trans (ho.below hB.size (fun j hj e => by omega)), hne⟩
  unfold CurU
  cases hf : findU L d with
  | none => rw [hf] at hc; exact hc
  | some y =>
    rw [hf] at hc
    obtain ⟨h0, Af, nf, cf, Am, nm, cm, rfl, rfl, rfl, rfl, hu⟩ := hc
    exact ⟨h0, Af, nf, cf, Am, nm, cm, kb2, hu⟩
/-- What Line answers. -/
def LineD (L : List UnD) (l : List UnD) (w' : World) (e : Ending) : Prop := ∃ A cp, e = .returned (.slice A l.length cp) ∧ RowS unW w' Empty A l.length cp l
theorem line_end {L : List UnD} {c : Bs} {k j : Nat} {A : Option Addr} {cp : Nat} {rs : List (Raw 4)} {pre r : List UnD} {w wr : World} (h1 : lineU L (k + j) c = pre ++ r) (h2 : r = []) (h3 : k + j = L.length + 1) (hp : pre.length = k) (hG : GotR rawC 4 85 w.heap.size wr A k cp rs) (hr : RepL unW w rs pre) (hB : Below w.heap.size w wr) : LineD L (lineR L c) wr (.returned (.slice A k cp)) := by
  have e : lineR L c = pre := by unfold lineR; rw [← h3, h1, h2, List.append_nil]
  unfold LineD
  rw [e, hp]
  exact ⟨A, cp, rfl, rowS_of_raw hG.row hG.isNil (hr.below hB)⟩
set_option maxHeartbeats 8000000 in
theorem rline_any (L : List UnD) (c : Bs) (A : Option Addr) (n cap : Nat) (w : World) (hR : RowS unW w Empty A n cap L) (hn : n ≤ 1000000) :
    Calls Tryz.prog 54 #[.slice A n cap, .string (strB c)] w fun e w' => LineD L (lineR L c) w' e ∧ Below w.heap.size w w' := by
  have HL := Lib.hid hR.1
  have HH := Lib.hid (fun d W (h : Below w.heap.size w W) => rfind_at L d A n cap w W hR h)
  have C0 := Lib.hid (rfind_any L c A n cap w hR)
  clear hR
  go_enter Tryz.func54, Tryz.ntmps54
  go_wp2_with fail
  refine C0.out.mono ?_
  rintro e w' ⟨hF, hb⟩
  unfold FindD at hF
  have main : ∀ (b : Bool) (cs : Array Value), (match findU L c with | none => b = false | some x => b = true ∧ ∃ Af nf cf Am nm cm, cs = #[.string (strB x.name), .string (strB x.super), .slice Af nf cf, .slice Am nm cm] ∧ UnAt4 w x Af nf cf Am nm cm) → RelN L c n w (.slice none 0 0) (.pointer (some ⟨w'.heap.size, 0, none⟩)) (.bool b) (w'.alloc (.cells cs 85)) := by
    intro b cs h
    refine ⟨0, none, 0, [], [], c, w'.heap.size, b, Nat.zero_le _, rfl, rfl, rfl, rfl, fun j => (by simp), GotR.nil_ _ _ _ _ _, ⟨rfl, fun i r x h1 _ => nomatch (show (none : Option (Raw unW.k)) = some r from h1)⟩, ?_, hb.alloc hb.size _, (by simp [Value.ownBlock])⟩
    unfold CurU
    cases hf : findU L c with
    | none => rw [hf] at h; exact h
    | some x =>
      rw [hf] at h
      obtain ⟨h0, Af, nf, cf, Am, nm, cm, rfl, h1⟩ := h
      exact ⟨h0, Af, nf, cf, Am, nm, cm, Blk.new _ _ _, h1⟩
  have HM := Lib.hid main
  clear main hb
  have fin : True := trivial
  cases hf : findU L c with
  | none =>
    rw [hf] at hF
    subst hF
    have HR := Lib.hid (HM.out false #[.string (strB []), .string (strB []), .slice none 0 0, .slice none 0 0] (by rw [hf]))
    clear hf HM C0
    unfold zeroU
    go_wp2
    go_loopw [5, 6, 7] (fun o t ok wr => RelN L c n w o t ok wr) (fun o _ _ _ => n + 2 - lenSl o)
    case atStart => exact HR.out
    case round =>
      clear HR
      obtain ⟨k, A2, cp, rs, pre, d, g, b, hk, rfl, rfl, rfl, hpl, hln, hG, hrep, hcur, hB, hne⟩ := hrel
      have HG := Lib.hid hG
      have HREP := Lib.hid hrep
      have HLN := Lib.hid hln
      have HPL := Lib.hid hpl
      clear hG hrep hln hpl
      unfold CurU at hcur
      by_cases hkn : k ≤ n
      · cases hf : findU L d with
        | none =>
          rw [hf] at hcur
          subst hcur
          have HE : Hid (LineD L (lineR L c) wr (.returned (.slice A2 k cp))) := Lib.hid (line_end (HLN.out (n + 1 - k)) (by rw [line_none hf]) (by rw [HL.out]; omega) HPL.out HG.out HREP.out hB)
          clear hf
          go_wp2
          go_ret
          exact ⟨HE.out, hB⟩
        | some x =>
          rw [hf] at hcur
          obtain ⟨rfl, Af, nf, cf, Am, nm, cm, kb, hu⟩ := hcur
          have g0 : wr.cell? ⟨g, 0, none⟩ = some (.string (strB x.name)) := kb.cell 0
          have g1 : wr.cell? ⟨g, 1, none⟩ = some (.string (strB x.super)) := kb.cell 1
          have g2 : wr.cell? ⟨g, 2, none⟩ = some (.slice Af nf cf) := kb.cell 2
          have g3 : wr.cell? ⟨g, 3, none⟩ = some (.slice Am nm cm) := kb.cell 3
          have HU := Lib.hid hu
          have HB := Lib.hid hB
          have HKB := Lib.hid kb
          have HNE := Lib.hid hne
          have hbs := hB.size
          have HLN2 : Hid (∀ j, lineU L (k + 1 + j) c = (pre ++ [x]) ++ lineU L j x.super) := Lib.hid (fun j => by
            have := HLN.out (1 + j)
            rw [← Nat.add_assoc, Nat.add_comm 1 j, line_some hf] at this
            rw [this]; simp)
          clear hf hu hB kb hne
          go_wp2_with (at_builtin; refine wpList_append_rows rawC_len rawC_one (by decide) 22 85 (Value.agg #[.string ⟨#[]⟩, .string ⟨#[]⟩, .slice none 0 0, .slice none 0 0]) 80 Tryz.underlying22 Tryz.infoGU (by simp [Value.cells]) (by decide) rfl _ _ rfl w.heap.size A2 k cp rs rfl (HG.out.alloc rawC_len _) (some ⟨wr.heap.size, 0, none⟩) 1 1 [rawU x Af nf cf Am nm cm] rfl (RowSl.lit rawC_len wr Empty 85 [rawU x Af nf cf Am nm cm] 1 [.string (strB x.name), .string (strB x.super), .slice Af nf cf, .slice Am nm cm] rfl rfl (by decide) (fun h => h)) (fun h => by cases h) (by omega) (by simp; omega) ?_; intro A3 c3 w2 hG2 hg2 hr2 ho2; have kb2 : Blk w2 g 85 #[.string (strB x.name), .string (strB x.super), .slice Af nf cf, .slice Am nm cm] := (HKB.out.alloc _).of (hg2.block g (HKB.out.alloc _).lt (fun e => HNE.out e.symm)); have b0 : w2.cell? ⟨g, 0, none⟩ = some (.string (strB x.name)) := kb2.cell 0; have b1 : w2.cell? ⟨g, 1, none⟩ = some (.string (strB x.super)) := kb2.cell 1; have b2 : w2.cell? ⟨g, 2, none⟩ = some (.slice Af nf cf) := kb2.cell 2; have b3 : w2.cell? ⟨g, 3, none⟩ = some (.slice Am nm cm) := kb2.cell 3; have HB2 : Hid (Below w.heap.size w w2) := Lib.hid (below_gotR (HB.out.alloc hbs _) (by simp; omega) hg2 hr2 (Nat.le_refl _)); have HG2 := Lib.hid hG2; clear hg2 hr2 ho2 kb2 hG2)
          have hal := HB2.out.alloc HB2.out.size (.cells #[.string (strB x.name), .string (strB x.super), .slice Af nf cf, .slice Am nm cm] 85)
          clear b0 b1 b2 b3 g0 g1 g2 g3
          refine (HH.out x.super _ hal).mono ?_
          rintro e w3 ⟨hF, hb3⟩
          have kb3 : Blk w3 w2.heap.size 85 #[.string (strB x.name), .string (strB x.super), .slice Af nf cf, .slice Am nm cm] := (Blk.new w2 _ _).of (hb3.block _ (by simp))
          have HB23 : Below w2.heap.size w2 w3 := ((Below.refl _ w2).alloc (Nat.le_refl _) _).trans (hb3.mono (by simp))
          have HG3 := Lib.hid (HG2.out.below rawC_len HB23)
          have HB3 := Lib.hid (HB2.out.trans (HB23.mono HB2.out.size))
          have HNE3 := Lib.hid HG2.out.lt_
          have hb2s := HB2.out.size
          obtain ⟨g3, hg3⟩ : ∃ g3, w2.heap.size = g3 := ⟨_, rfl⟩
          rw [hg3] at kb3 HNE3 hb2s
          rw [hg3]
          have HKB3 := Lib.hid kb3
          clear hal hb3 HB23 hg3 HG2 HB2 HKB
          have b0 : w3.cell? ⟨g3, 0, none⟩ = some (.string (strB x.name)) := kb3.cell 0
          have b1 : w3.cell? ⟨g3, 1, none⟩ = some (.string (strB x.super)) := kb3.cell 1
          have b2 : w3.cell? ⟨g3, 2, none⟩ = some (.slice Af nf cf) := kb3.cell 2
          have b3 : w3.cell? ⟨g3, 3, none⟩ = some (.slice Am nm cm) := kb3.cell 3
          have q0 : w3.frozen? ⟨g3, 0, none⟩ = false := kb3.frozen 0
          have q1 : w3.frozen? ⟨g3, 1, none⟩ = false := kb3.frozen 1
          have q2 : w3.frozen? ⟨g3, 2, none⟩ = false := kb3.frozen 2
          have q3 : w3.frozen? ⟨g3, 3, none⟩ = false := kb3.frozen 3
          have HNX := Lib.hid (fun (v0 v1 v2 v3 : Value) (b' : Bool) (hc : match findU L x.super with | none => b' = false | some y => b' = true ∧ ∃ Af nf cf Am nm cm, v0 = .string (strB y.name) ∧ v1 = .string (strB y.super) ∧ v2 = .slice Af nf cf ∧ v3 = .slice Am nm cm ∧ UnAt4 w y Af nf cf Am nm cm) => reln_next v0 v1 v2 v3 b' (Nat.succ_le_succ hkn) HPL.out HLN2.out HG3.out (HREP.out.app (rawU_rep HU.out)) HB3.out HNE3.out HKB3.out hb2s hc)
          clear kb3
          unfold FindD at hF
          cases hf2 : findU L x.super with
          | none =>
            rw [hf2] at hF
            subst hF
            have HR2 := Lib.hid (HNX.out (.string (strB [])) (.string (strB [])) (.slice none 0 0) (.slice none 0 0) false (by rw [hf2]))
            clear hf2 HNX
            unfold zeroU
            go_wp2
            go_roundw
            case rel => exact HR2.out
            case measure => simp [lenSl]; omega
          | some y =>
            rw [hf2] at hF
            obtain ⟨Af2, nf2, cf2, Am2, nm2, cm2, rfl, hu2⟩ := hF
            have HR2 := Lib.hid (HNX.out (.string (strB y.name)) (.string (strB y.super)) (.slice Af2 nf2 cf2) (.slice Am2 nm2 cm2) true (by rw [hf2]; exact ⟨rfl, _, _, _, _, _, _, rfl, rfl, rfl, rfl, hu2⟩))
            clear hf2 HNX hu2
            unfold unV4
            go_wp2
            go_roundw
            case rel => exact HR2.out
            case measure => simp [lenSl]; omega
      · have HE : Hid (LineD L (lineR L c) wr (.returned (.slice A2 k cp))) := Lib.hid (line_end (HLN.out 0) rfl (by rw [HL.out]; omega) HPL.out HG.out HREP.out hB)
        cases b with
        | false =>
          clear hcur
          go_wp2
          go_ret
          exact ⟨HE.out, hB⟩
        | true =>
          clear hcur
          go_wp2
          go_ret
          exact ⟨HE.out, hB⟩
  | some y =>
    rw [hf] at hF
    obtain ⟨Af, nf, cf, Am, nm, cm, rfl, hu⟩ := hF
    have HR := Lib.hid (HM.out true #[.string (strB y.name), .string (strB y.super), .slice Af nf cf, .slice Am nm cm] (by rw [hf]; exact ⟨rfl, _, _, _, _, _, _, rfl, hu⟩))
    clear hf HM C0 hu
    unfold unV4
    go_wp2
    go_loopw [5, 6, 7] (fun o t ok wr => RelN L c n w o t ok wr) (fun o _ _ _ => n + 2 - lenSl o)
    case atStart => exact HR.out
    case round =>
      clear HR
      obtain ⟨k, A2, cp, rs, pre, d, g, b, hk, rfl, rfl, rfl, hpl, hln, hG, hrep, hcur, hB, hne⟩ := hrel
      have HG := Lib.hid hG
      have HREP := Lib.hid hrep
      have HLN := Lib.hid hln
      have HPL := Lib.hid hpl
      clear hG hrep hln hpl
      unfold CurU at hcur
      by_cases hkn : k ≤ n
      · cases hf : findU L d with
        | none =>
          rw [hf] at hcur
          subst hcur
          have HE : Hid (LineD L (lineR L c) wr (.returned (.slice A2 k cp))) := Lib.hid (line_end (HLN.out (n + 1 - k)) (by rw [line_none hf]) (by rw [HL.out]; omega) HPL.out HG.out HREP.out hB)
          clear hf
          go_wp2
          go_ret
          exact ⟨HE.out, hB⟩
        | some x =>
          rw [hf] at hcur
          obtain ⟨rfl, Af, nf, cf, Am, nm, cm, kb, hu⟩ := hcur
          have g0 : wr.cell? ⟨g, 0, none⟩ = some (.string (strB x.name)) := kb.cell 0
          have g1 : wr.cell? ⟨g, 1, none⟩ = some (.string (strB x.super)) := kb.cell 1
          have g2 : wr.cell? ⟨g, 2, none⟩ = some (.slice Af nf cf) := kb.cell 2
          have g3 : wr.cell? ⟨g, 3, none⟩ = some (.slice Am nm cm) := kb.cell 3
          have HU := Lib.hid hu
          have HB := Lib.hid hB
          have HKB := Lib.hid kb
          have HNE := Lib.hid hne
          have hbs := hB.size
          have HLN2 : Hid (∀ j, lineU L (k + 1 + j) c = (pre ++ [x]) ++ lineU L j x.super) := Lib.hid (fun j => by
            have := HLN.out (1 + j)
            rw [← Nat.add_assoc, Nat.add_comm 1 j, line_some hf] at this
            rw [this]; simp)
          clear hf hu hB kb hne
          go_wp2_with (at_builtin; refine wpList_append_rows rawC_len rawC_one (by decide) 22 85 (Value.agg #[.string ⟨#[]⟩, .string ⟨#[]⟩, .slice none 0 0, .slice none 0 0]) 80 Tryz.underlying22 Tryz.infoGU (by simp [Value.cells]) (by decide) rfl _ _ rfl w.heap.size A2 k cp rs rfl (HG.out.alloc rawC_len _) (some ⟨wr.heap.size, 0, none⟩) 1 1 [rawU x Af nf cf Am nm cm] rfl (RowSl.lit rawC_len wr Empty 85 [rawU x Af nf cf Am nm cm] 1 [.string (strB x.name), .string (strB x.super), .slice Af nf cf, .slice Am nm cm] rfl rfl (by decide) (fun h => h)) (fun h => by cases h) (by omega) (by simp; omega) ?_; intro A3 c3 w2 hG2 hg2 hr2 ho2; have kb2 : Blk w2 g 85 #[.string (strB x.name), .string (strB x.super), .slice Af nf cf, .slice Am nm cm] := (HKB.out.alloc _).of (hg2.block g (HKB.out.alloc _).lt (fun e => HNE.out e.symm)); have b0 : w2.cell? ⟨g, 0, none⟩ = some (.string (strB x.name)) := kb2.cell 0; have b1 : w2.cell? ⟨g, 1, none⟩ = some (.string (strB x.super)) := kb2.cell 1; have b2 : w2.cell? ⟨g, 2, none⟩ = some (.slice Af nf cf) := kb2.cell 2; have b3 : w2.cell? ⟨g, 3, none⟩ = some (.slice Am nm cm) := kb2.cell 3; have HB2 : Hid (Below w.heap.size w w2) := Lib.hid (below_gotR (HB.out.alloc hbs _) (by simp; omega) hg2 hr2 (Nat.le_refl _)); have HG2 := Lib.hid hG2; clear hg2 hr2 ho2 kb2 hG2)
          have hal := HB2.out.alloc HB2.out.size (.cells #[.string (strB x.name), .string (strB x.super), .slice Af nf cf, .slice Am nm cm] 85)
          clear b0 b1 b2 b3 g0 g1 g2 g3
          refine (HH.out x.super _ hal).mono ?_
          rintro e w3 ⟨hF, hb3⟩
          have kb3 : Blk w3 w2.heap.size 85 #[.string (strB x.name), .string (strB x.super), .slice Af nf cf, .slice Am nm cm] := (Blk.new w2 _ _).of (hb3.block _ (by simp))
          have HB23 : Below w2.heap.size w2 w3 := ((Below.refl _ w2).alloc (Nat.le_refl _) _).trans (hb3.mono (by simp))
          have HG3 := Lib.hid (HG2.out.below rawC_len HB23)
          have HB3 := Lib.hid (HB2.out.trans (HB23.mono HB2.out.size))
          have HNE3 := Lib.hid HG2.out.lt_
          have hb2s := HB2.out.size
          obtain ⟨g3, hg3⟩ : ∃ g3, w2.heap.size = g3 := ⟨_, rfl⟩
          rw [hg3] at kb3 HNE3 hb2s
          rw [hg3]
          have HKB3 := Lib.hid kb3
          clear hal hb3 HB23 hg3 HG2 HB2 HKB
          have b0 : w3.cell? ⟨g3, 0, none⟩ = some (.string (strB x.name)) := kb3.cell 0
          have b1 : w3.cell? ⟨g3, 1, none⟩ = some (.string (strB x.super)) := kb3.cell 1
          have b2 : w3.cell? ⟨g3, 2, none⟩ = some (.slice Af nf cf) := kb3.cell 2
          have b3 : w3.cell? ⟨g3, 3, none⟩ = some (.slice Am nm cm) := kb3.cell 3
          have q0 : w3.frozen? ⟨g3, 0, none⟩ = false := kb3.frozen 0
          have q1 : w3.frozen? ⟨g3, 1, none⟩ = false := kb3.frozen 1
          have q2 : w3.frozen? ⟨g3, 2, none⟩ = false := kb3.frozen 2
          have q3 : w3.frozen? ⟨g3, 3, none⟩ = false := kb3.frozen 3
          have HNX := Lib.hid (fun (v0 v1 v2 v3 : Value) (b' : Bool) (hc : match findU L x.super with | none => b' = false | some y => b' = true ∧ ∃ Af nf cf Am nm cm, v0 = .string (strB y.name) ∧ v1 = .string (strB y.super) ∧ v2 = .slice Af nf cf ∧ v3 = .slice Am nm cm ∧ UnAt4 w y Af nf cf Am nm cm) => reln_next v0 v1 v2 v3 b' (Nat.succ_le_succ hkn) HPL.out HLN2.out HG3.out (HREP.out.app (rawU_rep HU.out)) HB3.out HNE3.out HKB3.out hb2s hc)
          clear kb3
          unfold FindD at hF
          cases hf2 : findU L x.super with
          | none =>
            rw [hf2] at hF
            subst hF
            have HR2 := Lib.hid (HNX.out (.string (strB [])) (.string (strB [])) (.slice none 0 0) (.slice none 0 0) false (by rw [hf2]))
            clear hf2 HNX
            unfold zeroU
            go_wp2
            go_roundw
            case rel => exact HR2.out
            case measure => simp [lenSl]; omega
          | some y =>
            rw [hf2] at hF
            obtain ⟨Af2, nf2, cf2, Am2, nm2, cm2, rfl, hu2⟩ := hF
            have HR2 := Lib.hid (HNX.out (.string (strB y.name)) (.string (strB y.super)) (.slice Af2 nf2 cf2) (.slice Am2 nm2 cm2) true (by rw [hf2]; exact ⟨rfl, _, _, _, _, _, _, rfl, rfl, rfl, rfl, hu2⟩))
            clear hf2 HNX hu2
            unfold unV4
            go_wp2
            go_roundw
            case rel => exact HR2.out
            case measure => simp [lenSl]; omega
      · have HE : Hid (LineD L (lineR L c) wr (.returned (.slice A2 k cp))) := Lib.hid (line_end (HLN.out 0) rfl (by rw [HL.out]; omega) HPL.out HG.out HREP.out hB)
        cases b with
        | false =>
          clear hcur
          go_wp2
          go_ret
          exact ⟨HE.out, hB⟩
        | true =>
          clear hcur
          go_wp2
          go_ret
          exact ⟨HE.out, hB⟩

end Go.Proofs.YtblnhobbnkcbeaaGreatDoor

/- The walk over the document's IsName (layer 15). -/
namespace Go.Proofs.YtblnhobbnkcbeaaGreatDoor
set_option maxRecDepth 100000
open Go.RowKit

/-- Where its loop stands. -/
def RelP (s : Bs) (n : Nat) (i : Value) : Prop := ∃ k : Nat, k ≤ n ∧ i = .int .i64 (k : Int) ∧ ∀ x ∈ s.take k, x ≠ 47
theorem risName_any (xs : Bs) (w : World) (hl : xs.length ≤ 1000000) : Calls Tryz.prog 38 #[.string (strB xs)] w fun e w' => e = .returned (.bool (isNameB xs)) ∧ w = w' := by
  have hz := strB_size xs
  have C1 := Lib.hid (refIsClass_any xs w (by omega))
  obtain ⟨n, hn⟩ : ∃ n, xs.length = n := ⟨_, rfl⟩
  have HN := Lib.hid hn
  rw [hn] at hz hl
  clear hn
  have HR : Hid (RelP xs n (.int .i64 0)) := Lib.hid ⟨0, Nat.zero_le _, rfl, fun x hx => (by simp at hx)⟩
  go_enter Tryz.func38, Tryz.ntmps38
  go_wp2
  go_loop [3] (fun i => RelP xs n i) (fun i => n - (intOf i).toNat)
  case atStart => exact HR.out
  case round =>
    clear HR
    obtain ⟨k, hk, rfl, hne⟩ := hrel
    by_cases hlt : k < n
    · obtain ⟨x, hx⟩ : ∃ x, xs[k]? = some x := ⟨_, List.getElem?_eq_getElem (by rw [HN.out]; exact hlt)⟩
      have h0 : ∀ h, (strB xs)[k]'h = x := fun h => strB_get _ _ _ h hx
      by_cases h47 : x = 47
      · have HE : Hid (isNameB xs = false) := Lib.hid (by
          have : xs.contains 47 = true := by
            rw [List.contains_iff_mem]
            exact List.mem_of_getElem? (h47 ▸ hx)
          unfold isNameB
          rw [this]
          simp)
        subst h47
        clear hx hne
        go_wp2
        go_ret
        exact ⟨ret_bool (by rw [HE.out]), rfl⟩
      · have q1 : ((x.toNat : Int) == 47) = false := ne8 (b := 47) h47
        have q2 := nen8 q1
        have HR : Hid (RelP xs n (.int .i64 ((k : Int) + 1))) := Lib.hid ⟨k + 1, hlt, by simp, fun y hy => by
          rw [List.take_add_one, hx] at hy
          rcases List.mem_append.1 hy with h | h
          · exact hne y h
          · simp at h; subst h; exact h47⟩
        clear hx hne h47
        go_wp2
        go_round
        case rel => exact HR.out
        case measure => simp [intOf]; omega
    · have HE : Hid (isNameB xs = classB xs) := Lib.hid (by
        have : xs.contains 47 = false := by
          rw [show xs = xs.take k from (List.take_of_length_le (by rw [HN.out]; omega)).symm]
          cases h : (xs.take k).contains 47 with
          | false => rfl
          | true => exact absurd rfl (hne 47 (List.contains_iff_mem.1 h))
        unfold isNameB
        rw [this]
        simp)
      clear hne
      go_wp2_with fail
      refine C1.out.mono ?_
      rintro e w' ⟨rfl, rfl⟩
      go_wp2
      go_ret
      exact ⟨ret_bool (by rw [HE.out]), rfl⟩

end Go.Proofs.YtblnhobbnkcbeaaGreatDoor

/- The walk over the document's method (layer 16); printed by gen/gen_rc.py. -/
namespace Go.Proofs.YtblnhobbnkcbeaaGreatDoor
set_option maxRecDepth 100000
open Go.RowKit

theorem allB_take {α : Type} {p : α → Bool} {l : List α} {n k : Nat} (h : ∀ x ∈ l.take k, p x = true) (hl : l.length = n) (hk : ¬ k < n) : l.all p = true := by
  rw [List.all_eq_true]
  intro x hx
  exact h x (by rw [List.take_of_length_le (by omega)]; exact hx)
theorem allB_next {α : Type} {p : α → Bool} {l : List α} {k : Nat} {x : α} (h : ∀ x ∈ l.take k, p x = true) (hx : l[k]? = some x) (hp : p x = true) : ∀ x ∈ l.take (k + 1), p x = true := by
  intro y hy
  rw [List.take_add_one, hx] at hy
  rcases List.mem_append.1 hy with h1 | h1
  · exact h y h1
  · simp at h1; subst h1; exact hp
theorem allB_no {α : Type} {p : α → Bool} {l : List α} {k : Nat} {x : α} (hx : l[k]? = some x) (hp : p x = false) : l.all p = false := List.all_eq_false.2 ⟨x, List.mem_of_getElem? hx, by simp [hp]⟩
/-- Where a loop over a row stands: so many of them are right. -/
def RelAll {α : Type} (p : α → Bool) (l : List α) (n : Nat) (w : World) (i : Value) (wr : World) : Prop := ∃ k : Nat, k ≤ n ∧ i = .int .i64 (k : Int) ∧ (∀ x ∈ l.take k, p x = true) ∧ Below w.heap.size w wr
theorem RelAll.start {α : Type} (p : α → Bool) (l : List α) (n : Nat) (w : World) : RelAll p l n w (.int .i64 0) w := ⟨0, Nat.zero_le _, rfl, fun x hx => (by simp at hx), Below.refl _ _⟩
theorem RelAll.next {α : Type} {p : α → Bool} {l : List α} {n k : Nat} {w wr : World} {x : α} (h : ∀ x ∈ l.take k, p x = true) (hk : k < n) (hx : l[k]? = some x) (hp : p x = true) (hb : Below w.heap.size w wr) : RelAll p l n w (.int .i64 ((k : Int) + 1)) wr := ⟨k + 1, hk, by simp, allB_next h hx hp, hb⟩
def trapB (L : List UnD) (t : TrD) : Bool := t.cls.isEmpty || (findU L t.cls).isSome
def clashB (m x : MeD) : Bool := !(x.name == m.name && x.desc == m.desc && x.static != m.static)
def agreeB (m : MeD) (v : UnD) : Bool := v.meths.all (clashB m)
theorem methR_eq (L : List UnD) (u : UnD) (m : MeD) : methR L u m = (isNameB m.name && typesP L m.desc && m.traps.all (trapB L) && (lineR L u.name).all (agreeB m)) := rfl

abbrev boxRM (w : World) (u : UnD) (Af : Option Addr) (nf cf : Nat) (Am : Option Addr) (nm cm : Nat) (x : MeD) (Ac : Option Addr) (nc cc : Nat) (At : Option Addr) (nt ct : Nat) (Ap : Option Addr) (np cp : Nat) : World := (w.alloc (.cells #[.string (strB u.name), .string (strB u.super), .slice Af nf cf, .slice Am nm cm] 85)).alloc (.cells #[.bool x.static, .string (strB x.name), .string (strB x.desc), .int .i64 x.stack, .int .i64 x.locals, .slice Ac nc cc, .slice At nt ct, .slice Ap np cp] 52)
set_option maxHeartbeats 8000000 in
theorem rmethod_any (L : List UnD) (A0 : Option Addr) (n0 c0 : Nat) (u : UnD) (Af : Option Addr) (nf cf : Nat) (Am : Option Addr) (nm cm : Nat) (x : MeD) (Ac : Option Addr) (nc cc : Nat) (At : Option Addr) (nt ct : Nat) (Ap : Option Addr) (np cp : Nat) (w : World)
    (hR : RowS unW w Empty A0 n0 c0 L) (hn0 : n0 ≤ 1000000) (hT : RowS trT w Empty At nt ct x.traps) (hn : x.name.length ≤ 1000000) (hd : x.desc.length ≤ 1000000) :
    Calls Tryz.prog 104 #[.slice A0 n0 c0, unV4 u Af nf cf Am nm cm, metV x Ac nc cc At nt ct Ap np cp] w fun e w' => e = .returned (.bool (methR L u x)) ∧ Below w.heap.size w w' := by
  obtain ⟨W1, hW1⟩ : ∃ W1, boxRM w u Af nf cf Am nm cm x Ac nc cc At nt ct Ap np cp = W1 := ⟨_, rfl⟩
  have hbb : Below w.heap.size w W1 := by rw [← hW1]; exact ((Below.refl _ _).alloc (Nat.le_refl _) _).alloc (by simp) _
  have k0 : Blk W1 w.heap.size 85 #[.string (strB u.name), .string (strB u.super), .slice Af nf cf, .slice Am nm cm] := by rw [← hW1]; exact (Blk.new w _ _).alloc _
  have k1 : Blk W1 (w.heap.size + 1) 52 #[.bool x.static, .string (strB x.name), .string (strB x.desc), .int .i64 x.stack, .int .i64 x.locals, .slice Ac nc cc, .slice At nt ct, .slice Ap np cp] := by
    rw [← hW1]
    have := Blk.new (w.alloc (.cells #[.string (strB u.name), .string (strB u.super), .slice Af nf cf, .slice Am nm cm] 85)) 52 #[.bool x.static, .string (strB x.name), .string (strB x.desc), .int .i64 x.stack, .int .i64 x.locals, .slice Ac nc cc, .slice At nt ct, .slice Ap np cp]
    rwa [World.size_alloc] at this
  have hsz : W1.heap.size = w.heap.size + 1 + 1 := by rw [← hW1]; simp
  have hRB := hR.below hbb
  have HTB := Lib.hid (hT.below hbb)
  have hnt := hT.2.1
  have hct := hT.2.2.1
  unfold maxLen at hct
  have C1 := Lib.hid (refMethod_any x.desc W1 hd)
  have C2 := Lib.hid (fun W => risName_any x.name W hn)
  have CT := Lib.hid (fun W (h : Below W1.heap.size W1 W) t ht => rthere_any L t A0 n0 c0 W (hRB.below h) ht)
  have CF := Lib.hid (fun W (h : Below W1.heap.size W1 W) c => rfind_any L c A0 n0 c0 W (hRB.below h))
  have CL := Lib.hid (fun W (h : Below W1.heap.size W1 W) => rline_any L u.name A0 n0 c0 W (hRB.below h) hn0)
  have K1 : Hid (∀ W : World, Below W1.heap.size W1 W → W.cell? ⟨w.heap.size, 0, none⟩ = some (.string (strB u.name)) ∧ W.cell? ⟨w.heap.size + 1, 0, none⟩ = some (.bool x.static) ∧ W.cell? ⟨w.heap.size + 1, 1, none⟩ = some (.string (strB x.name)) ∧ W.cell? ⟨w.heap.size + 1, 2, none⟩ = some (.string (strB x.desc)) ∧ W.cell? ⟨w.heap.size + 1, 6, none⟩ = some (.slice At nt ct)) := Lib.hid (fun W h => ⟨(k0.of (h.block _ (by omega))).cell 0, (k1.of (h.block _ (by omega))).cell 0, (k1.of (h.block _ (by omega))).cell 1, (k1.of (h.block _ (by omega))).cell 2, (k1.of (h.block _ (by omega))).cell 6⟩)
  have c2 : W1.cell? ⟨w.heap.size + 1, 2, none⟩ = some (.string (strB x.desc)) := k1.cell 2
  have HBB := Lib.hid hbb
  unfold boxRM at hW1
  have HW1 := Lib.hid hW1
  clear hW1 hbb k0 k1 hRB hsz hR hT
  cases hm : methodF x.desc with
  | none =>
    have HMR : Hid (mRet (methodF x.desc) = []) := Lib.hid (by rw [hm]; rfl)
    have HME : Hid (mErr (methodF x.desc) = 8) := Lib.hid (by rw [hm]; rfl)
    have HG : Hid (methR L u x = false) := Lib.hid (by
      have : typesP L x.desc = false := by unfold typesP; rw [hm]
      rw [methR_eq, this]; simp)
    clear hm
    cases h0 : isNameB x.name with
    | false =>
      rw [h0] at C2
      clear h0
      unfold unV4
      go_enter Tryz.func104, Tryz.ntmps104
      go_wp2_with fail
      rw [HW1.out]
      go_wp2_with fail
      refine C1.out.mono ?_
      rintro e w1 ⟨⟨A, n, c, rfl, hG⟩, hb⟩
      have HG1 := Lib.hid hG
      have HB1 : Hid (Below W1.heap.size W1 w1) := Lib.hid hb
      obtain ⟨p0, p1, p2, p3, p4⟩ := K1.out _ hb
      simp only [HMR.out, HME.out]
      clear hG hb
      go_wp2_with fail
      refine (C2.out _).mono ?_
      rintro e w' ⟨rfl, rfl⟩
      go_wp2
      go_ret
      exact ⟨ret_bool (by rw [HG.out]), HBB.out.trans (HB1.out.mono HBB.out.size)⟩
    | true =>
      rw [h0] at C2
      clear h0
      unfold unV4
      go_enter Tryz.func104, Tryz.ntmps104
      go_wp2_with fail
      rw [HW1.out]
      go_wp2_with fail
      refine C1.out.mono ?_
      rintro e w1 ⟨⟨A, n, c, rfl, hG⟩, hb⟩
      have HG1 := Lib.hid hG
      have HB1 : Hid (Below W1.heap.size W1 w1) := Lib.hid hb
      obtain ⟨p0, p1, p2, p3, p4⟩ := K1.out _ hb
      simp only [HMR.out, HME.out]
      clear hG hb
      go_wp2_with fail
      refine (C2.out _).mono ?_
      rintro e w' ⟨rfl, rfl⟩
      go_wp2
      go_ret
      exact ⟨ret_bool (by rw [HG.out]), HBB.out.trans (HB1.out.mono HBB.out.size)⟩
  | some q =>
    have HMR : Hid (mRet (methodF x.desc) = q.2) := Lib.hid (by rw [hm]; rfl)
    have HME : Hid (mErr (methodF x.desc) = 0) := Lib.hid (by rw [hm]; rfl)
    have HMA : Hid (mArgs (methodF x.desc) = q.1) := Lib.hid (by rw [hm]; rfl)
    have HTQ : Hid (typesP L x.desc = (q.1.all (thereU L) && thereU L q.2)) := Lib.hid (by unfold typesP; rw [hm])
    obtain ⟨hs1, hs2, hs3⟩ := args_small hm
    have HLEN : Hid (∀ t ∈ q.1, t.length ≤ 1000000) := Lib.hid (fun t ht => by have := hs2 t ht; omega)
    have C3 := Lib.hid (fun W (h : Below W1.heap.size W1 W) => CT.out W h q.2 (by omega))
    clear hm hs1 hs2 hs3
    cases h0 : isNameB x.name with
    | false =>
      rw [h0] at C2
      have HG : Hid (methR L u x = false) := Lib.hid (by rw [methR_eq, h0]; simp)
      clear h0
      unfold unV4
      go_enter Tryz.func104, Tryz.ntmps104
      go_wp2_with fail
      rw [HW1.out]
      go_wp2_with fail
      refine C1.out.mono ?_
      rintro e w1 ⟨⟨A, n, c, rfl, hG⟩, hb⟩
      have HG1 := Lib.hid hG
      have HB1 : Hid (Below W1.heap.size W1 w1) := Lib.hid hb
      obtain ⟨p0, p1, p2, p3, p4⟩ := K1.out _ hb
      simp only [HMR.out, HME.out]
      clear hG hb
      go_wp2_with fail
      refine (C2.out _).mono ?_
      rintro e w' ⟨rfl, rfl⟩
      go_wp2
      go_ret
      exact ⟨ret_bool (by rw [HG.out]), HBB.out.trans (HB1.out.mono HBB.out.size)⟩
    | true =>
      have HN : Hid (isNameB x.name = true) := Lib.hid h0
      cases h1 : thereU L q.2 with
      | false =>
        have HG : Hid (methR L u x = false) := Lib.hid (by rw [methR_eq, HTQ.out, h1]; simp)
        rw [h0] at C2
        rw [h1] at C3
        clear h0 h1
        unfold unV4
        go_enter Tryz.func104, Tryz.ntmps104
        go_wp2_with fail
        rw [HW1.out]
        go_wp2_with fail
        refine C1.out.mono ?_
        rintro e w1 ⟨⟨A, n, c, rfl, hG⟩, hb⟩
        have HG1 := Lib.hid hG
        have HB1 : Hid (Below W1.heap.size W1 w1) := Lib.hid hb
        obtain ⟨p0, p1, p2, p3, p4⟩ := K1.out _ hb
        simp only [HMR.out, HME.out]
        clear hG hb
        go_wp2_with fail
        refine (C2.out _).mono ?_
        rintro e w' ⟨rfl, rfl⟩
        go_wp2_with fail
        refine (C3.out _ HB1.out).mono ?_
        rintro e w2 ⟨rfl, hb⟩
        have HB2 : Hid (Below W1.heap.size W1 w2) := Lib.hid (HB1.out.trans (hb.mono HB1.out.size))
        clear hb p0 p1 p2 p3 p4
        go_wp2
        go_ret
        exact ⟨ret_bool (by rw [HG.out]), HBB.out.trans (HB2.out.mono HBB.out.size)⟩
      | true =>
        have HTH : Hid (thereU L q.2 = true) := Lib.hid h1
        rw [h0] at C2
        rw [h1] at C3
        clear h0 h1
        unfold unV4
        go_enter Tryz.func104, Tryz.ntmps104
        go_wp2_with fail
        rw [HW1.out]
        go_wp2_with fail
        refine C1.out.mono ?_
        rintro e w1 ⟨⟨A, n, c, rfl, hG⟩, hb⟩
        have HG1 := Lib.hid hG
        have HB1 : Hid (Below W1.heap.size W1 w1) := Lib.hid hb
        obtain ⟨p0, p1, p2, p3, p4⟩ := K1.out _ hb
        simp only [HMR.out, HME.out]
        clear hG hb
        go_wp2_with fail
        refine (C2.out _).mono ?_
        rintro e w' ⟨rfl, rfl⟩
        go_wp2_with fail
        refine (C3.out _ HB1.out).mono ?_
        rintro e w2 ⟨rfl, hb⟩
        have HB2 : Hid (Below W1.heap.size W1 w2) := Lib.hid (HB1.out.trans (hb.mono HB1.out.size))
        have HS2 : Hid (RowS strT w2 Empty A n c q.1) := Lib.hid (by
          have h1 := rowS_of_sl HG1.out.row HG1.out.isNil
          rw [HMA.out] at h1
          exact h1.below hb)
        have hnc := HS2.out.2.1
        have hcm := HS2.out.2.2.1
        unfold maxLen at hcm
        clear hb p0 p1 p2 p3 p4
        have HREL1 := Lib.hid (RelAll.start (thereU L) q.1 n w2)
        obtain ⟨r0, r1, r2, r3, r4⟩ := K1.out _ HB2.out
        go_wp2
        clear r0 r1 r2 r3 r4
        go_loopw [43] (fun i wr => RelAll (thereU L) q.1 n w2 i wr) (fun i _ => n - (intOf i).toNat)
        case atStart => exact HREL1.out
        case round =>
          clear HREL1
          obtain ⟨j, hj, rfl, hok, hbw⟩ := hrel
          have HOK := Lib.hid hok
          have HBW := Lib.hid hbw
          have hb3 : Below W1.heap.size W1 wr := HB2.out.trans (hbw.mono HB2.out.size)
          clear hok
          by_cases hlt : j < n
          · obtain ⟨tb, to, t, tcs, rfl, htb, _, htx, htcl, hcs, hr⟩ := (HS2.out.below hbw).at_ hlt
            obtain rfl := (show tcs = [.string (strB t)] from hr)
            have d0 : wr.cell? ⟨tb, to + j, none⟩ = some (.string (strB t)) := by have := hcs 0 _ rfl; simpa [strT] using this
            have HTX := Lib.hid htx
            have htl := HLEN.out t (List.mem_of_getElem? htx)
            have HB3 := Lib.hid hb3
            have C := Lib.hid (CT.out wr hb3 t htl)
            clear hcs htcl htx hbw hb3 hr
            cases hth : thereU L t with
            | true =>
              rw [hth] at C
              go_wp2_with fail
              refine C.out.mono ?_
              rintro e w3 ⟨rfl, hb⟩
              have HREL1 := Lib.hid (RelAll.next HOK.out hlt HTX.out hth (HBW.out.trans (hb.mono HBW.out.size)))
              clear hth hb C
              go_wp2
              go_roundw
              case rel => exact HREL1.out
              case measure => simp [intOf]; omega
            | false =>
              rw [hth] at C
              have HG : Hid (methR L u x = false) := Lib.hid (by
                rw [methR_eq, HTQ.out, allB_no HTX.out hth]; simp)
              go_wp2_with fail
              refine C.out.mono ?_
              rintro e w3 ⟨rfl, hb⟩
              have HB4 : Hid (Below W1.heap.size W1 w3) := Lib.hid (HB3.out.trans (hb.mono HB3.out.size))
              clear hth hb C
              go_wp2
              go_ret
              exact ⟨ret_bool (by rw [HG.out]), HBB.out.trans (HB4.out.mono HBB.out.size)⟩
          · have HTY : Hid (typesP L x.desc = true) := Lib.hid (by rw [HTQ.out, allB_take HOK.out HS2.out.1 hlt, HTH.out]; rfl)
            have HB3 := Lib.hid hb3
            clear hbw hb3
            obtain ⟨w3, rfl⟩ : ∃ w3 : World, w3 = wr := ⟨_, rfl⟩
            have HREL2 := Lib.hid (RelAll.start (trapB L) x.traps nt w3)
            obtain ⟨s0, s1, s2, s3, s4⟩ := K1.out _ HB3.out
            go_wp2
            clear s0 s1 s2 s3 s4
            go_loopw [55] (fun i wr => RelAll (trapB L) x.traps nt w3 i wr) (fun i _ => nt - (intOf i).toNat)
            case atStart => exact HREL2.out
            case round =>
              clear HREL2
              obtain ⟨j, hj, rfl, hok, hbw⟩ := hrel
              have HOK := Lib.hid hok
              have hb4 : Below W1.heap.size W1 wr := HB3.out.trans (hbw.mono HB3.out.size)
              clear hok
              by_cases hlt : j < nt
              · obtain ⟨tb, to, t, tcs, rfl, htb, _, htx, htcl, hcs, hr⟩ := (HTB.out.below hb4).at_ hlt
                obtain rfl := (show tcs = [.int .i64 t.a, .int .i64 t.b, .int .i64 t.c, .string (strB t.cls)] from hr)
                change ∀ j' v, [.int .i64 t.a, .int .i64 t.b, .int .i64 t.c, .string (strB t.cls)][j']? = some v → wr.cell? ⟨tb, to + j * 4 + j', none⟩ = some v at hcs
                have d0 : wr.cell? ⟨tb, to + j * 4, none⟩ = some (.int .i64 t.a) := by have := hcs 0 _ rfl; simpa using this
                have d1 : wr.cell? ⟨tb, to + j * 4 + 1, none⟩ = some (.int .i64 t.b) := by have := hcs 1 _ rfl; simpa using this
                have d2 : wr.cell? ⟨tb, to + j * 4 + 2, none⟩ = some (.int .i64 t.c) := by have := hcs 2 _ rfl; simpa using this
                have d3 : wr.cell? ⟨tb, to + j * 4 + 3, none⟩ = some (.string (strB t.cls)) := by have := hcs 3 _ rfl; simpa using this
                have HTX := Lib.hid htx
                have HAL := Lib.hid (hb4.alloc hb4.size (.cells #[.int .i64 t.a, .int .i64 t.b, .int .i64 t.c, .string (strB t.cls)] 134))
                have HAW := Lib.hid (hbw.alloc hbw.size (.cells #[.int .i64 t.a, .int .i64 t.b, .int .i64 t.c, .string (strB t.cls)] 134))
                have kt : Blk (wr.alloc (.cells #[.int .i64 t.a, .int .i64 t.b, .int .i64 t.c, .string (strB t.cls)] 134)) wr.heap.size 134 #[.int .i64 t.a, .int .i64 t.b, .int .i64 t.c, .string (strB t.cls)] := Blk.new _ _ _
                clear hcs htcl htx hb4 hbw
                go_wp2_with fail
                refine (CF.out _ HAL.out t.cls).mono ?_
                rintro e w4 ⟨hF, hb4⟩
                have kt4 := kt.of (hb4.block _ kt.lt)
                have HB4 : Hid (Below W1.heap.size W1 w4) := Lib.hid (HAL.out.trans (hb4.mono HAL.out.size))
                have HBW4 := Lib.hid (HAW.out.trans (hb4.mono HAW.out.size))
                have hlt4 := kt4.lt
                generalize wr.heap.size = gt at *
                clear kt hb4 d0 d1 d2 d3 HAL HAW
                unfold FindD at hF
                cases hf : findU L t.cls with
                | none =>
                  rw [hf] at hF
                  subst hF
                  have t3 : (w4.alloc (.cells #[.string (strB []), .string (strB []), .slice none 0 0, .slice none 0 0] 85)).cell? ⟨gt, 3, none⟩ = some (.string (strB t.cls)) := (kt4.alloc _).cell 3
                  have HB4A := Lib.hid (HB4.out.alloc HB4.out.size (.cells #[.string (strB []), .string (strB []), .slice none 0 0, .slice none 0 0] 85))
                  have HBW4A := Lib.hid (HBW4.out.alloc HBW4.out.size (.cells #[.string (strB []), .string (strB []), .slice none 0 0, .slice none 0 0] 85))
                  unfold zeroU
                  by_cases he : t.cls = []
                  · have q1 : (strB t.cls).toList = [] := by rw [strB_toList, he]
                    have HREL2 := Lib.hid (RelAll.next HOK.out hlt HTX.out (show trapB L t = true by unfold trapB; rw [he]; rfl) HBW4A.out)
                    clear he hf
                    go_wp2
                    go_roundw
                    case rel => exact HREL2.out
                    case measure => simp [intOf]; omega
                  · have q1 : ¬ (strB t.cls).toList = [] := by rw [strB_toList]; exact he
                    have q2 : ((strB t.cls).toList.isEmpty) = false := by rw [strB_toList]; simpa using he
                    have q3 : ((strB t.cls).toList == []) = false := by rw [strB_toList]; simpa using he
                    have HG : Hid (methR L u x = false) := Lib.hid (by
                      rw [methR_eq, allB_no HTX.out (show trapB L t = false by unfold trapB; rw [hf]; simpa using he), Bool.and_false, Bool.false_and])
                    clear he hf
                    go_wp2
                    go_ret
                    exact ⟨ret_bool (by rw [HG.out]), HBB.out.trans (HB4A.out.mono HBB.out.size)⟩
                | some y =>
                  rw [hf] at hF
                  obtain ⟨Bf, mf, df, Bm, mm, dm, rfl, _⟩ := hF
                  have t3 : (w4.alloc (.cells #[.string (strB y.name), .string (strB y.super), .slice Bf mf df, .slice Bm mm dm] 85)).cell? ⟨gt, 3, none⟩ = some (.string (strB t.cls)) := (kt4.alloc _).cell 3
                  have HREL2 := Lib.hid (RelAll.next HOK.out hlt HTX.out (show trapB L t = true by unfold trapB; rw [hf]; simp) (HBW4.out.alloc HBW4.out.size (.cells #[.string (strB y.name), .string (strB y.super), .slice Bf mf df, .slice Bm mm dm] 85)))
                  clear hf
                  unfold unV4
                  by_cases he : t.cls = []
                  · have q1 : (strB t.cls).toList = [] := by rw [strB_toList, he]
                    clear he
                    go_wp2
                    go_roundw
                    case rel => exact HREL2.out
                    case measure => simp [intOf]; omega
                  · have q1 : ¬ (strB t.cls).toList = [] := by rw [strB_toList]; exact he
                    have q2 : ((strB t.cls).toList.isEmpty) = false := by rw [strB_toList]; simpa using he
                    have q3 : ((strB t.cls).toList == []) = false := by rw [strB_toList]; simpa using he
                    clear he
                    go_wp2
                    go_roundw
                    case rel => exact HREL2.out
                    case measure => simp [intOf]; omega
              · have HTR : Hid (x.traps.all (trapB L) = true) := Lib.hid (allB_take HOK.out HTB.out.1 hlt)
                clear hbw
                have HB4 := Lib.hid hb4
                clear hb4
                obtain ⟨v0, v1, v2, v3, v4⟩ := K1.out _ HB4.out
                go_wp2_with fail
                refine (CL.out _ HB4.out).mono ?_
                rintro e w5 ⟨⟨A5, c5, rfl, hr5⟩, hb5⟩
                obtain ⟨l5, hl5⟩ : ∃ l5, (lineR L u.name) = l5 := ⟨_, rfl⟩
                rw [hl5] at hr5
                rw [hl5]
                have HL5 := Lib.hid hl5
                obtain ⟨n5, hn5⟩ : ∃ n5, l5.length = n5 := ⟨_, rfl⟩
                rw [hn5] at hr5
                rw [hn5]
                have HB5 : Hid (Below W1.heap.size W1 w5) := Lib.hid (HB4.out.trans (hb5.mono HB4.out.size))
                have HR5 := Lib.hid hr5
                have HN5 := Lib.hid hn5
                have hn5c := hr5.2.1
                have hc5m := hr5.2.2.1
                unfold maxLen at hc5m
                clear hl5 hn5 hr5 hb5 v0 v1 v2 v3 v4
                have HREL3 := Lib.hid (RelAll.start (agreeB x) l5 n5 w5)
                go_wp2
                go_loopw [79] (fun i wr => RelAll (agreeB x) l5 n5 w5 i wr) (fun i _ => n5 - (intOf i).toNat)
                case atStart => exact HREL3.out
                case round =>
                  clear HREL3
                  obtain ⟨j, hj, rfl, hok, hbw⟩ := hrel
                  have HOK := Lib.hid hok
                  have HBW := Lib.hid hbw
                  clear hok
                  by_cases hlt : j < n5
                  · obtain ⟨b, o, y, cs, rfl, hbl, _, hy, hcl, hcs, hr⟩ := HR5.out.at_ hlt
                    obtain ⟨Bf, mf, df, Bm, mm, dm, rfl, _, hMe⟩ := hr
                    change ∀ j' v, [Value.string (strB y.name), .string (strB y.super), .slice Bf mf df, .slice Bm mm dm][j']? = some v → w5.cell? ⟨b, o + j * 4 + j', none⟩ = some v at hcs
                    have d0 : wr.cell? ⟨b, o + j * 4, none⟩ = some (.string (strB y.name)) := (hbw.cell (p := ⟨b, o + j * 4, none⟩) hbl).trans (by have := hcs 0 _ rfl; simpa using this)
                    have d1 : wr.cell? ⟨b, o + j * 4 + 1, none⟩ = some (.string (strB y.super)) := (hbw.cell (p := ⟨b, o + j * 4 + 1, none⟩) hbl).trans (by have := hcs 1 _ rfl; simpa using this)
                    have d2 : wr.cell? ⟨b, o + j * 4 + 2, none⟩ = some (.slice Bf mf df) := (hbw.cell (p := ⟨b, o + j * 4 + 2, none⟩) hbl).trans (by have := hcs 2 _ rfl; simpa using this)
                    have d3 : wr.cell? ⟨b, o + j * 4 + 3, none⟩ = some (.slice Bm mm dm) := (hbw.cell (p := ⟨b, o + j * 4 + 3, none⟩) hbl).trans (by have := hcs 3 _ rfl; simpa using this)
                    have HY := Lib.hid hy
                    have HBA := Lib.hid (hbw.alloc hbw.size (.cells #[.string (strB y.name), .string (strB y.super), .slice Bf mf df, .slice Bm mm dm] 85))
                    have HMe := Lib.hid (hMe.below HBA.out)
                    have hmm := hMe.2.1
                    have hdm := hMe.2.2.1
                    unfold maxLen at hdm
                    have HREL4 := Lib.hid (RelAll.start (clashB x) y.meths mm (wr.alloc (.cells #[.string (strB y.name), .string (strB y.super), .slice Bf mf df, .slice Bm mm dm] 85)))
                    clear hcs hcl hy hMe hbw
                    go_wp2
                    generalize hWA : wr.alloc (.cells #[.string (strB y.name), .string (strB y.super), .slice Bf mf df, .slice Bm mm dm] 85) = WA at *
                    clear hWA d0 d1 d2 d3
                    obtain ⟨wo, rfl⟩ : ∃ wo : World, wo = wr := ⟨_, rfl⟩
                    go_loopw [86] (fun i wr => RelAll (clashB x) y.meths mm WA i wr) (fun i _ => mm - (intOf i).toNat)
                    case atStart => exact HREL4.out
                    case round =>
                      clear HREL4
                      obtain ⟨i, hi, rfl, hok2, hbw⟩ := hrel
                      have HOK2 := Lib.hid hok2
                      have HB6 : Hid (Below W1.heap.size W1 wr) := Lib.hid ((HB5.out.trans (HBA.out.mono HB5.out.size)).trans (hbw.mono (HB5.out.trans (HBA.out.mono HB5.out.size)).size))
                      clear hok2
                      by_cases hlt2 : i < mm
                      · obtain ⟨fb, fo, f, fcs, rfl, hfb, _, hfx, hfcl, hcs, hr⟩ := HMe.out.at_ hlt2
                        obtain ⟨Dc, kc, ec, Dt, kt, et, Dp, kp, ep, rfl, _⟩ := hr
                        change ∀ j' v, [.bool f.static, .string (strB f.name), .string (strB f.desc), .int .i64 f.stack, .int .i64 f.locals, .slice Dc kc ec, .slice Dt kt et, .slice Dp kp ep][j']? = some v → WA.cell? ⟨fb, fo + i * 8 + j', none⟩ = some v at hcs
                        have d0 : wr.cell? ⟨fb, fo + i * 8, none⟩ = some (.bool f.static) := (hbw.cell (p := ⟨fb, fo + i * 8, none⟩) hfb).trans (by have := hcs 0 _ rfl; simpa using this)
                        have d1 : wr.cell? ⟨fb, fo + i * 8 + 1, none⟩ = some (.string (strB f.name)) := (hbw.cell (p := ⟨fb, fo + i * 8 + 1, none⟩) hfb).trans (by have := hcs 1 _ rfl; simpa using this)
                        have d2 : wr.cell? ⟨fb, fo + i * 8 + 2, none⟩ = some (.string (strB f.desc)) := (hbw.cell (p := ⟨fb, fo + i * 8 + 2, none⟩) hfb).trans (by have := hcs 2 _ rfl; simpa using this)
                        have d3 : wr.cell? ⟨fb, fo + i * 8 + 3, none⟩ = some (.int .i64 f.stack) := (hbw.cell (p := ⟨fb, fo + i * 8 + 3, none⟩) hfb).trans (by have := hcs 3 _ rfl; simpa using this)
                        have d4 : wr.cell? ⟨fb, fo + i * 8 + 4, none⟩ = some (.int .i64 f.locals) := (hbw.cell (p := ⟨fb, fo + i * 8 + 4, none⟩) hfb).trans (by have := hcs 4 _ rfl; simpa using this)
                        have d5 : wr.cell? ⟨fb, fo + i * 8 + 5, none⟩ = some (.slice Dc kc ec) := (hbw.cell (p := ⟨fb, fo + i * 8 + 5, none⟩) hfb).trans (by have := hcs 5 _ rfl; simpa using this)
                        have d6 : wr.cell? ⟨fb, fo + i * 8 + 6, none⟩ = some (.slice Dt kt et) := (hbw.cell (p := ⟨fb, fo + i * 8 + 6, none⟩) hfb).trans (by have := hcs 6 _ rfl; simpa using this)
                        have d7 : wr.cell? ⟨fb, fo + i * 8 + 7, none⟩ = some (.slice Dp kp ep) := (hbw.cell (p := ⟨fb, fo + i * 8 + 7, none⟩) hfb).trans (by have := hcs 7 _ rfl; simpa using this)
                        have hb7 := hbw.alloc hbw.size (.cells #[.bool f.static, .string (strB f.name), .string (strB f.desc), .int .i64 f.stack, .int .i64 f.locals, .slice Dc kc ec, .slice Dt kt et, .slice Dp kp ep] 52)
                        have HB7 := Lib.hid (HB6.out.alloc HB6.out.size (.cells #[.bool f.static, .string (strB f.name), .string (strB f.desc), .int .i64 f.stack, .int .i64 f.locals, .slice Dc kc ec, .slice Dt kt et, .slice Dp kp ep] 52))
                        obtain ⟨z0, z1, z2, z3, z4⟩ := K1.out _ HB7.out
                        have HFX := Lib.hid hfx
                        clear hcs hfcl hfx z4
                        cases hcb : clashB x f with
                        | true =>
                          have HREL4 := Lib.hid (RelAll.next HOK2.out hlt2 HFX.out hcb hb7)
                          clear hb7 hbw
                          unfold clashB at hcb
                          by_cases e1 : f.name = x.name
                          · have q1 : ((strB f.name).toList == (strB x.name).toList) = true := by rw [e1]; simp
                            by_cases e2 : f.desc = x.desc
                            · have q2 : ((strB f.desc).toList == (strB x.desc).toList) = true := by rw [e2]; simp
                              have e3 : f.static = x.static := by simpa [e1, e2] using hcb
                              clear hcb e1 e2
                              generalize f.static = sf at *
                              generalize x.static = sx at *
                              subst e3
                              cases sf with
                              | false =>
                                go_wp2
                                go_roundw
                                case rel => exact HREL4.out
                                case measure => simp [intOf]; omega
                              | true =>
                                go_wp2
                                go_roundw
                                case rel => exact HREL4.out
                                case measure => simp [intOf]; omega
                            · have q2 : ((strB f.desc).toList == (strB x.desc).toList) = false := by rw [strB_toList, strB_toList]; simpa using e2
                              clear hcb e1 e2
                              go_wp2
                              go_roundw
                              case rel => exact HREL4.out
                              case measure => simp [intOf]; omega
                          · have q1 : ((strB f.name).toList == (strB x.name).toList) = false := by rw [strB_toList, strB_toList]; simpa using e1
                            clear hcb e1
                            go_wp2
                            go_roundw
                            case rel => exact HREL4.out
                            case measure => simp [intOf]; omega
                        | false =>
                          have HG : Hid (methR L u x = false) := Lib.hid (by
                            rw [methR_eq, HL5.out, allB_no HY.out (show agreeB x y = false from allB_no HFX.out hcb), Bool.and_false])
                          unfold clashB at hcb
                          have e1 : f.name = x.name ∧ f.desc = x.desc ∧ f.static ≠ x.static := by simpa [and_assoc] using hcb
                          have q1 : ((strB f.name).toList == (strB x.name).toList) = true := by rw [e1.1]; simp
                          have q2 : ((strB f.desc).toList == (strB x.desc).toList) = true := by rw [e1.2.1]; simp
                          have e3 := e1.2.2
                          clear hb7 hbw hcb e1
                          generalize f.static = sf at *
                          generalize x.static = sx at *
                          cases sf with
                          | false =>
                            cases sx with
                            | false => exact absurd rfl e3
                            | true =>
                              clear e3
                              go_wp2
                              go_ret
                              exact ⟨ret_bool (by rw [HG.out]), HBB.out.trans (HB7.out.mono HBB.out.size)⟩
                          | true =>
                            cases sx with
                            | true => exact absurd rfl e3
                            | false =>
                              clear e3
                              go_wp2
                              go_ret
                              exact ⟨ret_bool (by rw [HG.out]), HBB.out.trans (HB7.out.mono HBB.out.size)⟩
                      · have HREL3 := Lib.hid (RelAll.next HOK.out hlt HY.out (show agreeB x y = true from allB_take HOK2.out HMe.out.1 hlt2) (HBA.out.trans (hbw.mono HBA.out.size)))
                        clear hbw
                        go_wp2
                        go_roundw
                        case rel => exact HREL3.out
                        case measure => simp [intOf]; omega
                  · have HG : Hid (methR L u x = true) := Lib.hid (by
                      rw [methR_eq, HL5.out, HN.out, HTY.out, HTR.out, allB_take HOK.out HN5.out hlt]; rfl)
                    have HB6 : Hid (Below W1.heap.size W1 wr) := Lib.hid (HB5.out.trans (hbw.mono HB5.out.size))
                    clear hbw
                    go_wp2
                    go_ret
                    exact ⟨ret_bool (by rw [HG.out]), HBB.out.trans (HB6.out.mono HBB.out.size)⟩

end Go.Proofs.YtblnhobbnkcbeaaGreatDoor

/- The walk over the document's unit (layer 16); printed by gen/gen_rd.py. -/
namespace Go.Proofs.YtblnhobbnkcbeaaGreatDoor
set_option maxRecDepth 100000
open Go.RowKit

section
variable {α β : Type} {p : α → Bool} {f : α → β} {l : List α} {n k : Nat} {x : α} {w wr : World}
theorem nodup_next (h : ((l.take k).map f).Nodup) (hx : l[k]? = some x) (hn : ∀ y ∈ l.take k, f y ≠ f x) : ((l.take (k + 1)).map f).Nodup := by
  rw [List.take_add_one, hx, Option.toList_some, List.map_append, List.map_singleton]
  refine List.nodup_append.2 ⟨h, by simp, fun a ha b hb => ?_⟩
  obtain ⟨y, hy, rfl⟩ := List.mem_map.1 ha
  obtain rfl : b = f x := by simpa using hb
  exact hn y hy
theorem nodup_no {j : Nat} {y : α} (hx : l[k]? = some x) (hy : l[j]? = some y) (hj : j < k) (e : f y = f x) : ¬ (l.map f).Nodup := fun h => by
  have h1 := List.pairwise_iff_getElem.1 h j k
  have hk : k < l.length := (List.getElem?_eq_some_iff.1 hx).1
  refine h1 (by simpa using (by omega)) (by simpa using hk) hj ?_
  have e1 := (List.getElem?_eq_some_iff.1 hx).2
  have e2 := (List.getElem?_eq_some_iff.1 hy).2
  simp [e1, e2, e]
/-- Where a loop over a row stands whose keys are all others. -/
def RelU (p : α → Bool) (f : α → β) (l : List α) (n : Nat) (w : World) (i : Value) (wr : World) : Prop := ∃ k : Nat, k ≤ n ∧ i = .int .i64 (k : Int) ∧ (∀ x ∈ l.take k, p x = true) ∧ ((l.take k).map f).Nodup ∧ Below w.heap.size w wr
theorem RelU.start (p : α → Bool) (f : α → β) (l : List α) (n : Nat) (w : World) : RelU p f l n w (.int .i64 0) w := ⟨0, Nat.zero_le _, rfl, fun x hx => (by simp at hx), (by simp), Below.refl _ _⟩
theorem RelU.next (h : ∀ x ∈ l.take k, p x = true) (hd : ((l.take k).map f).Nodup) (hk : k < n) (hx : l[k]? = some x) (hp : p x = true) (hn : ∀ y ∈ l.take k, f y ≠ f x) (hb : Below w.heap.size w wr) : RelU p f l n w (.int .i64 ((k : Int) + 1)) wr := ⟨k + 1, hk, by simp, allB_next h hx hp, nodup_next hd hx hn, hb⟩
/-- Where its inner loop stands. -/
def RelNe (f : α → β) (x : α) (l : List α) (k : Nat) (w : World) (i : Value) (wr : World) : Prop := ∃ j : Nat, j ≤ k ∧ i = .int .i64 (j : Int) ∧ (∀ y ∈ l.take j, f y ≠ f x) ∧ Below w.heap.size w wr
theorem RelNe.start (f : α → β) (x : α) (l : List α) (k : Nat) (w : World) : RelNe f x l k w (.int .i64 0) w := ⟨0, Nat.zero_le _, rfl, fun x hx => (by simp at hx), Below.refl _ _⟩
theorem RelNe.next {j : Nat} {y : α} (h : ∀ y ∈ l.take j, f y ≠ f x) (hk : j < k) (hy : l[j]? = some y) (hn : f y ≠ f x) (hb : Below w.heap.size w wr) : RelNe f x l k w (.int .i64 ((j : Int) + 1)) wr := ⟨j + 1, hk, by simp, fun z hz => by
  rw [List.take_add_one, hy] at hz
  rcases List.mem_append.1 hz with h1 | h1
  · exact h z h1
  · simp at h1; subst h1; exact hn, hb⟩
end
abbrev keyM (m : MeD) : Bs × Bs := (m.name, m.desc)
theorem unitR_eq (L : List UnD) (u : UnD) : unitR L u = (classB u.name && (u.super != cSys && decide (2 ≤ (lineR L u.name).length) && decide ((lineR L u.name).length ≤ L.length) && ((lineR L u.name).getLast?.map (·.name) == some cObject)) && (u.fields.all (fieldP L) && decide ((u.fields.map (·.name)).Nodup)) && (u.meths.all (methR L u) && decide ((u.meths.map keyM).Nodup))) := rfl

set_option maxHeartbeats 8000000 in
theorem runit_any (L : List UnD) (A0 : Option Addr) (n0 c0 : Nat) (u : UnD) (Af : Option Addr) (nf cf : Nat) (Am : Option Addr) (nm cm : Nat) (w : World)
    (hR : RowS unW w Empty A0 n0 c0 L) (hn0 : n0 ≤ 1000000) (hU : UnAt4 w u Af nf cf Am nm cm) (hS : SmallUn u) :
    Calls Tryz.prog 52 #[.slice A0 n0 c0, unV4 u Af nf cf Am nm cm] w fun e w' => e = .returned (.bool (unitR L u)) ∧ Below w.heap.size w w' := by
  obtain ⟨W1, hW1⟩ : ∃ W1, w.alloc (.cells #[.string (strB u.name), .string (strB u.super), .slice Af nf cf, .slice Am nm cm] 85) = W1 := ⟨_, rfl⟩
  have hbb : Below w.heap.size w W1 := by rw [← hW1]; exact (Below.refl _ _).alloc (Nat.le_refl _) _
  have k0 : Blk W1 w.heap.size 85 #[.string (strB u.name), .string (strB u.super), .slice Af nf cf, .slice Am nm cm] := by rw [← hW1]; exact Blk.new w _ _
  have hsz : W1.heap.size = w.heap.size + 1 := by rw [← hW1]; simp
  have hRB := hR.below hbb
  have HF := Lib.hid (hU.1.below hbb)
  have HM := Lib.hid (hU.2.below hbb)
  have hnf := hU.1.2.1
  have hcf := hU.1.2.2.1
  have hnm := hU.2.2.1
  have hcm := hU.2.2.2.1
  unfold maxLen at hcf hcm
  have HL0 := Lib.hid hR.1
  have HS := Lib.hid hS
  have C2 := Lib.hid (fun W => refIsClass_any u.name W (Nat.le_trans hS.name (by decide)))
  have CI := Lib.hid (fun W s (h : List.length s ≤ 1000000) => risName_any s W h)
  have CY := Lib.hid (fun W s (h : List.length s ≤ 1000000) => refIsType_any s W (by omega))
  have CT := Lib.hid (fun W (h : Below W1.heap.size W1 W) t ht => rthere_any L t A0 n0 c0 W (hRB.below h) ht)
  have CL := Lib.hid (rline_any L u.name A0 n0 c0 W1 hRB hn0)
  have CM := Lib.hid (fun W (h : Below W1.heap.size W1 W) x Ac nc cc At nt ct Ap np cp (hT : RowS trT W Empty At nt ct x.traps) (hn : List.length x.name ≤ 1000000) (hd : List.length x.desc ≤ 1000000) => rmethod_any L A0 n0 c0 u Af nf cf Am nm cm x Ac nc cc At nt ct Ap np cp W (hRB.below h) hn0 hT hn hd)
  have K1 : Hid (∀ W : World, Below W1.heap.size W1 W → W.cell? ⟨w.heap.size, 0, none⟩ = some (.string (strB u.name)) ∧ W.cell? ⟨w.heap.size, 1, none⟩ = some (.string (strB u.super)) ∧ W.cell? ⟨w.heap.size, 2, none⟩ = some (.slice Af nf cf) ∧ W.cell? ⟨w.heap.size, 3, none⟩ = some (.slice Am nm cm)) := Lib.hid (fun W h => ⟨(k0.of (h.block _ (by omega))).cell 0, (k0.of (h.block _ (by omega))).cell 1, (k0.of (h.block _ (by omega))).cell 2, (k0.of (h.block _ (by omega))).cell 3⟩)
  have c0' : W1.cell? ⟨w.heap.size, 0, none⟩ = some (.string (strB u.name)) := k0.cell 0
  have HBB := Lib.hid hbb
  have HW1 := Lib.hid hW1
  clear hW1 hbb k0 hRB hsz hR hU hS
  cases hc : classB u.name with
  | false =>
    rw [hc] at C2
    have HG : Hid (unitR L u = false) := Lib.hid (by
      rw [unitR_eq]
      rw [hc]; simp)
    clear hc
    unfold unV4
    go_enter Tryz.func52, Tryz.ntmps52
    go_wp2_with fail
    rw [HW1.out]
    go_wp2_with fail
    refine CL.out.mono ?_
    rintro e w1 ⟨⟨A1, c1, rfl, hr1⟩, hb⟩
    have HB1 : Hid (Below W1.heap.size W1 w1) := Lib.hid hb
    obtain ⟨l1, hl1⟩ : ∃ l1, (lineR L u.name) = l1 := ⟨_, rfl⟩
    rw [hl1] at hr1
    rw [hl1]
    obtain ⟨n1, hn1⟩ : ∃ n1, l1.length = n1 := ⟨_, rfl⟩
    rw [hn1] at hr1
    rw [hn1]
    have HL1 := Lib.hid hl1
    have HN1 := Lib.hid hn1
    have HR1 := Lib.hid hr1
    have hn1c := hr1.2.1
    have hc1m := hr1.2.2.1
    unfold maxLen at hc1m
    obtain ⟨p0, p1, p2, p3⟩ := K1.out _ hb
    clear hb hl1 hn1 hr1 CL
    go_wp2_with fail
    refine (C2.out _).mono ?_
    rintro e w' ⟨rfl, rfl⟩
    go_wp2
    go_ret
    exact ⟨ret_bool (by rw [HG.out]), HBB.out.trans (HB1.out.mono HBB.out.size)⟩
  | true =>
    have HCL := Lib.hid hc
    rw [hc] at C2
    clear hc
    unfold unV4
    go_enter Tryz.func52, Tryz.ntmps52
    go_wp2_with fail
    rw [HW1.out]
    go_wp2_with fail
    refine CL.out.mono ?_
    rintro e w1 ⟨⟨A1, c1, rfl, hr1⟩, hb⟩
    have HB1 : Hid (Below W1.heap.size W1 w1) := Lib.hid hb
    obtain ⟨l1, hl1⟩ : ∃ l1, (lineR L u.name) = l1 := ⟨_, rfl⟩
    rw [hl1] at hr1
    rw [hl1]
    obtain ⟨n1, hn1⟩ : ∃ n1, l1.length = n1 := ⟨_, rfl⟩
    rw [hn1] at hr1
    rw [hn1]
    have HL1 := Lib.hid hl1
    have HN1 := Lib.hid hn1
    have HR1 := Lib.hid hr1
    have hn1c := hr1.2.1
    have hc1m := hr1.2.2.1
    unfold maxLen at hc1m
    obtain ⟨p0, p1, p2, p3⟩ := K1.out _ hb
    clear hb hl1 hn1 hr1 CL
    by_cases hs : u.super = cSys
    · have HG : Hid (unitR L u = false) := Lib.hid (by
        rw [unitR_eq, hs]; simp)
      have hs2 : (strB u.super).toList = [115, 121, 115] := by rw [strB_toList]; simpa [cSys] using hs
      have hs3 : ((strB u.super).toList == [115, 121, 115]) = true := by rw [hs2]; rfl
      clear hs
      go_wp2_with fail
      refine (C2.out _).mono ?_
      rintro e w' ⟨rfl, rfl⟩
      go_wp2
      go_ret
      exact ⟨ret_bool (by rw [HG.out]), HBB.out.trans (HB1.out.mono HBB.out.size)⟩
    · have HSUP : Hid ((u.super != cSys) = true) := Lib.hid (by simpa using hs)
      have hs2 : ¬ (strB u.super).toList = [115, 121, 115] := by rw [strB_toList]; simpa [cSys] using hs
      have hs3 : ((strB u.super).toList == [115, 121, 115]) = false := by simpa using hs2
      clear hs
      by_cases h2 : n1 < 2
      · have HG : Hid (unitR L u = false) := Lib.hid (by
          rw [unitR_eq, HL1.out, show decide (2 ≤ l1.length) = false from decide_eq_false (by rw [HN1.out]; omega)]; simp)
        go_wp2_with fail
        refine (C2.out _).mono ?_
        rintro e w' ⟨rfl, rfl⟩
        go_wp2
        go_ret
        exact ⟨ret_bool (by rw [HG.out]), HBB.out.trans (HB1.out.mono HBB.out.size)⟩
      · by_cases h3 : n0 < n1
        · have HG : Hid (unitR L u = false) := Lib.hid (by
            rw [unitR_eq, HL1.out, show decide (l1.length ≤ L.length) = false from decide_eq_false (by rw [HN1.out, HL0.out]; omega)]; simp)
          go_wp2_with fail
          refine (C2.out _).mono ?_
          rintro e w' ⟨rfl, rfl⟩
          go_wp2
          go_ret
          exact ⟨ret_bool (by rw [HG.out]), HBB.out.trans (HB1.out.mono HBB.out.size)⟩
        · obtain ⟨m1, rfl⟩ : ∃ m1, n1 = m1 + 1 := ⟨n1 - 1, by omega⟩
          obtain ⟨lb, lo, y, ycs, rfl, hlb, _, hy, hycl, hcs, hr⟩ := HR1.out.at_ (i := m1) (by omega)
          obtain ⟨Bf, mf, df, Bm, mm, dm, rfl, _, _⟩ := hr
          have y0 : w1.cell? ⟨lb, lo + m1 * 4, none⟩ = some (.string (strB y.name)) := hcs 0 _ rfl
          have hlast : l1.getLast? = some y := by rw [List.getLast?_eq_getElem?, HN1.out]; exact hy
          clear hcs hycl hy
          by_cases h4 : y.name = cObject
          · have HLA : Hid ((u.super != cSys && decide (2 ≤ (lineR L u.name).length) && decide ((lineR L u.name).length ≤ L.length) && ((lineR L u.name).getLast?.map (·.name) == some cObject)) = true) := Lib.hid (by
              rw [HL1.out, HSUP.out, hlast, decide_eq_true (show 2 ≤ l1.length by rw [HN1.out]; omega), decide_eq_true (show l1.length ≤ L.length by rw [HN1.out, HL0.out]; omega)]
              simp [h4])
            have q4 : (strB y.name).toList = [79, 98, 106, 101, 99, 116] := by rw [strB_toList, h4]; rfl
            have q5 : ((strB y.name).toList == [79, 98, 106, 101, 99, 116]) = true := by rw [q4]; rfl
            have q6 : ((strB y.name).toList != [79, 98, 106, 101, 99, 116]) = false := by rw [q4]; rfl
            clear h4 hlast
            go_wp2_with fail
            refine (C2.out _).mono ?_
            rintro e w' ⟨rfl, rfl⟩
            have HREL1 := Lib.hid (RelU.start (fieldP L) (·.name) u.fields nf w1)
            go_wp2
            clear p0 p1 p2 p3
            go_loopw [52] (fun i wr => RelU (fieldP L) (·.name) u.fields nf w1 i wr) (fun i _ => nf - (intOf i).toNat)
            case atStart => exact HREL1.out
            case round =>
              clear HREL1
              obtain ⟨k, hk, rfl, hok, hnd, hbw⟩ := hrel
              have HOKF := Lib.hid hok
              have HNDF := Lib.hid hnd
              clear hok hnd
              by_cases hltf : k < nf
              · have HBW := Lib.hid hbw
                have hb3 : Below W1.heap.size W1 wr := HB1.out.trans (hbw.mono HB1.out.size)
                obtain ⟨fb, fo, f, fcs, rfl, hfb, _, hfx, hfcl, hcs, hr⟩ := (HF.out.below hb3).at_ hltf
                obtain rfl := (show fcs = [.bool f.static, .string (strB f.name), .string (strB f.desc)] from hr)
                change ∀ j' v, [.bool f.static, .string (strB f.name), .string (strB f.desc)][j']? = some v → wr.cell? ⟨fb, fo + k * 3 + j', none⟩ = some v at hcs
                have d0 : wr.cell? ⟨fb, fo + k * 3, none⟩ = some (.bool f.static) := by have := hcs 0 _ rfl; simpa using this
                have d1 : wr.cell? ⟨fb, fo + k * 3 + 1, none⟩ = some (.string (strB f.name)) := by have := hcs 1 _ rfl; simpa using this
                have d2 : wr.cell? ⟨fb, fo + k * 3 + 2, none⟩ = some (.string (strB f.desc)) := by have := hcs 2 _ rfl; simpa using this
                have HFX := Lib.hid hfx
                have hsf := HS.out.fld f (List.mem_of_getElem? hfx)
                have HA := Lib.hid (hb3.alloc hb3.size (.cells #[.bool f.static, .string (strB f.name), .string (strB f.desc)] 103))
                have HAW := Lib.hid (hbw.alloc hbw.size (.cells #[.bool f.static, .string (strB f.name), .string (strB f.desc)] 103))
                have kt0 : Blk (wr.alloc (.cells #[.bool f.static, .string (strB f.name), .string (strB f.desc)] 103)) wr.heap.size 103 #[.bool f.static, .string (strB f.name), .string (strB f.desc)] := Blk.new _ _ _
                have D1 := Lib.hid (fun W => CI.out W f.name hsf.1)
                have D2 := Lib.hid (fun W => CY.out W f.desc hsf.2)
                have D3 := Lib.hid (fun W (h : Below W1.heap.size W1 W) => CT.out W h f.desc hsf.2)
                clear hcs hfcl hfx hbw hb3 hsf hr
                cases h1 : isNameB f.name with
                | false =>
                  rw [h1] at D1
                  have HG : Hid (unitR L u = false) := Lib.hid (by
                    rw [unitR_eq]
                    rw [show u.fields.all (fieldP L) = false from allB_no HFX.out (by unfold fieldP; rw [h1]; rfl)]; simp)
                  clear h1
                  go_wp2_with fail
                  refine (D1.out _).mono ?_
                  rintro e w' ⟨rfl, rfl⟩
                  go_wp2
                  go_ret
                  exact ⟨ret_bool (by rw [HG.out]), HBB.out.trans (HA.out.mono HBB.out.size)⟩
                | true =>
                  rw [h1] at D1
                  cases h2 : typeD 0 f.desc with
                  | false =>
                    rw [h2] at D2
                    have HG : Hid (unitR L u = false) := Lib.hid (by
                      rw [unitR_eq]
                      rw [show u.fields.all (fieldP L) = false from allB_no HFX.out (by unfold fieldP; rw [h1, h2]; rfl)]; simp)
                    clear h1 h2
                    have y2 : (wr.alloc (.cells #[.bool f.static, .string (strB f.name), .string (strB f.desc)] 103)).cell? ⟨wr.heap.size, 2, none⟩ = some (.string (strB f.desc)) := kt0.cell 2
                    go_wp2_with fail
                    refine (D1.out _).mono ?_
                    rintro e w' ⟨rfl, rfl⟩
                    go_wp2_with fail
                    refine (D2.out _).mono ?_
                    rintro e w' ⟨rfl, rfl⟩
                    go_wp2
                    go_ret
                    exact ⟨ret_bool (by rw [HG.out]), HBB.out.trans (HA.out.mono HBB.out.size)⟩
                  | true =>
                    rw [h2] at D2
                    have y2 : (wr.alloc (.cells #[.bool f.static, .string (strB f.name), .string (strB f.desc)] 103)).cell? ⟨wr.heap.size, 2, none⟩ = some (.string (strB f.desc)) := kt0.cell 2
                    have D := Lib.hid (D3.out _ HA.out)
                    cases h3 : thereU L f.desc with
                    | false =>
                      rw [h3] at D
                      have HG : Hid (unitR L u = false) := Lib.hid (by
                        rw [unitR_eq]
                        rw [show u.fields.all (fieldP L) = false from allB_no HFX.out (by unfold fieldP; rw [h1, h2, h3]; rfl)]; simp)
                      clear h1 h2 h3
                      go_wp2_with fail
                      refine (D1.out _).mono ?_
                      rintro e w' ⟨rfl, rfl⟩
                      go_wp2_with fail
                      refine (D2.out _).mono ?_
                      rintro e w' ⟨rfl, rfl⟩
                      go_wp2_with fail
                      refine D.out.mono ?_
                      rintro e w3 ⟨rfl, hb⟩
                      have HB3 : Hid (Below W1.heap.size W1 w3) := Lib.hid (HA.out.trans (hb.mono HA.out.size))
                      clear hb
                      go_wp2
                      go_ret
                      exact ⟨ret_bool (by rw [HG.out]), HBB.out.trans (HB3.out.mono HBB.out.size)⟩
                    | true =>
                      rw [h3] at D
                      have HPX : Hid (fieldP L f = true) := Lib.hid (by unfold fieldP; rw [h1, h2, h3]; rfl)
                      clear h1 h2 h3
                      go_wp2_with fail
                      refine (D1.out _).mono ?_
                      rintro e w' ⟨rfl, rfl⟩
                      go_wp2_with fail
                      refine (D2.out _).mono ?_
                      rintro e w' ⟨rfl, rfl⟩
                      go_wp2_with fail
                      refine D.out.mono ?_
                      rintro e w3 ⟨rfl, hb⟩
                      have HB3 : Hid (Below W1.heap.size W1 w3) := Lib.hid (HA.out.trans (hb.mono HA.out.size))
                      have HBW3 := Lib.hid (HAW.out.trans (hb.mono HAW.out.size))
                      have kt3 := kt0.of (hb.block _ kt0.lt)
                      have hgl := kt3.lt
                      generalize wr.heap.size = gm at *
                      clear hb D D1 D2 D3 d0 d1 d2 y2 kt0 HA HAW
                      obtain ⟨r0, r1, r2, r3⟩ := K1.out _ HB3.out
                      have HREL3 := Lib.hid (RelNe.start (fun g : FdD => g.name) f u.fields k w3)
                      have HKT := Lib.hid kt3
                      clear kt3
                      go_wp2
                      clear r0 r1 r2 r3
                      obtain ⟨wo, rfl⟩ : ∃ wo : World, wo = wr := ⟨_, rfl⟩
                      go_loopw [79] (fun i wr => RelNe (fun g : FdD => g.name) f u.fields k w3 i wr) (fun i _ => k - (intOf i).toNat)
                      case atStart => exact HREL3.out
                      case round =>
                        clear HREL3
                        obtain ⟨j, hj, rfl, hne, hbw⟩ := hrel
                        have HNE := Lib.hid hne
                        have hb4 : Below W1.heap.size W1 wr := HB3.out.trans (hbw.mono HB3.out.size)
                        clear hne
                        by_cases hlt2 : j < k
                        · obtain ⟨gb, go, g, gcs, he, hgb, _, hgx, hgcl, hcs, hr⟩ := (HF.out.below hb4).at_ (i := j) (by omega)
                          obtain rfl := (show gcs = [.bool g.static, .string (strB g.name), .string (strB g.desc)] from hr)
                          cases he
                          change ∀ j' v, [.bool g.static, .string (strB g.name), .string (strB g.desc)][j']? = some v → wr.cell? ⟨fb, fo + j * 3 + j', none⟩ = some v at hcs
                          have d0 : wr.cell? ⟨fb, fo + j * 3, none⟩ = some (.bool g.static) := by have := hcs 0 _ rfl; simpa using this
                          have d1 : wr.cell? ⟨fb, fo + j * 3 + 1, none⟩ = some (.string (strB g.name)) := by have := hcs 1 _ rfl; simpa using this
                          have d2 : wr.cell? ⟨fb, fo + j * 3 + 2, none⟩ = some (.string (strB g.desc)) := by have := hcs 2 _ rfl; simpa using this
                          have HGX := Lib.hid hgx
                          have HB5 := Lib.hid (hb4.alloc hb4.size (.cells #[.bool g.static, .string (strB g.name), .string (strB g.desc)] 103))
                          have HBW5 := Lib.hid (hbw.alloc hbw.size (.cells #[.bool g.static, .string (strB g.name), .string (strB g.desc)] 103))
                          have kf := (HKT.out.of (hbw.block _ HKT.out.lt)).alloc (.cells #[.bool g.static, .string (strB g.name), .string (strB g.desc)] 103)
                          have f1 : (wr.alloc (.cells #[.bool g.static, .string (strB g.name), .string (strB g.desc)] 103)).cell? ⟨gm, 1, none⟩ = some (.string (strB f.name)) := kf.cell 1
                          clear hcs hgcl hgx hbw hb4 kf hr
                          by_cases e1 : f.name = g.name
                          · have q1 : ((strB f.name).toList == (strB g.name).toList) = true := by rw [e1]; simp
                            have HG : Hid (unitR L u = false) := Lib.hid (by
                              rw [unitR_eq]
                              rw [show decide ((u.fields.map (·.name)).Nodup) = false from decide_eq_false (nodup_no HFX.out HGX.out hlt2 e1.symm)]; simp)
                            clear e1
                            go_wp2
                            go_ret
                            exact ⟨ret_bool (by rw [HG.out]), HBB.out.trans (HB5.out.mono HBB.out.size)⟩
                          · have q1 : ((strB f.name).toList == (strB g.name).toList) = false := by rw [strB_toList, strB_toList]; simpa using e1
                            have HREL3 := Lib.hid (RelNe.next HNE.out hlt2 HGX.out (show g.name ≠ f.name from fun e => e1 e.symm) HBW5.out)
                            clear e1
                            go_wp2
                            go_roundw
                            case rel => exact HREL3.out
                            case measure => simp [intOf]; omega
                        · have HREL1 := Lib.hid (RelU.next HOKF.out HNDF.out hltf HFX.out HPX.out (by
                            have := HNE.out
                            rwa [show j = k from by omega] at this) (HBW3.out.trans (hbw.mono HBW3.out.size)))
                          clear hbw hb4
                          go_wp2
                          go_roundw
                          case rel => exact HREL1.out
                          case measure => simp [intOf]; omega
              · skip
                have HFALL : Hid (u.fields.all (fieldP L) = true) := Lib.hid (allB_take HOKF.out HF.out.1 hltf)
                have HFND : Hid ((u.fields.map (·.name)).Nodup) := Lib.hid (by
                  have := HNDF.out
                  rwa [List.take_of_length_le (by rw [HF.out.1]; omega)] at this)
                have HB2 : Hid (Below W1.heap.size W1 wr) := Lib.hid (HB1.out.trans (hbw.mono HB1.out.size))
                obtain ⟨w2, rfl⟩ : ∃ w2 : World, w2 = wr := ⟨_, rfl⟩
                obtain ⟨r0, r1, r2, r3⟩ := K1.out _ HB2.out
                clear hbw
                go_wp2
                clear r0 r1 r2 r3
                have HREL2 := Lib.hid (RelU.start (methR L u) keyM u.meths nm w2)
                go_loopw [93] (fun i wr => RelU (methR L u) keyM u.meths nm w2 i wr) (fun i _ => nm - (intOf i).toNat)
                case atStart => exact HREL2.out
                case round =>
                  clear HREL2
                  obtain ⟨k, hk, rfl, hok, hnd, hbw⟩ := hrel
                  have HOK := Lib.hid hok
                  have HND := Lib.hid hnd
                  have HBW := Lib.hid hbw
                  have hb3 : Below W1.heap.size W1 wr := HB2.out.trans (hbw.mono HB2.out.size)
                  clear hok hnd
                  by_cases hlt : k < nm
                  · obtain ⟨fb, fo, f, fcs, rfl, hfb, _, hfx, hfcl, hcs, hr⟩ := (HM.out.below hb3).at_ hlt
                    obtain ⟨Dc, kc, ec, Dt, kt, et, Dp, kp, ep, rfl, htr, _⟩ := hr
                    change ∀ j' v, [.bool f.static, .string (strB f.name), .string (strB f.desc), .int .i64 f.stack, .int .i64 f.locals, .slice Dc kc ec, .slice Dt kt et, .slice Dp kp ep][j']? = some v → wr.cell? ⟨fb, fo + k * 8 + j', none⟩ = some v at hcs
                    have d0 : wr.cell? ⟨fb, fo + k * 8, none⟩ = some (.bool f.static) := by have := hcs 0 _ rfl; simpa using this
                    have d1 : wr.cell? ⟨fb, fo + k * 8 + 1, none⟩ = some (.string (strB f.name)) := by have := hcs 1 _ rfl; simpa using this
                    have d2 : wr.cell? ⟨fb, fo + k * 8 + 2, none⟩ = some (.string (strB f.desc)) := by have := hcs 2 _ rfl; simpa using this
                    have d3 : wr.cell? ⟨fb, fo + k * 8 + 3, none⟩ = some (.int .i64 f.stack) := by have := hcs 3 _ rfl; simpa using this
                    have d4 : wr.cell? ⟨fb, fo + k * 8 + 4, none⟩ = some (.int .i64 f.locals) := by have := hcs 4 _ rfl; simpa using this
                    have d5 : wr.cell? ⟨fb, fo + k * 8 + 5, none⟩ = some (.slice Dc kc ec) := by have := hcs 5 _ rfl; simpa using this
                    have d6 : wr.cell? ⟨fb, fo + k * 8 + 6, none⟩ = some (.slice Dt kt et) := by have := hcs 6 _ rfl; simpa using this
                    have d7 : wr.cell? ⟨fb, fo + k * 8 + 7, none⟩ = some (.slice Dp kp ep) := by have := hcs 7 _ rfl; simpa using this
                    have HFX := Lib.hid hfx
                    have hsf := HS.out.mth f (List.mem_of_getElem? hfx)
                    have HA := Lib.hid (hb3.alloc hb3.size (.cells #[.bool f.static, .string (strB f.name), .string (strB f.desc), .int .i64 f.stack, .int .i64 f.locals, .slice Dc kc ec, .slice Dt kt et, .slice Dp kp ep] 52))
                    have HAW := Lib.hid (hbw.alloc hbw.size (.cells #[.bool f.static, .string (strB f.name), .string (strB f.desc), .int .i64 f.stack, .int .i64 f.locals, .slice Dc kc ec, .slice Dt kt et, .slice Dp kp ep] 52))
                    have C := Lib.hid (CM.out _ HA.out f Dc kc ec Dt kt et Dp kp ep (htr.below ((Below.refl _ wr).alloc (Nat.le_refl _) _)) hsf.1 hsf.2)
                    have kt0 : Blk (wr.alloc (.cells #[.bool f.static, .string (strB f.name), .string (strB f.desc), .int .i64 f.stack, .int .i64 f.locals, .slice Dc kc ec, .slice Dt kt et, .slice Dp kp ep] 52)) wr.heap.size 52 #[.bool f.static, .string (strB f.name), .string (strB f.desc), .int .i64 f.stack, .int .i64 f.locals, .slice Dc kc ec, .slice Dt kt et, .slice Dp kp ep] := Blk.new _ _ _
                    unfold unV4 at C
                    obtain ⟨s0, s1, s2, s3⟩ := K1.out _ HA.out
                    clear hcs hfcl hfx htr hbw hb3 hsf
                    cases hm : methR L u f with
                    | false =>
                      rw [hm] at C
                      have HG : Hid (unitR L u = false) := Lib.hid (by
                        rw [unitR_eq]
                        rw [show u.meths.all (methR L u) = false from allB_no HFX.out hm]; simp)
                      clear kt0
                      go_wp2_with fail
                      refine C.out.mono ?_
                      rintro e w3 ⟨rfl, hb⟩
                      have HB3 : Hid (Below W1.heap.size W1 w3) := Lib.hid (HA.out.trans (hb.mono HA.out.size))
                      clear hm hb C s0 s1 s2 s3 d0 d1 d2 d3 d4 d5 d6 d7
                      go_wp2
                      go_ret
                      exact ⟨ret_bool (by rw [HG.out]), HBB.out.trans (HB3.out.mono HBB.out.size)⟩
                    | true =>
                      rw [hm] at C
                      have HPX := Lib.hid hm
                      go_wp2_with fail
                      refine C.out.mono ?_
                      rintro e w3 ⟨rfl, hb⟩
                      have HB3 : Hid (Below W1.heap.size W1 w3) := Lib.hid (HA.out.trans (hb.mono HA.out.size))
                      have HBW3 := Lib.hid (HAW.out.trans (hb.mono HAW.out.size))
                      have kt3 := kt0.of (hb.block _ kt0.lt)
                      have hgl := kt3.lt
                      generalize wr.heap.size = gm at *
                      clear hm hb C s0 s1 s2 s3 d0 d1 d2 d3 d4 d5 d6 d7 kt0 HA HAW
                      obtain ⟨r0, r1, r2, r3⟩ := K1.out _ HB3.out
                      have HREL3 := Lib.hid (RelNe.start keyM f u.meths k w3)
                      have HKT := Lib.hid kt3
                      clear kt3
                      go_wp2
                      clear r0 r1 r2 r3
                      obtain ⟨wo, rfl⟩ : ∃ wo : World, wo = wr := ⟨_, rfl⟩
                      go_loopw [108] (fun i wr => RelNe keyM f u.meths k w3 i wr) (fun i _ => k - (intOf i).toNat)
                      case atStart => exact HREL3.out
                      case round =>
                        clear HREL3
                        obtain ⟨j, hj, rfl, hne, hbw⟩ := hrel
                        have HNE := Lib.hid hne
                        have hb4 : Below W1.heap.size W1 wr := HB3.out.trans (hbw.mono HB3.out.size)
                        clear hne
                        by_cases hlt2 : j < k
                        · obtain ⟨gb, go, g, gcs, he, hgb, _, hgx, hgcl, hcs, hr⟩ := (HM.out.below hb4).at_ (i := j) (by omega)
                          obtain ⟨Ec, lc, oc, Et, lt_, ot, Ep, lp, op_, rfl, htr, _⟩ := hr
                          cases he
                          change ∀ j' v, [.bool g.static, .string (strB g.name), .string (strB g.desc), .int .i64 g.stack, .int .i64 g.locals, .slice Ec lc oc, .slice Et lt_ ot, .slice Ep lp op_][j']? = some v → wr.cell? ⟨fb, fo + j * 8 + j', none⟩ = some v at hcs
                          have d0 : wr.cell? ⟨fb, fo + j * 8, none⟩ = some (.bool g.static) := by have := hcs 0 _ rfl; simpa using this
                          have d1 : wr.cell? ⟨fb, fo + j * 8 + 1, none⟩ = some (.string (strB g.name)) := by have := hcs 1 _ rfl; simpa using this
                          have d2 : wr.cell? ⟨fb, fo + j * 8 + 2, none⟩ = some (.string (strB g.desc)) := by have := hcs 2 _ rfl; simpa using this
                          have d3 : wr.cell? ⟨fb, fo + j * 8 + 3, none⟩ = some (.int .i64 g.stack) := by have := hcs 3 _ rfl; simpa using this
                          have d4 : wr.cell? ⟨fb, fo + j * 8 + 4, none⟩ = some (.int .i64 g.locals) := by have := hcs 4 _ rfl; simpa using this
                          have d5 : wr.cell? ⟨fb, fo + j * 8 + 5, none⟩ = some (.slice Ec lc oc) := by have := hcs 5 _ rfl; simpa using this
                          have d6 : wr.cell? ⟨fb, fo + j * 8 + 6, none⟩ = some (.slice Et lt_ ot) := by have := hcs 6 _ rfl; simpa using this
                          have d7 : wr.cell? ⟨fb, fo + j * 8 + 7, none⟩ = some (.slice Ep lp op_) := by have := hcs 7 _ rfl; simpa using this
                          have HGX := Lib.hid hgx
                          have HB5 := Lib.hid (hb4.alloc hb4.size (.cells #[.bool g.static, .string (strB g.name), .string (strB g.desc), .int .i64 g.stack, .int .i64 g.locals, .slice Ec lc oc, .slice Et lt_ ot, .slice Ep lp op_] 52))
                          have HBW5 := Lib.hid (hbw.alloc hbw.size (.cells #[.bool g.static, .string (strB g.name), .string (strB g.desc), .int .i64 g.stack, .int .i64 g.locals, .slice Ec lc oc, .slice Et lt_ ot, .slice Ep lp op_] 52))
                          have kf := (HKT.out.of (hbw.block _ HKT.out.lt)).alloc (.cells #[.bool g.static, .string (strB g.name), .string (strB g.desc), .int .i64 g.stack, .int .i64 g.locals, .slice Ec lc oc, .slice Et lt_ ot, .slice Ep lp op_] 52)
                          have f1 : (wr.alloc (.cells #[.bool g.static, .string (strB g.name), .string (strB g.desc), .int .i64 g.stack, .int .i64 g.locals, .slice Ec lc oc, .slice Et lt_ ot, .slice Ep lp op_] 52)).cell? ⟨gm, 1, none⟩ = some (.string (strB f.name)) := kf.cell 1
                          have f2 : (wr.alloc (.cells #[.bool g.static, .string (strB g.name), .string (strB g.desc), .int .i64 g.stack, .int .i64 g.locals, .slice Ec lc oc, .slice Et lt_ ot, .slice Ep lp op_] 52)).cell? ⟨gm, 2, none⟩ = some (.string (strB f.desc)) := kf.cell 2
                          clear hcs hgcl hgx htr hbw hb4 kf
                          by_cases e1 : f.name = g.name
                          · have q1 : ((strB f.name).toList == (strB g.name).toList) = true := by rw [e1]; simp
                            by_cases e2 : f.desc = g.desc
                            · have q2 : ((strB f.desc).toList == (strB g.desc).toList) = true := by rw [e2]; simp
                              have HG : Hid (unitR L u = false) := Lib.hid (by
                                rw [unitR_eq]
                                rw [show decide ((u.meths.map keyM).Nodup) = false from decide_eq_false (nodup_no HFX.out HGX.out hlt2 (by simp [keyM, e1, e2]))]; simp)
                              clear e1 e2
                              go_wp2
                              go_ret
                              exact ⟨ret_bool (by rw [HG.out]), HBB.out.trans (HB5.out.mono HBB.out.size)⟩
                            · have q2 : ((strB f.desc).toList == (strB g.desc).toList) = false := by rw [strB_toList, strB_toList]; simpa using e2
                              have HREL3 := Lib.hid (RelNe.next HNE.out hlt2 HGX.out (show keyM g ≠ keyM f from fun e => e2 (by simpa using (Prod.mk.inj e).2.symm)) HBW5.out)
                              clear e1 e2
                              go_wp2
                              go_roundw
                              case rel => exact HREL3.out
                              case measure => simp [intOf]; omega
                          · have q1 : ((strB f.name).toList == (strB g.name).toList) = false := by rw [strB_toList, strB_toList]; simpa using e1
                            have HREL3 := Lib.hid (RelNe.next HNE.out hlt2 HGX.out (show keyM g ≠ keyM f from fun e => e1 (by simpa using (Prod.mk.inj e).1.symm)) HBW5.out)
                            clear e1
                            go_wp2
                            go_roundw
                            case rel => exact HREL3.out
                            case measure => simp [intOf]; omega
                        · have HREL2 := Lib.hid (RelU.next HOK.out HND.out hlt HFX.out HPX.out (by
                            have := HNE.out
                            rwa [show j = k from by omega] at this) (HBW3.out.trans (hbw.mono HBW3.out.size)))
                          clear hbw hb4
                          go_wp2
                          go_roundw
                          case rel => exact HREL2.out
                          case measure => simp [intOf]; omega
                  · have HG : Hid (unitR L u = true) := Lib.hid (by
                      rw [unitR_eq, HCL.out, HLA.out, HFALL.out, decide_eq_true HFND.out, allB_take HOK.out HM.out.1 hlt, decide_eq_true (show (u.meths.map keyM).Nodup by
                        have := HND.out
                        rwa [List.take_of_length_le (by rw [HM.out.1]; omega)] at this)]
                      rfl)
                    have HB3 := Lib.hid hb3
                    clear hbw hb3
                    go_wp2
                    go_ret
                    exact ⟨ret_bool (by rw [HG.out]), HBB.out.trans (HB3.out.mono HBB.out.size)⟩
          · have HG : Hid (unitR L u = false) := Lib.hid (by
              rw [unitR_eq, HL1.out, hlast]; simp [h4])
            have q4 : ¬ (strB y.name).toList = [79, 98, 106, 101, 99, 116] := by rw [strB_toList]; exact h4
            have q5 : ((strB y.name).toList == [79, 98, 106, 101, 99, 116]) = false := by simpa using q4
            have q6 : ((strB y.name).toList != [79, 98, 106, 101, 99, 116]) = true := by simpa using q4
            clear h4 hlast
            go_wp2_with fail
            refine (C2.out _).mono ?_
            rintro e w' ⟨rfl, rfl⟩
            go_wp2
            go_ret
            exact ⟨ret_bool (by rw [HG.out]), HBB.out.trans (HB1.out.mono HBB.out.size)⟩

end Go.Proofs.YtblnhobbnkcbeaaGreatDoor

/- The walks over the document's native, Built (layer 16); printed by gen/gen_re.py. -/
namespace Go.Proofs.YtblnhobbnkcbeaaGreatDoor
set_option maxRecDepth 100000
open Go.RowKit

def natV (n d : Bs) : Value := .agg #[.bool true, .string (strB n), .string (strB d), .int .i64 0, .int .i64 0, .slice none 0 0, .slice none 0 0, .slice none 0 0]
theorem rnative_any (n d : Bs) (w : World) : Calls Tryz.prog 55 #[.string (strB n), .string (strB d)] w fun e w' => e = .returned (natV n d) ∧ Below w.heap.size w w' := by
  have kb := Blk.new w 52 #[.bool true, .string (strB n), .string (strB d), .int .i64 0, .int .i64 0, .slice none 0 0, .slice none 0 0, .slice none 0 0]
  have hB := (Below.refl w.heap.size w).alloc (Nat.le_refl _) (.cells #[.bool true, .string (strB n), .string (strB d), .int .i64 0, .int .i64 0, .slice none 0 0, .slice none 0 0, .slice none 0 0] 52)
  go_enter Tryz.func55, Tryz.ntmps55
  go_wp2
  obtain ⟨W2, hW2⟩ : ∃ W2, w.alloc (.cells #[.bool true, .string (strB n), .string (strB d), .int .i64 0, .int .i64 0, .slice none 0 0, .slice none 0 0, .slice none 0 0] 52) = W2 := ⟨_, rfl⟩
  rw [hW2] at kb hB
  rw [hW2]
  have r0 : W2.cell? ⟨w.heap.size, 0, none⟩ = some (.bool true) := kb.cell 0
  have r1 : W2.cell? ⟨w.heap.size, 1, none⟩ = some (.string (strB n)) := kb.cell 1
  have r2 : W2.cell? ⟨w.heap.size, 2, none⟩ = some (.string (strB d)) := kb.cell 2
  have r3 : W2.cell? ⟨w.heap.size, 3, none⟩ = some (.int .i64 0) := kb.cell 3
  have r4 : W2.cell? ⟨w.heap.size, 4, none⟩ = some (.int .i64 0) := kb.cell 4
  have r5 : W2.cell? ⟨w.heap.size, 5, none⟩ = some (.slice none 0 0) := kb.cell 5
  have r6 : W2.cell? ⟨w.heap.size, 6, none⟩ = some (.slice none 0 0) := kb.cell 6
  have r7 : W2.cell? ⟨w.heap.size, 7, none⟩ = some (.slice none 0 0) := kb.cell 7
  exact bodyPost_ret (v := natV n d) (by simp [results, Tryz.f55, go_sem, natV, r0, r1, r2, r3, r4, r5, r6, r7]) rfl ⟨rfl, hB⟩

theorem GotR.own_ne {α : Type} {cells : α → List Value} {k : Nat} {t t2 : TypeId} {base g2 : Nat} {A : Option Addr} {n c : Nat} {l : List α} {w : World} {cs : Array Value} (h : GotR cells k t base w A n c l) (hb2 : Blk w g2 t2 cs) (hne : t ≠ t2) : (Value.slice A n c).ownBlock ≠ some g2 := by
  rcases h.here with h0 | ⟨g, cur, h1, hg, hb, _⟩
  · subst h0
    obtain ⟨rfl, rfl⟩ := h.isNil rfl
    simp [Value.ownBlock]
  · subst h1
    have := Blk.ne_ hb hb2 hne
    simp [Value.ownBlock, this]
def faultL : List Bs := [[78, 117, 108, 108, 70, 97, 117, 108, 116], [66, 111, 117, 110, 100, 115, 70, 97, 117, 108, 116], [77, 97, 116, 104, 70, 97, 117, 108, 116], [67, 97, 115, 116, 70, 97, 117, 108, 116], [83, 105, 122, 101, 70, 97, 117, 108, 116], [83, 116, 111, 114, 101, 70, 97, 117, 108, 116]]
def built3 : List UnD := [⟨cObject, [], [], []⟩, ⟨cThrowable, cObject, [], []⟩, ⟨cSys, cObject, [], natL⟩]
theorem built_eq : builtL = built3 ++ faultL.map faultU := rfl
def rawF (x : Bs) : Raw 4 := ⟨[.string (strB x), .string (strB cThrowable), .slice none 0 0, .slice none 0 0], rfl, by simp [Value.oneCell']⟩
theorem unAt_nil (w : World) (n s : Bs) : UnAt4 w ⟨n, s, [], []⟩ none 0 0 none 0 0 := ⟨rowS_nil _ _ _, rowS_nil _ _ _⟩
theorem rawF_rep (w : World) (x : Bs) : RepL unW w [rawF x] [faultU x] := rawU_rep (x := faultU x) (unAt_nil w _ _)
def RelB (wN : World) (gS : Nat) (o i : Value) (wr : World) : Prop := ∃ (k : Nat) (A : Option Addr) (cp : Nat) (rs : List (Raw 4)), k ≤ 6 ∧ i = .int .i64 (k : Int) ∧ o = .slice A (3 + k) cp ∧ GotR rawC 4 85 wN.heap.size wr A (3 + k) cp rs ∧ RepL unW wN rs (built3 ++ (faultL.take k).map faultU) ∧ Blk wr gS 9 (faultL.map fun s => Value.string (strB s)).toArray ∧ Below wN.heap.size wN wr
/-- What Built answers. -/
def BuiltD (w w' : World) (e : Ending) : Prop := ∃ (wN : World) (A : Option Addr) (cp : Nat) (rs : List (Raw 4)), e = .returned (.slice A 9 cp) ∧ Below w.heap.size w wN ∧ Below wN.heap.size wN w' ∧ GotR rawC 4 85 wN.heap.size w' A 9 cp rs ∧ RepL unW wN rs builtL
theorem built_start (w8 : World) : RelB ((w8.alloc (.cells (natL.flatMap natC).toArray 52)).alloc (.cells #[.string (strB cSys), .string (strB cObject), .slice none 0 0, .slice (some ⟨w8.heap.size, 0, none⟩) 8 8] 85)) (w8.heap.size + 1 + 1 + 1)
    (.slice (some ⟨w8.heap.size + 1 + 1, 0, none⟩) 3 3) (.int .i64 0)
    ((((w8.alloc (.cells (natL.flatMap natC).toArray 52)).alloc (.cells #[.string (strB cSys), .string (strB cObject), .slice none 0 0, .slice (some ⟨w8.heap.size, 0, none⟩) 8 8] 85)).alloc
      (.cells #[.string (strB cObject), .string (strB []), .slice none 0 0, .slice none 0 0, .string (strB cThrowable), .string (strB cObject), .slice none 0 0, .slice none 0 0, .string (strB cSys), .string (strB cObject), .slice none 0 0, .slice (some ⟨w8.heap.size, 0, none⟩) 8 8] 85)).alloc (.cells (faultL.map fun s => Value.string (strB s)).toArray 9)) := by
  obtain ⟨wN, hwN⟩ : ∃ wN, (w8.alloc (.cells (natL.flatMap natC).toArray 52)).alloc (.cells #[.string (strB cSys), .string (strB cObject), .slice none 0 0, .slice (some ⟨w8.heap.size, 0, none⟩) 8 8] 85) = wN := ⟨_, rfl⟩
  have hsz : wN.heap.size = w8.heap.size + 1 + 1 := by rw [← hwN]; simp
  have kn : Blk wN w8.heap.size 52 (natL.flatMap natC).toArray := by rw [← hwN]; exact (Blk.new w8 _ _).alloc _
  rw [hwN, ← hsz]
  have hU : UnAt4 wN ⟨cSys, cObject, [], natL⟩ none 0 0 (some ⟨w8.heap.size, 0, none⟩) 8 8 := ⟨rowS_nil _ _ _, nat_row kn⟩
  have hrep : RepL unW wN ([rawU ⟨cObject, [], [], []⟩ none 0 0 none 0 0] ++ [rawU ⟨cThrowable, cObject, [], []⟩ none 0 0 none 0 0] ++ [rawU ⟨cSys, cObject, [], natL⟩ none 0 0 (some ⟨w8.heap.size, 0, none⟩) 8 8]) built3 :=
    ((rawU_rep (unAt_nil wN _ _)).app (rawU_rep (unAt_nil wN _ _))).app (rawU_rep hU)
  have own := World.ownsRow_lit (base := wN.heap.size) (e := 85) (size := 4) wN #[.string (strB cObject), .string (strB []), .slice none 0 0, .slice none 0 0, .string (strB cThrowable), .string (strB cObject), .slice none 0 0, .slice none 0 0, .string (strB cSys), .string (strB cObject), .slice none 0 0, .slice (some ⟨w8.heap.size, 0, none⟩) 8 8] 3 (Nat.le_refl _) (by decide) rfl
  obtain ⟨A, cp, he, hG⟩ := GotR.of_own (cells := rawC) (l := [rawU ⟨cObject, [], [], []⟩ none 0 0 none 0 0] ++ [rawU ⟨cThrowable, cObject, [], []⟩ none 0 0 none 0 0] ++ [rawU ⟨cSys, cObject, [], natL⟩ none 0 0 (some ⟨w8.heap.size, 0, none⟩) 8 8]) rawC_len own rfl
  cases he
  have kS := Blk.new (wN.alloc (.cells #[.string (strB cObject), .string (strB []), .slice none 0 0, .slice none 0 0, .string (strB cThrowable), .string (strB cObject), .slice none 0 0, .slice none 0 0, .string (strB cSys), .string (strB cObject), .slice none 0 0, .slice (some ⟨w8.heap.size, 0, none⟩) 8 8] 85)) 9 (faultL.map fun s => Value.string (strB s)).toArray
  rw [World.size_alloc] at kS
  refine ⟨0, _, _, _, by decide, rfl, rfl, hG.alloc rawC_len _, ?_, kS, ((Below.refl _ wN).alloc (Nat.le_refl _) _).alloc (by simp) _⟩
  simpa using hrep
theorem rbuilt_any (w : World) : Calls Tryz.prog 18 #[] w fun e w' => BuiltD w w' e ∧ Below w.heap.size w w' := by
  have CN := Lib.hid (fun W n d => rnative_any n d W)
  go_enter Tryz.func18, Tryz.ntmps18
  go_wp2_with fail
  refine (CN.out _ [112, 114, 105, 110, 116] [40, 73, 41, 86]).mono ?_
  rintro e w1 ⟨rfl, hb⟩
  go_wp2_with fail
  refine (CN.out _ [112, 114, 105, 110, 116, 76, 111, 110, 103] [40, 74, 41, 86]).mono ?_
  rintro e w2 ⟨rfl, hb2⟩
  replace hb := hb.trans (hb2.mono hb.size)
  clear hb2
  go_wp2_with fail
  refine (CN.out _ [112, 114, 105, 110, 116, 84, 101, 120, 116] [40, 91, 66, 41, 86]).mono ?_
  rintro e w3 ⟨rfl, hb2⟩
  replace hb := hb.trans (hb2.mono hb.size)
  clear hb2
  go_wp2_with fail
  refine (CN.out _ [97, 100, 100] [40, 91, 66, 41, 73]).mono ?_
  rintro e w4 ⟨rfl, hb2⟩
  replace hb := hb.trans (hb2.mono hb.size)
  clear hb2
  go_wp2_with fail
  refine (CN.out _ [103, 101, 116] [40, 73, 41, 91, 66]).mono ?_
  rintro e w5 ⟨rfl, hb2⟩
  replace hb := hb.trans (hb2.mono hb.size)
  clear hb2
  go_wp2_with fail
  refine (CN.out _ [115, 101, 116] [40, 73, 91, 66, 41, 86]).mono ?_
  rintro e w6 ⟨rfl, hb2⟩
  replace hb := hb.trans (hb2.mono hb.size)
  clear hb2
  go_wp2_with fail
  refine (CN.out _ [100, 101, 108] [40, 73, 41, 86]).mono ?_
  rintro e w7 ⟨rfl, hb2⟩
  replace hb := hb.trans (hb2.mono hb.size)
  clear hb2
  go_wp2_with fail
  refine (CN.out _ [99, 111, 117, 110, 116] [40, 41, 73]).mono ?_
  rintro e w8 ⟨rfl, hb2⟩
  replace hb := hb.trans (hb2.mono hb.size)
  clear hb2
  have HB8 := Lib.hid hb
  have HR := Lib.hid (built_start w8)
  clear hb
  unfold natV
  have HBN : Hid (Below w.heap.size w ((w8.alloc (.cells (natL.flatMap natC).toArray 52)).alloc (.cells #[.string (strB cSys), .string (strB cObject), .slice none 0 0, .slice (some ⟨w8.heap.size, 0, none⟩) 8 8] 85))) := Lib.hid ((HB8.out.alloc HB8.out.size _).alloc (HB8.out.alloc HB8.out.size _).size _)
  go_wp2
  go_loopw [2, 21] (fun o i wr => RelB ((w8.alloc (.cells (natL.flatMap natC).toArray 52)).alloc (.cells #[.string (strB cSys), .string (strB cObject), .slice none 0 0, .slice (some ⟨w8.heap.size, 0, none⟩) 8 8] 85)) (w8.heap.size + 1 + 1 + 1) o i wr) (fun _ i _ => 6 - (intOf i).toNat)
  case atStart => exact HR.out
  case round =>
    clear HR
    generalize hwN : ((w8.alloc (.cells (natL.flatMap natC).toArray 52)).alloc (.cells #[.string (strB cSys), .string (strB cObject), .slice none 0 0, .slice (some ⟨w8.heap.size, 0, none⟩) 8 8] 85)) = wN at *
    generalize hgS : w8.heap.size + 1 + 1 + 1 = gS at *
    obtain ⟨k, A, cp, rs, hk, rfl, rfl, hG, hrep, kS, hB⟩ := hrel
    have HG := Lib.hid hG
    have HREP := Lib.hid hrep
    have HKS := Lib.hid kS
    have HB := Lib.hid hB
    have hbs := hB.size
    clear hG hrep hB hwN hgS
    by_cases hlt : k < 6
    · obtain ⟨x, hx⟩ : ∃ x, faultL[k]? = some x := ⟨_, List.getElem?_eq_getElem hlt⟩
      have d0 : wr.cell? ⟨gS, k, none⟩ = some (.string (strB x)) := by have := kS.cell k; simpa [hx] using this
      have HTK : Hid ((faultL.take (k + 1)).map faultU = (faultL.take k).map faultU ++ [faultU x]) := Lib.hid (by rw [List.take_add_one, hx]; simp)
      clear kS hx
      go_wp2_with (at_builtin; refine wpList_append_rows rawC_len rawC_one (by decide) 22 85 (Value.agg #[.string ⟨#[]⟩, .string ⟨#[]⟩, .slice none 0 0, .slice none 0 0]) 80 Tryz.underlying22 Tryz.infoGU (by simp [Value.cells]) (by decide) rfl _ _ rfl wN.heap.size A (3 + k) cp rs rfl (HG.out.alloc rawC_len _) (some ⟨wr.heap.size, 0, none⟩) 1 1 [rawF x] rfl (RowSl.lit rawC_len wr Empty 85 [rawF x] 1 [.string (strB x), .string (strB cThrowable), .slice none 0 0, .slice none 0 0] rfl rfl (by decide) (fun h => h)) (fun h => by cases h) (by omega) (by simp; omega) ?_; intro A3 c3 w2 hG2 hg2 hr2 _; have HR2 : Hid (RelB wN gS (.slice A3 (3 + k + 1) c3) (.int .i64 ((k : Int) + 1)) w2) := Lib.hid ⟨k + 1, A3, c3, rs ++ [rawF x], hlt, by simp, rfl, hG2, (by rw [HTK.out, ← List.append_assoc]; exact HREP.out.app (rawF_rep wN x)), (HKS.out.alloc _).of (hg2.block gS (HKS.out.alloc _).lt (fun e => (HG.out.own_ne HKS.out (by decide)) e.symm)), below_gotR (HB.out.alloc hbs _) (by simp; omega) hg2 hr2 (Nat.le_refl _)⟩; clear hG2 hg2 hr2)
      go_roundw
      case rel => exact HR2.out
      case measure => simp [intOf]; omega
    · obtain rfl : k = 6 := by omega
      clear kS
      go_wp2
      go_ret
      exact ⟨⟨wN, A, cp, rs, rfl, HBN.out, HB.out, HG.out, by rw [built_eq]; simpa [faultL] using HREP.out⟩, HBN.out.trans (HB.out.mono HBN.out.size)⟩

end Go.Proofs.YtblnhobbnkcbeaaGreatDoor
