/- ops.Encode: the bytes of any instructions. -/
import Derived.Test.YtcpcjcbeeeoabaaDoorEn
namespace Go.Proofs.YtcpcjcbeeeoabaaDoor
set_option maxRecDepth 100000
open Go.RowKit

theorem mayF_form {r : RawD} (h : mayF r = true) : formN r.op ≠ 0 := by
  intro h0
  unfold mayF mayF' at h
  rw [h0] at h
  simp at h
theorem meas_inv : ∀ (l : List RawD) (k m : Nat), measF k l = some m → Rise l ∧ ∀ r ∈ l, (k : Int) ≤ r.pl ∧ r.pl < (m : Int) ∧ mayF r = true
  | [], k, m, _ => ⟨fun i j x y _ h => by simp at h, fun r hr => by simp at hr⟩
  | r :: t, k, m, h => by
    unfold measF at h
    split at h
    · next hc =>
      obtain ⟨h1, h2⟩ := meas_inv t _ _ h
      have hle := measF_le t _ _ h
      have hlp := lenF_pos _ (formN_le r.op) (mayF_form hc.2)
      have hln : lenN r.op = lenF (formN r.op) := rfl
      refine ⟨fun i j x y hij hx hy => ?_, fun x hx => ?_⟩
      · cases j with
        | zero => omega
        | succ j =>
          simp at hy
          cases i with
          | zero =>
            simp at hx
            subst hx
            have := (h2 y (List.mem_of_getElem? hy)).1
            omega
          | succ i =>
            simp at hx
            exact h1 i j x y (by omega) hx hy
      · rw [List.mem_cons] at hx
        rcases hx with rfl | hx
        · exact ⟨by omega, by omega, hc.2⟩
        · have := h2 x hx
          exact ⟨by omega, this.2.1, this.2.2⟩
    · cases h

/-- What any instructions are encoded as. -/
inductive Enc (l : List RawD) : Int → List UInt8 → Prop
  | form : measF 0 l = none → Enc l 8 []
  | range {m : Nat} : measF 0 l = some m → meetF l = false → Enc l 2 []
  | long {m : Nat} : measF 0 l = some m → meetF l = true → 4096 < m → Enc l 9 []
  | ok {m : Nat} : measF 0 l = some m → meetF l = true → m ≤ 4096 → Enc l 0 (codesB l)
theorem enc_ex (l : List RawD) : ∃ e bs, Enc l e bs := by
  cases hm : measF 0 l with
  | none => exact ⟨_, _, .form hm⟩
  | some m =>
    cases h : meetF l with
    | false => exact ⟨_, _, .range hm h⟩
    | true =>
      by_cases h2 : m ≤ 4096
      · exact ⟨_, _, .ok hm h h2⟩
      · exact ⟨_, _, .long hm h (by omega)⟩

/-- Bytes that a call has made, behind an error. -/
def GotEnc (w w' : World) (e : Ending) (c : Int) (bs : List UInt8) : Prop := (∃ u, e = .returned (.tuple #[u, .int .i64 c]) ∧ w'.ownsRow w.heap.size 5 1 u bs.length (bs.map B8)) ∧ Below w.heap.size w w'
theorem own_none (w : World) (base : Nat) : w.ownsRow base 5 1 (.slice none 0 0) ([] : List UInt8).length (([] : List UInt8).map B8) := ⟨rfl, Or.inl ⟨rfl, rfl⟩⟩

theorem meet_a {l : List RawD} {m : Nat} (hm : measF 0 l = some m) (hme : meetF l = true) : ∀ r ∈ l, formN r.op = 7 → 0 ≤ r.a ∧ r.a < (m : Int) := by
  intro r hr h7
  unfold meetF at hme
  have h := List.all_eq_true.1 hme r hr
  unfold meetR isPl at h
  rw [h7] at h
  simp at h
  obtain ⟨x, hx, he⟩ := h
  have := (meas_inv l 0 m hm).2 x hx
  omega

set_option maxHeartbeats 2000000 in
theorem encode_any (A : Option Addr) (n cap : Nat) (l : List RawD) (E : Int) (bs : List UInt8) (w : World) (hT : Tables w) (hL : RawSl w A n cap l) (hn : n ≤ 1048576) (hok : ∀ r ∈ l, r.ok) (hE : Enc l E bs) :
    Calls Tryd.prog 15 #[.slice A n cap] w fun e w' => GotEnc w w' e E bs := by
  have HA : Hid (Calls Tryd.prog 17 #[] w fun e w' => e = .returned (.agg (cellsB formsL)) ∧ Below w.heap.size w w') := Lib.hid (all_any w hT)
  have HMs : Hid (∀ W g, Below w.heap.size w W → FormsAt W g → Calls Tryd.prog 24 #[.pointer (some ⟨g, 0, none⟩), .slice A n cap] W fun e w' => MeasOk l e ∧ Below W.heap.size W w') :=
    Lib.hid (fun W g h hF => measure_any g A n cap l W (hT.below h) hF (hL.below h) hn hok)
  have hz := zero_forms
  have hll := hL.1
  cases hE with
  | form hm =>
    unfold MeasOk at HMs
    rw [hm] at HMs
    clear hT hL hok hll hm
    go_enter Tryd.func15, Tryd.ntmps15
    go_wp2_with fail
    refine HA.out.mono ?_
    rintro e1 w1 ⟨rfl, hb1⟩
    have HW1 := Lib.hid hb1
    clear hb1
    go_wp2_with (refine wpList_store_row rfl _ _ _ rfl w1.heap.size (cellsB formsL) rfl rfl 38 (cellsB (fillL 0)) (Blk.new _ _ _) sizeForms fill_size forms_one ?_)
    have HF2 : Hid (FormsAt ((w1.alloc (.cells (cellsB (fillL 0)) 38)).setRow w1.heap.size (cellsB formsL)) w1.heap.size) := Lib.hid (withForms_at w1)
    have HW2 : Hid (Below w.heap.size w ((w1.alloc (.cells (cellsB (fillL 0)) 38)).setRow w1.heap.size (cellsB formsL))) := Lib.hid (HW1.out.trans ((withForms_below w1).mono HW1.out.size))
    refine (HMs.out _ _ HW2.out HF2.out).mono ?_
    rintro e3 w3 ⟨rfl, hb3⟩
    have HW3 := Lib.hid (HW2.out.trans (hb3.mono HW2.out.size))
    clear hb3 hz
    go_wp2
    go_ret2
    exact ⟨⟨_, rfl, own_none _ _⟩, HW3.out⟩
  | @range m hm hme =>
    obtain ⟨hRi, hin⟩ := meas_inv l 0 m hm
    have HM : Hid (∀ W g, Below w.heap.size w W → FormsAt W g → Calls Tryd.prog 20 #[.pointer (some ⟨g, 0, none⟩), .slice A n cap] W fun e w' => e = .returned (.bool false) ∧ Below W.heap.size W w') :=
      Lib.hid (fun W g h hF => by have := meet_any g A n cap l W hF (hL.below h) hn hok hRi; rwa [hme] at this)
    unfold MeasOk at HMs
    rw [hm] at HMs
    clear hT hL hok hll hm hRi hin hme
    go_enter Tryd.func15, Tryd.ntmps15
    go_wp2_with fail
    refine HA.out.mono ?_
    rintro e1 w1 ⟨rfl, hb1⟩
    have HW1 := Lib.hid hb1
    clear hb1
    go_wp2_with (refine wpList_store_row rfl _ _ _ rfl w1.heap.size (cellsB formsL) rfl rfl 38 (cellsB (fillL 0)) (Blk.new _ _ _) sizeForms fill_size forms_one ?_)
    have HF2 : Hid (FormsAt ((w1.alloc (.cells (cellsB (fillL 0)) 38)).setRow w1.heap.size (cellsB formsL)) w1.heap.size) := Lib.hid (withForms_at w1)
    have HW2 : Hid (Below w.heap.size w ((w1.alloc (.cells (cellsB (fillL 0)) 38)).setRow w1.heap.size (cellsB formsL))) := Lib.hid (HW1.out.trans ((withForms_below w1).mono HW1.out.size))
    refine (HMs.out _ _ HW2.out HF2.out).mono ?_
    rintro e3 w3 ⟨rfl, hb3⟩
    have HF3 := Lib.hid (HF2.out.of (hb3.block w1.heap.size (Blk.lt HF2.out)))
    have HW3 := Lib.hid (HW2.out.trans (hb3.mono HW2.out.size))
    clear hb3 hz
    go_wp2_with fail
    refine (HM.out _ _ HW3.out HF3.out).mono ?_
    rintro e4 w4 ⟨rfl, hb4⟩
    have HW4 := Lib.hid (HW3.out.trans (hb4.mono HW3.out.size))
    clear hb4
    go_wp2
    go_ret2
    exact ⟨⟨_, rfl, own_none _ _⟩, HW4.out⟩
  | @long m hm hme hlong =>
    obtain ⟨hRi, hin⟩ := meas_inv l 0 m hm
    have hml := (measF_le l 0 m hm).2
    have HM : Hid (∀ W g, Below w.heap.size w W → FormsAt W g → Calls Tryd.prog 20 #[.pointer (some ⟨g, 0, none⟩), .slice A n cap] W fun e w' => e = .returned (.bool true) ∧ Below W.heap.size W w') :=
      Lib.hid (fun W g h hF => by have := meet_any g A n cap l W hF (hL.below h) hn hok hRi; rwa [hme] at this)
    unfold MeasOk at HMs
    rw [hm] at HMs
    have hm3 : m ≤ 3 * 1048576 := by omega
    clear hT hL hok hll hm hRi hin hme hml
    go_enter Tryd.func15, Tryd.ntmps15
    go_wp2_with fail
    refine HA.out.mono ?_
    rintro e1 w1 ⟨rfl, hb1⟩
    have HW1 := Lib.hid hb1
    clear hb1
    go_wp2_with (refine wpList_store_row rfl _ _ _ rfl w1.heap.size (cellsB formsL) rfl rfl 38 (cellsB (fillL 0)) (Blk.new _ _ _) sizeForms fill_size forms_one ?_)
    have HF2 : Hid (FormsAt ((w1.alloc (.cells (cellsB (fillL 0)) 38)).setRow w1.heap.size (cellsB formsL)) w1.heap.size) := Lib.hid (withForms_at w1)
    have HW2 : Hid (Below w.heap.size w ((w1.alloc (.cells (cellsB (fillL 0)) 38)).setRow w1.heap.size (cellsB formsL))) := Lib.hid (HW1.out.trans ((withForms_below w1).mono HW1.out.size))
    refine (HMs.out _ _ HW2.out HF2.out).mono ?_
    rintro e3 w3 ⟨rfl, hb3⟩
    have HF3 := Lib.hid (HF2.out.of (hb3.block w1.heap.size (Blk.lt HF2.out)))
    have HW3 := Lib.hid (HW2.out.trans (hb3.mono HW2.out.size))
    clear hb3 hz
    go_wp2_with fail
    refine (HM.out _ _ HW3.out HF3.out).mono ?_
    rintro e4 w4 ⟨rfl, hb4⟩
    have HW4 := Lib.hid (HW3.out.trans (hb4.mono HW3.out.size))
    clear hb4
    go_wp2
    go_ret2
    exact ⟨⟨_, rfl, own_none _ _⟩, HW4.out⟩
  | @ok m hm hme hshort =>
    obtain ⟨hRi, hin⟩ := meas_inv l 0 m hm
    have ha := meet_a hm hme
    have HM : Hid (∀ W g, Below w.heap.size w W → FormsAt W g → Calls Tryd.prog 20 #[.pointer (some ⟨g, 0, none⟩), .slice A n cap] W fun e w' => e = .returned (.bool true) ∧ Below W.heap.size W w') :=
      Lib.hid (fun W g h hF => by have := meet_any g A n cap l W hF (hL.below h) hn hok hRi; rwa [hme] at this)
    have HCo : Hid (∀ W g, Below w.heap.size w W → FormsAt W g → Calls Tryd.prog 25 #[.pointer (some ⟨g, 0, none⟩), .slice A n cap] W fun e w' => (∃ u, e = .returned u ∧ w'.ownsRow W.heap.size 5 1 u (codesB l).length ((codesB l).map B8)) ∧ Below W.heap.size W w') :=
      Lib.hid (fun W g h hF => code_any g A n cap l W (hT.below h) hF (hL.below h) hn hok (fun r hr => by
        have h1 := hin r hr
        refine ⟨by omega, by omega, fun h7 => ?_⟩
        have := ha r hr h7
        omega))
    unfold MeasOk at HMs
    rw [hm] at HMs
    clear hT hL hok hll hm hRi hin hme ha
    go_enter Tryd.func15, Tryd.ntmps15
    go_wp2_with fail
    refine HA.out.mono ?_
    rintro e1 w1 ⟨rfl, hb1⟩
    have HW1 := Lib.hid hb1
    clear hb1
    go_wp2_with (refine wpList_store_row rfl _ _ _ rfl w1.heap.size (cellsB formsL) rfl rfl 38 (cellsB (fillL 0)) (Blk.new _ _ _) sizeForms fill_size forms_one ?_)
    have HF2 : Hid (FormsAt ((w1.alloc (.cells (cellsB (fillL 0)) 38)).setRow w1.heap.size (cellsB formsL)) w1.heap.size) := Lib.hid (withForms_at w1)
    have HW2 : Hid (Below w.heap.size w ((w1.alloc (.cells (cellsB (fillL 0)) 38)).setRow w1.heap.size (cellsB formsL))) := Lib.hid (HW1.out.trans ((withForms_below w1).mono HW1.out.size))
    refine (HMs.out _ _ HW2.out HF2.out).mono ?_
    rintro e3 w3 ⟨rfl, hb3⟩
    have HF3 := Lib.hid (HF2.out.of (hb3.block w1.heap.size (Blk.lt HF2.out)))
    have HW3 := Lib.hid (HW2.out.trans (hb3.mono HW2.out.size))
    clear hb3 hz
    go_wp2_with fail
    refine (HM.out _ _ HW3.out HF3.out).mono ?_
    rintro e4 w4 ⟨rfl, hb4⟩
    have HF4 := Lib.hid (HF3.out.of (hb4.block w1.heap.size (Blk.lt HF3.out)))
    have HW4 := Lib.hid (HW3.out.trans (hb4.mono HW3.out.size))
    clear hb4
    go_wp2_with fail
    refine (HCo.out _ _ HW4.out HF4.out).mono ?_
    rintro e5 w5 ⟨⟨u, rfl, ho⟩, hb5⟩
    have HW5 := Lib.hid (HW4.out.trans (hb5.mono HW4.out.size))
    have HO5 := Lib.hid (own_base ho HW4.out.size)
    clear hb5 ho
    go_wp2
    go_ret2
    exact ⟨⟨u, rfl, HO5.out⟩, HW5.out⟩

end Go.Proofs.YtcpcjcbeeeoabaaDoor
