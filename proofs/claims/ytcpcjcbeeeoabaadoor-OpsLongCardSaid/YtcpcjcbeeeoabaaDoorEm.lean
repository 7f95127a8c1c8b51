/- The walks over ops.forms.mayBe and measure. -/
import Derived.Test.YtcpcjcbeeeoabaaDoorEk
namespace Go.Proofs.YtcpcjcbeeeoabaaDoor
set_option maxRecDepth 100000
open Go.RowKit

/-- May an instruction of this form be? -/
def mayF' (f : Nat) (r : RawD) : Bool :=
  if f = 0 then false else if f = 7 then fitsF (shapeF f).2.2.1 (shapeF f).2.2.2 r.b else if f = 9 then decide (r.a = 8 ∨ r.a = 10) && fitsF (shapeF f).2.2.1 (shapeF f).2.2.2 r.b
  else fitsF (shapeF f).1 (shapeF f).2.1 r.a && fitsF (shapeF f).2.2.1 (shapeF f).2.2.2 r.b
def mayF (r : RawD) : Bool := mayF' (formN r.op) r

set_option maxHeartbeats 4000000 in
theorem mayBe_any (g : Nat) (r : RawD) (w : World) (hT : Tables w) (hF : FormsAt w g) (ho : r.op < 256) :
    Calls Tryd.prog 31 #[.pointer (some ⟨g, 0, none⟩), .agg #[.int .i64 r.pl, .int .u8 (r.op : Int), .int .i64 r.a, .int .i64 r.b]] w fun e w' => e = .returned (.bool (mayF r)) ∧ Below w.heap.size w w' := by
  have hfc := hF.cell r.op ho
  have hf9 := formN_le r.op
  have hg : g < w.heap.size := Blk.lt hF
  have HE : Hid (mayF r = mayF' (formN r.op) r) := Lib.hid rfl
  have hp := hT.pos
  obtain ⟨s0, s1, s2, s3⟩ := hT.shape (formN r.op) hf9
  clear hT hF
  generalize formN r.op = f at *
  have hpa := partOk_a f hf9
  have hpb := partOk_b f hf9
  unfold mayF' at HE
  generalize (shapeF f).1 = sa at *
  generalize (shapeF f).2.1 = ba at *
  generalize (shapeF f).2.2.1 = sb at *
  generalize (shapeF f).2.2.2 = bb at *
  have HFa : Hid (∀ W, Calls Tryd.prog 38 #[.agg #[.int .i64 (sa : Int), .bool ba], .int .i64 r.a] W fun e w' => e = .returned (.bool (fitsF sa ba r.a)) ∧ Below W.heap.size W w') := Lib.hid (fun W => fits_any sa ba r.a W hpa)
  have HFb : Hid (∀ W, Calls Tryd.prog 38 #[.agg #[.int .i64 (sb : Int), .bool bb], .int .i64 r.b] W fun e w' => e = .returned (.bool (fitsF sb bb r.b)) ∧ Below W.heap.size W w') := Lib.hid (fun W => fits_any sb bb r.b W hpb)
  have HKd : Hid (∀ W, Calls Tryd.prog 34 #[.int .i64 r.a] W fun e w' => e = .returned (.bool (decide (r.a = 8 ∨ r.a = 10))) ∧ W = w') := Lib.hid (fun W => isKind_any r.a W)
  generalize fitsF sa ba r.a = X at *
  generalize fitsF sb bb r.b = Y at *
  generalize decide (r.a = 8 ∨ r.a = 10) = Z at *
  clear hpa hpb
  have HQ : Hid (∀ q : Nat, Below w.heap.size w ((((w.alloc (.cells #[.int .i64 r.pl, .int .u8 (r.op : Int), .int .i64 r.a, .int .i64 r.b] 36)).drewN q).alloc (.cells #[.int .i64 (sa : Int), .bool ba, .int .i64 (sb : Int), .bool bb] 58)))) :=
    Lib.hid (fun q => (((Below.refl _ _).alloc (Nat.le_refl _) _).drewN q).alloc (by simp) _)
  by_cases h0 : f = 0
  · rw [if_pos h0] at HE
    subst h0
    go_enter Tryd.func31, Tryd.ntmps31
    go_wp2
    go_quiet (fail)
    go_wp2
    go_ret
    exact ⟨by rw [HE.out]; rfl, HQ.out _⟩
  rw [if_neg h0] at HE
  have hf0 : ((f : Int) == 0) = false := by simp; omega
  by_cases h7 : f = 7
  · rw [if_pos h7] at HE
    subst h7
    clear h0
    go_enter Tryd.func31, Tryd.ntmps31
    go_wp2
    go_quiet (fail)
    go_wp2_with fail
    refine (HFb.out _).mono ?_
    rintro e1 w1 ⟨rfl, hb1⟩
    have HW1 := Lib.hid ((HQ.out nq).trans (hb1.mono (HQ.out nq).size))
    clear hb1
    go_wp2
    go_ret
    exact ⟨by rw [HE.out]; rfl, HW1.out⟩
  rw [if_neg h7] at HE
  have hf7 : ((f : Int) == 7) = false := by simp; omega
  by_cases h9 : f = 9
  · rw [if_pos h9] at HE
    subst h9
    clear h0 h7
    cases Z with
    | true =>
      go_enter Tryd.func31, Tryd.ntmps31
      go_wp2
      go_quiet (fail)
      go_wp2_with fail
      refine (HKd.out _).mono ?_
      rintro e1 w1 ⟨rfl, rfl⟩
      go_wp2_with fail
      refine (HFb.out _).mono ?_
      rintro e1 w1 ⟨rfl, hb1⟩
      have HW1 := Lib.hid ((HQ.out nq).trans (hb1.mono (HQ.out nq).size))
      clear hb1
      go_wp2
      go_ret
      exact ⟨by rw [HE.out]; rfl, HW1.out⟩
    | false =>
      go_enter Tryd.func31, Tryd.ntmps31
      go_wp2
      go_quiet (fail)
      go_wp2_with fail
      refine (HKd.out _).mono ?_
      rintro e1 w1 ⟨rfl, rfl⟩
      go_wp2
      go_ret
      exact ⟨by rw [HE.out]; rfl, HQ.out _⟩
  rw [if_neg h9] at HE
  have hf9' : ((f : Int) == 9) = false := by simp; omega
  clear h0 h7 h9
  cases X with
  | true =>
    go_enter Tryd.func31, Tryd.ntmps31
    go_wp2
    go_quiet (fail)
    go_wp2_with fail
    refine (HFa.out _).mono ?_
    rintro e1 w1 ⟨rfl, hb1⟩
    have HW1 := Lib.hid ((HQ.out nq).trans (hb1.mono (HQ.out nq).size))
    have hr1 : Blk w1 w.heap.size 36 #[.int .i64 r.pl, .int .u8 (r.op : Int), .int .i64 r.a, .int .i64 r.b] := (((Blk.new w 36 _).drewN nq).alloc _).of (hb1.block w.heap.size (by simp; omega))
    have hs1 : Blk w1 (w.heap.size + 1) 58 #[.int .i64 (sa : Int), .bool ba, .int .i64 (sb : Int), .bool bb] := by
      have h := Blk.new ((w.alloc (.cells #[.int .i64 r.pl, .int .u8 (r.op : Int), .int .i64 r.a, .int .i64 r.b] 36)).drewN nq) 58 #[.int .i64 (sa : Int), .bool ba, .int .i64 (sb : Int), .bool bb]
      rw [show ((w.alloc (.cells #[.int .i64 r.pl, .int .u8 (r.op : Int), .int .i64 r.a, .int .i64 r.b] 36)).drewN nq).heap.size = w.heap.size + 1 by simp] at h
      exact h.of (hb1.block (w.heap.size + 1) (by simp))
    have c3 := hr1.cell 3
    have q2 := hs1.cell 2
    have q3 := hs1.cell 3
    simp at c3 q2 q3
    clear hb1 hr1 hs1
    go_wp2_with fail
    refine (HFb.out _).mono ?_
    rintro e2 w2 ⟨rfl, hb2⟩
    have HW2 := Lib.hid (HW1.out.trans (hb2.mono HW1.out.size))
    clear hb2
    go_wp2
    go_ret
    exact ⟨by rw [HE.out]; rfl, HW2.out⟩
  | false =>
    go_enter Tryd.func31, Tryd.ntmps31
    go_wp2
    go_quiet (fail)
    go_wp2_with fail
    refine (HFa.out _).mono ?_
    rintro e1 w1 ⟨rfl, hb1⟩
    have HW1 := Lib.hid ((HQ.out nq).trans (hb1.mono (HQ.out nq).size))
    clear hb1
    go_wp2
    go_ret
    exact ⟨by rw [HE.out]; rfl, HW1.out⟩

/-- How many bytes instructions have, from a place on; none, if one may not be. -/
def measF : Nat → List RawD → Option Nat
  | k, [] => some k
  | k, r :: t => if r.pl = (k : Int) ∧ mayF r = true then measF (k + lenN r.op) t else none

theorem measF_le : ∀ (l : List RawD) (k m : Nat), measF k l = some m → k ≤ m ∧ m ≤ k + 3 * l.length
  | [], k, m, h => by simp [measF] at h; subst h; simp
  | r :: t, k, m, h => by
    unfold measF at h
    split at h
    · have := measF_le t _ _ h
      have := lenN_le r.op
      simp only [List.length_cons]
      omega
    · cases h

def MeasOk (l : List RawD) (e : Ending) : Prop := match measF 0 l with
  | some m => e = .returned (.tuple #[.int .i64 (m : Int), .bool true])
  | none => e = .returned (.tuple #[.int .i64 0, .bool false])

set_option maxHeartbeats 4000000 in
theorem measure_any (g : Nat) (A : Option Addr) (n cap : Nat) (l : List RawD) (w : World) (hT : Tables w) (hF : FormsAt w g) (hL : RawSl w A n cap l) (hn : n ≤ 1048576) (hok : ∀ r ∈ l, r.ok) :
    Calls Tryd.prog 24 #[.pointer (some ⟨g, 0, none⟩), .slice A n cap] w fun e w' => MeasOk l e ∧ Below w.heap.size w w' := by
  have hm := hL.2.1
  have hm2 := hL.2.2.1
  have hll := hL.1
  unfold maxLen at hm2
  have hg : g < w.heap.size := Blk.lt hF
  have HMB : Hid (∀ W r, Below w.heap.size w W → r.op < 256 → Calls Tryd.prog 31 #[.pointer (some ⟨g, 0, none⟩), .agg #[.int .i64 r.pl, .int .u8 (r.op : Int), .int .i64 r.a, .int .i64 r.b]] W fun e w' => e = .returned (.bool (mayF r)) ∧ Below W.heap.size W w') :=
    Lib.hid (fun W r h ho => mayBe_any g r W (hT.below h) (hF.of (h.block g hg)) ho)
  have HSz : Hid (∀ W (x : Nat), Below w.heap.size w W → x < 256 → Calls Tryd.prog 18 #[.pointer (some ⟨g, 0, none⟩), .int .u8 (x : Int)] W fun e w' => e = .returned (.int .i64 (lenN x : Int)) ∧ Below W.heap.size W w') :=
    Lib.hid (fun W x h hx => size_any g x hx W (hT.below h) (hF.of (h.block g hg)))
  have HL := Lib.hid hL
  have Hok := Lib.hid hok
  have Hll := Lib.hid hll
  clear hL hll hok hF hT
  go_enter Tryd.func24, Tryd.ntmps24
  go_wp2
  go_loopw [6, 11] (fun s i wr => ∃ k p : Nat, k ≤ n ∧ p ≤ 3 * k ∧ i = .int .i64 (k : Int) ∧ s = .int .i64 (p : Int) ∧ Hid (measF 0 l = measF p (l.drop k)) ∧ Hid (Below w.heap.size w wr)) (fun _ i _ => n - (intOf i).toNat)
  case atStart => exact ⟨0, 0, by omega, by omega, rfl, rfl, Lib.hid rfl, Lib.hid (Below.refl _ _)⟩
  case round =>
    obtain ⟨k, p, hk, hp, rfl, rfl, HM, HW⟩ := hrel
    by_cases hlt : k < n
    · obtain ⟨b, o, r, rfl, hr, hb, c0, c1, c2, c3⟩ := raw_at (HL.out.below HW.out) hlt
      have hdr : l.drop k = r :: l.drop (k + 1) := by
        obtain ⟨h1, h2⟩ := List.getElem?_eq_some_iff.1 hr
        rw [List.drop_eq_getElem_cons h1, h2]
      have hM2 : measF 0 l = if r.pl = (p : Int) ∧ mayF r = true then measF (p + lenN r.op) (l.drop (k + 1)) else none := by rw [HM.out, hdr]; rfl
      have HM2 := Lib.hid hM2
      have hop := (Hok.out r (List.mem_of_getElem? hr)).op
      have HMB1 : Hid (∀ W, Below w.heap.size w W → Calls Tryd.prog 31 #[.pointer (some ⟨g, 0, none⟩), .agg #[.int .i64 r.pl, .int .u8 (r.op : Int), .int .i64 r.a, .int .i64 r.b]] W fun e w' => e = .returned (.bool (mayF r)) ∧ Below W.heap.size W w') := Lib.hid (fun W h => HMB.out W r h hop)
      have HSz1 : Hid (∀ W, Below w.heap.size w W → Calls Tryd.prog 18 #[.pointer (some ⟨g, 0, none⟩), .int .u8 (r.op : Int)] W fun e w' => e = .returned (.int .i64 (lenN r.op : Int)) ∧ Below W.heap.size W w') := Lib.hid (fun W h => HSz.out W _ h hop)
      have hl3 := lenN_le r.op
      have HW1 : Hid (Below w.heap.size w (wr.alloc (.cells #[.int .i64 r.pl, .int .u8 (r.op : Int), .int .i64 r.a, .int .i64 r.b] 36))) := Lib.hid (HW.out.alloc HW.out.size _)
      clear hr hdr hM2
      generalize lenN r.op = ln at *
      by_cases hpl : r.pl = (p : Int)
      · have hpd : (r.pl == (p : Int)) = true := by simpa using hpl
        cases hmb : mayF r with
        | true =>
          rw [hmb] at HMB1
          have HM3 : Hid (measF 0 l = measF (p + ln) (l.drop (k + 1))) := Lib.hid (by rw [HM2.out, if_pos ⟨hpl, hmb⟩])
          have hpd2 : (r.pl != (p : Int)) = false := by simp [hpl]
          clear hpl hmb
          go_wp2_with fail
          refine (HMB1.out _ HW1.out).mono ?_
          rintro e1 w1 ⟨rfl, hb1⟩
          have HW2 := Lib.hid (HW1.out.trans (hb1.mono HW1.out.size))
          have hr1 : Blk w1 wr.heap.size 36 #[.int .i64 r.pl, .int .u8 (r.op : Int), .int .i64 r.a, .int .i64 r.b] := (Blk.new wr 36 _).of (hb1.block wr.heap.size (by simp))
          have q1 := hr1.cell 1
          simp at q1
          clear hb1 hr1
          go_wp2_with fail
          refine (HSz1.out _ HW2.out).mono ?_
          rintro e2 w2 ⟨rfl, hb2⟩
          have HW3 := Lib.hid (HW2.out.trans (hb2.mono HW2.out.size))
          clear hb2
          go_wp2
          go_roundw
          case rel => exact ⟨k + 1, p + ln, by omega, by omega, by go_num, by go_num, HM3, HW3⟩
          case measure => simp [intOf]; omega
        | false =>
          rw [hmb] at HMB1
          have HM3 : Hid (measF 0 l = none) := Lib.hid (by rw [HM2.out, if_neg (fun h => by rw [hmb] at h; cases h.2)])
          have hpd2 : (r.pl != (p : Int)) = false := by simp [hpl]
          clear hpl hmb
          go_wp2_with fail
          refine (HMB1.out _ HW1.out).mono ?_
          rintro e1 w1 ⟨rfl, hb1⟩
          have HW2 := Lib.hid (HW1.out.trans (hb1.mono HW1.out.size))
          clear hb1
          go_wp2
          go_ret2
          exact ⟨by unfold MeasOk; rw [HM3.out]; rfl, HW2.out⟩
      · have hpd : (r.pl == (p : Int)) = false := by simpa using hpl
        have hpd2 : (r.pl != (p : Int)) = true := by simp [hpl]
        have HM3 : Hid (measF 0 l = none) := Lib.hid (by rw [HM2.out, if_neg (fun h => hpl h.1)])
        clear hpl
        go_wp2
        go_ret2
        exact ⟨by unfold MeasOk; rw [HM3.out]; rfl, HW1.out⟩
    · have hk2 : k = n := by omega
      have HM3 : Hid (measF 0 l = some p) := Lib.hid (by rw [HM.out, List.drop_of_length_le (by have := Hll.out; omega)]; rfl)
      have hd : decide (k < n) = false := decide_eq_false hlt
      clear hk2
      go_wp2
      go_ret2
      exact ⟨by unfold MeasOk; rw [HM3.out]; rfl, HW.out⟩

end Go.Proofs.YtcpcjcbeeeoabaaDoor
