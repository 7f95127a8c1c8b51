/- The walk over the document's one: an instruction's bytes. -/
import Derived.Test.YtcpcjcbeeeoabaaDoorEo
import Derived.Test.YtcpcjcbeeeoabaaDoorHs
namespace Go.Proofs.YtcpcjcbeeeoabaaDoor
set_option maxRecDepth 100000
open Go.RowKit

theorem fits0 (v : Int) : fitsF 0 false v = decide (v = 0) := by
  unfold fitsF worthF
  simp [eq_comm]
theorem fits1u (v : Int) : fitsF 1 false v = decide (0 ≤ v ∧ v ≤ 255) := by
  unfold fitsF worthF uw
  rw [decide_eq_decide]
  simp
  omega
theorem fits1s (v : Int) : fitsF 1 true v = decide (-128 ≤ v ∧ v ≤ 127) := by
  unfold fitsF worthF uw sgn
  rw [decide_eq_decide]
  simp
  split <;> omega
theorem fits2u (v : Int) : fitsF 2 false v = decide (0 ≤ v ∧ v ≤ 65535) := by
  unfold fitsF worthF uw
  rw [decide_eq_decide]
  simp
  omega
theorem fits2s (v : Int) : fitsF 2 true v = decide (-32768 ≤ v ∧ v ≤ 32767) := by
  unfold fitsF worthF uw sgn
  rw [decide_eq_decide]
  simp
  split <;> omega
/-- What one answers: whether the instruction may be, and its bytes if it may. -/
def OneOk (r : RawD) (w w' : World) (e : Ending) : Prop := (∃ u bs, e = .returned (.tuple #[u, .bool (mayF r)]) ∧ w'.ownsRow w.heap.size 5 1 u bs.length (bs.map B8) ∧ (mayF r = true → bs = codeB r)) ∧ Below w.heap.size w w'
theorem lit_own (w : World) (base o : Nat) (h : o < 256) (hb : base ≤ w.heap.size) : (w.alloc (.cells #[.int .u8 (o : Int)] 5)).ownsRow base 5 1 (.slice (some ⟨w.heap.size, 0, none⟩) 1 1) [UInt8.ofNat o].length ([UInt8.ofNat o].map B8) := by
  have e : (#[Value.int .u8 (o : Int)] : Array Value) = cellsB [UInt8.ofNat o] := by
    unfold cellsB B8
    simp
    omega
  rw [e]
  exact own_of_blk (cur := [UInt8.ofNat o]) (Blk.new w 5 _) hb rfl (Nat.le_refl _) (by unfold maxLen; omega) rfl
theorem putL0 (v : Nat) : putL v 0 = [] := rfl
theorem may_1 (r : RawD) : mayF' 1 r = (decide (r.a = 0) && decide (r.b = 0)) := by
  show (fitsF 0 false r.a && fitsF 0 false r.b) = _
  rw [fits0, fits0]
theorem may_9 (r : RawD) : mayF' 9 r = (decide (r.a = 8 ∨ r.a = 10) && decide (r.b = 0)) := by
  show (decide (r.a = 8 ∨ r.a = 10) && fitsF 0 false r.b) = _
  rw [fits0]
theorem may_2 (r : RawD) : mayF' 2 r = (decide (0 ≤ r.a ∧ r.a ≤ 255) && decide (r.b = 0)) := by
  show (fitsF 1 false r.a && fitsF 0 false r.b) = _
  rw [fits1u, fits0]
theorem may_3 (r : RawD) : mayF' 3 r = (decide (-128 ≤ r.a ∧ r.a ≤ 127) && decide (r.b = 0)) := by
  show (fitsF 1 true r.a && fitsF 0 false r.b) = _
  rw [fits1s, fits0]
theorem may_4 (r : RawD) : mayF' 4 r = (decide (-32768 ≤ r.a ∧ r.a ≤ 32767) && decide (r.b = 0)) := by
  show (fitsF 2 true r.a && fitsF 0 false r.b) = _
  rw [fits2s, fits0]
theorem may_5 (r : RawD) : mayF' 5 r = (decide (0 ≤ r.a ∧ r.a ≤ 255) && decide (r.b = 0)) := by
  show (fitsF 1 false r.a && fitsF 0 false r.b) = _
  rw [fits1u, fits0]
theorem may_6 (r : RawD) : mayF' 6 r = (decide (0 ≤ r.a ∧ r.a ≤ 65535) && decide (r.b = 0)) := by
  show (fitsF 2 false r.a && fitsF 0 false r.b) = _
  rw [fits2u, fits0]
theorem may_8 (r : RawD) : mayF' 8 r = (decide (0 ≤ r.a ∧ r.a ≤ 255) && decide (-128 ≤ r.b ∧ r.b ≤ 127)) := by
  show (fitsF 1 false r.a && fitsF 1 true r.b) = _
  rw [fits1u, fits1s]

set_option maxHeartbeats 4000000 in
theorem refOne_0 (r : RawD) (w : World) (ho : r.op < 256) (hf : formN r.op = 0) :
    Calls Tryd.prog 26 #[.agg #[.int .i64 r.pl, .int .u8 (r.op : Int), .int .i64 r.a, .int .i64 r.b]] w fun e w' => OneOk r w w' e := by
  have HF : Hid (∀ W, Calls Tryd.prog 9 #[.int .u8 (r.op : Int)] W fun e w' => e = .returned (.int .i64 0) ∧ W = w') := Lib.hid (fun W => by have := refForm_any r.op ho W; rw [hf] at this; exact this)
  have HM : Hid (mayF r = mayF' 0 r) := Lib.hid (by unfold mayF; rw [hf])
  have Ho := Lib.hid ho
  have HW2 : Hid (Below w.heap.size w ((w.alloc (.cells #[.int .i64 r.pl, .int .u8 (r.op : Int), .int .i64 r.a, .int .i64 r.b] 36)).alloc (.cells #[.int .u8 (r.op : Int)] 5))) := Lib.hid (((Below.refl _ _).alloc (Nat.le_refl _) _).alloc (by simp) _)
  have HN : Hid (mayF r = false) := Lib.hid (by rw [HM.out]; rfl)
  clear ho hf HM
  go_enter Tryd.func26, Tryd.ntmps26
  go_wp2_with fail
  refine (HF.out _).mono ?_
  rintro e1 w1 ⟨rfl, rfl⟩
  go_wp2
  go_ret2
  exact ⟨⟨_, [], by rw [HN.out]; rfl, own_none _ _, fun h => by rw [HN.out] at h; cases h⟩, HW2.out⟩

set_option maxHeartbeats 4000000 in
theorem refOne_1 (r : RawD) (w : World) (ho : r.op < 256) (hf : formN r.op = 1) :
    Calls Tryd.prog 26 #[.agg #[.int .i64 r.pl, .int .u8 (r.op : Int), .int .i64 r.a, .int .i64 r.b]] w fun e w' => OneOk r w w' e := by
  have HF : Hid (∀ W, Calls Tryd.prog 9 #[.int .u8 (r.op : Int)] W fun e w' => e = .returned (.int .i64 1) ∧ W = w') := Lib.hid (fun W => by have := refForm_any r.op ho W; rw [hf] at this; exact this)
  have HM : Hid (mayF r = mayF' 1 r) := Lib.hid (by unfold mayF; rw [hf])
  have Ho := Lib.hid ho
  have HW2 : Hid (Below w.heap.size w ((w.alloc (.cells #[.int .i64 r.pl, .int .u8 (r.op : Int), .int .i64 r.a, .int .i64 r.b] 36)).alloc (.cells #[.int .u8 (r.op : Int)] 5))) := Lib.hid (((Below.refl _ _).alloc (Nat.le_refl _) _).alloc (by simp) _)
  have HLo : Hid (((w.alloc (.cells #[.int .i64 r.pl, .int .u8 (r.op : Int), .int .i64 r.a, .int .i64 r.b] 36)).alloc (.cells #[.int .u8 (r.op : Int)] 5)).ownsRow w.heap.size 5 1 (.slice (some ⟨w.heap.size + 1, 0, none⟩) 1 1) [UInt8.ofNat r.op].length ([UInt8.ofNat r.op].map B8)) := Lib.hid (by
    have h := lit_own (w.alloc (.cells #[.int .i64 r.pl, .int .u8 (r.op : Int), .int .i64 r.a, .int .i64 r.b] 36)) w.heap.size r.op ho (by simp)
    rwa [show (w.alloc (.cells #[.int .i64 r.pl, .int .u8 (r.op : Int), .int .i64 r.a, .int .i64 r.b] 36)).heap.size = w.heap.size + 1 by simp] at h)
  have HCb : Hid (codeB r = [UInt8.ofNat r.op]) := Lib.hid (by unfold codeB codeB'; rw [hf]; rfl)
  rw [may_1] at HM
  clear ho hf
  by_cases ha : r.a = 0
  · have had : (r.a == 0) = true := by simpa using ha
    have HM2 : Hid (mayF r = (r.b == 0)) := Lib.hid (by rw [HM.out, ha]; rw [Bool.eq_iff_iff]; simp)
    have HC2 := HCb
    clear ha HM
    go_enter Tryd.func26, Tryd.ntmps26
    go_wp2_with fail
    refine (HF.out _).mono ?_
    rintro e1 w1 ⟨rfl, rfl⟩
    go_wp2
    go_quiet (fail)
    go_wp2
    go_ret2
    exact ⟨⟨_, _, by rw [HM2.out]; rfl, own_only HLo.out (Only.of_below (S := Empty) ((Below.refl _ _).drewN nq)) (fun _ _ _ h => h), fun _ => HC2.out.symm⟩, HW2.out.drewN nq⟩
  · have had : (r.a == 0) = false := by simpa using ha
    have HN : Hid (mayF r = false) := Lib.hid (by rw [HM.out, decide_eq_false ha]; rfl)
    clear ha HM
    go_enter Tryd.func26, Tryd.ntmps26
    go_wp2_with fail
    refine (HF.out _).mono ?_
    rintro e1 w1 ⟨rfl, rfl⟩
    go_wp2
    go_quiet (fail)
    go_wp2
    go_ret2
    exact ⟨⟨_, _, by rw [HN.out]; rfl, own_only HLo.out (Only.of_below (S := Empty) ((Below.refl _ _).drewN nq)) (fun _ _ _ h => h), fun h => by rw [HN.out] at h; cases h⟩, HW2.out.drewN nq⟩

set_option maxHeartbeats 4000000 in
theorem refOne_2 (r : RawD) (w : World) (ho : r.op < 256) (hf : formN r.op = 2) :
    Calls Tryd.prog 26 #[.agg #[.int .i64 r.pl, .int .u8 (r.op : Int), .int .i64 r.a, .int .i64 r.b]] w fun e w' => OneOk r w w' e := by
  have HF : Hid (∀ W, Calls Tryd.prog 9 #[.int .u8 (r.op : Int)] W fun e w' => e = .returned (.int .i64 2) ∧ W = w') := Lib.hid (fun W => by have := refForm_any r.op ho W; rw [hf] at this; exact this)
  have HM : Hid (mayF r = mayF' 2 r) := Lib.hid (by unfold mayF; rw [hf])
  have Ho := Lib.hid ho
  have HW2 : Hid (Below w.heap.size w ((w.alloc (.cells #[.int .i64 r.pl, .int .u8 (r.op : Int), .int .i64 r.a, .int .i64 r.b] 36)).alloc (.cells #[.int .u8 (r.op : Int)] 5))) := Lib.hid (((Below.refl _ _).alloc (Nat.le_refl _) _).alloc (by simp) _)
  rw [may_2] at HM
  by_cases h1 : 0 ≤ r.a
  · by_cases h2 : r.a ≤ 255
    · have HM2 : Hid (mayF r = (r.b == 0)) := Lib.hid (by rw [HM.out, decide_eq_true ⟨h1, h2⟩]; rw [Bool.eq_iff_iff]; simp)
      have hd1 : decide (r.a < 0) = false := by simp; omega
      have hd2 : decide (r.a > 255) = false := by simp; omega
      have hd3 : decide (255 < r.a) = false := by simp; omega
      have hu : IntKind.u64.wrap r.a = (uw r.a : Int) := uw_wrap _
      have hul := uw_le r.a
      have HPut : Hid (Calls Tryd.prog 28 #[.slice (some ⟨w.heap.size + 1, 0, none⟩) 1 1, .int .u64 (uw r.a : Int), .int .i64 1] ((w.alloc (.cells #[.int .i64 r.pl, .int .u8 (r.op : Int), .int .i64 r.a, .int .i64 r.b] 36)).alloc (.cells #[.int .u8 (r.op : Int)] 5)) fun e w' => (∃ u, e = .returned u ∧ w'.ownsRow ((w.alloc (.cells #[.int .i64 r.pl, .int .u8 (r.op : Int), .int .i64 r.a, .int .i64 r.b] 36)).alloc (.cells #[.int .u8 (r.op : Int)] 5)).heap.size 5 1 u (1 + 1) (([UInt8.ofNat r.op] ++ putL (uw r.a) 1).map B8)) ∧ Below ((w.alloc (.cells #[.int .i64 r.pl, .int .u8 (r.op : Int), .int .i64 r.a, .int .i64 r.b] 36)).alloc (.cells #[.int .u8 (r.op : Int)] 5)).heap.size ((w.alloc (.cells #[.int .i64 r.pl, .int .u8 (r.op : Int), .int .i64 r.a, .int .i64 r.b] 36)).alloc (.cells #[.int .u8 (r.op : Int)] 5)) w') := Lib.hid (by
        have h := lit1 (w.alloc (.cells #[.int .i64 r.pl, .int .u8 (r.op : Int), .int .i64 r.a, .int .i64 r.b] 36)) r.op ho
        rw [show (w.alloc (.cells #[.int .i64 r.pl, .int .u8 (r.op : Int), .int .i64 r.a, .int .i64 r.b] 36)).heap.size = w.heap.size + 1 by simp] at h
        exact refPut_yes _ 1 1 [UInt8.ofNat r.op] (uw r.a) 1 _ h (fun h => by cases h) hul (by omega) (by omega) (by omega))
      have HRb : Hid (∀ W, Below ((w.alloc (.cells #[.int .i64 r.pl, .int .u8 (r.op : Int), .int .i64 r.a, .int .i64 r.b] 36)).alloc (.cells #[.int .u8 (r.op : Int)] 5)).heap.size ((w.alloc (.cells #[.int .i64 r.pl, .int .u8 (r.op : Int), .int .i64 r.a, .int .i64 r.b] 36)).alloc (.cells #[.int .u8 (r.op : Int)] 5)) W → W.cell? ⟨w.heap.size, 1, none⟩ = some (.int .u8 (r.op : Int)) ∧ W.cell? ⟨w.heap.size, 3, none⟩ = some (.int .i64 r.b)) := Lib.hid (fun W h => by
        have hb := ((Blk.new w 36 #[.int .i64 r.pl, .int .u8 (r.op : Int), .int .i64 r.a, .int .i64 r.b]).alloc (.cells #[.int .u8 (r.op : Int)] 5)).of (h.block w.heap.size (by simp; omega))
        exact ⟨hb.cell 1, hb.cell 3⟩)
      have HCb : Hid (codeB r = [UInt8.ofNat r.op] ++ putL (uw r.a) 1) := Lib.hid (by unfold codeB codeB'; rw [hf]; show UInt8.ofNat r.op :: (putL (uw r.a) 1 ++ putL (uw r.b) 0) = _; rw [putL0]; simp)
      clear ho hf HM
      go_enter Tryd.func26, Tryd.ntmps26
      go_wp2_with fail
      refine (HF.out _).mono ?_
      rintro e1 w1 ⟨rfl, rfl⟩
      go_wp2_with fail
      refine HPut.out.mono ?_
      rintro e2 w2 ⟨⟨u, rfl, hown⟩, hb2⟩
      obtain ⟨k1, k3⟩ := HRb.out w2 hb2
      have HB2 := Lib.hid (HW2.out.trans (hb2.mono HW2.out.size))
      have HO2 := Lib.hid (own_base hown HW2.out.size)
      clear hown hb2
      go_wp2_with fail
      refine (HF.out _).mono ?_
      rintro e3 w3 ⟨rfl, rfl⟩
      go_wp2
      go_quiet (fail)
      go_wp2
      go_ret2
      refine ⟨⟨u, [UInt8.ofNat r.op] ++ putL (uw r.a) 1, by rw [HM2.out]; rfl, ?_, fun _ => HCb.out.symm⟩, HB2.out.drewN nq⟩
      have h := own_only HO2.out (Only.of_below (S := Empty) ((Below.refl w2.heap.size w2).drewN nq)) (fun _ _ _ h => h)
      rw [List.length_append, putL_len]
      exact h
    · have HN : Hid (mayF r = false) := Lib.hid (by rw [HM.out, decide_eq_false (fun h => h2 h.2)]; rfl)
      have hd1 : decide (r.a < 0) = false := by simp; omega
      have hd3 : decide (255 < r.a) = true := by simp; omega
      clear ho hf HM h2
      go_enter Tryd.func26, Tryd.ntmps26
      go_wp2_with fail
      refine (HF.out _).mono ?_
      rintro e1 w1 ⟨rfl, rfl⟩
      go_wp2
      go_ret2
      exact ⟨⟨_, [], by rw [HN.out]; rfl, own_none _ _, fun h => by rw [HN.out] at h; cases h⟩, HW2.out⟩
  · have HN : Hid (mayF r = false) := Lib.hid (by rw [HM.out, decide_eq_false (fun h => h1 h.1)]; rfl)
    have hd1 : decide (r.a < 0) = true := by simp; omega
    clear ho hf HM h1
    go_enter Tryd.func26, Tryd.ntmps26
    go_wp2_with fail
    refine (HF.out _).mono ?_
    rintro e1 w1 ⟨rfl, rfl⟩
    go_wp2
    go_ret2
    exact ⟨⟨_, [], by rw [HN.out]; rfl, own_none _ _, fun h => by rw [HN.out] at h; cases h⟩, HW2.out⟩

set_option maxHeartbeats 4000000 in
theorem refOne_3 (r : RawD) (w : World) (ho : r.op < 256) (hf : formN r.op = 3) :
    Calls Tryd.prog 26 #[.agg #[.int .i64 r.pl, .int .u8 (r.op : Int), .int .i64 r.a, .int .i64 r.b]] w fun e w' => OneOk r w w' e := by
  have HF : Hid (∀ W, Calls Tryd.prog 9 #[.int .u8 (r.op : Int)] W fun e w' => e = .returned (.int .i64 3) ∧ W = w') := Lib.hid (fun W => by have := refForm_any r.op ho W; rw [hf] at this; exact this)
  have HM : Hid (mayF r = mayF' 3 r) := Lib.hid (by unfold mayF; rw [hf])
  have Ho := Lib.hid ho
  have HW2 : Hid (Below w.heap.size w ((w.alloc (.cells #[.int .i64 r.pl, .int .u8 (r.op : Int), .int .i64 r.a, .int .i64 r.b] 36)).alloc (.cells #[.int .u8 (r.op : Int)] 5))) := Lib.hid (((Below.refl _ _).alloc (Nat.le_refl _) _).alloc (by simp) _)
  rw [may_3] at HM
  by_cases h1 : -128 ≤ r.a
  · by_cases h2 : r.a ≤ 127
    · have HM2 : Hid (mayF r = (r.b == 0)) := Lib.hid (by rw [HM.out, decide_eq_true ⟨h1, h2⟩]; rw [Bool.eq_iff_iff]; simp)
      have hd1 : decide (r.a < -128) = false := by simp; omega
      have hd2 : decide (r.a > 127) = false := by simp; omega
      have hd3 : decide (127 < r.a) = false := by simp; omega
      have hu : IntKind.u64.wrap r.a = (uw r.a : Int) := uw_wrap _
      have hul := uw_le r.a
      have HPut : Hid (Calls Tryd.prog 28 #[.slice (some ⟨w.heap.size + 1, 0, none⟩) 1 1, .int .u64 (uw r.a : Int), .int .i64 1] ((w.alloc (.cells #[.int .i64 r.pl, .int .u8 (r.op : Int), .int .i64 r.a, .int .i64 r.b] 36)).alloc (.cells #[.int .u8 (r.op : Int)] 5)) fun e w' => (∃ u, e = .returned u ∧ w'.ownsRow ((w.alloc (.cells #[.int .i64 r.pl, .int .u8 (r.op : Int), .int .i64 r.a, .int .i64 r.b] 36)).alloc (.cells #[.int .u8 (r.op : Int)] 5)).heap.size 5 1 u (1 + 1) (([UInt8.ofNat r.op] ++ putL (uw r.a) 1).map B8)) ∧ Below ((w.alloc (.cells #[.int .i64 r.pl, .int .u8 (r.op : Int), .int .i64 r.a, .int .i64 r.b] 36)).alloc (.cells #[.int .u8 (r.op : Int)] 5)).heap.size ((w.alloc (.cells #[.int .i64 r.pl, .int .u8 (r.op : Int), .int .i64 r.a, .int .i64 r.b] 36)).alloc (.cells #[.int .u8 (r.op : Int)] 5)) w') := Lib.hid (by
        have h := lit1 (w.alloc (.cells #[.int .i64 r.pl, .int .u8 (r.op : Int), .int .i64 r.a, .int .i64 r.b] 36)) r.op ho
        rw [show (w.alloc (.cells #[.int .i64 r.pl, .int .u8 (r.op : Int), .int .i64 r.a, .int .i64 r.b] 36)).heap.size = w.heap.size + 1 by simp] at h
        exact refPut_yes _ 1 1 [UInt8.ofNat r.op] (uw r.a) 1 _ h (fun h => by cases h) hul (by omega) (by omega) (by omega))
      have HRb : Hid (∀ W, Below ((w.alloc (.cells #[.int .i64 r.pl, .int .u8 (r.op : Int), .int .i64 r.a, .int .i64 r.b] 36)).alloc (.cells #[.int .u8 (r.op : Int)] 5)).heap.size ((w.alloc (.cells #[.int .i64 r.pl, .int .u8 (r.op : Int), .int .i64 r.a, .int .i64 r.b] 36)).alloc (.cells #[.int .u8 (r.op : Int)] 5)) W → W.cell? ⟨w.heap.size, 1, none⟩ = some (.int .u8 (r.op : Int)) ∧ W.cell? ⟨w.heap.size, 3, none⟩ = some (.int .i64 r.b)) := Lib.hid (fun W h => by
        have hb := ((Blk.new w 36 #[.int .i64 r.pl, .int .u8 (r.op : Int), .int .i64 r.a, .int .i64 r.b]).alloc (.cells #[.int .u8 (r.op : Int)] 5)).of (h.block w.heap.size (by simp; omega))
        exact ⟨hb.cell 1, hb.cell 3⟩)
      have HCb : Hid (codeB r = [UInt8.ofNat r.op] ++ putL (uw r.a) 1) := Lib.hid (by unfold codeB codeB'; rw [hf]; show UInt8.ofNat r.op :: (putL (uw r.a) 1 ++ putL (uw r.b) 0) = _; rw [putL0]; simp)
      clear ho hf HM
      go_enter Tryd.func26, Tryd.ntmps26
      go_wp2_with fail
      refine (HF.out _).mono ?_
      rintro e1 w1 ⟨rfl, rfl⟩
      go_wp2_with fail
      refine HPut.out.mono ?_
      rintro e2 w2 ⟨⟨u, rfl, hown⟩, hb2⟩
      obtain ⟨k1, k3⟩ := HRb.out w2 hb2
      have HB2 := Lib.hid (HW2.out.trans (hb2.mono HW2.out.size))
      have HO2 := Lib.hid (own_base hown HW2.out.size)
      clear hown hb2
      go_wp2_with fail
      refine (HF.out _).mono ?_
      rintro e3 w3 ⟨rfl, rfl⟩
      go_wp2
      go_quiet (fail)
      go_wp2
      go_ret2
      refine ⟨⟨u, [UInt8.ofNat r.op] ++ putL (uw r.a) 1, by rw [HM2.out]; rfl, ?_, fun _ => HCb.out.symm⟩, HB2.out.drewN nq⟩
      have h := own_only HO2.out (Only.of_below (S := Empty) ((Below.refl w2.heap.size w2).drewN nq)) (fun _ _ _ h => h)
      rw [List.length_append, putL_len]
      exact h
    · have HN : Hid (mayF r = false) := Lib.hid (by rw [HM.out, decide_eq_false (fun h => h2 h.2)]; rfl)
      have hd1 : decide (r.a < -128) = false := by simp; omega
      have hd3 : decide (127 < r.a) = true := by simp; omega
      clear ho hf HM h2
      go_enter Tryd.func26, Tryd.ntmps26
      go_wp2_with fail
      refine (HF.out _).mono ?_
      rintro e1 w1 ⟨rfl, rfl⟩
      go_wp2
      go_ret2
      exact ⟨⟨_, [], by rw [HN.out]; rfl, own_none _ _, fun h => by rw [HN.out] at h; cases h⟩, HW2.out⟩
  · have HN : Hid (mayF r = false) := Lib.hid (by rw [HM.out, decide_eq_false (fun h => h1 h.1)]; rfl)
    have hd1 : decide (r.a < -128) = true := by simp; omega
    clear ho hf HM h1
    go_enter Tryd.func26, Tryd.ntmps26
    go_wp2_with fail
    refine (HF.out _).mono ?_
    rintro e1 w1 ⟨rfl, rfl⟩
    go_wp2
    go_ret2
    exact ⟨⟨_, [], by rw [HN.out]; rfl, own_none _ _, fun h => by rw [HN.out] at h; cases h⟩, HW2.out⟩

set_option maxHeartbeats 4000000 in
theorem refOne_4 (r : RawD) (w : World) (ho : r.op < 256) (hf : formN r.op = 4) :
    Calls Tryd.prog 26 #[.agg #[.int .i64 r.pl, .int .u8 (r.op : Int), .int .i64 r.a, .int .i64 r.b]] w fun e w' => OneOk r w w' e := by
  have HF : Hid (∀ W, Calls Tryd.prog 9 #[.int .u8 (r.op : Int)] W fun e w' => e = .returned (.int .i64 4) ∧ W = w') := Lib.hid (fun W => by have := refForm_any r.op ho W; rw [hf] at this; exact this)
  have HM : Hid (mayF r = mayF' 4 r) := Lib.hid (by unfold mayF; rw [hf])
  have Ho := Lib.hid ho
  have HW2 : Hid (Below w.heap.size w ((w.alloc (.cells #[.int .i64 r.pl, .int .u8 (r.op : Int), .int .i64 r.a, .int .i64 r.b] 36)).alloc (.cells #[.int .u8 (r.op : Int)] 5))) := Lib.hid (((Below.refl _ _).alloc (Nat.le_refl _) _).alloc (by simp) _)
  rw [may_4] at HM
  by_cases h1 : -32768 ≤ r.a
  · by_cases h2 : r.a ≤ 32767
    · have HM2 : Hid (mayF r = (r.b == 0)) := Lib.hid (by rw [HM.out, decide_eq_true ⟨h1, h2⟩]; rw [Bool.eq_iff_iff]; simp)
      have hd1 : decide (r.a < -32768) = false := by simp; omega
      have hd2 : decide (r.a > 32767) = false := by simp; omega
      have hd3 : decide (32767 < r.a) = false := by simp; omega
      have hu : IntKind.u64.wrap r.a = (uw r.a : Int) := uw_wrap _
      have hul := uw_le r.a
      have HPut : Hid (Calls Tryd.prog 28 #[.slice (some ⟨w.heap.size + 1, 0, none⟩) 1 1, .int .u64 (uw r.a : Int), .int .i64 2] ((w.alloc (.cells #[.int .i64 r.pl, .int .u8 (r.op : Int), .int .i64 r.a, .int .i64 r.b] 36)).alloc (.cells #[.int .u8 (r.op : Int)] 5)) fun e w' => (∃ u, e = .returned u ∧ w'.ownsRow ((w.alloc (.cells #[.int .i64 r.pl, .int .u8 (r.op : Int), .int .i64 r.a, .int .i64 r.b] 36)).alloc (.cells #[.int .u8 (r.op : Int)] 5)).heap.size 5 1 u (1 + 2) (([UInt8.ofNat r.op] ++ putL (uw r.a) 2).map B8)) ∧ Below ((w.alloc (.cells #[.int .i64 r.pl, .int .u8 (r.op : Int), .int .i64 r.a, .int .i64 r.b] 36)).alloc (.cells #[.int .u8 (r.op : Int)] 5)).heap.size ((w.alloc (.cells #[.int .i64 r.pl, .int .u8 (r.op : Int), .int .i64 r.a, .int .i64 r.b] 36)).alloc (.cells #[.int .u8 (r.op : Int)] 5)) w') := Lib.hid (by
        have h := lit1 (w.alloc (.cells #[.int .i64 r.pl, .int .u8 (r.op : Int), .int .i64 r.a, .int .i64 r.b] 36)) r.op ho
        rw [show (w.alloc (.cells #[.int .i64 r.pl, .int .u8 (r.op : Int), .int .i64 r.a, .int .i64 r.b] 36)).heap.size = w.heap.size + 1 by simp] at h
        exact refPut_yes _ 1 1 [UInt8.ofNat r.op] (uw r.a) 2 _ h (fun h => by cases h) hul (by omega) (by omega) (by omega))
      have HRb : Hid (∀ W, Below ((w.alloc (.cells #[.int .i64 r.pl, .int .u8 (r.op : Int), .int .i64 r.a, .int .i64 r.b] 36)).alloc (.cells #[.int .u8 (r.op : Int)] 5)).heap.size ((w.alloc (.cells #[.int .i64 r.pl, .int .u8 (r.op : Int), .int .i64 r.a, .int .i64 r.b] 36)).alloc (.cells #[.int .u8 (r.op : Int)] 5)) W → W.cell? ⟨w.heap.size, 1, none⟩ = some (.int .u8 (r.op : Int)) ∧ W.cell? ⟨w.heap.size, 3, none⟩ = some (.int .i64 r.b)) := Lib.hid (fun W h => by
        have hb := ((Blk.new w 36 #[.int .i64 r.pl, .int .u8 (r.op : Int), .int .i64 r.a, .int .i64 r.b]).alloc (.cells #[.int .u8 (r.op : Int)] 5)).of (h.block w.heap.size (by simp; omega))
        exact ⟨hb.cell 1, hb.cell 3⟩)
      have HCb : Hid (codeB r = [UInt8.ofNat r.op] ++ putL (uw r.a) 2) := Lib.hid (by unfold codeB codeB'; rw [hf]; show UInt8.ofNat r.op :: (putL (uw r.a) 2 ++ putL (uw r.b) 0) = _; rw [putL0]; simp)
      clear ho hf HM
      go_enter Tryd.func26, Tryd.ntmps26
      go_wp2_with fail
      refine (HF.out _).mono ?_
      rintro e1 w1 ⟨rfl, rfl⟩
      go_wp2_with fail
      refine HPut.out.mono ?_
      rintro e2 w2 ⟨⟨u, rfl, hown⟩, hb2⟩
      obtain ⟨k1, k3⟩ := HRb.out w2 hb2
      have HB2 := Lib.hid (HW2.out.trans (hb2.mono HW2.out.size))
      have HO2 := Lib.hid (own_base hown HW2.out.size)
      clear hown hb2
      go_wp2_with fail
      refine (HF.out _).mono ?_
      rintro e3 w3 ⟨rfl, rfl⟩
      go_wp2
      go_quiet (fail)
      go_wp2
      go_ret2
      refine ⟨⟨u, [UInt8.ofNat r.op] ++ putL (uw r.a) 2, by rw [HM2.out]; rfl, ?_, fun _ => HCb.out.symm⟩, HB2.out.drewN nq⟩
      have h := own_only HO2.out (Only.of_below (S := Empty) ((Below.refl w2.heap.size w2).drewN nq)) (fun _ _ _ h => h)
      rw [List.length_append, putL_len]
      exact h
    · have HN : Hid (mayF r = false) := Lib.hid (by rw [HM.out, decide_eq_false (fun h => h2 h.2)]; rfl)
      have hd1 : decide (r.a < -32768) = false := by simp; omega
      have hd3 : decide (32767 < r.a) = true := by simp; omega
      clear ho hf HM h2
      go_enter Tryd.func26, Tryd.ntmps26
      go_wp2_with fail
      refine (HF.out _).mono ?_
      rintro e1 w1 ⟨rfl, rfl⟩
      go_wp2
      go_ret2
      exact ⟨⟨_, [], by rw [HN.out]; rfl, own_none _ _, fun h => by rw [HN.out] at h; cases h⟩, HW2.out⟩
  · have HN : Hid (mayF r = false) := Lib.hid (by rw [HM.out, decide_eq_false (fun h => h1 h.1)]; rfl)
    have hd1 : decide (r.a < -32768) = true := by simp; omega
    clear ho hf HM h1
    go_enter Tryd.func26, Tryd.ntmps26
    go_wp2_with fail
    refine (HF.out _).mono ?_
    rintro e1 w1 ⟨rfl, rfl⟩
    go_wp2
    go_ret2
    exact ⟨⟨_, [], by rw [HN.out]; rfl, own_none _ _, fun h => by rw [HN.out] at h; cases h⟩, HW2.out⟩

set_option maxHeartbeats 4000000 in
theorem refOne_5 (r : RawD) (w : World) (ho : r.op < 256) (hf : formN r.op = 5) :
    Calls Tryd.prog 26 #[.agg #[.int .i64 r.pl, .int .u8 (r.op : Int), .int .i64 r.a, .int .i64 r.b]] w fun e w' => OneOk r w w' e := by
  have HF : Hid (∀ W, Calls Tryd.prog 9 #[.int .u8 (r.op : Int)] W fun e w' => e = .returned (.int .i64 5) ∧ W = w') := Lib.hid (fun W => by have := refForm_any r.op ho W; rw [hf] at this; exact this)
  have HM : Hid (mayF r = mayF' 5 r) := Lib.hid (by unfold mayF; rw [hf])
  have Ho := Lib.hid ho
  have HW2 : Hid (Below w.heap.size w ((w.alloc (.cells #[.int .i64 r.pl, .int .u8 (r.op : Int), .int .i64 r.a, .int .i64 r.b] 36)).alloc (.cells #[.int .u8 (r.op : Int)] 5))) := Lib.hid (((Below.refl _ _).alloc (Nat.le_refl _) _).alloc (by simp) _)
  rw [may_5] at HM
  by_cases h1 : 0 ≤ r.a
  · by_cases h2 : r.a ≤ 255
    · have HM2 : Hid (mayF r = (r.b == 0)) := Lib.hid (by rw [HM.out, decide_eq_true ⟨h1, h2⟩]; rw [Bool.eq_iff_iff]; simp)
      have hd1 : decide (r.a < 0) = false := by simp; omega
      have hd2 : decide (r.a > 255) = false := by simp; omega
      have hd3 : decide (255 < r.a) = false := by simp; omega
      have hu : IntKind.u64.wrap r.a = (uw r.a : Int) := uw_wrap _
      have hul := uw_le r.a
      have HPut : Hid (Calls Tryd.prog 28 #[.slice (some ⟨w.heap.size + 1, 0, none⟩) 1 1, .int .u64 (uw r.a : Int), .int .i64 1] ((w.alloc (.cells #[.int .i64 r.pl, .int .u8 (r.op : Int), .int .i64 r.a, .int .i64 r.b] 36)).alloc (.cells #[.int .u8 (r.op : Int)] 5)) fun e w' => (∃ u, e = .returned u ∧ w'.ownsRow ((w.alloc (.cells #[.int .i64 r.pl, .int .u8 (r.op : Int), .int .i64 r.a, .int .i64 r.b] 36)).alloc (.cells #[.int .u8 (r.op : Int)] 5)).heap.size 5 1 u (1 + 1) (([UInt8.ofNat r.op] ++ putL (uw r.a) 1).map B8)) ∧ Below ((w.alloc (.cells #[.int .i64 r.pl, .int .u8 (r.op : Int), .int .i64 r.a, .int .i64 r.b] 36)).alloc (.cells #[.int .u8 (r.op : Int)] 5)).heap.size ((w.alloc (.cells #[.int .i64 r.pl, .int .u8 (r.op : Int), .int .i64 r.a, .int .i64 r.b] 36)).alloc (.cells #[.int .u8 (r.op : Int)] 5)) w') := Lib.hid (by
        have h := lit1 (w.alloc (.cells #[.int .i64 r.pl, .int .u8 (r.op : Int), .int .i64 r.a, .int .i64 r.b] 36)) r.op ho
        rw [show (w.alloc (.cells #[.int .i64 r.pl, .int .u8 (r.op : Int), .int .i64 r.a, .int .i64 r.b] 36)).heap.size = w.heap.size + 1 by simp] at h
        exact refPut_yes _ 1 1 [UInt8.ofNat r.op] (uw r.a) 1 _ h (fun h => by cases h) hul (by omega) (by omega) (by omega))
      have HRb : Hid (∀ W, Below ((w.alloc (.cells #[.int .i64 r.pl, .int .u8 (r.op : Int), .int .i64 r.a, .int .i64 r.b] 36)).alloc (.cells #[.int .u8 (r.op : Int)] 5)).heap.size ((w.alloc (.cells #[.int .i64 r.pl, .int .u8 (r.op : Int), .int .i64 r.a, .int .i64 r.b] 36)).alloc (.cells #[.int .u8 (r.op : Int)] 5)) W → W.cell? ⟨w.heap.size, 1, none⟩ = some (.int .u8 (r.op : Int)) ∧ W.cell? ⟨w.heap.size, 3, none⟩ = some (.int .i64 r.b)) := Lib.hid (fun W h => by
        have hb := ((Blk.new w 36 #[.int .i64 r.pl, .int .u8 (r.op : Int), .int .i64 r.a, .int .i64 r.b]).alloc (.cells #[.int .u8 (r.op : Int)] 5)).of (h.block w.heap.size (by simp; omega))
        exact ⟨hb.cell 1, hb.cell 3⟩)
      have HCb : Hid (codeB r = [UInt8.ofNat r.op] ++ putL (uw r.a) 1) := Lib.hid (by unfold codeB codeB'; rw [hf]; show UInt8.ofNat r.op :: (putL (uw r.a) 1 ++ putL (uw r.b) 0) = _; rw [putL0]; simp)
      clear ho hf HM
      go_enter Tryd.func26, Tryd.ntmps26
      go_wp2_with fail
      refine (HF.out _).mono ?_
      rintro e1 w1 ⟨rfl, rfl⟩
      go_wp2_with fail
      refine HPut.out.mono ?_
      rintro e2 w2 ⟨⟨u, rfl, hown⟩, hb2⟩
      obtain ⟨k1, k3⟩ := HRb.out w2 hb2
      have HB2 := Lib.hid (HW2.out.trans (hb2.mono HW2.out.size))
      have HO2 := Lib.hid (own_base hown HW2.out.size)
      clear hown hb2
      go_wp2_with fail
      refine (HF.out _).mono ?_
      rintro e3 w3 ⟨rfl, rfl⟩
      go_wp2
      go_quiet (fail)
      go_wp2
      go_ret2
      refine ⟨⟨u, [UInt8.ofNat r.op] ++ putL (uw r.a) 1, by rw [HM2.out]; rfl, ?_, fun _ => HCb.out.symm⟩, HB2.out.drewN nq⟩
      have h := own_only HO2.out (Only.of_below (S := Empty) ((Below.refl w2.heap.size w2).drewN nq)) (fun _ _ _ h => h)
      rw [List.length_append, putL_len]
      exact h
    · have HN : Hid (mayF r = false) := Lib.hid (by rw [HM.out, decide_eq_false (fun h => h2 h.2)]; rfl)
      have hd1 : decide (r.a < 0) = false := by simp; omega
      have hd3 : decide (255 < r.a) = true := by simp; omega
      clear ho hf HM h2
      go_enter Tryd.func26, Tryd.ntmps26
      go_wp2_with fail
      refine (HF.out _).mono ?_
      rintro e1 w1 ⟨rfl, rfl⟩
      go_wp2
      go_ret2
      exact ⟨⟨_, [], by rw [HN.out]; rfl, own_none _ _, fun h => by rw [HN.out] at h; cases h⟩, HW2.out⟩
  · have HN : Hid (mayF r = false) := Lib.hid (by rw [HM.out, decide_eq_false (fun h => h1 h.1)]; rfl)
    have hd1 : decide (r.a < 0) = true := by simp; omega
    clear ho hf HM h1
    go_enter Tryd.func26, Tryd.ntmps26
    go_wp2_with fail
    refine (HF.out _).mono ?_
    rintro e1 w1 ⟨rfl, rfl⟩
    go_wp2
    go_ret2
    exact ⟨⟨_, [], by rw [HN.out]; rfl, own_none _ _, fun h => by rw [HN.out] at h; cases h⟩, HW2.out⟩

set_option maxHeartbeats 4000000 in
theorem refOne_6 (r : RawD) (w : World) (ho : r.op < 256) (hf : formN r.op = 6) :
    Calls Tryd.prog 26 #[.agg #[.int .i64 r.pl, .int .u8 (r.op : Int), .int .i64 r.a, .int .i64 r.b]] w fun e w' => OneOk r w w' e := by
  have HF : Hid (∀ W, Calls Tryd.prog 9 #[.int .u8 (r.op : Int)] W fun e w' => e = .returned (.int .i64 6) ∧ W = w') := Lib.hid (fun W => by have := refForm_any r.op ho W; rw [hf] at this; exact this)
  have HM : Hid (mayF r = mayF' 6 r) := Lib.hid (by unfold mayF; rw [hf])
  have Ho := Lib.hid ho
  have HW2 : Hid (Below w.heap.size w ((w.alloc (.cells #[.int .i64 r.pl, .int .u8 (r.op : Int), .int .i64 r.a, .int .i64 r.b] 36)).alloc (.cells #[.int .u8 (r.op : Int)] 5))) := Lib.hid (((Below.refl _ _).alloc (Nat.le_refl _) _).alloc (by simp) _)
  rw [may_6] at HM
  by_cases h1 : 0 ≤ r.a
  · by_cases h2 : r.a ≤ 65535
    · have HM2 : Hid (mayF r = (r.b == 0)) := Lib.hid (by rw [HM.out, decide_eq_true ⟨h1, h2⟩]; rw [Bool.eq_iff_iff]; simp)
      have hd1 : decide (r.a < 0) = false := by simp; omega
      have hd2 : decide (r.a > 65535) = false := by simp; omega
      have hd3 : decide (65535 < r.a) = false := by simp; omega
      have hu : IntKind.u64.wrap r.a = (uw r.a : Int) := uw_wrap _
      have hul := uw_le r.a
      have HPut : Hid (Calls Tryd.prog 28 #[.slice (some ⟨w.heap.size + 1, 0, none⟩) 1 1, .int .u64 (uw r.a : Int), .int .i64 2] ((w.alloc (.cells #[.int .i64 r.pl, .int .u8 (r.op : Int), .int .i64 r.a, .int .i64 r.b] 36)).alloc (.cells #[.int .u8 (r.op : Int)] 5)) fun e w' => (∃ u, e = .returned u ∧ w'.ownsRow ((w.alloc (.cells #[.int .i64 r.pl, .int .u8 (r.op : Int), .int .i64 r.a, .int .i64 r.b] 36)).alloc (.cells #[.int .u8 (r.op : Int)] 5)).heap.size 5 1 u (1 + 2) (([UInt8.ofNat r.op] ++ putL (uw r.a) 2).map B8)) ∧ Below ((w.alloc (.cells #[.int .i64 r.pl, .int .u8 (r.op : Int), .int .i64 r.a, .int .i64 r.b] 36)).alloc (.cells #[.int .u8 (r.op : Int)] 5)).heap.size ((w.alloc (.cells #[.int .i64 r.pl, .int .u8 (r.op : Int), .int .i64 r.a, .int .i64 r.b] 36)).alloc (.cells #[.int .u8 (r.op : Int)] 5)) w') := Lib.hid (by
        have h := lit1 (w.alloc (.cells #[.int .i64 r.pl, .int .u8 (r.op : Int), .int .i64 r.a, .int .i64 r.b] 36)) r.op ho
        rw [show (w.alloc (.cells #[.int .i64 r.pl, .int .u8 (r.op : Int), .int .i64 r.a, .int .i64 r.b] 36)).heap.size = w.heap.size + 1 by simp] at h
        exact refPut_yes _ 1 1 [UInt8.ofNat r.op] (uw r.a) 2 _ h (fun h => by cases h) hul (by omega) (by omega) (by omega))
      have HRb : Hid (∀ W, Below ((w.alloc (.cells #[.int .i64 r.pl, .int .u8 (r.op : Int), .int .i64 r.a, .int .i64 r.b] 36)).alloc (.cells #[.int .u8 (r.op : Int)] 5)).heap.size ((w.alloc (.cells #[.int .i64 r.pl, .int .u8 (r.op : Int), .int .i64 r.a, .int .i64 r.b] 36)).alloc (.cells #[.int .u8 (r.op : Int)] 5)) W → W.cell? ⟨w.heap.size, 1, none⟩ = some (.int .u8 (r.op : Int)) ∧ W.cell? ⟨w.heap.size, 3, none⟩ = some (.int .i64 r.b)) := Lib.hid (fun W h => by
        have hb := ((Blk.new w 36 #[.int .i64 r.pl, .int .u8 (r.op : Int), .int .i64 r.a, .int .i64 r.b]).alloc (.cells #[.int .u8 (r.op : Int)] 5)).of (h.block w.heap.size (by simp; omega))
        exact ⟨hb.cell 1, hb.cell 3⟩)
      have HCb : Hid (codeB r = [UInt8.ofNat r.op] ++ putL (uw r.a) 2) := Lib.hid (by unfold codeB codeB'; rw [hf]; show UInt8.ofNat r.op :: (putL (uw r.a) 2 ++ putL (uw r.b) 0) = _; rw [putL0]; simp)
      clear ho hf HM
      go_enter Tryd.func26, Tryd.ntmps26
      go_wp2_with fail
      refine (HF.out _).mono ?_
      rintro e1 w1 ⟨rfl, rfl⟩
      go_wp2_with fail
      refine HPut.out.mono ?_
      rintro e2 w2 ⟨⟨u, rfl, hown⟩, hb2⟩
      obtain ⟨k1, k3⟩ := HRb.out w2 hb2
      have HB2 := Lib.hid (HW2.out.trans (hb2.mono HW2.out.size))
      have HO2 := Lib.hid (own_base hown HW2.out.size)
      clear hown hb2
      go_wp2_with fail
      refine (HF.out _).mono ?_
      rintro e3 w3 ⟨rfl, rfl⟩
      go_wp2
      go_quiet (fail)
      go_wp2
      go_ret2
      refine ⟨⟨u, [UInt8.ofNat r.op] ++ putL (uw r.a) 2, by rw [HM2.out]; rfl, ?_, fun _ => HCb.out.symm⟩, HB2.out.drewN nq⟩
      have h := own_only HO2.out (Only.of_below (S := Empty) ((Below.refl w2.heap.size w2).drewN nq)) (fun _ _ _ h => h)
      rw [List.length_append, putL_len]
      exact h
    · have HN : Hid (mayF r = false) := Lib.hid (by rw [HM.out, decide_eq_false (fun h => h2 h.2)]; rfl)
      have hd1 : decide (r.a < 0) = false := by simp; omega
      have hd3 : decide (65535 < r.a) = true := by simp; omega
      clear ho hf HM h2
      go_enter Tryd.func26, Tryd.ntmps26
      go_wp2_with fail
      refine (HF.out _).mono ?_
      rintro e1 w1 ⟨rfl, rfl⟩
      go_wp2
      go_ret2
      exact ⟨⟨_, [], by rw [HN.out]; rfl, own_none _ _, fun h => by rw [HN.out] at h; cases h⟩, HW2.out⟩
  · have HN : Hid (mayF r = false) := Lib.hid (by rw [HM.out, decide_eq_false (fun h => h1 h.1)]; rfl)
    have hd1 : decide (r.a < 0) = true := by simp; omega
    clear ho hf HM h1
    go_enter Tryd.func26, Tryd.ntmps26
    go_wp2_with fail
    refine (HF.out _).mono ?_
    rintro e1 w1 ⟨rfl, rfl⟩
    go_wp2
    go_ret2
    exact ⟨⟨_, [], by rw [HN.out]; rfl, own_none _ _, fun h => by rw [HN.out] at h; cases h⟩, HW2.out⟩

set_option maxHeartbeats 4000000 in
theorem refOne_9 (r : RawD) (w : World) (ho : r.op < 256) (hf : formN r.op = 9) :
    Calls Tryd.prog 26 #[.agg #[.int .i64 r.pl, .int .u8 (r.op : Int), .int .i64 r.a, .int .i64 r.b]] w fun e w' => OneOk r w w' e := by
  have HF : Hid (∀ W, Calls Tryd.prog 9 #[.int .u8 (r.op : Int)] W fun e w' => e = .returned (.int .i64 9) ∧ W = w') := Lib.hid (fun W => by have := refForm_any r.op ho W; rw [hf] at this; exact this)
  have HM : Hid (mayF r = mayF' 9 r) := Lib.hid (by unfold mayF; rw [hf])
  have Ho := Lib.hid ho
  have HW2 : Hid (Below w.heap.size w ((w.alloc (.cells #[.int .i64 r.pl, .int .u8 (r.op : Int), .int .i64 r.a, .int .i64 r.b] 36)).alloc (.cells #[.int .u8 (r.op : Int)] 5))) := Lib.hid (((Below.refl _ _).alloc (Nat.le_refl _) _).alloc (by simp) _)
  rw [may_9] at HM
  by_cases hk : r.a = 8 ∨ r.a = 10
  · have HM2 : Hid (mayF r = (r.b == 0)) := Lib.hid (by rw [HM.out, decide_eq_true hk]; rw [Bool.eq_iff_iff]; simp)
    obtain ⟨av, hav⟩ : ∃ av, r.a = av := ⟨_, rfl⟩
    rw [hav] at hk ⊢
    rcases hk with rfl | rfl
    · have hu : IntKind.u64.wrap (8 : Int) = (uw (8 : Int) : Int) := uw_wrap _
      have hul := uw_le (8 : Int)
      have HPut : Hid (Calls Tryd.prog 28 #[.slice (some ⟨w.heap.size + 1, 0, none⟩) 1 1, .int .u64 (uw (8 : Int) : Int), .int .i64 1] ((w.alloc (.cells #[.int .i64 r.pl, .int .u8 (r.op : Int), .int .i64 (8 : Int), .int .i64 r.b] 36)).alloc (.cells #[.int .u8 (r.op : Int)] 5)) fun e w' => (∃ u, e = .returned u ∧ w'.ownsRow ((w.alloc (.cells #[.int .i64 r.pl, .int .u8 (r.op : Int), .int .i64 (8 : Int), .int .i64 r.b] 36)).alloc (.cells #[.int .u8 (r.op : Int)] 5)).heap.size 5 1 u (1 + 1) (([UInt8.ofNat r.op] ++ putL (uw (8 : Int)) 1).map B8)) ∧ Below ((w.alloc (.cells #[.int .i64 r.pl, .int .u8 (r.op : Int), .int .i64 (8 : Int), .int .i64 r.b] 36)).alloc (.cells #[.int .u8 (r.op : Int)] 5)).heap.size ((w.alloc (.cells #[.int .i64 r.pl, .int .u8 (r.op : Int), .int .i64 (8 : Int), .int .i64 r.b] 36)).alloc (.cells #[.int .u8 (r.op : Int)] 5)) w') := Lib.hid (by
        have h := lit1 (w.alloc (.cells #[.int .i64 r.pl, .int .u8 (r.op : Int), .int .i64 (8 : Int), .int .i64 r.b] 36)) r.op ho
        rw [show (w.alloc (.cells #[.int .i64 r.pl, .int .u8 (r.op : Int), .int .i64 (8 : Int), .int .i64 r.b] 36)).heap.size = w.heap.size + 1 by simp] at h
        exact refPut_yes _ 1 1 [UInt8.ofNat r.op] (uw (8 : Int)) 1 _ h (fun h => by cases h) hul (by omega) (by omega) (by omega))
      have HRb : Hid (∀ W, Below ((w.alloc (.cells #[.int .i64 r.pl, .int .u8 (r.op : Int), .int .i64 (8 : Int), .int .i64 r.b] 36)).alloc (.cells #[.int .u8 (r.op : Int)] 5)).heap.size ((w.alloc (.cells #[.int .i64 r.pl, .int .u8 (r.op : Int), .int .i64 (8 : Int), .int .i64 r.b] 36)).alloc (.cells #[.int .u8 (r.op : Int)] 5)) W → W.cell? ⟨w.heap.size, 1, none⟩ = some (.int .u8 (r.op : Int)) ∧ W.cell? ⟨w.heap.size, 3, none⟩ = some (.int .i64 r.b)) := Lib.hid (fun W h => by
        have hb := ((Blk.new w 36 #[.int .i64 r.pl, .int .u8 (r.op : Int), .int .i64 (8 : Int), .int .i64 r.b]).alloc (.cells #[.int .u8 (r.op : Int)] 5)).of (h.block w.heap.size (by simp; omega))
        exact ⟨hb.cell 1, hb.cell 3⟩)
      have HCb : Hid (codeB r = [UInt8.ofNat r.op] ++ putL (uw (8 : Int)) 1) := Lib.hid (by unfold codeB codeB'; rw [hf]; show UInt8.ofNat r.op :: (putL (uw r.a) 1 ++ putL (uw r.b) 0) = _; rw [putL0, hav]; simp)
      have HW2 : Hid (Below w.heap.size w ((w.alloc (.cells #[.int .i64 r.pl, .int .u8 (r.op : Int), .int .i64 (8 : Int), .int .i64 r.b] 36)).alloc (.cells #[.int .u8 (r.op : Int)] 5))) := Lib.hid (((Below.refl _ _).alloc (Nat.le_refl _) _).alloc (by simp) _)
      clear ho hf HM hav
      go_enter Tryd.func26, Tryd.ntmps26
      go_wp2_with fail
      refine (HF.out _).mono ?_
      rintro e1 w1 ⟨rfl, rfl⟩
      go_wp2_with fail
      refine HPut.out.mono ?_
      rintro e2 w2 ⟨⟨u, rfl, hown⟩, hb2⟩
      obtain ⟨k1, k3⟩ := HRb.out w2 hb2
      have HB2 := Lib.hid (HW2.out.trans (hb2.mono HW2.out.size))
      have HO2 := Lib.hid (own_base hown HW2.out.size)
      clear hown hb2
      go_wp2_with fail
      refine (HF.out _).mono ?_
      rintro e3 w3 ⟨rfl, rfl⟩
      go_wp2
      go_quiet (fail)
      go_wp2
      go_ret2
      refine ⟨⟨u, [UInt8.ofNat r.op] ++ putL (uw (8 : Int)) 1, by rw [HM2.out]; rfl, ?_, fun _ => HCb.out.symm⟩, HB2.out.drewN nq⟩
      have h := own_only HO2.out (Only.of_below (S := Empty) ((Below.refl w2.heap.size w2).drewN nq)) (fun _ _ _ h => h)
      rw [List.length_append, putL_len]
      exact h
    · have hu : IntKind.u64.wrap (10 : Int) = (uw (10 : Int) : Int) := uw_wrap _
      have hul := uw_le (10 : Int)
      have HPut : Hid (Calls Tryd.prog 28 #[.slice (some ⟨w.heap.size + 1, 0, none⟩) 1 1, .int .u64 (uw (10 : Int) : Int), .int .i64 1] ((w.alloc (.cells #[.int .i64 r.pl, .int .u8 (r.op : Int), .int .i64 (10 : Int), .int .i64 r.b] 36)).alloc (.cells #[.int .u8 (r.op : Int)] 5)) fun e w' => (∃ u, e = .returned u ∧ w'.ownsRow ((w.alloc (.cells #[.int .i64 r.pl, .int .u8 (r.op : Int), .int .i64 (10 : Int), .int .i64 r.b] 36)).alloc (.cells #[.int .u8 (r.op : Int)] 5)).heap.size 5 1 u (1 + 1) (([UInt8.ofNat r.op] ++ putL (uw (10 : Int)) 1).map B8)) ∧ Below ((w.alloc (.cells #[.int .i64 r.pl, .int .u8 (r.op : Int), .int .i64 (10 : Int), .int .i64 r.b] 36)).alloc (.cells #[.int .u8 (r.op : Int)] 5)).heap.size ((w.alloc (.cells #[.int .i64 r.pl, .int .u8 (r.op : Int), .int .i64 (10 : Int), .int .i64 r.b] 36)).alloc (.cells #[.int .u8 (r.op : Int)] 5)) w') := Lib.hid (by
        have h := lit1 (w.alloc (.cells #[.int .i64 r.pl, .int .u8 (r.op : Int), .int .i64 (10 : Int), .int .i64 r.b] 36)) r.op ho
        rw [show (w.alloc (.cells #[.int .i64 r.pl, .int .u8 (r.op : Int), .int .i64 (10 : Int), .int .i64 r.b] 36)).heap.size = w.heap.size + 1 by simp] at h
        exact refPut_yes _ 1 1 [UInt8.ofNat r.op] (uw (10 : Int)) 1 _ h (fun h => by cases h) hul (by omega) (by omega) (by omega))
      have HRb : Hid (∀ W, Below ((w.alloc (.cells #[.int .i64 r.pl, .int .u8 (r.op : Int), .int .i64 (10 : Int), .int .i64 r.b] 36)).alloc (.cells #[.int .u8 (r.op : Int)] 5)).heap.size ((w.alloc (.cells #[.int .i64 r.pl, .int .u8 (r.op : Int), .int .i64 (10 : Int), .int .i64 r.b] 36)).alloc (.cells #[.int .u8 (r.op : Int)] 5)) W → W.cell? ⟨w.heap.size, 1, none⟩ = some (.int .u8 (r.op : Int)) ∧ W.cell? ⟨w.heap.size, 3, none⟩ = some (.int .i64 r.b)) := Lib.hid (fun W h => by
        have hb := ((Blk.new w 36 #[.int .i64 r.pl, .int .u8 (r.op : Int), .int .i64 (10 : Int), .int .i64 r.b]).alloc (.cells #[.int .u8 (r.op : Int)] 5)).of (h.block w.heap.size (by simp; omega))
        exact ⟨hb.cell 1, hb.cell 3⟩)
      have HCb : Hid (codeB r = [UInt8.ofNat r.op] ++ putL (uw (10 : Int)) 1) := Lib.hid (by unfold codeB codeB'; rw [hf]; show UInt8.ofNat r.op :: (putL (uw r.a) 1 ++ putL (uw r.b) 0) = _; rw [putL0, hav]; simp)
      have HW2 : Hid (Below w.heap.size w ((w.alloc (.cells #[.int .i64 r.pl, .int .u8 (r.op : Int), .int .i64 (10 : Int), .int .i64 r.b] 36)).alloc (.cells #[.int .u8 (r.op : Int)] 5))) := Lib.hid (((Below.refl _ _).alloc (Nat.le_refl _) _).alloc (by simp) _)
      clear ho hf HM hav
      go_enter Tryd.func26, Tryd.ntmps26
      go_wp2_with fail
      refine (HF.out _).mono ?_
      rintro e1 w1 ⟨rfl, rfl⟩
      go_wp2_with fail
      refine HPut.out.mono ?_
      rintro e2 w2 ⟨⟨u, rfl, hown⟩, hb2⟩
      obtain ⟨k1, k3⟩ := HRb.out w2 hb2
      have HB2 := Lib.hid (HW2.out.trans (hb2.mono HW2.out.size))
      have HO2 := Lib.hid (own_base hown HW2.out.size)
      clear hown hb2
      go_wp2_with fail
      refine (HF.out _).mono ?_
      rintro e3 w3 ⟨rfl, rfl⟩
      go_wp2
      go_quiet (fail)
      go_wp2
      go_ret2
      refine ⟨⟨u, [UInt8.ofNat r.op] ++ putL (uw (10 : Int)) 1, by rw [HM2.out]; rfl, ?_, fun _ => HCb.out.symm⟩, HB2.out.drewN nq⟩
      have h := own_only HO2.out (Only.of_below (S := Empty) ((Below.refl w2.heap.size w2).drewN nq)) (fun _ _ _ h => h)
      rw [List.length_append, putL_len]
      exact h
  · have HN : Hid (mayF r = false) := Lib.hid (by rw [HM.out, decide_eq_false hk]; rfl)
    have hq1 : (r.a == 8) = false := by simp; omega
    have hq2 : (r.a == 10) = false := by simp; omega
    have hq3 : (r.a != 8) = true := by simp; omega
    have hq4 : (r.a != 10) = true := by simp; omega
    clear ho hf HM hk
    go_enter Tryd.func26, Tryd.ntmps26
    go_wp2_with fail
    refine (HF.out _).mono ?_
    rintro e1 w1 ⟨rfl, rfl⟩
    go_wp2
    go_ret2
    exact ⟨⟨_, [], by rw [HN.out]; rfl, own_none _ _, fun h => by rw [HN.out] at h; cases h⟩, HW2.out⟩

end Go.Proofs.YtcpcjcbeeeoabaaDoor
