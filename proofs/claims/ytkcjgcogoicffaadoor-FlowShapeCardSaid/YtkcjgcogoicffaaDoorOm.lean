/- The walk over FlowShape; printed by gen/gen_om.py. -/
import Derived.Test.YtkcjgcogoicffaaDoorOl
namespace Go.Proofs.YtkcjgcogoicffaaDoor
set_option maxRecDepth 100000
open Go.RowKit

/-- Where the law's two loops stand. -/
def RelS (nc : Nat) (V : World) (i : Value) (wr : World) : Prop := ∃ k : Nat, k ≤ nc ∧ i = .int .i64 (k : Int) ∧ Below V.heap.size V wr
set_option maxHeartbeats 4000000 in
theorem flowShape_calls (m : MeD) (Ac : Option Addr) (nc cc : Nat) (At : Option Addr) (nt ct : Nat) (Ap : Option Addr) (np cp : Nat) (w : World) (h : MeAt w m Ac nc cc At nt ct Ap np cp) (hB : meB m) (hT : Spans w) :
    Calls Tryd.prog 3 #[.agg #[.bool m.static, .string (strB m.name), .string (strB m.desc), .int .i64 m.stack, .int .i64 m.locals, .slice Ac nc cc, .slice At nt ct, .slice Ap np cp]] w fun e w' => e = .returned (.bool true) ∧ Below w.heap.size w w' := by
  have h1 := h
  obtain ⟨hco, htr, hma⟩ := h
  obtain ⟨W1, hW1⟩ : ∃ W1, w.alloc (.cells #[.bool m.static, .string (strB m.name), .string (strB m.desc), .int .i64 m.stack, .int .i64 m.locals, .slice Ac nc cc, .slice At nt ct, .slice Ap np cp] 26) = W1 := ⟨_, rfl⟩
  have hbb : Below w.heap.size w W1 := by rw [← hW1]; exact (Below.refl _ _).alloc (Nat.le_refl _) _
  have k0 : Blk W1 w.heap.size 26 #[.bool m.static, .string (strB m.name), .string (strB m.desc), .int .i64 m.stack, .int .i64 m.locals, .slice Ac nc cc, .slice At nt ct, .slice Ap np cp] := by rw [← hW1]; exact Blk.new w _ _
  have hsz : w.heap.size < W1.heap.size := k0.lt
  have K1 : Hid (∀ W : World, Below W1.heap.size W1 W → W.cell? ⟨w.heap.size, 0, none⟩ = some (.bool m.static) ∧ W.cell? ⟨w.heap.size, 1, none⟩ = some (.string (strB m.name)) ∧ W.cell? ⟨w.heap.size, 2, none⟩ = some (.string (strB m.desc)) ∧ W.cell? ⟨w.heap.size, 3, none⟩ = some (.int .i64 m.stack) ∧ W.cell? ⟨w.heap.size, 4, none⟩ = some (.int .i64 m.locals) ∧ W.cell? ⟨w.heap.size, 5, none⟩ = some (.slice Ac nc cc) ∧ W.cell? ⟨w.heap.size, 6, none⟩ = some (.slice At nt ct) ∧ W.cell? ⟨w.heap.size, 7, none⟩ = some (.slice Ap np cp)) := Lib.hid (fun W h => ⟨(k0.of (h.block _ hsz)).cell 0, (k0.of (h.block _ hsz)).cell 1, (k0.of (h.block _ hsz)).cell 2, (k0.of (h.block _ hsz)).cell 3, (k0.of (h.block _ hsz)).cell 4, (k0.of (h.block _ hsz)).cell 5, (k0.of (h.block _ hsz)).cell 6, (k0.of (h.block _ hsz)).cell 7⟩)
  have HCO := Lib.hid (hco.below hbb)
  have HTR := Lib.hid (htr.below hbb)
  have HMA := Lib.hid (hma.below hbb)
  have HT := Lib.hid (hT.below hbb)
  have HBB := Lib.hid hbb
  have HW1 := Lib.hid hW1
  have hnc := hco.2.1
  have hcc := hco.2.2.1
  have hnt := htr.2.1
  have hct := htr.2.2.1
  have hnp := hma.2.1
  have hcp := hma.2.2.1
  unfold maxLen at hcc hct hcp
  have HLC := Lib.hid hco.1
  have HM := Lib.hid (h1.below hbb)
  have C0 := Lib.hid (fixed18_any W1 (hT.below hbb))
  have CF := Lib.hid (fun (W : World) (q : Below W1.heap.size W1 W) => l18few_any m Ac nc cc At nt ct Ap np cp W (HM.out.below q) hB)
  obtain ⟨p0, p1, p2, p3, p4, p5, p6, p7⟩ := K1.out _ (Below.refl _ _)
  clear hco htr hma hT hbb k0 hW1 h1
  go_enter Tryd.func3, Tryd.ntmps3
  go_wp2_with fail
  rw [HW1.out]
  go_wp2_with fail
  refine C0.out.mono ?_
  rintro e w2 ⟨rfl, hb⟩
  have HB2 := Lib.hid hb
  obtain ⟨q0, q1, q2, q3, q4, q5, q6, q7⟩ := K1.out _ hb
  clear p0 p1 p2 p3 p4 p5 p6 p7 hb
  go_wp2_with fail
  refine (CF.out _ HB2.out).mono ?_
  rintro e w3 ⟨⟨b, rfl, hfew⟩, hb⟩
  have HB3 := Lib.hid (HB2.out.trans (hb.mono HB2.out.size))
  clear q0 q1 q2 q3 q4 q5 q6 q7 hb
  cases b with
  | false =>
    clear hfew
    go_wp2
    go_ret
    exact ⟨rfl, HBB.out.trans (HB3.out.mono HBB.out.size)⟩
  | true =>
    obtain ⟨hn200, hn30, hdl, hms⟩ := hfew rfl
    have HMS := Lib.hid hms
    have CC := Lib.hid (fun (W : World) (q : Below W1.heap.size W1 W) => flCheck_any m Ac nc cc At nt ct Ap np cp W (HM.out.below q) hdl (by omega) (HT.out.below q))
    have CN := Lib.hid (fun (W : World) (q : Below W1.heap.size W1 W) (a : Int) (ha : -9223372036854775808 ≤ a ∧ a ≤ 9223372036854775807) => flNexts_any m Ac nc cc At nt ct Ap np cp a W (HM.out.below q) (HT.out.below q) ha)
    have CA := Lib.hid (fun (W : World) (q : Below W1.heap.size W1 W) (a : Int) => flMapAt_any m Ac nc cc At nt ct Ap np cp a W (HM.out.below q) (HT.out.below q) HMS.out)
    have CE := Lib.hid (fun (o : UInt8) (W : World) => flEnds_any o W)
    obtain ⟨q0, q1, q2, q3, q4, q5, q6, q7⟩ := K1.out _ HB3.out
    clear hfew hms CF hdl
    by_cases hck : checkF m = 0
    · have HSH := Lib.hid (fun (i : Nat) (x : InD) (hx : m.code[i]? = some x) => shape_at hck hx)
      have HCK := Lib.hid hck
      clear hck
      go_wp2_with fail
      refine (CC.out _ HB3.out).mono ?_
      rintro e w4 ⟨rfl, hb⟩
      rw [HCK.out]
      have HB4 := Lib.hid (HB3.out.trans (hb.mono HB3.out.size))
      obtain ⟨r0, r1, r2, r3, r4, r5, r6, r7⟩ := K1.out _ HB4.out
      have HREL : Hid (RelS nc W1 (.int .i64 0) w4) := Lib.hid ⟨0, Nat.zero_le _, rfl, HB4.out⟩
      clear q0 q1 q2 q3 q4 q5 q6 q7 hb CC
      go_wp2_with fail
      clear r0 r1 r2 r3 r4 r5 r6 r7
      go_loopw [23] (fun i wr => RelS nc W1 i wr) (fun i _ => nc - (intOf i).toNat)
      case atStart => exact HREL.out
      case round =>
        clear HREL
        obtain ⟨k, hk, rfl, hBw⟩ := hrel
        have HBw := Lib.hid hBw
        by_cases hlt : k < nc
        · obtain ⟨b, o, x, rfl, hb, hx, d0, d1, d2, d3, d4, d5, d6⟩ := inRow_at (HCO.out.below hBw) hlt
          have HSX := Lib.hid (HSH.out k x hx)
          obtain ⟨W5, hW5⟩ : ∃ W5, wr.alloc (.cells (inA x) 32) = W5 := ⟨_, rfl⟩
          have hal : Below wr.heap.size wr W5 := by rw [← hW5]; exact (Below.refl _ _).alloc (Nat.le_refl _) _
          have kx : Blk W5 wr.heap.size 32 (inA x) := by rw [← hW5]; exact Blk.new _ _ _
          have HW5 := Lib.hid hW5
          unfold inA at HW5
          have HB5 := Lib.hid (hBw.trans (hal.mono hBw.size))
          have KX : Hid (∀ W, Below W5.heap.size W5 W → W.cell? ⟨wr.heap.size, 0, none⟩ = some (.int .u8 (x.op.toNat : Int))) := Lib.hid (fun W q => (kx.of (q.block _ kx.lt)).cell 0)
          obtain ⟨r0, r1, r2, r3, r4, r5, r6, r7⟩ := K1.out _ HB5.out
          have CNk := Lib.hid (CN.out W5 HB5.out (k : Int) (by omega))
          rw [← HW5.out] at r0 r1 r2 r3 r4 r5 r6 r7
          clear hx hW5 hal kx hBw
          go_wp2_with fail
          rw [HW5.out]
          clear d0 d1 d2 d3 d4 d5 d6
          refine CNk.out.mono ?_
          rintro e w6 ⟨⟨A6, n6, c6, rfl, hR6⟩, hb6⟩
          have HR6 := Lib.hid hR6
          have HB6 := Lib.hid (HB5.out.trans (hb6.mono HB5.out.size))
          have t0 := KX.out _ hb6
          have hc6 := hR6.2.1
          have hm6 := hR6.2.2.1
          unfold maxLen at hm6
          have HL6 := Lib.hid hR6.1
          have CEx := Lib.hid (CE.out x.op)
          have HREL2 : Hid (RelS n6 w6 (.int .i64 0) w6) := Lib.hid ⟨0, Nat.zero_le _, rfl, Below.refl _ _⟩
          clear r0 r1 r2 r3 r4 r5 r6 r7 hb6 hR6 CNk
          rcases Nat.eq_zero_or_pos n6 with h0 | h0
          · subst h0
            have HE : Hid (endsB x.op = true) := Lib.hid (HSX.out.1 (List.eq_nil_of_length_eq_zero HL6.out))
            rw [HE.out] at CEx
            go_wp2_with fail
            refine (CEx.out _).mono ?_
            rintro e w7 ⟨rfl, rfl⟩
            go_wp2_with fail
            go_loopw [42] (fun i wr => RelS 0 w6 i wr) (fun i _ => 0 - (intOf i).toNat)
            case atStart => exact HREL2.out
            case round =>
              obtain ⟨j, hj, rfl, hBv⟩ := hrel
              obtain rfl : j = 0 := by omega
              have HB7 := Lib.hid (HB6.out.trans (hBv.mono HB6.out.size))
              clear hBv
              go_wp2
              go_roundw
              case rel => exact ⟨k + 1, hlt, by simp, HB7.out⟩
              case measure => simp [intOf]; omega
          · go_wp2_with fail
            go_loopw [42] (fun i wr => RelS n6 w6 i wr) (fun i _ => n6 - (intOf i).toNat)
            case atStart => exact HREL2.out
            case round =>
              clear HREL2
              obtain ⟨j, hj, rfl, hBv⟩ := hrel
              have HBv := Lib.hid hBv
              have HB7 := Lib.hid (HB6.out.trans (hBv.mono HB6.out.size))
              by_cases hlt2 : j < n6
              · obtain ⟨b2, o2, y, rfl, hb2, _, hy, hcy⟩ := (HR6.out.below hBv).at_ hlt2
                have c0 : wr.cell? ⟨b2, o2 + j, none⟩ = some (.int .i64 y) := by have := hcy 0 (by decide); simpa [iC] using this
                have HY := Lib.hid (HSX.out.2 y (List.mem_of_getElem? hy))
                obtain ⟨r0, r1, r2, r3, r4, r5, r6, r7⟩ := K1.out _ HB7.out
                have CAy := Lib.hid (CA.out wr HB7.out y)
                clear hcy hy hBv
                go_wp2_with fail
                refine CAy.out.mono ?_
                rintro e w8 ⟨hD, hb8⟩
                have HB8 := Lib.hid (HB7.out.trans (hb8.mono HB7.out.size))
                have HBv8 := Lib.hid (HBv.out.trans (hb8.mono HBv.out.size))
                obtain ⟨s0, s1, s2, s3, s4, s5, s6, s7⟩ := K1.out _ HB8.out
                have hgl8 := cell_lt s0
                clear r0 r1 r2 r3 r4 r5 r6 r7 hb8 c0
                obtain ⟨y1, y2, y3⟩ := HY.out
                rw [HLC.out] at y2
                unfold MapD at hD
                cases hm : mapAtF m y with
                | none =>
                  rw [hm] at hD y3
                  have hy3 : y = (k : Int) + 1 := by simpa using y3
                  subst hD
                  subst hy3
                  clear y3 hm
                  have HBE : Hid (Below w6.heap.size w6 (w8.alloc (.cells #[.int .i64 0, .slice none 0 0, .slice none 0 0] 38))) := Lib.hid (HBv8.out.alloc HBv8.out.size _)
                  go_wp2
                  go_roundw
                  case rel => exact ⟨j + 1, hlt2, by simp, HBE.out⟩
                  case measure => simp [intOf]; omega
                | some z =>
                  rw [hm] at hD
                  obtain ⟨A1, n1, c1, A2, n2, c2, rfl, -, -⟩ := hD
                  clear y3 hm
                  by_cases hy3 : y = (k : Int) + 1
                  · subst hy3
                    have HBE : Hid (Below w6.heap.size w6 (w8.alloc (.cells #[.int .i64 ((k : Int) + 1), .slice A1 n1 c1, .slice A2 n2 c2] 38))) := Lib.hid (HBv8.out.alloc HBv8.out.size _)
                    go_wp2
                    go_roundw
                    case rel => exact ⟨j + 1, hlt2, by simp, HBE.out⟩
                    case measure => simp [intOf]; omega
                  · have hy4 : (y != (k : Int) + 1) = true := by simpa using hy3
                    have HBE : Hid (Below w6.heap.size w6 (w8.alloc (.cells #[.int .i64 y, .slice A1 n1 c1, .slice A2 n2 c2] 38))) := Lib.hid (HBv8.out.alloc HBv8.out.size _)
                    go_wp2
                    go_roundw
                    case rel => exact ⟨j + 1, hlt2, by simp, HBE.out⟩
                    case measure => simp [intOf]; omega
              · clear hBv
                go_wp2
                go_roundw
                case rel => exact ⟨k + 1, hlt, by simp, HB7.out⟩
                case measure => simp [intOf]; omega
        · go_wp2
          go_ret
          exact ⟨rfl, HBB.out.trans (HBw.out.mono HBB.out.size)⟩
    · have HCK := Lib.hid hck
      obtain ⟨cv, hcv⟩ : ∃ cv, checkF m = cv := ⟨_, rfl⟩
      rw [hcv] at hck
      have hck2 : (cv == 0) = false := by simpa using hck
      have HCV := Lib.hid hcv
      clear hcv
      go_wp2_with fail
      refine (CC.out _ HB3.out).mono ?_
      rintro e w4 ⟨rfl, hb⟩
      rw [HCV.out]
      have HB4 := Lib.hid (HB3.out.trans (hb.mono HB3.out.size))
      clear q0 q1 q2 q3 q4 q5 q6 q7 hb CC
      go_wp2
      go_ret
      exact ⟨rfl, HBB.out.trans (HB4.out.mono HBB.out.size)⟩

end Go.Proofs.YtkcjgcogoicffaaDoor
