/- ops.Form, ops.Len; the document's Same where rows are the same; the law's fixed (layer 13). -/
import Derived.Test.YtcpcjcbeeeoabaaDoorEs
namespace Go.Proofs.YtcpcjcbeeeoabaaDoor
set_option maxRecDepth 100000
open Go.RowKit

set_option maxHeartbeats 1000000 in
theorem oForm_any (x : Nat) (hx : x < 256) (w : World) (hT : Tables w) : Calls Tryd.prog 8 #[.int .u8 (x : Int)] w fun e w' => e = .returned (.int .i64 (formN x : Int)) ∧ Below w.heap.size w w' := by
  have HA : Hid (Calls Tryd.prog 17 #[] w fun e w' => e = .returned (.agg (cellsB formsL)) ∧ Below w.heap.size w w') := Lib.hid (all_any w hT)
  have hz := zero_forms
  have hf9 := formN_le x
  clear hT
  go_enter Tryd.func8, Tryd.ntmps8
  go_wp2_with fail
  refine HA.out.mono ?_
  rintro e1 w1 ⟨rfl, hb1⟩
  have HW1 := Lib.hid hb1
  have hc : ((w1.alloc (.cells (cellsB (fillL 0)) 38)).setRow w1.heap.size (cellsB formsL)).cell? ⟨w1.heap.size, x, none⟩ = some (.int .u8 (formN x : Int)) := FormsAt.cell (withForms_at w1) x hx
  obtain ⟨f, hf⟩ : ∃ f, f = formN x := ⟨_, rfl⟩
  rw [← hf] at hc hf9
  have Hf := Lib.hid hf
  clear hb1 hf
  go_wp2_with (refine wpList_store_row rfl _ _ _ rfl w1.heap.size (cellsB formsL) rfl rfl 38 (cellsB (fillL 0)) (Blk.new _ _ _) sizeForms fill_size forms_one ?_)
  go_ret
  exact ⟨by rw [← Hf.out]; rfl, HW1.out.trans ((withForms_below w1).mono HW1.out.size)⟩

set_option maxHeartbeats 1000000 in
theorem oLen_any (x : Nat) (hx : x < 256) (w : World) (hT : Tables w) : Calls Tryd.prog 10 #[.int .u8 (x : Int)] w fun e w' => e = .returned (.int .i64 (lenN x : Int)) ∧ Below w.heap.size w w' := by
  have HA : Hid (Calls Tryd.prog 17 #[] w fun e w' => e = .returned (.agg (cellsB formsL)) ∧ Below w.heap.size w w') := Lib.hid (all_any w hT)
  have HS : Hid (∀ W g, Below w.heap.size w W → FormsAt W g → Calls Tryd.prog 18 #[.pointer (some ⟨g, 0, none⟩), .int .u8 (x : Int)] W fun e w' => e = .returned (.int .i64 (lenN x : Int)) ∧ Below W.heap.size W w') :=
    Lib.hid (fun W g h hF => size_any g x hx W (hT.below h) hF)
  have hz := zero_forms
  clear hT
  go_enter Tryd.func10, Tryd.ntmps10
  go_wp2_with fail
  refine HA.out.mono ?_
  rintro e1 w1 ⟨rfl, hb1⟩
  have HW2 : Hid (Below w.heap.size w ((w1.alloc (.cells (cellsB (fillL 0)) 38)).setRow w1.heap.size (cellsB formsL))) := Lib.hid (hb1.trans ((withForms_below w1).mono hb1.size))
  clear hb1
  go_wp2_with (refine wpList_store_row rfl _ _ _ rfl w1.heap.size (cellsB formsL) rfl rfl 38 (cellsB (fillL 0)) (Blk.new _ _ _) sizeForms fill_size forms_one ?_)
  refine (HS.out _ _ HW2.out (withForms_at w1)).mono ?_
  rintro e2 w2 ⟨rfl, hb2⟩
  have HW3 := Lib.hid (HW2.out.trans (hb2.mono HW2.out.size))
  clear hb2 hz
  go_wp2
  go_ret
  exact ⟨rfl, HW3.out⟩

/-! ### Same -/
theorem eq_raw (c : RawD) (W : World) : (binOp .eql 36 (.agg #[.int .i64 c.pl, .int .u8 (c.op : Int), .int .i64 c.a, .int .i64 c.b]) (.agg #[.int .i64 c.pl, .int .u8 (c.op : Int), .int .i64 c.a, .int .i64 c.b])).run Tryd.prog W = .ok (.bool true) W := by
  rw [run_eql_struct]
  simp [go_sem, Tryd.underlying36]
theorem neq_raw (c : RawD) (W : World) : (binOp .neq 36 (.agg #[.int .i64 c.pl, .int .u8 (c.op : Int), .int .i64 c.a, .int .i64 c.b]) (.agg #[.int .i64 c.pl, .int .u8 (c.op : Int), .int .i64 c.a, .int .i64 c.b])).run Tryd.prog W = .ok (.bool false) W := by
  simp [go_sem, Tryd.underlying36, run_eql_struct]

set_option maxHeartbeats 1000000 in
theorem refSame_yes (A A' : Option Addr) (n cap cap' : Nat) (l : List RawD) (w : World) (hL : RawSl w A n cap l) (hL' : RawSl w A' n cap' l) (hn : n ≤ 1048576) :
    Calls Tryd.prog 14 #[.slice A n cap, .slice A' n cap'] w fun e w' => e = .returned (.bool true) ∧ ∃ q, w' = w.drewN q := by
  have h1 := hL.2.1
  have h2 := hL'.2.1
  have h3 := hL.2.2.1
  have h4 := hL'.2.2.1
  unfold maxLen at h3 h4
  have HL := Lib.hid hL
  have HL' := Lib.hid hL'
  clear hL hL'
  go_enter Tryd.func14, Tryd.ntmps14
  go_wp2
  go_loopw [13] (fun i wr => ∃ k q : Nat, k ≤ n ∧ i = .int .i64 (k : Int) ∧ wr = w.drewN q) (fun i _ => n - (intOf i).toNat)
  case atStart => exact ⟨0, 0, by omega, rfl, rfl⟩
  case round =>
    obtain ⟨k, q, hk, rfl, rfl⟩ := hrel
    by_cases hlt : k < n
    · obtain ⟨b, o, r, rfl, hr, hb, c0, c1, c2, c3⟩ := raw_at HL.out hlt
      obtain ⟨b', o', r', rfl, hr', hb', d0, d1, d2, d3⟩ := raw_at HL'.out hlt
      obtain rfl : r = r' := by rw [hr] at hr'; exact Option.some.inj hr'
      have hE := neq_raw r
      clear hr hr'
      go_wp2
      go_quiet (fail)
      go_wp2
      go_roundw
      case rel => exact ⟨k + 1, _, by omega, by go_num, rfl⟩
      case measure => simp [intOf]; omega
    · obtain rfl : k = n := by omega
      go_wp2
      go_ret
      exact ⟨rfl, q, rfl⟩

end Go.Proofs.YtcpcjcbeeeoabaaDoor
