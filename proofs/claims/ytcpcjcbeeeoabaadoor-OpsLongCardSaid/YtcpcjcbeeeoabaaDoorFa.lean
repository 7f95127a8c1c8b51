/- The walk of OpsLong. -/
import Derived.Test.YtcpcjcbeeeoabaaDoorEx
namespace Go.Proofs.YtcpcjcbeeeoabaaDoor
set_option maxRecDepth 100000
open Go.RowKit

/-- Instructions that do nothing, one behind the other. -/
def nops (k : Nat) : List RawD := (List.range k).map fun i : Nat => ⟨(i : Int), 0, 0, 0⟩
theorem nops_len (k : Nat) : (nops k).length = k := by simp [nops]
theorem nops_next (k : Nat) : nops (k + 1) = nops k ++ [⟨(k : Int), 0, 0, 0⟩] := by simp [nops, List.range_succ]
theorem nops_form : formN 0 = 1 := by kernel_rfl
theorem nops_may (i : Int) : mayF ⟨i, 0, 0, 0⟩ = true := by
  unfold mayF
  show mayF' (formN 0) _ = true
  rw [nops_form, may_1]
  rfl
theorem nops_meas : ∀ (k m : Nat) (t : List RawD), measF 0 (nops k ++ t) = measF k t
  | 0, _, t => rfl
  | k + 1, m, t => by
    rw [nops_next, List.append_assoc, nops_meas k m]
    show measF k (⟨(k : Int), 0, 0, 0⟩ :: t) = _
    conv => lhs; unfold measF
    rw [if_pos ⟨rfl, nops_may _⟩]
    rfl
theorem nops_meet (k : Nat) : meetF (nops k) = true := by
  unfold meetF
  rw [List.all_eq_true]
  intro r hr
  simp [nops] at hr
  obtain ⟨i, _, rfl⟩ := hr
  unfold meetR
  show (!(formN 0 == 7) || _) = true
  rw [nops_form]
  rfl
theorem nops_ok (k : Nat) (hk : k ≤ 5000) : ∀ r ∈ nops k, r.ok := by
  intro r hr
  simp [nops] at hr
  obtain ⟨i, hi, rfl⟩ := hr
  exact ⟨by show -9223372036854775808 ≤ (i : Int) ∧ (i : Int) ≤ 9223372036854775807; omega, by show 0 < 256; omega, by show -9223372036854775808 ≤ (0 : Int) ∧ (0 : Int) ≤ 9223372036854775807; omega, by show -9223372036854775808 ≤ (0 : Int) ∧ (0 : Int) ≤ 9223372036854775807; omega⟩
theorem nops_code : ∀ k, codesB (nops k) = List.replicate k 0
  | 0 => rfl
  | k + 1 => by
    have h : codeB ⟨(k : Int), 0, 0, 0⟩ = [0] := by
      unfold codeB
      show codeB' (formN 0) _ = _
      rw [nops_form]
      rfl
    rw [nops_next]
    unfold codesB
    rw [List.flatMap_append, List.replicate_succ']
    have := nops_code k
    unfold codesB at this
    rw [this]
    simp [h]
theorem nops_enc (k : Nat) (h : k ≤ 4096) : Enc (nops k) 0 (List.replicate k 0) := by
  have hm : measF 0 (nops k) = some k := by
    have := nops_meas k 0 []
    rw [List.append_nil] at this
    rw [this]
    rfl
  have := Enc.ok hm (nops_meet k) h
  rwa [nops_code] at this
theorem nops_long (k : Nat) (h : 4096 < k) : Enc (nops k) 9 [] := by
  have hm : measF 0 (nops k) = some k := by
    have := nops_meas k 0 []
    rw [List.append_nil] at this
    rw [this]
    rfl
  exact Enc.long hm (nops_meet k) h
theorem zeros_dec (k : Nat) (h : k ≤ 4096) : Dec (List.replicate k 0) 0 (nops k) := enc_dec (fun r hr => (nops_ok k (by omega) r hr).op) (nops_enc k h)
theorem zeros_long (k : Nat) (h : 4096 < k) : Dec (List.replicate k 0) 9 [] := .long (by simpa using h)

set_option maxHeartbeats 4000000 in
theorem opsLong_calls (x : Nat) (hx : x < 256) (w : World) (hT : Tables w) : Calls Tryd.prog 6 #[.int .u8 (x : Int)] w fun e w' => e = .returned (.bool true) ∧ Below w.heap.size w w' := by
  have HFx : Hid (Calls Tryd.prog 7 #[] w fun e w' => e = .returned (.bool true) ∧ Below w.heap.size w w') := Lib.hid (fixed13_any w hT)
  obtain ⟨n, hn⟩ : ∃ n : Nat, n = 4093 + x % 7 := ⟨_, rfl⟩
  have hni : 4093 + (x : Int) % 7 = (n : Int) := by omega
  have hn1 : n ≤ 4099 := by omega
  have hn2 : 4093 ≤ n := by omega
  have hx2 : (x : Int) ≤ 255 := by omega
  have HT := Lib.hid hT
  clear hT hn
  go_enter Tryd.func6, Tryd.ntmps6
  go_wp2_with fail
  refine HFx.out.mono ?_
  rintro e1 w1 ⟨rfl, hb1⟩
  have HW1 := Lib.hid hb1
  clear hb1
  go_wp2
  go_loopw [4, 17] (fun b i wr => ∃ (k c : Nat) (B : Option Addr), k ≤ n ∧ b = .slice B k c ∧ i = .int .i64 (k : Int) ∧ Hid (GotR RawD.cells 4 36 w.heap.size wr B k c (nops k)) ∧ Hid (Below w.heap.size w wr)) (fun _ i _ => n - (intOf i).toNat)
  case atStart => exact ⟨0, 0, none, by omega, rfl, rfl, Lib.hid (GotR.nil_ _ _ _ _ _), HW1⟩
  case round =>
    obtain ⟨k, c, B, hk, rfl, rfl, HG, HW⟩ := hrel
    have hmc : k ≤ c := HG.out.row.2.1
    have hcx : c ≤ 9223372036854775807 := by have := HG.out.row.2.2.1; unfold maxLen at this; exact this
    by_cases hlt : k < n
    · have HW2 : Hid (Below w.heap.size w (wr.alloc (.cells #[.int .i64 (k : Int), .int .u8 0, .int .i64 0, .int .i64 0] 36))) := Lib.hid (HW.out.alloc HW.out.size _)
      have HG2 := Lib.hid (HG.out.alloc RawD.cells_len (.cells #[.int .i64 (k : Int), .int .u8 0, .int .i64 0, .int .i64 0] 36))
      have HX : Hid (RawSl (wr.alloc (.cells #[.int .i64 (k : Int), .int .u8 0, .int .i64 0, .int .i64 0] 36)) (some ⟨wr.heap.size, 0, none⟩) 1 1 [⟨(k : Int), 0, 0, 0⟩]) := Lib.hid (raw_lit ⟨(k : Int), 0, 0, 0⟩ wr)
      go_wp2_with (at_builtin; refine wpList_append_raw rfl (.tmp 20) (.tmp 23) rfl w.heap.size B k c (nops k) rfl HG2.out (some ⟨wr.heap.size, 0, none⟩) 1 1 [⟨(k : Int), 0, 0, 0⟩] rfl HX.out (fun h => by cases h) (by omega) HW2.out.size ?_; intro B5 c5 w5 hg5 hgr5 hr5; have HG5 := Lib.hid hg5; have HW5 : Hid (Below w.heap.size w w5) := Lib.hid (below_gotR (base := w.heap.size) HW2.out HW2.out.size hgr5 hr5 (Nat.le_refl _)); clear hg5 hgr5 hr5)
      go_roundw
      case rel => exact ⟨k + 1, c5, B5, by omega, rfl, by go_num, Lib.hid (by rw [nops_next]; exact HG5.out), HW5⟩
      case measure => simp [intOf]; omega
    · have hkn : k = n := by omega
      subst hkn
      have HL : Hid (RawSl wr B k c (nops k)) := Lib.hid HG.out.row
      have hd : decide (k < k) = false := decide_eq_false (by omega)
      have HMk : Hid (∀ W : World, (Instr.makeSlice 25 (.int .i64 (k : Int)) (.int .i64 (k : Int))).run Tryd.prog W = .ok (.slice (some ⟨W.heap.size, 0, none⟩) k k) (W.alloc (.cells (cellsB (List.replicate k 0)) 5))) := Lib.hid (fun W => run_make_cap k k (Nat.le_refl _) (by omega) W)
      by_cases h4 : k ≤ 4096
      · have hd4 : decide ((4096 : Int) < (k : Int)) = false := by simp; omega
        go_wp2_with fail
        refine (encode_any B k c (nops k) 0 (List.replicate k 0) _ (HT.out.below HW.out) HL.out (by omega) (nops_ok k (by omega)) (nops_enc k h4)).mono ?_
        rintro e2 w2 ⟨⟨u, rfl, hu⟩, hb2⟩
        have HW2 := Lib.hid (HW.out.trans (hb2.mono HW.out.size))
        obtain ⟨A2, c2, rfl, hB2, hN2⟩ := own_open hu
        rw [List.length_replicate]
        have hm2 := HMk.out w2
        clear hu hb2 hB2 hN2
        go_wp2_with fail
        have HW3 : Hid (Below w.heap.size w (w2.alloc (.cells (cellsB (List.replicate k 0)) 5))) := Lib.hid (HW2.out.alloc HW2.out.size _)
        have HB3 : Hid (ByteSl (w2.alloc (.cells (cellsB (List.replicate k 0)) 5)) Empty (some ⟨w2.heap.size, 0, none⟩) k k (List.replicate k 0)) := Lib.hid (ByteSl.lit w2 Empty (List.replicate k 0) k (by simp) (fun h => h) (by unfold maxLen; omega))
        refine (decode_any _ k k (List.replicate k 0) 0 (nops k) _ (HT.out.below HW3.out) HB3.out (zeros_dec k h4)).mono ?_
        rintro e3 w3 ⟨⟨B3, c3, rfl, hG3⟩, hb3⟩
        have HW4 := Lib.hid (HW3.out.trans (hb3.mono HW3.out.size))
        clear hG3 hb3
        go_wp2
        go_ret
        exact ⟨by simp, HW4.out⟩
      · have hd4 : decide ((4096 : Int) < (k : Int)) = true := by simp; omega
        go_wp2_with fail
        refine (encode_any B k c (nops k) 9 [] _ (HT.out.below HW.out) HL.out (by omega) (nops_ok k (by omega)) (nops_long k (by omega))).mono ?_
        rintro e2 w2 ⟨⟨u, rfl, hu⟩, hb2⟩
        have HW2 := Lib.hid (HW.out.trans (hb2.mono HW.out.size))
        have hm2 := HMk.out w2
        clear hu hb2
        go_wp2_with fail
        have HW3 : Hid (Below w.heap.size w (w2.alloc (.cells (cellsB (List.replicate k 0)) 5))) := Lib.hid (HW2.out.alloc HW2.out.size _)
        have HB3 : Hid (ByteSl (w2.alloc (.cells (cellsB (List.replicate k 0)) 5)) Empty (some ⟨w2.heap.size, 0, none⟩) k k (List.replicate k 0)) := Lib.hid (ByteSl.lit w2 Empty (List.replicate k 0) k (by simp) (fun h => h) (by unfold maxLen; omega))
        refine (decode_any _ k k (List.replicate k 0) 9 [] _ (HT.out.below HW3.out) HB3.out (zeros_long k (by omega))).mono ?_
        rintro e3 w3 ⟨⟨B3, c3, rfl, hG3⟩, hb3⟩
        have HW4 := Lib.hid (HW3.out.trans (hb3.mono HW3.out.size))
        clear hG3 hb3
        go_wp2
        go_ret
        exact ⟨by simp, HW4.out⟩

end Go.Proofs.YtcpcjcbeeeoabaaDoor
