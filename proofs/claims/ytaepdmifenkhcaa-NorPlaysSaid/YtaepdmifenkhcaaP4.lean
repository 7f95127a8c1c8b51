/- 'do' for a read. -/
import Derived.Test.YtaepdmifenkhcaaP3
namespace Go.Proofs.Ytaepdmifenkhcaa
open Go.RowKit

/-- A block whose first q cells are bytes. -/
def RowB (w : World) (g q : Nat) : Prop := ∃ cs, Blk w g 5 cs ∧ ∀ j, j < q → ∃ z : Int, 0 ≤ z ∧ z ≤ 255 ∧ cs[j]? = some (.int .u8 z)
theorem RowB.cell {w : World} {g q : Nat} (h : RowB w g q) (j : Nat) : ∃ z : Int, 0 ≤ z ∧ z ≤ 255 ∧ (j < q → w.cell? ⟨g, j, none⟩ = some (.int .u8 z)) := by
  obtain ⟨cs, hb, hc⟩ := h
  by_cases hj : j < q
  · obtain ⟨z, h1, h2, h3⟩ := hc j hj
    exact ⟨z, h1, h2, fun _ => by rw [hb.cell, h3]⟩
  · exact ⟨0, by omega, by omega, fun h => absurd h hj⟩
theorem RowB.frozen {w : World} {g q : Nat} (h : RowB w g q) (j : Nat) : w.frozen? ⟨g, j, none⟩ = false := by
  obtain ⟨cs, hb, hc⟩ := h
  exact hb.frozen j
theorem RowB.set_ {w : World} {g q : Nat} (h : RowB w g q) (i : Nat) (u : Int) (h1 : 0 ≤ u) (h2 : u ≤ 255) : RowB (w.setCell ⟨g, i, none⟩ (.int .u8 u)) g q := by
  obtain ⟨cs, hb, hc⟩ := h
  refine ⟨_, hb.set_ i _, fun j hj => ?_⟩
  obtain ⟨z, z1, z2, z3⟩ := hc j hj
  by_cases he : i = j
  · subst he
    exact ⟨u, h1, h2, by rw [Array.getElem?_setIfInBounds]; have := (Array.getElem?_eq_some_iff.1 z3).1; simp [this]⟩
  · exact ⟨z, z1, z2, by rw [Array.getElem?_setIfInBounds]; simp [he, z3]⟩
theorem RowB.of {w w' : World} {g q : Nat} (h : RowB w g q) (hw : w'.heap = w.heap) : RowB w' g q := by
  obtain ⟨cs, hb, hc⟩ := h
  exact ⟨cs, by unfold Blk at *; rw [hw]; exact hb, hc⟩

/-- What a read gave, with its block when there are bytes. -/
theorem own_rowB {w : World} {base q : Nat} {v : Value} {ys : List UInt8} (h : w.ownsRow base 5 1 v q (ys.map B8)) :
    ∃ A cap, v = .slice A q cap ∧ ByteSl w Empty A q cap ys ∧ (0 < q → ∃ g, A = some ⟨g, 0, none⟩ ∧ base ≤ g ∧ RowB w g q) := by
  obtain ⟨A, cap, hv, hB, hf⟩ := ByteSl.of_own (S := Empty) h (fun k _ _ h => h)
  refine ⟨A, cap, hv, hB, fun hq => ?_⟩
  obtain ⟨g, hA, hg, _⟩ := hf hq
  refine ⟨g, hA, hg, ?_⟩
  have hl : ys.length = q := by have := h.1; simpa using this
  rcases h.2 with ⟨_, h0⟩ | ⟨g', cap', cur, hv', hb, hh, hnc, hm, hs, ht⟩
  · have := hB.1; omega
  · rw [hv] at hv'
    simp only [Value.slice.injEq, true_and] at hv'
    rw [hA] at hv'
    simp only [Option.some.injEq, Addr.mk.injEq, and_true] at hv'
    obtain ⟨rfl, rfl⟩ := hv'
    refine ⟨cur, hh, fun j hj => ?_⟩
    have hj' : j < ys.length := by omega
    have h3 : cur[j]? = (ys.map B8)[j]? := by
      rw [← ht, List.getElem?_take, if_pos (by omega)]
      simp
    have hb8 := UInt8.toNat_lt ys[j]
    refine ⟨(ys[j].toNat : Int), by omega, by omega, ?_⟩
    rw [h3, List.getElem?_map, List.getElem?_eq_getElem hj']
    rfl

set_option maxRecDepth 100000 in
set_option maxHeartbeats 4000000 in
theorem do_read (p c e p' c' e' n cap : Nat) (f g : Fl) (K a m k : Int) (mk : UInt8) (A : Option Addr) (xs : List UInt8) (w : World) (hr : Rel f g) (hf : FlashAt w p c e f) (hg : RefAt w p' c' e' g) (hs : ByteSl w (Six p c e p' c' e') A n cap xs)
    (sep : ∀ k, Three p c e k → ¬ Three p' c' e' k) (K1 : 0 ≤ K) (K2 : K ≤ 255) (hK : K % 5 = 2) (a2 : a ≤ 9223372036854775807) (m2 : m ≤ 9223372036854775807) :
    Calls Try.prog 13 #[.pointer (some ⟨p, 0, none⟩), .pointer (some ⟨p', 0, none⟩), .agg (actBox K a m A n cap k mk)] w fun e1 w' => DoOk w w' p c e p' c' e' f e1 := by
  obtain ⟨cd, q, ys, hF, hG⟩ := read_pair p c e p' c' e' f g a m hr a2 m2
  have h0 : St w p c e p' c' e' w.heap.size (actBox K a m A n cap k mk) A n cap xs f g (w.alloc (.cells (actBox K a m A n cap k mk) 38)) := St.start hf hg hs sep
  have HF := Lib.hid hF
  have HG := Lib.hid hG
  have Hr := Lib.hid hr
  have hb0 : (K % 5 == 0) = false := by simp [hK]
  have hb1 : (K % 5 == 1) = false := by simp [hK]
  have hb2 : (K % 5 == 2) = true := by simp [hK]
  clear hF hG hr hf hg hs sep hK
  unfold actBox at *
  go_enter Try.func13, Try.ntmps13
  go_wp2_with fail
  have H0 := Lib.hid h0
  refine (HF.out _ h0.ff).mono ?_
  rintro e1 w1 ⟨v1, rfl, hv1, hl1⟩
  have h1 := h0.reading hl1
  have c1 : w1.cell? ⟨w.heap.size, 1, none⟩ = some (.int .i64 a) := h1.bb.cell 1
  have c2 : w1.cell? ⟨w.heap.size, 2, none⟩ = some (.int .i64 m) := h1.bb.cell 2
  clear h0
  go_wp2_with fail
  refine (HG.out _ h1.gg).mono ?_
  rintro e1 w2 ⟨v2, rfl, hv2, hl2⟩
  have h2 := h1.reading hl2
  have hg1 : w.heap.size + 1 ≤ w1.heap.size := by have h7 := hl1.size; simp at h7; exact h7
  have hg2 : w1.heap.size ≤ w2.heap.size := hl2.size
  have hv1' := hv1.kept (row := none) ⟨hl2.os, hl2.tape, hl2.output, hl2.size, fun k hk _ => hl2.block k hk⟩ (by cases hv : v1.ownBlock <;> simp)
  obtain ⟨A1, cap1, rfl, hB1, hf1⟩ := own_rowB hv1'
  obtain ⟨A2, cap2, rfl, hB2, -⟩ := ByteSl.of_own (S := Empty) hv2 (fun k _ _ h => h)
  have hO : Only Empty (w.alloc (.cells #[.int .u8 K, .int .i64 a, .int .i64 m, .slice A n cap, .int .i64 k, B8 mk] 38)) w2 := (Only.of_below hl1).trans (Only.of_below hl2)
  have hql : q ≤ 9223372036854775807 := by
    have h7 := hB1.2.1
    have h8 := hB1.2.2.1
    simp only [maxLen] at h8
    omega
  have hc1 := conv_bytes hB1
  have hc2 := conv_bytes hB2
  clear h1 c1 c2 hv1 hv1' hv2
  go_wp2_with fail
  rcases Nat.eq_zero_or_pos q with hq | hq
  · subst hq
    go_loopw [74] (fun v wr => v = .int .i64 0 ∧ Only Empty (w.alloc (.cells #[.int .u8 K, .int .i64 a, .int .i64 m, .slice A n cap, .int .i64 k, B8 mk] 38)) wr) (fun _ _ => 0)
    case atStart => exact ⟨rfl, hO⟩
    case round =>
      obtain ⟨rfl, hO2⟩ := hrel
      go_wp2
      go_ret
      exact (H0.out.same hO2).done Hr.out rfl rfl rfl
  · obtain ⟨g1, rfl, hg3, hB⟩ := hf1 hq
    go_loopw [74] (fun v wr => ∃ i : Nat, i ≤ q ∧ v = .int .i64 (i : Int) ∧ RowB wr g1 q ∧ Only Empty (w.alloc (.cells #[.int .u8 K, .int .i64 a, .int .i64 m, .slice A n cap, .int .i64 k, B8 mk] 38)) wr) (fun v _ => q - (intOf v).toNat)
    case atStart => exact ⟨0, Nat.zero_le _, rfl, hB, hO⟩
    case round =>
      obtain ⟨i, hi, rfl, hR, hO2⟩ := hrel
      obtain ⟨z, z1, z2, hz⟩ := hR.cell i
      have hfr := hR.frozen i
      go_wp2
      · go_roundw
        case rel => exact ⟨i + 1, by omega, by go_num, hR.set_ i _ (by omega) (by omega), hO2.setCell (p := ⟨g1, i, none⟩) (Or.inr hg3) _⟩
        case measure => simp [intOf]; omega
      · go_ret
        exact (H0.out.same hO2).done Hr.out rfl rfl rfl

end Go.Proofs.Ytaepdmifenkhcaa
