/- The walks over utf.Encode and the document's Encode. -/
import Derived.Test.YtnhfmcijadficaaUd
namespace Go.Proofs.Ytnhfmcijadficaa
set_option maxRecDepth 100000
open Go.RowKit

/-- A number of 16 bits as it lies in a row. -/
def cells16 (u : Nat) : List Value := [.int .u16 (u : Int)]
theorem cells16_len (u : Nat) : (cells16 u).length = 1 := rfl
theorem cells16_one (u : Nat) : ∀ v ∈ cells16 u, v.oneCell' = true := by
  intro v hv
  obtain rfl : v = .int .u16 (u : Int) := by simpa [cells16] using hv
  rfl
/-- A text in memory. -/
abbrev T16 (w : World) (A : Option Addr) (n cap : Nat) (l : List Nat) : Prop := RowSl cells16 1 w Empty A n cap l
theorem at16 {w : World} {S : Nat → Prop} {A : Option Addr} {n cap : Nat} {l : List Nat} (h : RowSl cells16 1 w S A n cap l) {k : Nat} (hk : k < n) :
    ∃ b o u, A = some ⟨b, o, none⟩ ∧ l[k]? = some u ∧ b < w.heap.size ∧ w.cell? ⟨b, o + k, none⟩ = some (.int .u16 (u : Int)) := by
  obtain ⟨b, o, f, e, hb, _, hf, hc⟩ := h.at_ hk
  refine ⟨b, o, f, e, hf, hb, ?_⟩
  have := hc 0 (by omega)
  simpa [cells16] using this
theorem own_nil8 (w : World) (base : Nat) : w.ownsRow base 5 1 (.slice none 0 0) 0 (([] : List UInt8).map B8) := ⟨rfl, .inl ⟨rfl, rfl⟩⟩

theorem encT_take (l : List Nat) (k u : Nat) (h : l[k]? = some u) : encT (l.take (k + 1)) = encT (l.take k) ++ encU u := by
  rw [take_one l k u h, encT_snoc]
theorem encT_le (l : List Nat) : (encT l).length ≤ 3 * l.length := by
  induction l with
  | nil => simp [encT]
  | cons u l ih =>
    rw [encT_cons, List.length_append, encU_len]
    have := sizeU_pos u
    simp only [List.length_cons]
    omega

set_option maxHeartbeats 1000000 in
theorem encode_any (A : Option Addr) (n cap : Nat) (l : List Nat) (w : World) (hR : T16 w A n cap l) (hu : ∀ u ∈ l, u < 65536) (hn : n ≤ 100000) :
    Calls Try.prog 7 #[.slice A n cap] w fun e w' => AddedB w.heap.size w w' (encT l).length (encT l) e := by
  have HR := Lib.hid hR
  have HU := Lib.hid hu
  have HL : Hid (l.length = n) := Lib.hid hR.1
  clear hR hu
  go_enter Try.func7, Try.ntmps7
  go_wp2
  go_loop [3, 5, 11] (fun m _ i => ∃ k : Nat, k ≤ n ∧ i = .int .i64 (k : Int) ∧ m = .int .i64 ((encT (l.take k)).length : Int)) (fun _ _ i => n - (intOf i).toNat)
  case atStart => exact ⟨0, Nat.zero_le _, rfl, rfl⟩
  case round =>
    obtain ⟨k, hk, rfl, rfl⟩ := hrel
    by_cases hlt : k < n
    · obtain ⟨b, o, u, rfl, hlu, hb, hc⟩ := at16 HR.out hlt
      have hu := HU.out u (List.mem_of_getElem? hlu)
      have hs := encT_take l k u hlu
      have hl1 := congrArg List.length hs
      rw [List.length_append, encU_len] at hl1
      have Hl1 := Lib.hid hl1
      have hle := encT_le (l.take k)
      have hle2 : (l.take k).length ≤ n := by rw [List.length_take]; omega
      have hz : (encT (l.take k)).length ≤ 300000 := by omega
      obtain ⟨z, hze⟩ : ∃ z, z = (encT (l.take k)).length := ⟨_, rfl⟩
      rw [← hze] at hz Hl1 ⊢
      have hsu := sizeU_pos u
      clear hze hs hl1 hle hle2 hlu
      go_wp2_with fail
      refine (size_any u _ hu).mono ?_
      rintro e1 w1 ⟨rfl, rfl⟩
      go_wp2
      go_round
      case rel => exact ⟨k + 1, by omega, by go_num, by rw [Hl1.out]; go_num⟩
      case measure => simp [intOf]; omega
    · obtain rfl : k = n := by omega
      have ht : l.take k = l := List.take_of_length_le (by have := HL.out; omega)
      rw [ht]
      have hle := encT_le l
      have hz : (encT l).length ≤ 300000 := by have := HL.out; omega
      obtain ⟨z, hze⟩ : ∃ z, z = (encT l).length := ⟨_, rfl⟩
      rw [← hze] at hz ⊢
      have Hze := Lib.hid hze
      have hmk : ∀ W : World, (Instr.makeSlice 24 (.int .i64 0) (.int .i64 (z : Int))).run Try.prog W = .ok (.slice (some ⟨W.heap.size, 0, none⟩) 0 z) (W.alloc (.cells (cellsB (List.replicate z 0)) 5)) := fun W => run_make_cap 0 z (Nat.zero_le _) (by omega) W
      have hO : (w.alloc (.cells (cellsB (List.replicate z 0)) 5)).ownsRow w.heap.size 5 1 (.slice (some ⟨w.heap.size, 0, none⟩) 0 z) 0 (([] : List UInt8).map B8) :=
        own_of_blk (Blk.new w 5 _) (Nat.le_refl _) (by simp) (by omega) (by unfold maxLen; omega) rfl
      have HO := Lib.hid hO
      clear ht hle hze hO
      go_wp2
      go_loopw [6, 8, 24] (fun v _ i wr => ∃ j : Nat, j ≤ k ∧ i = .int .i64 (j : Int) ∧ Hid (wr.ownsRow w.heap.size 5 1 v (encT (l.take j)).length ((encT (l.take j)).map B8)) ∧ Hid (Below w.heap.size w wr)) (fun _ _ i _ => k - (intOf i).toNat)
      case atStart => exact ⟨0, Nat.zero_le _, rfl, HO, Lib.hid ((Below.refl _ _).alloc (Nat.le_refl _) _)⟩
      case round =>
        obtain ⟨j, hj, rfl, HW, HB⟩ := hrel
        by_cases hlt2 : j < k
        · obtain ⟨b, o, u, rfl, hlu, hb, hc⟩ := at16 HR.out hlt2
          have hu := HU.out u (List.mem_of_getElem? hlu)
          have hs := encT_take l j u hlu
          have hl1 := congrArg List.length hs
          rw [List.length_append, encU_len] at hl1
          have Hs := Lib.hid hs
          have Hl1 := Lib.hid hl1
          have hle := encT_le (l.take j)
          have hle2 : (l.take j).length ≤ k := by rw [List.length_take]; omega
          have hz2 : (encT (l.take j)).length ≤ 300000 := by omega
          have hc2 := (HB.out.cell (p := ⟨b, o + j, none⟩) hb).trans hc
          have Hb2 := Lib.hid HB.out.size
          clear hs hl1 hle hle2 hlu hc hb hmk
          go_wp2_with fail
          refine (add_any w.heap.size _ _ _ u _ HW.out hu (by omega) Hb2.out).mono ?_
          rintro e1 w1 ⟨⟨v1, rfl, hown1⟩, hb1⟩
          have hown2 : w1.ownsRow w.heap.size 5 1 v1 (encT (l.take (j + 1))).length ((encT (l.take (j + 1))).map B8) := by
            rw [Hl1.out, Hs.out]
            exact hown1
          have HW1 := Lib.hid hown2
          have HB1 := Lib.hid (HB.out.trans hb1)
          clear hown1 hown2 hb1 hz2
          go_wp2
          go_roundw
          case rel => exact ⟨j + 1, by omega, by go_num, HW1, HB1⟩
          case measure => simp [intOf]; omega
        · obtain rfl : j = k := by omega
          have ht : l.take j = l := List.take_of_length_le (by have := HL.out; omega)
          rw [ht] at HW
          clear ht
          go_wp2
          go_ret
          exact ⟨⟨_, rfl, HW.out⟩, HB.out⟩

set_option maxHeartbeats 1000000 in
theorem refEncode_any (A : Option Addr) (n cap : Nat) (l : List Nat) (w : World) (hR : T16 w A n cap l) (hu : ∀ u ∈ l, u < 65536) (hn : n ≤ 100000) :
    Calls Try.prog 10 #[.slice A n cap] w fun e w' => AddedB w.heap.size w w' (encT l).length (encT l) e := by
  have HR := Lib.hid hR
  have HU := Lib.hid hu
  have HL : Hid (l.length = n) := Lib.hid hR.1
  clear hR hu
  go_enter Try.func10, Try.ntmps10
  go_wp2
  go_loopw [3, 5, 8] (fun v _ i wr => ∃ j : Nat, j ≤ n ∧ i = .int .i64 (j : Int) ∧ Hid (wr.ownsRow w.heap.size 5 1 v (encT (l.take j)).length ((encT (l.take j)).map B8)) ∧ Hid (Below w.heap.size w wr)) (fun _ _ i _ => n - (intOf i).toNat)
  case atStart => exact ⟨0, Nat.zero_le _, rfl, Lib.hid (own_nil8 w _), Lib.hid (Below.refl _ _)⟩
  case round =>
    obtain ⟨j, hj, rfl, HW, HB⟩ := hrel
    by_cases hlt2 : j < n
    · obtain ⟨b, o, u, rfl, hlu, hb, hc⟩ := at16 HR.out hlt2
      have hu := HU.out u (List.mem_of_getElem? hlu)
      have hs := encT_take l j u hlu
      have hl1 := congrArg List.length hs
      rw [List.length_append, encU_len] at hl1
      have Hs := Lib.hid hs
      have Hl1 := Lib.hid hl1
      have hle := encT_le (l.take j)
      have hle2 : (l.take j).length ≤ n := by rw [List.length_take]; omega
      have hz2 : (encT (l.take j)).length ≤ 300000 := by omega
      have hc2 := (HB.out.cell (p := ⟨b, o + j, none⟩) hb).trans hc
      have Hb2 := Lib.hid HB.out.size
      have hsu := sizeU_pos u
      obtain ⟨s, hse⟩ : ∃ s, s = sizeU u := ⟨_, rfl⟩
      have hsl : (encU u).length = s := by rw [encU_len, hse]
      have HLt := Lib.hid (ByteSl.lit wr Empty (encU u) s hsl (fun h => h) (by unfold maxLen; omega))
      have HO2 := Lib.hid (own_alloc HW.out (.cells (cellsB (encU u)) 5))
      have c := refUnit_any u wr hu
      rw [← hse] at c hsu Hl1
      have C := Lib.hid c
      clear hs hl1 hle hle2 hlu hc hb hse hsl c
      go_wp2_with fail
      refine C.out.mono ?_
      rintro e1 w1 ⟨rfl, rfl⟩
      go_wp2_with (at_builtin; refine wpList_append_bytes rfl (.tmp 12) (.tmp 14) rfl w.heap.size _ rfl _ _ HO2.out (some ⟨wr.heap.size, 0, none⟩) s s (encU u) Empty rfl HLt.out (fun h => by cases h) (by omega) (by have := Hb2.out; simp; omega) ?_)
      intro v1 w1 hown1 hg1 _
      have hown2 : w1.ownsRow w.heap.size 5 1 v1 (encT (l.take (j + 1))).length ((encT (l.take (j + 1))).map B8) := by
        rw [Hl1.out, Hs.out, List.map_append]
        simpa using hown1
      have HW1 := Lib.hid hown2
      have HB1 := Lib.hid (below_grown (HB.out.alloc Hb2.out _) (by have := Hb2.out; simp; omega) hg1 (fun q hq => (HO2.out.lt q hq).1))
      clear hown1 hown2 hg1 hz2
      go_wp2
      go_roundw
      case rel => exact ⟨j + 1, by omega, by go_num, HW1, HB1⟩
      case measure => simp [intOf]; omega
    · obtain rfl : j = n := by omega
      have ht : l.take j = l := List.take_of_length_le (by have := HL.out; omega)
      rw [ht] at HW
      clear ht
      go_wp2
      go_ret
      exact ⟨⟨_, rfl, HW.out⟩, HB.out⟩

end Go.Proofs.Ytnhfmcijadficaa
