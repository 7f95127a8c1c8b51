/- What PageVoids does to its sector, as plain lists; the walk over made. -/
import Derived.Test.YtdhnbeimkeoefaaDoorGn
import Derived.Test.YtdhnbeimkeoefaaDoorGe
namespace Go.Proofs.YtdhnbeimkeoefaaDoor
open Go.RowKit

theorem openB_len (s : Nat) : (openB 84 s).length = 84 := by
  unfold openB
  have h1 : (splice (List.replicate 84 255) 0 (headB s)).length = 84 := by rw [length_splice _ _ _ (by rw [headB_len]; simp), List.length_replicate]
  rw [length_splice _ _ _ (by rw [h1]; simp), h1]
theorem openB_get (s j : Nat) : (openB 84 s)[j]? = if j = 8 then some 0 else if j < 8 then (headB s)[j]? else if j < 84 then some 255 else none := by
  have h1 : (splice (List.replicate 84 255) 0 (headB s)).length = 84 := by rw [length_splice _ _ _ (by rw [headB_len]; simp), List.length_replicate]
  unfold openB
  rw [splice_get _ _ _ _ (by rw [h1]; simp), splice_get _ _ _ _ (by rw [headB_len]; simp), headB_len, List.getElem?_replicate]
  by_cases h8 : j = 8
  · subst h8; rfl
  · rw [if_neg h8, if_neg (by simp; omega)]
    by_cases hl : j < 8
    · rw [if_pos (by omega), if_pos hl, Nat.sub_zero]
    · rw [if_neg (by omega), if_neg hl]
theorem headB_first (s : Nat) : (headB s)[0]? = some 67 := rfl

/-- The sector's bytes when it was opened, programmed and voided. -/
def voidB (s : Nat) (ys : List UInt8) : List UInt8 := splice (splice (openB 84 s) 12 ys) 9 [0]
theorem fits_open (s : Nat) (ys : List UInt8) (h : ys.length ≤ 50) : Fits (openB 84 s) 12 ys := by
  intro j hj
  rw [openB_get, if_neg (by omega), if_neg (by omega), if_pos (by omega)]
  exact and_none _
theorem voidB_len (s : Nat) (ys : List UInt8) (h : ys.length ≤ 50) : (voidB s ys).length = 84 := by
  have h1 : (splice (openB 84 s) 12 ys).length = 84 := by rw [length_splice _ _ _ (by rw [openB_len]; omega), openB_len]
  unfold voidB
  rw [length_splice _ _ _ (by rw [h1]; simp), h1]
theorem voidB_zero (s : Nat) (ys : List UInt8) (h : ys.length ≤ 50) : (voidB s ys)[0]? = some 67 ∧ (voidB s ys)[9]? = some 0 := by
  have h1 : (splice (openB 84 s) 12 ys).length = 84 := by rw [length_splice _ _ _ (by rw [openB_len]; omega), openB_len]
  constructor
  · unfold voidB
    rw [splice_get _ _ _ _ (by rw [h1]; simp), if_neg (by omega), splice_get _ _ _ _ (by rw [openB_len]; omega), if_neg (by omega), openB_get, if_neg (by omega), if_pos (by omega), headB_first]
  · unfold voidB
    rw [splice_get _ _ _ _ (by rw [h1]; simp), if_pos (by simp)]
    rfl

theorem stU_void {xs : List UInt8} (h : xs[9]? = some 0) : stU xs = false := by
  unfold stU parseH
  by_cases hc : parseC xs = 0
  · rw [if_pos hc, h]
    simp
  · simp [hc]
theorem stU_mark {xs : List UInt8} (h : xs[0]? = some 255) : stU xs = false := by
  have h2 : xs.take 2 ≠ [67, 66] := by
    intro e
    have e0 := congrArg (fun l => l[0]?) e
    simp only [List.getElem?_take] at e0
    rw [if_pos (by omega), h] at e0
    simp at e0
  have hc : parseC xs ≠ 0 := by
    unfold parseC
    rw [if_neg h2]
    split <;> decide
  unfold stU
  simp [hc]
theorem voidB_dirty (s : Nat) (ys : List UInt8) (h : ys.length ≤ 50) : stS (voidB s ys) = 1 := by
  obtain ⟨h0, h9⟩ := voidB_zero s ys h
  unfold stS
  rw [if_neg (by rw [stU_void h9]; decide), if_neg]
  intro e
  have := List.count_eq_length.1 e 67 (List.mem_of_getElem? h0)
  simp at this
/-- Behind an erase that was done in part it isn't used. -/
theorem torn_unused (s : Nat) (ys : List UInt8) (h : ys.length ≤ 50) (q : Nat) (mk : UInt8) : stU ((voidB s ys).mapIdx (eraseF 0 q 84 mk)) = false := by
  obtain ⟨h0, h9⟩ := voidB_zero s ys h
  by_cases hq : q = 0
  · apply stU_void
    rw [List.getElem?_mapIdx, h9]
    simp only [Option.map_some]
    unfold eraseF
    rw [if_neg (by omega), if_neg (by omega)]
  · apply stU_mark
    rw [List.getElem?_mapIdx, h0]
    simp only [Option.map_some]
    unfold eraseF
    rw [if_pos (by omega)]
theorem stS_unused {xs : List UInt8} (h : stU xs = false) : stS xs = 0 ∨ stS xs = 1 := by
  unfold stS
  rw [if_neg (by rw [h]; decide)]
  split
  · exact Or.inl rfl
  · exact Or.inr rfl

/-- What made gives: a new flash of two sectors. -/
def MadeOk (w w' : World) (e : Ending) : Prop :=
  ∃ p c er, e = .returned (.tuple #[.pointer (some ⟨p, 0, none⟩), .agg #[.int .i64 2, .int .i64 84, .int .i64 9]]) ∧ FlashAt w' p c er (Fl.fresh 2 84 9) ∧ Below w.heap.size w w' ∧ w.heap.size ≤ p ∧ w.heap.size ≤ c ∧ w.heap.size ≤ er

set_option maxHeartbeats 2000000 in
theorem made_any (w : World) : Calls Tryd.prog 11 #[.int .u8 1, .int .u8 20] w fun e w' => MadeOk w w' e := by
  have hn : ∀ W, Calls Tryd.prog 25 #[.agg #[.int .i64 2, .int .i64 84, .int .i64 9]] W fun e w' => NewOk W w' 2 84 9 e := fun W => new_yes 2 84 9 W ⟨by decide, by decide, by decide, by decide, by decide, by decide⟩
  have Hn := Lib.hid hn
  clear hn
  go_enter Tryd.func11, Tryd.ntmps11
  go_wp2_with fail
  refine (Hn.out _).mono ?_
  rintro e1 w1 ⟨p, c, er, rfl, hf, hb, hp, hc, he⟩
  simp at hp hc he
  have hk0 : Blk w1 w.heap.size 36 #[.int .i64 0, .int .i64 0, .int .i64 0] := ((Blk.new w 36 #[.int .i64 0, .int .i64 0, .int .i64 0]).alloc (.cells #[.int .i64 2, .int .i64 84, .int .i64 9] 36)).of (hb.block w.heap.size (by simp; omega))
  have hk1 : Blk w1 (w.heap.size + 1) 36 #[.int .i64 2, .int .i64 84, .int .i64 9] := (Blk.new' (w := w.alloc (.cells #[.int .i64 0, .int .i64 0, .int .i64 0] 36)) (t := 36) (cs := #[.int .i64 2, .int .i64 84, .int .i64 9]) (g := w.heap.size + 1) (by simp)).of (hb.block (w.heap.size + 1) (by simp))
  have d0 := hk0.cell 0
  have d1 := hk0.cell 1
  have d2 := hk0.cell 2
  have g0 := hk0.frozen 0
  have g1 := hk0.frozen 1
  have g2 := hk0.frozen 2
  have c0 := hk1.cell 0
  have c1 := hk1.cell 1
  have c2 := hk1.cell 2
  simp at c0 c1 c2 d0 d1 d2
  have Hf := Lib.hid hf
  have Hb := Lib.hid hb
  have Hp := Lib.hid hp
  have Hc := Lib.hid hc
  have He := Lib.hid he
  clear hk0 hk1 hf hb hp hc he
  go_wp2
  go_region
  go_wp2
  refine bodyPost_ret (v := .tuple #[.pointer (some ⟨p, 0, none⟩), .agg #[.int .i64 2, .int .i64 84, .int .i64 9]]) (by simp [results, Tryd.results11, go_sem, d0, d1, d2]) rfl ⟨p, c, er, rfl, ?_, ?_, ?_⟩
  · have h := ((((Only.refl (· = w.heap.size) w1).setCell (p := ⟨w.heap.size, 0, none⟩) (Or.inl rfl) (.int .i64 2)).setCell (p := ⟨w.heap.size, 1, none⟩) (Or.inl rfl) (.int .i64 84)).setCell (p := ⟨w.heap.size, 2, none⟩) (Or.inl rfl) (.int .i64 9)).drew
    exact Hf.out.of h (fun e => by have := Hp.out; omega) (fun e => by have := Hc.out; omega) (fun e => by have := He.out; omega)
  · have h := (((Below.refl w.heap.size w).alloc (Nat.le_refl _) (.cells #[.int .i64 0, .int .i64 0, .int .i64 0] 36)).alloc (by simp) (.cells #[.int .i64 2, .int .i64 84, .int .i64 9] 36)).trans (Hb.out.mono (by simp; omega))
    exact ((((h.setCell (by simp) _).setCell (by simp) _).setCell (by simp) _).drewN 1)
  · exact ⟨by have := Hp.out; omega, by have := Hc.out; omega, by have := He.out; omega⟩

/-- The second sector of a new flash. -/
theorem fresh_sec {w : World} {p c er : Nat} (hf : FlashAt w p c er (Fl.fresh 2 84 9)) : Sec w p c er 2 84 9 1 0 (List.replicate 84 255) :=
  ⟨_, hf, rfl, rfl, rfl, rfl, rfl, rfl, by
    apply List.ext_getElem?
    intro j
    by_cases hj : j < 84
    · rw [secB_get _ _ _ _ hj]
      simp only [Fl.fresh]
      rw [List.getElem?_replicate, List.getElem?_replicate, if_pos (by omega), if_pos hj]
    · rw [List.getElem?_eq_none (by simp [secB, Fl.fresh]; omega), List.getElem?_eq_none (by simp; omega)]⟩
theorem blank_unused : stU (List.replicate 84 255) = false := stU_mark rfl

end Go.Proofs.YtdhnbeimkeoefaaDoor
