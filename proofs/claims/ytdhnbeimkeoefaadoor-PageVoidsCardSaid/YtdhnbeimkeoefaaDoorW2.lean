/- Bytes written one by one: the words, and the walk over nor.fill. -/
import Derived.Test.YtdhnbeimkeoefaaDoorW1
import Derived.Test.YtdhnbeimkeoefaaDoorBy
namespace Go.Proofs.YtdhnbeimkeoefaaDoor
open Go.RowKit

/-- One byte more has turned. -/
theorem set_mapIdx (bs : List UInt8) (f g : Nat → UInt8 → UInt8) (i : Nat) (v : UInt8) (hv : ∀ b, bs[i]? = some b → g i b = v) (ho : ∀ j b, j ≠ i → g j b = f j b) : (bs.mapIdx f).set i v = bs.mapIdx g := by
  apply List.ext_getElem?
  intro j
  rw [List.getElem?_set, List.getElem?_mapIdx, List.getElem?_mapIdx]
  by_cases h : i = j
  · subst h
    rw [if_pos rfl]
    rcases hb : bs[i]? with _ | b
    · simp
      rw [List.getElem?_eq_none_iff] at hb
      exact hb
    · have hl : i < bs.length := (List.getElem?_eq_some_iff.1 hb).1
      simp [hl, hv b hb]
  · rw [if_neg h]
    rcases hb : bs[j]? with _ | b
    · rfl
    · simp [ho j b (fun e => h e.symm)]

theorem mapIdx_id (bs : List UInt8) (f : Nat → UInt8 → UInt8) (h : ∀ i b, bs[i]? = some b → f i b = b) : bs.mapIdx f = bs := by
  apply List.ext_getElem?
  intro j
  rw [List.getElem?_mapIdx]
  rcases hb : bs[j]? with _ | b
  · rfl
  · simp [h j b hb]

/-- From off on k bytes are 255. -/
def fillF (off k : Nat) : Nat → UInt8 → UInt8 := fun i b => if off ≤ i ∧ i < off + k then 255 else b

theorem fillF_step (bs : List UInt8) (off k : Nat) : (bs.mapIdx (fillF off k)).set (off + k) 255 = bs.mapIdx (fillF off (k + 1)) := by
  apply set_mapIdx
  · intro b _
    simp [fillF]
  · intro j b hj
    unfold fillF
    by_cases h : off ≤ j ∧ j < off + k
    · rw [if_pos h, if_pos (by omega)]
    · rw [if_neg h, if_neg (by omega)]

theorem fillF_zero (bs : List UInt8) (off : Nat) : bs.mapIdx (fillF off 0) = bs :=
  mapIdx_id _ _ fun i b _ => by unfold fillF; rw [if_neg (by omega)]

set_option maxHeartbeats 1000000 in
theorem fill_any (cb off n cap : Nat) (bs : List UInt8) (w : World) (hb : Blk w cb 5 (cellsB bs)) (hl : off + n ≤ bs.length) (hn : n ≤ 4611686018427387904) :
    Calls Tryd.prog 38 #[.slice (some ⟨cb, off, none⟩) n cap] w fun e w' => e = .returned (.tuple #[]) ∧ Blk w' cb 5 (cellsB (bs.mapIdx (fillF off n))) ∧ Only (· = cb) w w' := by
  go_enter Tryd.func38, Tryd.ntmps38
  go_wp2
  go_loopw [5] (fun i wr => ∃ k : Nat, k ≤ n ∧ i = .int .i64 (k : Int) ∧ Blk wr cb 5 (cellsB (bs.mapIdx (fillF off k))) ∧ Only (· = cb) w wr) (fun i _ => n - (intOf i).toNat)
  case atStart => exact ⟨0, Nat.zero_le _, rfl, by rw [fillF_zero]; exact hb, Only.refl _ _⟩
  case round =>
    obtain ⟨k, hk, rfl, hbk, hok⟩ := hrel
    have hcell : k < n → wr.cell? ⟨cb, off + k, none⟩ = some (B8 ((fillF off k) (off + k) (bs[off + k]?.getD 0))) := by
      intro hlt
      rw [hbk.cell, cellsB_get, List.getElem?_mapIdx]
      have h : off + k < bs.length := by omega
      simp [h]
    have hfr := hbk.frozen (off + k)
    go_wp2
    · go_roundw
      case rel => exact ⟨k + 1, by omega, by go_num, by rw [← fillF_step, ← cellsB_set]; exact hbk.set_ _ _, hok.setCell (p := ⟨cb, off + k, none⟩) (Or.inl rfl) _⟩
      case measure => simp [intOf]; omega
    · obtain rfl : k = n := by omega
      go_end0
      exact ⟨rfl, hbk, hok⟩

end Go.Proofs.YtdhnbeimkeoefaaDoor
