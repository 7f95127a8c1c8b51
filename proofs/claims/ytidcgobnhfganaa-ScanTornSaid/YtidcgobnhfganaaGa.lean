/- Headers as plain data, the mark in memory, and the walks over page.Bytes and the document's Bytes. -/
import Derived.Test.YtidcgobnhfganaaCr
import Derived.Test.YtidcgobnhfganaaNh
import Derived.Test.YtidcgobnhfganaaNg
import Derived.Test.YtidcgobnhfganaaLw
import Derived.Lib.SlBytesConst
namespace Go.Proofs.Ytidcgobnhfganaa
open Go.RowKit

/-- The first six bytes of a header. -/
def head6 (s : Nat) : List UInt8 := [67, 66] ++ putL s 4
/-- What a header begins with: the mark, the number, their sum. -/
def headB (s : Nat) : List UInt8 := head6 s ++ putL (crc16 (head6 s)).toNat 2
theorem head6_len (s : Nat) : (head6 s).length = 6 := by simp [head6, putL_len]
theorem headB_len (s : Nat) : (headB s).length = 8 := by simp [headB, head6_len, putL_len]

/-- The program's mark lies where its initialiser laid it. -/
structure Mark (w : World) : Prop where
  c0 : w.cell? ⟨0, 0, none⟩ = some (.int .u8 67)
  c1 : w.cell? ⟨0, 1, none⟩ = some (.int .u8 66)
section
variable {w w' : World} {S : Nat → Prop} {B : Nat}
theorem Mark.pos (h : Mark w) : 0 < w.heap.size := cell_lt h.c0
theorem Mark.only (h : Mark w) (k : Only S w w') (h0 : ¬ S 0) : Mark w' := ⟨(k.cell (p := ⟨0, 0, none⟩) h.pos h0).trans h.c0, (k.cell (p := ⟨0, 1, none⟩) h.pos h0).trans h.c1⟩
theorem Mark.below (h : Mark w) (k : Below w.heap.size w w') : Mark w' := h.only (Only.of_below (S := Empty) k) (fun h => h)
end

/-- Bytes that a call made anew. -/
def GotB (w w' : World) (n : Nat) (xs : List UInt8) (e : Ending) : Prop := (∃ u, e = .returned u ∧ w'.ownsRow w.heap.size 5 1 u n (xs.map B8)) ∧ Below w.heap.size w w'

/-- Bytes that lie in a new block, whatever its type. -/
theorem ByteSl.lit_t (w : World) (S : Nat → Prop) (t : TypeId) (xs : List UInt8) (n : Nat) (hn : xs.length = n) (hS : ¬ S w.heap.size) (h : n ≤ maxLen) :
    ByteSl (w.alloc (.cells (cellsB xs) t)) S (some ⟨w.heap.size, 0, none⟩) n n xs := by
  refine ⟨hn, Nat.le_refl _, h, fun _ => ⟨_, rfl, by simp, hS, fun j x hx => ?_⟩⟩
  have ha : (⟨w.heap.size, 0, none⟩ : Addr).add j = ⟨w.heap.size, j, none⟩ := by unfold Addr.add; split <;> simp_all
  rw [ha, (Blk.new w t (cellsB xs)).cell, cellsB_get, hx]
  rfl

/-- A number's first six bytes, then their sum: what both Bytes do. -/
theorem head6_eq (s : Nat) : [67, 66] ++ putL s 4 = head6 s := rfl


set_option maxHeartbeats 1000000 in
theorem refBytes_any (s : Nat) (w : World) (hs : s ≤ 4294967295) : Calls Try.prog 17 #[.int .u32 (s : Int)] w fun e w' => GotB w w' 8 (headB s) e := by
  have kc := fun (w : World) (C : Array Value) (n c : Nat) => Lib.run_convert_bytes_const (P := Try.prog) w 24 5 C n c Try.underlying24 Try.underlying5
  go_enter Try.func17, Try.ntmps17
  go_wp2_with fail
  have hB : ByteSl (w.alloc (.cells (cellsB [67, 66]) 5 (2, 3))) Empty (some ⟨w.heap.size, 0, none⟩) 2 2 [67, 66] := ByteSl.marked w _ [67, 66] 2 _ rfl (fun h => h) (by decide)
  refine (refPut_yes _ 2 2 [67, 66] s 4 _ hB (fun h => by cases h) (by omega) (by omega) (by omega) (by omega)).mono ?_
  rintro e1 w1 ⟨⟨u, rfl, hown⟩, hb⟩
  rw [head6_eq] at hown
  have hb1 : Below w.heap.size w w1 := ((Below.refl _ _).alloc (Nat.le_refl _) (.cells (cellsB [67, 66]) 5 (2, 3))).trans (hb.mono (by simp))
  obtain ⟨A1, cap1, rfl, hB1, hn1⟩ := ByteSl.of_own (S := Empty) hown (fun _ _ _ h => h)
  have Hb1 := Lib.hid hb1
  have HB1 := Lib.hid hB1
  have HA1 : Hid (A1 = none → 6 = 0 ∧ cap1 = 0) := Lib.hid (fun h => by obtain ⟨g, e, _⟩ := hn1 (by omega); rw [e] at h; cases h)
  clear hB hown hb hb1 hB1 kc hn1
  go_wp2_with fail
  refine (refSum16_any A1 6 cap1 (head6 s) _ HB1.out).mono ?_
  rintro e1 w2 ⟨rfl, rfl⟩
  unfold V16
  have hv := (crc16 (head6 s)).isLt
  obtain ⟨v, hve⟩ : ∃ v, v = (crc16 (head6 s)).toNat := ⟨_, rfl⟩
  rw [← hve] at hv ⊢
  have hv2 : v ≤ 65535 := by omega
  have Hve := Lib.hid hve
  clear hv hve
  go_wp2_with fail
  refine (refPut_yes A1 6 cap1 (head6 s) v 2 _ HB1.out HA1.out (by omega) (by omega) (by omega) (by omega)).mono ?_
  rintro e1 w3 ⟨⟨u, rfl, hown⟩, hb⟩
  have Hown := Lib.hid hown
  have Hb3 := Lib.hid hb
  clear hown hb
  go_wp2
  go_ret
  refine ⟨⟨u, rfl, own_base ?_ Hb1.out.size⟩, Hb1.out.trans (Hb3.out.mono Hb1.out.size)⟩
  have h := Hown.out
  rw [Hve.out] at h
  exact h

end Go.Proofs.Ytidcgobnhfganaa
