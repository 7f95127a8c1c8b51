/- The walk over RecTurned, as far as its loop. -/
import Derived.Test.YtglagchgaclhaaaHl
import Derived.Test.YtglagchgaclhaaaHk
import Derived.Test.YtglagchgaclhaaaHg
import Derived.Test.YtglagchgaclhaaaHb
namespace Go.Proofs.Ytglagchgaclhaaa
open Go.RowKit

theorem flip16 (v : UInt8) (j : Nat) (h : j < 8) : Value.int .u8 (bits .xor .u8 (v.toNat : Int) (128 / 2 ^ j)) = B8 (v ^^^ way16.bit j) := by
  have e : ∀ j, j < 8 → (way16.bit j).toNat = 128 / 2 ^ j := by decide
  have e2 : (128 : Int) / 2 ^ j = (((way16.bit j).toNat : Nat) : Int) := by rw [e j h]; simp
  unfold B8
  rw [e2, u8_xor_nat _ _ v.toNat_lt (way16.bit j).toNat_lt, UInt8.toNat_xor]
theorem flip32 (v : UInt8) (j : Nat) (h : j < 8) : Value.int .u8 (bits .xor .u8 (v.toNat : Int) (2 ^ j % 256)) = B8 (v ^^^ way32.bit j) := by
  have e : ∀ j, j < 8 → (way32.bit j).toNat = 2 ^ j := by decide
  have e3 : ∀ j, j < 8 → (2 ^ j % 256 : Nat) = 2 ^ j := by decide
  have e2 : (2 : Int) ^ j % 256 = (((way32.bit j).toNat : Nat) : Int) := by
    have := e3 j h
    rw [e j h, ← this]
    simp
  unfold B8
  rw [e2, u8_xor_nat _ _ v.toNat_lt (way32.bit j).toNat_lt, UInt8.toNat_xor]

set_option maxHeartbeats 1000000 in
theorem recTurned_none (k t c : Int) (s : ByteArray) (A : Option Addr) (n cap : Nat) (z y : Int) (b : Bool) (w : World) (ht : 0 ≤ t) (h : mayB k t (s.size : Int) (n : Int) c = false ∨ y = 0) :
    Calls Try.prog 5 #[.agg #[.int .i64 k, .int .u32 t, .string s, .slice A n cap, .int .i64 c], .int .u16 z, .int .u32 y, .bool b] w fun e w' => e = .returned (.bool true) ∧ Below w.heap.size w w' := by
  have Hr := Lib.hid (fun W => right_any k t c s A n cap W ht)
  have Hbox := Lib.hid ((Below.refl w.heap.size w).alloc (Nat.le_refl _) (.cells #[.int .i64 k, .int .u32 t, .string s, .slice A n cap, .int .i64 c] 25))
  have Hblk := Lib.hid (Blk.new w 25 #[.int .i64 k, .int .u32 t, .string s, .slice A n cap, .int .i64 c])
  clear ht
  have H := Lib.hid h
  clear h
  cases hm : mayB k t (s.size : Int) (n : Int) c with
  | false =>
    rw [hm] at Hr
    clear hm H
    go_enter Try.func5, Try.ntmps5
    go_wp2_with fail
    refine (fixed5_any _).mono ?_
    rintro e1 w1 ⟨rfl, hb1⟩
    have hk1 := Hblk.out.of (hb1.block w.heap.size (by simp))
    have HW1 := Lib.hid (Hbox.out.trans (hb1.mono Hbox.out.size))
    have k0 := hk1.cell 0
    have k1 := hk1.cell 1
    have k2 := hk1.cell 2
    have k3 := hk1.cell 3
    have k4 := hk1.cell 4
    simp at k0 k1 k2 k3 k4
    clear hb1 hk1
    go_wp2_with fail
    refine (Hr.out _).mono ?_
    rintro e2 w2 ⟨rfl, hb2⟩
    have HW2 := Lib.hid (HW1.out.trans (hb2.mono HW1.out.size))
    clear hb2
    go_wp2
    go_ret
    exact ⟨rfl, HW2.out⟩
  | true =>
    have hy : y = 0 := H.out.resolve_left (by rw [hm]; simp)
    subst hy
    rw [hm] at Hr
    clear hm H
    go_enter Try.func5, Try.ntmps5
    go_wp2_with fail
    refine (fixed5_any _).mono ?_
    rintro e1 w1 ⟨rfl, hb1⟩
    have hk1 := Hblk.out.of (hb1.block w.heap.size (by simp))
    have HW1 := Lib.hid (Hbox.out.trans (hb1.mono Hbox.out.size))
    have k0 := hk1.cell 0
    have k1 := hk1.cell 1
    have k2 := hk1.cell 2
    have k3 := hk1.cell 3
    have k4 := hk1.cell 4
    simp at k0 k1 k2 k3 k4
    clear hb1 hk1
    go_wp2_with fail
    refine (Hr.out _).mono ?_
    rintro e2 w2 ⟨rfl, hb2⟩
    have HW2 := Lib.hid (HW1.out.trans (hb2.mono HW1.out.size))
    clear hb2
    go_wp2
    go_ret
    exact ⟨rfl, HW2.out⟩

end Go.Proofs.Ytglagchgaclhaaa
