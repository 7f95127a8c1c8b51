/- The walk over RecMakes, where it lets go of an input, and where a record is refused. -/
import Derived.Test.YtglagchgaclhaaaHl
import Derived.Test.YtglagchgaclhaaaHk
import Derived.Test.YtglagchgaclhaaaHg
import Derived.Test.YtglagchgaclhaaaHb
namespace Go.Proofs.Ytglagchgaclhaaa
open Go.RowKit

set_option maxRecDepth 100000 in
set_option maxHeartbeats 1000000 in
theorem recMakes_big (k t c : Int) (s : ByteArray) (A B : Option Addr) (n cap m cap2 : Nat) (l : Int) (w : World) (h : 300 < s.size ∨ 5000 < n ∨ 300 < m) :
    Calls Try.prog 3 #[.agg #[.int .i64 k, .int .u32 t, .string s, .slice A n cap, .int .i64 c], .int .u8 l, .slice B m cap2] w fun e w' => e = .returned (.bool true) ∧ Below w.heap.size w w' := by
  have Hblk := Lib.hid (Blk.new w 25 #[.int .i64 k, .int .u32 t, .string s, .slice A n cap, .int .i64 c])
  have Hbox := Lib.hid ((Below.refl w.heap.size w).alloc (Nat.le_refl _) (.cells #[.int .i64 k, .int .u32 t, .string s, .slice A n cap, .int .i64 c] 25))
  by_cases h1 : 300 < s.size
  · clear h
    go_enter Try.func3, Try.ntmps3
    go_wp2_with fail
    refine (fixed5_any _).mono ?_
    rintro e1 w1 ⟨rfl, hb1⟩
    have hk1 := Hblk.out.of (hb1.block w.heap.size (by simp))
    have HW1 := Lib.hid (Hbox.out.trans (hb1.mono Hbox.out.size))
    have k2 := hk1.cell 2
    have k3 := hk1.cell 3
    simp at k2 k3
    clear hb1 hk1
    go_wp2
    go_ret
    exact ⟨rfl, HW1.out⟩
  · by_cases h2 : 5000 < n
    · clear h
      go_enter Try.func3, Try.ntmps3
      go_wp2_with fail
      refine (fixed5_any _).mono ?_
      rintro e1 w1 ⟨rfl, hb1⟩
      have hk1 := Hblk.out.of (hb1.block w.heap.size (by simp))
      have HW1 := Lib.hid (Hbox.out.trans (hb1.mono Hbox.out.size))
      have k2 := hk1.cell 2
      have k3 := hk1.cell 3
      simp at k2 k3
      clear hb1 hk1
      go_wp2
      go_ret
      exact ⟨rfl, HW1.out⟩
    · have h3 : 300 < m := by omega
      clear h
      go_enter Try.func3, Try.ntmps3
      go_wp2_with fail
      refine (fixed5_any _).mono ?_
      rintro e1 w1 ⟨rfl, hb1⟩
      have hk1 := Hblk.out.of (hb1.block w.heap.size (by simp))
      have HW1 := Lib.hid (Hbox.out.trans (hb1.mono Hbox.out.size))
      have k2 := hk1.cell 2
      have k3 := hk1.cell 3
      simp at k2 k3
      clear hb1 hk1
      go_wp2
      go_ret
      exact ⟨rfl, HW1.out⟩

set_option maxRecDepth 100000 in
set_option maxHeartbeats 1000000 in
theorem recMakes_no (k t c : Int) (s : ByteArray) (A B : Option Addr) (n cap m cap2 : Nat) (l : Int) (w : World) (ht : 0 ≤ t) (h1 : ¬ 300 < s.size) (h2 : ¬ 5000 < n) (h3 : ¬ 300 < m) (hno : mayB k t (s.size : Int) (n : Int) c = false) :
    Calls Try.prog 3 #[.agg #[.int .i64 k, .int .u32 t, .string s, .slice A n cap, .int .i64 c], .int .u8 l, .slice B m cap2] w fun e w' => e = .returned (.bool true) ∧ Below w.heap.size w w' := by
  have C0 : Hid (Acc w w.heap.size 25 #[.int .i64 k, .int .u32 t, .string s, .slice A n cap, .int .i64 c] (w.alloc (.cells #[.int .i64 k, .int .u32 t, .string s, .slice A n cap, .int .i64 c] 25))) := Lib.hid ⟨(Below.refl w.heap.size w).alloc (Nat.le_refl _) _, Blk.new w 25 _⟩
  have N1 := Lib.hid (fun W => rcBytes_no k t c s A n cap W hno)
  have N2 : Hid (∀ W, Calls Try.prog 8 #[.agg #[.int .i64 k, .int .u32 t, .string s, .slice A n cap, .int .i64 c]] W fun e w' => e = .returned (.bool false) ∧ Below W.heap.size W w') := Lib.hid (fun W => by
    have h := right_any k t c s A n cap W ht
    rw [hno] at h
    exact h)
  clear hno ht
  go_enter Try.func3, Try.ntmps3
  go_wp2_with fail
  refine (fixed5_any _).mono ?_
  rintro e1 w1 ⟨rfl, hb1⟩
  have C1 := Lib.hid (C0.out.next hb1)
  have k0 := C1.out.blk.cell 0
  have k1 := C1.out.blk.cell 1
  have k2 := C1.out.blk.cell 2
  have k3 := C1.out.blk.cell 3
  have k4 := C1.out.blk.cell 4
  simp at k0 k1 k2 k3 k4
  clear hb1
  go_wp2_with fail
  clear k0 k1 k2 k3 k4
  refine (N1.out _).mono ?_
  rintro e2 w2 ⟨rfl, hb2⟩
  have C2 := Lib.hid (C1.out.next hb2)
  have k0 := C2.out.blk.cell 0
  have k1 := C2.out.blk.cell 1
  have k2 := C2.out.blk.cell 2
  have k3 := C2.out.blk.cell 3
  have k4 := C2.out.blk.cell 4
  simp at k0 k1 k2 k3 k4
  clear hb2
  go_wp2_with fail
  clear k0 k1 k2 k3 k4
  refine (N2.out _).mono ?_
  rintro e3 w3 ⟨rfl, hb3⟩
  have C3 := Lib.hid (C2.out.next hb3)
  clear hb3
  go_wp2
  go_ret
  exact ⟨rfl, C3.out.below⟩

end Go.Proofs.Ytglagchgaclhaaa
