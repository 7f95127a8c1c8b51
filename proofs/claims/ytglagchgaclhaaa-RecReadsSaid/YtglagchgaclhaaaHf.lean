/- The walks over rec.Bytes: refused, and made. -/
import Derived.Test.YtglagchgaclhaaaHe
namespace Go.Proofs.Ytglagchgaclhaaa
open Go.RowKit

set_option maxHeartbeats 1000000 in
theorem rcBytes_no (k t c : Int) (s : ByteArray) (A : Option Addr) (n cap : Nat) (w : World) (hno : mayB k t (s.size : Int) (n : Int) c = false) :
    Calls Try.prog 7 #[.agg #[.int .i64 k, .int .u32 t, .string s, .slice A n cap, .int .i64 c]] w fun e w' => e = .returned (.tuple #[.slice none 0 0, .int .i64 8]) ∧ Below w.heap.size w w' := by
  have Hno := Lib.hid hno
  clear hno
  go_enter Try.func7, Try.ntmps7
  go_wp2_with fail
  have hb0 := (Below.refl w.heap.size w).alloc (Nat.le_refl _) (.cells #[.int .i64 k, .int .u32 t, .string s, .slice A n cap, .int .i64 c] 25)
  refine (headOf_any k t c s A n cap _).mono ?_
  rintro e1 w1 ⟨rfl, hb1⟩
  have Hb1 := Lib.hid (hb0.trans (hb1.mono hb0.size))
  clear hb0 hb1
  go_wp2_with fail
  have hb2 := Hb1.out.alloc Hb1.out.size (.cells #[.int .i64 k, .int .u32 t, .int .i64 (s.size : Int), .int .i64 (n : Int), .int .i64 c] 42)
  refine (mayBe_any k t (s.size : Int) (n : Int) c _).mono ?_
  rw [Hno.out]
  rintro e1 w2 ⟨rfl, hb3⟩
  have Hb3 := Lib.hid (hb2.trans (hb3.mono hb2.size))
  clear hb2 hb3
  go_wp2
  go_ret2
  exact ⟨rfl, Hb3.out⟩

set_option maxHeartbeats 2000000 in
theorem rcBytes_yes (k t c : Nat) (s : ByteArray) (A : Option Addr) (n cap : Nat) (xs : List UInt8) (w : World) (hyes : mayB (k : Int) (t : Int) (s.size : Int) (n : Int) (c : Int) = true) (ht : t ≤ 4294967295) (hB : ByteSl w Empty A n cap xs) (hA : A = none → n = 0 ∧ cap = 0) :
    Calls Try.prog 7 #[.agg #[.int .i64 (k : Int), .int .u32 (t : Int), .string s, .slice A n cap, .int .i64 (c : Int)]] w fun e w' =>
      (∃ A' cap', e = .returned (.tuple #[.slice A' (15 + s.size + n) cap', .int .i64 0]) ∧ Got w.heap.size w' A' (15 + s.size + n) cap' (recB k t c s.data.toList xs)) ∧ Below w.heap.size w w' := by
  have hy := mayB_iff.1 hyes
  have hk : k ≤ 255 := by omega
  have ha : s.size ≤ 64 := by omega
  have hb : n ≤ 4096 := by omega
  have hc : c ≤ 16 := by omega
  have Hyes := Lib.hid hyes
  have HB := Lib.hid hB
  have HA := Lib.hid hA
  clear hyes hB hA hy
  have C0 : Hid (Acc w w.heap.size 25 #[.int .i64 (k : Int), .int .u32 (t : Int), .string s, .slice A n cap, .int .i64 (c : Int)] (w.alloc (.cells #[.int .i64 (k : Int), .int .u32 (t : Int), .string s, .slice A n cap, .int .i64 (c : Int)] 25))) := Lib.hid ⟨(Below.refl w.heap.size w).alloc (Nat.le_refl _) _, Blk.new w 25 _⟩
  go_enter Try.func7, Try.ntmps7
  go_wp2_with fail
  refine (headOf_any k t c s A n cap _).mono ?_
  rintro e1 w1 ⟨rfl, hb1⟩
  have C1 := Lib.hid (C0.out.next hb1)
  clear hb1
  go_wp2_with fail
  have C2 := Lib.hid (C1.out.alloc (.cells #[.int .i64 (k : Int), .int .u32 (t : Int), .int .i64 (s.size : Int), .int .i64 (n : Int), .int .i64 (c : Int)] 42))
  have hk2 := Blk.new w1 42 #[.int .i64 (k : Int), .int .u32 (t : Int), .int .i64 (s.size : Int), .int .i64 (n : Int), .int .i64 (c : Int)]
  refine (mayBe_any k t (s.size : Int) (n : Int) c _).mono ?_
  rw [Hyes.out]
  rintro e1 w2 ⟨rfl, hb3⟩
  have C3 := Lib.hid (C2.out.next hb3)
  have K3 := Lib.hid (hk2.of (hb3.block w1.heap.size (by simp)))
  clear hb3 hk2
  go_wp2_with fail
  have HS : Hid (∀ W, Only (fun q => w2.heap.size ≤ q) w2 W → W.cell? ⟨w1.heap.size, 0, none⟩ = some (.int .i64 (k : Int)) ∧ W.cell? ⟨w1.heap.size, 1, none⟩ = some (.int .u32 (t : Int)) ∧ W.cell? ⟨w1.heap.size, 2, none⟩ = some (.int .i64 (s.size : Int)) ∧ W.cell? ⟨w1.heap.size, 3, none⟩ = some (.int .i64 (n : Int)) ∧ W.cell? ⟨w1.heap.size, 4, none⟩ = some (.int .i64 (c : Int)) ∧ W.cell? ⟨w.heap.size, 2, none⟩ = some (.string s)) := Lib.hid (fun W h => by
    have hk4 := h.blk K3.out (by have := K3.out.lt; omega)
    have hk1 := h.blk C3.out.blk (by have := C3.out.blk.lt; omega)
    exact ⟨hk4.cell 0, hk4.cell 1, hk4.cell 2, hk4.cell 3, hk4.cell 4, hk1.cell 2⟩)
  have hD : Only (fun q => w2.heap.size ≤ q) w2 w2.drew := (Only.refl _ _).drew
  have hs1 := HS.out _ hD
  have HD := Lib.hid hD
  have N1 : Hid (∀ W, W.heap.size = w2.heap.size → Calls Try.prog 17 #[.agg #[.int .i64 (k : Int), .int .u32 (t : Int), .int .i64 (s.size : Int), .int .i64 (n : Int), .int .i64 (c : Int)]] W fun e W' => (∃ A' cap', e = .returned (.slice A' 11 cap') ∧ W'.ownsRow w2.heap.size 5 1 (.slice A' 11 cap') 11 ((headR k t s.size n c).map B8)) ∧ Only (fun q => w2.heap.size ≤ q) W W' ∧ w2.heap.size ≤ W'.heap.size) := Lib.hid (fun W hW =>
    (hBytes_any k t s.size n c W hk ht (by omega) (by omega) (by omega)).mono fun e W' ⟨⟨u, he, ho⟩, hb⟩ => by
      rw [hW] at ho
      obtain ⟨A', cap', rfl, -, -⟩ := ByteSl.of_own (S := Empty) ho (fun _ _ _ h => h)
      exact ⟨⟨A', cap', he, ho⟩, Only.of_below hb, by have := hb.size; omega⟩)
  have Hsz : Hid (11 + s.size ≤ 16777216) := Lib.hid (by omega)
  have Hd2 : Hid (w2.drew.heap.size = w2.heap.size) := Lib.hid rfl
  clear hD
  go_region_held3 (fun W => W.cell? ⟨w1.heap.size, 0, none⟩ = some (.int .i64 (k : Int)) ∧ W.cell? ⟨w1.heap.size, 1, none⟩ = some (.int .u32 (t : Int)) ∧ W.cell? ⟨w1.heap.size, 2, none⟩ = some (.int .i64 (s.size : Int)) ∧ W.cell? ⟨w1.heap.size, 3, none⟩ = some (.int .i64 (n : Int)) ∧ W.cell? ⟨w1.heap.size, 4, none⟩ = some (.int .i64 (c : Int)) ∧ W.cell? ⟨w.heap.size, 2, none⟩ = some (.string s)) (first | with_reducible exact hs1 | with_reducible exact hs10 | with_reducible exact hs11)
    (first | ((go_at_call 17; (with_reducible refine (N1.out _ Hd2.out).mono ?_); rintro e10 w10 ⟨⟨A10, c10, rfl, hown10⟩, hO10, hz10⟩; have hT10 := HD.out.trans hO10; have hs10 := HS.out _ hT10)) | ((refine step_append_str rfl (.tmp 12) (.tmp 14) rfl w2.heap.size (.slice A10 11 c10) rfl 11 (headR k t s.size n c) hown10 s rfl Hsz.out hz10 ?_; intro v11 w11 hown11 hg11 hnn11; have hO11 := Only.of_grown (S := fun q => w2.heap.size ≤ q) hg11 (fun q hq _ => (hown10.lt q hq).1); have hs11 := HS.out _ (hT10.trans hO11))))
  have hT11 := hT10.trans hO11
  have hC11 : Acc w w.heap.size 25 #[.int .i64 (k : Int), .int .u32 (t : Int), .string s, .slice A n cap, .int .i64 (c : Int)] w11 :=
    ⟨C3.out.below.trans (hT11.below (B := w.heap.size) C3.out.below.size (fun q h1 h2 => by have := C3.out.below.size; omega)), hT11.blk C3.out.blk (by have := C3.out.blk.lt; omega)⟩
  have C11 := Lib.hid hC11
  have O11 := Lib.hid (own_base hown11 C3.out.below.size)
  have B11 := Lib.hid (HB.out.only (Only.of_below (S := Empty) hC11.below) (fun _ _ h => h))
  have z11 := hC11.blk.cell 3
  simp at z11
  clear hT11 hC11 hown11 hg11 hnn11 hO11 hs11 hs10 hT10 hO10 hz10 hown10 hs1
  go_wp2_with (at_builtin; refine wpList_append_bytes rfl (.tmp 16) (.tmp 18) rfl w.heap.size _ rfl (11 + s.size) (headR k t s.size n c ++ s.data.toList) O11.out A n cap xs Empty rfl B11.out HA.out (by omega) C11.out.below.size ?_)
  intro v12 w12 hown12 hg12 hnn12
  have hown13 : w12.ownsRow w.heap.size 5 1 v12 (11 + s.size + n) ((headR k t s.size n c ++ s.data.toList ++ xs).map B8) := by
    rw [List.map_append, List.map_append, List.append_assoc]
    exact hown12
  obtain ⟨A12, c12, rfl, hG12⟩ := Got.of_own hown13
  have hlt := O11.out.lt
  have hb12 : Below w.heap.size w w12 := below_grown C11.out.below C11.out.below.size hg12 (fun q hq => (hlt q hq).1)
  have hlen : s.data.toList.length = s.size := Array.length_toList
  have hxl : xs.length = n := HB.out.1
  have hbody : headR k t s.size n c ++ s.data.toList ++ xs = bodyR k t c s.data.toList xs := by unfold bodyR; rw [hlen, hxl]
  rw [hbody] at hG12
  have G12 := Lib.hid hG12
  have C12 := Lib.hid hb12
  clear hown12 hown13 hG12 hg12 hnn12 hlt hb12 hlen hxl hbody z11
  go_wp2_with fail
  refine (sum32_any A12 (11 + s.size + n) c12 (bodyR k t c s.data.toList xs) _ G12.out.bytes).mono ?_
  rintro e1 w13 ⟨rfl, hb13⟩
  have G13 := Lib.hid (G12.out.next hb13)
  have C13 := Lib.hid (C12.out.trans (hb13.mono C12.out.size))
  clear hb13
  unfold V32
  have hv := (crc32 (bodyR k t c s.data.toList xs)).isLt
  obtain ⟨v, hve⟩ : ∃ v, v = (crc32 (bodyR k t c s.data.toList xs)).toNat := ⟨_, rfl⟩
  rw [← hve] at hv ⊢
  have hv2 : v ≤ 4294967295 := by omega
  have Hve := Lib.hid hve
  clear hv hve
  go_wp2_with fail
  refine (put_yes A12 (11 + s.size + n) c12 (bodyR k t c s.data.toList xs) v 4 _ G13.out.bytes (by omega) (by omega) (by omega) (by omega)).mono ?_
  rintro e1 w14 ⟨⟨u, rfl, hown14⟩, hb14⟩
  have h14 := own_base hown14 C13.out.size
  rw [Hve.out, show 11 + s.size + n + 4 = 15 + s.size + n by omega] at h14
  obtain ⟨A14, c14, rfl, hG14⟩ := Got.of_own (base := w.heap.size) (xs := recB k t c s.data.toList xs) h14
  have G14 := Lib.hid hG14
  have C14 := Lib.hid (C13.out.trans (hb14.mono C13.out.size))
  clear hown14 hb14 h14 hG14
  go_wp2
  go_ret2
  exact ⟨⟨_, _, rfl, G14.out⟩, C14.out⟩

end Go.Proofs.Ytglagchgaclhaaa
