/- The walk over RecMakes, where a record is made. -/
import Derived.Test.YtglagchgaclhaaaHr
namespace Go.Proofs.Ytglagchgaclhaaa
open Go.RowKit

set_option maxRecDepth 100000 in
set_option maxHeartbeats 4000000 in
theorem recMakes_yes (k t c : Nat) (s : ByteArray) (A B : Option Addr) (n cap m cap2 : Nat) (xs ms : List UInt8) (l : UInt8) (w : World) (hB0 : ByteSl w (fun q => w.heap.size ≤ q) A n cap xs) (hA : A = none → n = 0 ∧ cap = 0)
    (hM0 : ByteSl w (fun q => w.heap.size ≤ q) B m cap2 ms) (hBn : B = none → m = 0 ∧ cap2 = 0) (h3 : ¬ 300 < m) (ht : t ≤ 4294967295) (hm : mayB (k : Int) (t : Int) (s.size : Int) (n : Int) (c : Int) = true) :
    Calls Try.prog 3 #[.agg #[.int .i64 (k : Int), .int .u32 (t : Int), .string s, .slice A n cap, .int .i64 (c : Int)], .int .u8 (l.toNat : Int), .slice B m cap2] w fun e w' => e = .returned (.bool true) ∧ Below w.heap.size w w' := by
  have hB := hB0.mono (T := Empty) (fun _ _ h => h.elim)
  have hM := hM0.mono (T := Empty) (fun _ _ h => h.elim)
  have hsz : s.size ≤ 64 ∧ n ≤ 4096 := by have := mayB_iff.1 hm; omega
  obtain ⟨hs64, hn4⟩ := hsz
  have h1 : ¬ 300 < s.size := by omega
  have h2 : ¬ 5000 < n := by omega
  have HB := Lib.hid hB
  have HM := Lib.hid hM
  have HA := Lib.hid hA
  have HBn := Lib.hid hBn
  have Hm := Lib.hid hm
  have C0 : Hid (Acc w w.heap.size 25 #[.int .i64 (k : Int), .int .u32 (t : Int), .string s, .slice A n cap, .int .i64 (c : Int)] (w.alloc (.cells #[.int .i64 (k : Int), .int .u32 (t : Int), .string s, .slice A n cap, .int .i64 (c : Int)] 25))) := Lib.hid ⟨(Below.refl w.heap.size w).alloc (Nat.le_refl _) _, Blk.new w 25 _⟩
  obtain ⟨N, hN⟩ : ∃ N, N = 15 + s.size + n := ⟨_, rfl⟩
  have hN2 : N ≤ 5000 := by omega
  have N1 : Hid (∀ W, ByteSl W Empty A n cap xs → Calls Try.prog 7 #[.agg #[.int .i64 (k : Int), .int .u32 (t : Int), .string s, .slice A n cap, .int .i64 (c : Int)]] W fun e w' =>
      (∃ A' cap', e = .returned (.tuple #[.slice A' N cap', .int .i64 0]) ∧ Got W.heap.size w' A' N cap' (recB k t c s.data.toList xs)) ∧ Below W.heap.size W w') := Lib.hid (fun W h => by rw [hN]; exact rcBytes_yes k t c s A n cap xs W hm ht h hA)
  have N2 : Hid (∀ W, Calls Try.prog 8 #[.agg #[.int .i64 (k : Int), .int .u32 (t : Int), .string s, .slice A n cap, .int .i64 (c : Int)]] W fun e w' => e = .returned (.bool true) ∧ Below W.heap.size W w') := Lib.hid (fun W => by
    have h := right_any (k : Int) (t : Int) (c : Int) s A n cap W (by omega)
    rw [hm] at h
    exact h)
  have N3 : Hid (∀ W, ByteSl W Empty A n cap xs → Calls Try.prog 10 #[.agg #[.int .i64 (k : Int), .int .u32 (t : Int), .string s, .slice A n cap, .int .i64 (c : Int)]] W fun e w' =>
      (∃ A' cap', e = .returned (.slice A' N cap') ∧ Got W.heap.size w' A' N cap' (recB k t c s.data.toList xs)) ∧ Below W.heap.size W w') := Lib.hid (fun W h => by rw [hN]; exact r5Bytes_yes k t c s A n cap xs W hm ht h hA)
  have HN := Lib.hid hN
  clear hB0 hM0 hB hM hA hBn hm hN
  go_enter Try.func3, Try.ntmps3
  go_wp2_with fail
  refine (fixed5_any _).mono ?_
  rintro e1 w1 ⟨rfl, hb1⟩
  have C1 := Lib.hid (C0.out.next hb1)
  have k0 := C1.out.blk.cell 0
  have k1 := C1.out.blk.cell 1
  have k2 := C1.out.blk.cell 2
  have k3 := C1.out.blk.cell 3
  have k4 := C1.out.blk.cell 4
  simp at k0 k1 k2 k3 k4
  clear hb1
  go_wp2_with fail
  clear k0 k1 k2 k3 k4
  refine (N1.out _ (HB.out.only (Only.of_below (S := Empty) C1.out.below) (fun _ _ h => h))).mono ?_
  rintro e2 w2 ⟨⟨A2, c2, rfl, hG2⟩, hb2⟩
  have C2 := Lib.hid (C1.out.next hb2)
  have G2 := Lib.hid hG2
  have Hz1 : Hid (w.heap.size < w1.heap.size) := Lib.hid C1.out.blk.lt
  have k0 := C2.out.blk.cell 0
  have k1 := C2.out.blk.cell 1
  have k2 := C2.out.blk.cell 2
  have k3 := C2.out.blk.cell 3
  have k4 := C2.out.blk.cell 4
  simp at k0 k1 k2 k3 k4
  clear hb2 hG2
  go_wp2_with fail
  clear k0 k1 k2 k3 k4
  refine (N2.out _).mono ?_
  rintro e3 w3 ⟨rfl, hb3⟩
  have C3 := Lib.hid (C2.out.next hb3)
  have G3 := Lib.hid (G2.out.next hb3)
  clear hb3
  -- what stands in memory ahead of the appends
  obtain ⟨R, hR⟩ : ∃ R, R = recB k t c s.data.toList xs := ⟨_, rfl⟩
  rw [← hR] at G3 N3
  have HR := Lib.hid hR
  clear hR
  have Hz3 : Hid (w.heap.size < w3.heap.size) := Lib.hid C3.out.blk.lt
  have X3 := Lib.hid ((HB.out.only (Only.of_below (S := Empty) C3.out.below) (fun _ _ h => h)).mono (T := fun q => w3.heap.size ≤ q) (fun q h1 h2 => by omega))
  have M3 := Lib.hid ((HM.out.only (Only.of_below (S := Empty) C3.out.below) (fun _ _ h => h)).mono (T := fun q => w3.heap.size ≤ q) (fun q h1 h2 => by omega))
  have R3 := Lib.hid (G3.out.bytes.mono (T := fun q => w3.heap.size ≤ q) (fun q h1 h2 => by omega))
  have O3 := Lib.hid (own_made w3 w3.heap.size (Nat.le_refl _))
  have G4 := Lib.hid (G3.out.alloc (.cells #[] 5))
  have L3 : Hid (w3.heap.size ≤ (w3.alloc (.cells #[] 5)).heap.size) := Lib.hid (by simp)
  go_wp2_with (at_builtin; refine wpList_append_bytes rfl (.tmp 46) (.tmp 47) rfl w3.heap.size _ rfl 0 [] O3.out A2 N c2 R Empty rfl G4.out.bytes G4.out.isNil (by omega) L3.out ?_)
  intro v5 w5 hown5 hg5 _
  have hown5' : w5.ownsRow w3.heap.size 5 1 v5 N (R.map B8) := by simpa using hown5
  have T5 := Lib.hid (((Only.refl (fun q => w3.heap.size ≤ q) w3).alloc (.cells #[] 5)).trans (Only.of_grown hg5 (fun q hq _ => (O3.out.lt q hq).1)))
  have O5 := Lib.hid (own_alloc hown5' (.cells #[B8 l] 5))
  have L5 : Hid (w3.heap.size ≤ (w5.alloc (.cells #[B8 l] 5)).heap.size) := Lib.hid (by have := T5.out.size; simp; omega)
  have B5 : Hid (ByteSl (w5.alloc (.cells #[B8 l] 5)) Empty (some ⟨w5.heap.size, 0, none⟩) 1 1 [l]) := Lib.hid (ByteSl.lit w5 Empty [l] 1 rfl (fun h => h) (by decide))
  unfold B8 at O5 L5 B5
  clear hown5 hown5' hg5
  go_wp2_with (at_builtin; refine wpList_append_bytes rfl (.tmp 48) (.tmp 50) rfl w3.heap.size _ rfl N R O5.out (some ⟨w5.heap.size, 0, none⟩) 1 1 [l] Empty rfl B5.out (fun h => by cases h) (by omega) L5.out ?_)
  intro v6 w6 hown6 hg6 _
  have hown6' : w6.ownsRow w3.heap.size 5 1 v6 (N + 1) ((R ++ [l]).map B8) := by first | exact hown6 | simpa using hown6
  have T6 := Lib.hid ((T5.out.alloc (.cells #[.int .u8 (l.toNat : Int)] 5)).trans (Only.of_grown hg6 (fun q hq _ => (O5.out.lt q hq).1)))
  have O6 := Lib.hid hown6'
  have L6 : Hid (w3.heap.size ≤ w6.heap.size) := Lib.hid T6.out.size
  have M6 := Lib.hid (M3.out.only T6.out (fun _ _ h => h))
  clear hown6 hown6' hg6
  go_wp2_with (at_builtin; refine wpList_append_bytes rfl (.tmp 51) (.tmp 52) rfl w3.heap.size _ rfl (N + 1) (R ++ [l]) O6.out B m cap2 ms _ rfl M6.out HBn.out (by omega) L6.out ?_)
  intro v7 w7 hown7 hg7 _
  have hown7' : w7.ownsRow w3.heap.size 5 1 v7 (N + 1 + m) ((R ++ [l] ++ ms).map B8) := by
    first | exact hown7 | (simp only [List.map_append, List.append_assoc] at hown7 ⊢; exact hown7)
  have T7 := Lib.hid (T6.out.trans (Only.of_grown hg7 (fun q hq _ => (O6.out.lt q hq).1)))
  obtain ⟨A7, c7, rfl, hG7⟩ := Got.of_own hown7'
  have G7 := Lib.hid hG7
  clear hown7 hown7' hg7 hG7
  obtain ⟨wl, hwl⟩ : ∃ wl, wl = decide (l = 0) := ⟨_, rfl⟩
  have hzb := u8_dec l 0 0 rfl
  rw [← hwl] at hzb
  have N4 : Hid (∀ W, ByteSl W Empty A7 (N + 1 + m) c7 (R ++ [l] ++ ms) → Calls Try.prog 9 #[.slice A7 (N + 1 + m) c7] W fun e W' => (∃ A' cap', e = .returned (.tuple #[.agg #[.int .i64 (k : Int), .int .u32 (t : Int), .string s, .slice A' n cap', .int .i64 (c : Int)], .int .i64 ((N : Int) + 1), .bool wl, .int .i64 0]) ∧ Got W.heap.size W' A' n cap' xs) ∧ Below W.heap.size W W') := Lib.hid (fun W h =>
    (rcParse_any A7 (N + 1 + m) c7 _ W h (by omega)).mono fun e W' ⟨⟨A', n', cap', he, hg⟩, hb⟩ => by
      have hlen : s.data.toList.length = s.size := Array.length_toList
      have hxl : xs.length = n := HB.out.1
      have ho := out_made k t c s.data.toList xs l ms (by rw [hlen, hxl]; exact Hm.out) ht
      have hcat : R ++ [l] ++ ms = recB k t c s.data.toList xs ++ l :: ms := by rw [HR.out]; simp
      have hstr : strB s.data.toList = s := by
        apply ByteArray.ext
        simp [strB]
      rw [hcat, ho] at he hg
      have hn' : n' = n := by have := hg.bytes.1; rw [← this]; exact hxl
      subst hn'
      refine ⟨⟨A', cap', ?_, hg⟩, hb⟩
      rw [he]
      show Ending.returned (.tuple #[.agg #[.int .i64 (k : Int), .int .u32 (t : Int), .string (strB s.data.toList), .slice A' n' cap', .int .i64 (c : Int)], .int .i64 ((s.data.toList.length + xs.length + 16 : Nat) : Int), .bool (decide (l = 0)), .int .i64 0]) = _
      rw [hstr, ← hwl, hlen, hxl, show ((s.size + n' + 16 : Nat) : Int) = (N : Int) + 1 by have := HN.out; omega])
  clear hwl
  go_wp2_with fail
  refine (N4.out _ G7.out.bytes).mono ?_
  rintro e8 w8 ⟨⟨A8, c8, rfl, hG8⟩, hb8⟩
  have T8 := Lib.hid (T7.out.trans (Only.of_below hb8))
  have G8 := Lib.hid (hG8.alloc (.cells #[.int .i64 (k : Int), .int .u32 (t : Int), .string s, .slice A8 n c8, .int .i64 (c : Int)] 25))
  clear hb8 hG8
  go_wp2_with fail
  have HT9 := Lib.hid (T8.out.alloc (.cells #[.int .i64 (k : Int), .int .u32 (t : Int), .string s, .slice A8 n c8, .int .i64 (c : Int)] 25))
  have HK9 := Lib.hid (Blk.new w8 25 #[.int .i64 (k : Int), .int .u32 (t : Int), .string s, .slice A8 n c8, .int .i64 (c : Int)])
  obtain ⟨w9, hw9⟩ : ∃ w9, w9 = w8.alloc (.cells #[.int .i64 (k : Int), .int .u32 (t : Int), .string s, .slice A8 n c8, .int .i64 (c : Int)] 25) := ⟨_, rfl⟩
  rw [← hw9] at HT9 HK9 G8 ⊢
  clear hw9
  have HI : Hid (∀ W, Only Empty w9 W → W.cell? ⟨w.heap.size, 0, none⟩ = some (.int .i64 (k : Int)) ∧ W.cell? ⟨w.heap.size, 1, none⟩ = some (.int .u32 (t : Int)) ∧ W.cell? ⟨w.heap.size, 2, none⟩ = some (.string s) ∧ W.cell? ⟨w.heap.size, 3, none⟩ = some (.slice A n cap) ∧ W.cell? ⟨w.heap.size, 4, none⟩ = some (.int .i64 (c : Int)) ∧ W.cell? ⟨w8.heap.size, 0, none⟩ = some (.int .i64 (k : Int)) ∧ W.cell? ⟨w8.heap.size, 1, none⟩ = some (.int .u32 (t : Int)) ∧ W.cell? ⟨w8.heap.size, 2, none⟩ = some (.string s) ∧ W.cell? ⟨w8.heap.size, 3, none⟩ = some (.slice A8 n c8) ∧ W.cell? ⟨w8.heap.size, 4, none⟩ = some (.int .i64 (c : Int))) := Lib.hid (fun W hW => by
    have hk1 := hW.blk (HT9.out.blk C3.out.blk (by have := Hz3.out; omega)) (fun h => h)
    have hk2 := hW.blk HK9.out (fun h => h)
    exact ⟨hk1.cell 0, hk1.cell 1, hk1.cell 2, hk1.cell 3, hk1.cell 4, hk2.cell 0, hk2.cell 1, hk2.cell 2, hk2.cell 3, hk2.cell 4⟩)
  have HX : Hid (∀ W, Only Empty w9 W → ByteSl W Empty A n cap xs) := Lib.hid (fun W hW => ((X3.out.only HT9.out (fun _ _ h => h)).mono (T := Empty) (fun _ _ h => h.elim)).only hW (fun _ _ h => h))
  have HC : Hid (∀ W, Only Empty w9 W → (convert 23 9 (.slice A2 N c2)).run Try.prog W = .ok (.string (strB R)) W) := Lib.hid (fun W hW => conv_bytes (((R3.out.only HT9.out (fun _ _ h => h)).mono (T := Empty) (fun _ _ h => h.elim)).only hW (fun _ _ h => h)))
  have P1 : Hid (∀ W, Only Empty w9 W → Calls Try.prog 10 #[.agg #[.int .i64 (k : Int), .int .u32 (t : Int), .string s, .slice A n cap, .int .i64 (c : Int)]] W fun e W' => (∃ u, e = .returned u ∧ (convert 23 9 u).run Try.prog W' = .ok (.string (strB R)) W') ∧ Only Empty w9 W') := Lib.hid (fun W hW =>
    (N3.out W (HX.out W hW)).mono fun e W' ⟨⟨A', cap', he, hg⟩, hb⟩ => ⟨⟨_, he, conv_bytes hg.bytes⟩, hW.trans (Only.of_below hb)⟩)
  have P2 : Hid (∀ W, Only Empty w9 W → Calls Try.prog 11 #[.agg #[.int .i64 (k : Int), .int .u32 (t : Int), .string s, .slice A n cap, .int .i64 (c : Int)]] W fun e W' => e = .returned (.int .i64 ((N : Int) + 1)) ∧ Only Empty w9 W') := Lib.hid (fun W hW =>
    (rcSize_any (k : Int) (t : Int) (c : Int) s A n cap W (by omega) (by omega)).mono fun e W' ⟨he, hb⟩ => ⟨by rw [he, show ((s.size + n + 16 : Nat) : Int) = (N : Int) + 1 by have := HN.out; omega], hW.trans (Only.of_below hb)⟩)
  have P3 : Hid (∀ W, Only Empty w9 W → Calls Try.prog 12 #[.agg #[.int .i64 (k : Int), .int .u32 (t : Int), .string s, .slice A n cap, .int .i64 (c : Int)]] W fun e W' => e = .returned (.int .i64 ((N : Int) + 1)) ∧ Only Empty w9 W') := Lib.hid (fun W hW =>
    (refSize_any (k : Int) (t : Int) (c : Int) s A n cap W (by omega) (by omega)).mono fun e W' ⟨he, hb⟩ => ⟨by rw [he, show ((s.size + n + 16 : Nat) : Int) = (N : Int) + 1 by have := HN.out; omega], hW.trans (Only.of_below hb)⟩)
  have P4 : Hid (∀ W, Only Empty w9 W → Calls Try.prog 13 #[.agg #[.int .i64 (k : Int), .int .u32 (t : Int), .string s, .slice A8 n c8, .int .i64 (c : Int)], .agg #[.int .i64 (k : Int), .int .u32 (t : Int), .string s, .slice A n cap, .int .i64 (c : Int)]] W fun e W' => e = .returned (.bool true) ∧ Only Empty w9 W') := Lib.hid (fun W hW =>
    (same_yes (k : Int) (t : Int) (c : Int) s A8 A n n c8 cap xs W (G8.out.bytes.only hW (fun _ _ h => h)) (HX.out W hW)).mono fun e W' ⟨he, hb⟩ => ⟨he, hW.trans (Only.of_below hb)⟩)
  have Hend : Hid (∀ W, Only Empty w9 W → Below w.heap.size w W) := Lib.hid (fun W hW => (C3.out.below.trans (HT9.out.below (B := w.heap.size) (Nat.le_of_lt Hz3.out) (fun q h1 h2 => by have := Hz3.out; omega))).trans (hW.below (B := w.heap.size) (by have := HT9.out.size; have := Hz3.out; omega) (fun _ _ h => h)))
  clear h1 h2 h3 hs64 hn4 hN2
  have hD0 : Only Empty w9 w9.drew := (Only.refl _ _).drew
  have hs0 := HI.out _ (Only.refl Empty w9)
  have hs1 := HI.out _ hD0
  have hc1 := HC.out _ hD0
  have hwn : IntKind.i64.wrap ((N : Int) + 1) = (N : Int) + 1 := IntWalk.i64_in _ (by have := HN.out; have := mayB_iff.1 Hm.out; omega)
  go_region_held (fun W => W.cell? ⟨w.heap.size, 0, none⟩ = some (.int .i64 (k : Int)) ∧ W.cell? ⟨w.heap.size, 1, none⟩ = some (.int .u32 (t : Int)) ∧ W.cell? ⟨w.heap.size, 2, none⟩ = some (.string s) ∧ W.cell? ⟨w.heap.size, 3, none⟩ = some (.slice A n cap) ∧ W.cell? ⟨w.heap.size, 4, none⟩ = some (.int .i64 (c : Int)) ∧ W.cell? ⟨w8.heap.size, 0, none⟩ = some (.int .i64 (k : Int)) ∧ W.cell? ⟨w8.heap.size, 1, none⟩ = some (.int .u32 (t : Int)) ∧ W.cell? ⟨w8.heap.size, 2, none⟩ = some (.string s) ∧ W.cell? ⟨w8.heap.size, 3, none⟩ = some (.slice A8 n c8) ∧ W.cell? ⟨w8.heap.size, 4, none⟩ = some (.int .i64 (c : Int))) (first | with_reducible exact hs0 | with_reducible exact hs1 | with_reducible exact hs10 | with_reducible exact hs20 | with_reducible exact hs30 | with_reducible exact hs40)
    (first | ((go_at_call 10; (with_reducible refine (P1.out _ hD0).mono ?_); rintro e10 w10 ⟨⟨u10, rfl, hcv10⟩, hO10⟩; have hs10 := HI.out _ hO10; have hc10 := HC.out _ hO10)) | ((go_at_call 11; (with_reducible refine (P2.out _ hO10).mono ?_); rintro e20 w20 ⟨rfl, hO20⟩; have hs20 := HI.out _ hO20)) | ((go_at_call 12; (with_reducible refine (P3.out _ hO20).mono ?_); rintro e30 w30 ⟨rfl, hO30⟩; have hs30 := HI.out _ hO30)) | ((go_at_call 13; (with_reducible refine (P4.out _ hO30).mono ?_); rintro e40 w40 ⟨rfl, hO40⟩; have hs40 := HI.out _ hO40)))
  all_goals
    go_wp2
    go_ret
    exact ⟨rfl, Hend.out _ hO40⟩

end Go.Proofs.Ytglagchgaclhaaa
