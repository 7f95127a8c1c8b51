/- SHA-256: what the laws' head says; arrays of bytes compared. -/
import Derived.Test.YtpcjmicciccihaaDoorZah
import Derived.Stop.BytesEq
import Derived.Test.YtpcjmicciccihaaDoorZad
import Derived.Lib.SlBytesConst
namespace Go.Proofs.YtpcjmicciccihaaDoor
set_option maxRecDepth 100000
open Go.RowKit

theorem size8 : ∀ W : World, (sizeOf 5).run Tryd.prog W = .ok 1 W := fun W => by kernel_rfl
theorem eqI (W : World) (xs ys : List UInt8) (hx : xs.length = 32) (hy : ys.length = 32) : (Op.equalIn 10000 24 (.agg (cellsB xs)) (.agg (cellsB ys))).run Tryd.prog W = .ok (xs == ys) W :=
  run_equalIn_bytes W 9998 24 5 32 Tryd.underlying24 Tryd.underlying5 size8 xs ys hx hy
theorem unhexV_x : unhexV [120] = .tuple #[.agg (cellsB (List.replicate 32 0)), .int .i64 8] := by
  unfold unhexV unhexF
  rw [if_neg (fun h => by have := h.1; simp at this)]

def abcL : List UInt8 := [0xba, 0x78, 0x16, 0xbf, 0x8f, 0x01, 0xcf, 0xea, 0x41, 0x41, 0x40, 0xde, 0x5d, 0xae, 0x22, 0x23, 0xb0, 0x03, 0x61, 0xa3, 0x96, 0x17, 0x7a, 0x9c, 0xb4, 0x10, 0xff, 0x61, 0xf2, 0x00, 0x15, 0xad]
theorem hex_abc : ∃ r, hexF abcL = [98, 97, 55, 56, 49, 54, 98, 102] ++ r ∧ r.length = 56 := ⟨(hexF abcL).drop 8, by decide +kernel, by decide +kernel⟩

set_option maxHeartbeats 4000000 in
theorem fixed21_any (w : World) (hT : ShaT w) : Calls Tryd.prog 6 #[] w fun e w' => e = .returned (.bool true) ∧ Below w.heap.size w w' := by
  have HT := Lib.hid hT
  have hs2 := hT.size
  clear hT
  have kc := fun (w : World) (C : Array Value) (n c : Nat) => Lib.run_convert_bytes_const (P := Tryd.prog) w 22 5 C n c Tryd.underlying22 Tryd.underlying5
  have HX1 : Hid (ByteSl (w.alloc (.cells (cellsB [97, 98, 99]) 5 (3, 4))) Empty (some ⟨w.heap.size, 0, none⟩) 3 3 [97, 98, 99]) := Lib.hid (ByteSl.marked w Empty [97, 98, 99] 3 _ rfl (fun h => h) (by decide))
  have HB1 : Hid (Below w.heap.size w (w.alloc (.cells (cellsB [97, 98, 99]) 5 (3, 4)))) := Lib.hid ((Below.refl _ _).alloc (Nat.le_refl _) _)
  go_enter Tryd.func6, Tryd.ntmps6
  go_wp2_with fail
  obtain ⟨w1, hw1⟩ : ∃ W, w.alloc (.cells (cellsB [97, 98, 99]) 5 (3, 4)) = W := ⟨_, rfl⟩
  change Calls _ _ _ (w.alloc (.cells (cellsB [97, 98, 99]) 5 (3, 4))) _
  rw [hw1] at HX1 HB1 ⊢
  clear hw1
  refine (shsum_any w1 [97, 98, 99] _ 3 3 (HT.out.only (Only.of_below HB1.out : Only Empty w w1) (fun h => h) (fun h => h)) HX1.out (by omega)).mono ?_
  rintro e w2 ⟨rfl, hb2⟩
  have HB2 := Lib.hid (HB1.out.trans (hb2.mono HB1.out.size))
  clear hb2
  obtain ⟨R, hR⟩ : ∃ R, R = cellsB abcL := ⟨_, rfl⟩
  have HR := Lib.hid hR
  have HRs : Hid (R.size = 32) := Lib.hid (by rw [hR]; rfl)
  have HRz : Hid ((cellsB (List.replicate 32 0)).size = R.size) := Lib.hid (by rw [hR]; rfl)
  have HR1 : Hid (R.all (·.oneCell') = true) := Lib.hid (by rw [hR]; exact cellsB_one _)
  have r0 : R[0]? = some (.int .u8 186) := by rw [hR]; rfl
  have r1 : R[1]? = some (.int .u8 120) := by rw [hR]; rfl
  have r2 : R[2]? = some (.int .u8 22) := by rw [hR]; rfl
  have r3 : R[3]? = some (.int .u8 191) := by rw [hR]; rfl
  have r31 : R[31]? = some (.int .u8 173) := by rw [hR]; rfl
  have hA0 : ∀ cs, (w2.alloc (.cells cs 24)).heap[w2.heap.size]? = some (.cells cs 24 (0, 0)) := fun cs => Blk.new _ _ _
  rw [show sumF [97, 98, 99] = abcL from sum_abc, ← hR]
  clear hR
  go_wp2_with (with_reducible refine wpList_store_row rfl 24 (.tmp 1) (.tmp 6) rfl w2.heap.size R rfl rfl 24 _ (hA0 _) (by rw [HRs.out]; exact info24) (by rw [HRs.out]; kernel_rfl) HR1.out ?_)
  obtain ⟨w3, hw3⟩ : ∃ W, (w2.alloc (.cells (cellsB (List.replicate 32 0)) 24)).setRow w2.heap.size R = W := ⟨_, rfl⟩
  change Calls _ _ _ ((w2.alloc (.cells (cellsB (List.replicate 32 0)) 24)).setRow w2.heap.size R) _
  have hB3 : Blk w3 w2.heap.size 24 R := by rw [← hw3]; exact setRow_heap _ _ _ _ _ _ (hA0 _)
  have hW3 : Below w2.heap.size w2 w3 := by rw [← hw3]; exact below_setRow ((Below.refl _ _).alloc (Nat.le_refl _) _) (Nat.le_refl _) _
  rw [hw3]
  have HB3 := Lib.hid hB3
  have hl3 := hB3.lt
  have HW3 := Lib.hid (HB2.out.trans (hW3.mono HB2.out.size))
  clear hw3 hA0 kc hB3 hW3
  have CU := Lib.hid (unhex_any w3 [120])
  rw [unhexV_x] at CU
  refine CU.out.mono ?_
  rintro e w4 ⟨rfl, hb4⟩
  have HB4 := Lib.hid (HB3.out.of (hb4.block _ hl3))
  have HW4 := Lib.hid (HW3.out.trans (hb4.mono HW3.out.size))
  have hs24 := Nat.lt_of_lt_of_le hl3 hb4.size
  clear hb4 CU
  obtain ⟨Z, hZ⟩ : ∃ Z, Z = cellsB (List.replicate 32 0) := ⟨_, rfl⟩
  have HZ1 : Hid (Z.all (·.oneCell') = true) := Lib.hid (by rw [hZ]; exact zero_one)
  have HZs : Hid ((Tryd.prog.info? 24).map (·.size) = some Z.size) := Lib.hid (by rw [hZ]; exact zero_info)
  have HZ0 : Hid (∀ n, n = 32 → n = Z.size) := Lib.hid (fun n h => by rw [h, hZ]; rfl)
  rw [← hZ]
  have hA0 : ∀ cs, (w4.alloc (.cells cs 24)).heap[w4.heap.size]? = some (.cells cs 24 (0, 0)) := fun cs => Blk.new _ _ _
  have hK : ∀ cs, Blk ((w4.alloc (.cells cs 24)).setRow w4.heap.size Z) w2.heap.size 24 R := fun cs =>
    (HB4.out.alloc _).of (setRow_other _ _ _ _ (by omega))
  have k0 : ∀ cs, ((w4.alloc (.cells cs 24)).setRow w4.heap.size Z).cell? ⟨w2.heap.size, 0, none⟩ = some (.int .u8 186) := fun cs => ((hK cs).cell 0).trans r0
  have k1 : ∀ cs, ((w4.alloc (.cells cs 24)).setRow w4.heap.size Z).cell? ⟨w2.heap.size, 1, none⟩ = some (.int .u8 120) := fun cs => ((hK cs).cell 1).trans r1
  have k2 : ∀ cs, ((w4.alloc (.cells cs 24)).setRow w4.heap.size Z).cell? ⟨w2.heap.size, 2, none⟩ = some (.int .u8 22) := fun cs => ((hK cs).cell 2).trans r2
  have k3 : ∀ cs, ((w4.alloc (.cells cs 24)).setRow w4.heap.size Z).cell? ⟨w2.heap.size, 3, none⟩ = some (.int .u8 191) := fun cs => ((hK cs).cell 3).trans r3
  have k31 : ∀ cs, ((w4.alloc (.cells cs 24)).setRow w4.heap.size Z).cell? ⟨w2.heap.size, 31, none⟩ = some (.int .u8 173) := fun cs => ((hK cs).cell 31).trans r31
  have hKg : ∀ cs, ((w4.alloc (.cells cs 24)).setRow w4.heap.size Z).heap[w2.heap.size]? = some (.cells R 24 (0, 0)) := hK
  clear hZ r0 r1 r2 r3 r31 hK
  go_wp2_with (first | with_reducible refine wpList_store_row rfl 24 (.tmp 2) (.tmp 9) rfl w4.heap.size Z rfl rfl 24 _ (hA0 _) HZs.out (HZ0.out _ (by kernel_rfl)) HZ1.out ?_ | (refine wpList_unguard rfl ?_; with_reducible refine wpList_load_row rfl 24 (.tmp 1) rfl w2.heap.size rfl 24 R (0, 0) _ (hKg _) Tryd.underlying24 rfl (by rw [HRs.out]; exact info24) ?_))
  rw [HR.out]
  refine (hex_any _ abcL rfl).mono ?_
  rintro e w5 ⟨rfl, hb5⟩
  have HW5 : Hid (Below w.heap.size w w5) := Lib.hid ((below_setRow (HW4.out.alloc HW4.out.size _) HW4.out.size _).trans (hb5.mono (by rw [show ∀ (W : World) (g : Nat) (cs : Array Value), (W.setRow g cs).heap.size = W.heap.size from fun W g cs => by simp [World.setRow]]; have := HW4.out.size; simp; omega)))
  clear hb5
  obtain ⟨r, hr, hrl⟩ := hex_abc
  have hS8 : (strB (hexF abcL)).size = 64 := by rw [strB_sizeH, hexF_len]; rfl
  have hSe : (strB (hexF abcL)).extract 0 8 = ⟨#[98, 97, 55, 56, 49, 54, 98, 102]⟩ := by
    rw [hr]
    show ByteArray.extract ⟨_⟩ 0 8 = _
    rw [ByteArray.extract_mk]
    simp [strB]
  obtain ⟨S, hS⟩ : ∃ S, S = strB (hexF abcL) := ⟨_, rfl⟩
  rw [← hS] at hS8 hSe ⊢
  clear hS hr hrl r
  go_wp2
  go_ret
  exact ⟨rfl, HW5.out⟩
theorem unhexV_form (xs : List UInt8) : ∃ (d : List UInt8) (e : Int), d.length = 32 ∧ unhexV xs = .tuple #[.agg (cellsB d), .int .i64 e] := by
  unfold unhexV
  cases h : unhexF xs with
  | none => exact ⟨List.replicate 32 0, 8, by simp, rfl⟩
  | some l =>
    refine ⟨l, 0, ?_, rfl⟩
    unfold unhexF at h
    split at h
    · cases h; exact unB_len _ _
    · cases h
theorem unhexV_hex (l : List UInt8) (h : l.length = 32) : unhexV (hexF l) = .tuple #[.agg (cellsB l), .int .i64 0] := by
  unfold unhexV
  rw [unhex_hex l h]
/-- A value of 32 bytes laid into a new block. -/
def laid32 (w : World) (d : List UInt8) : World := (w.alloc (.cells (cellsB (List.replicate 32 0)) 24)).setRow w.heap.size (cellsB d)
theorem laid32_blk (w : World) (d : List UInt8) : Blk (laid32 w d) w.heap.size 24 (cellsB d) := setRow_heap _ _ _ _ _ _ (Blk.new _ _ _)
theorem laid32_below (w : World) (d : List UInt8) : Below w.heap.size w (laid32 w d) := below_setRow ((Below.refl _ _).alloc (Nat.le_refl _) _) (Nat.le_refl _) _
theorem laid32_info (d : List UInt8) (h : d.length = 32) : (Tryd.prog.info? 24).map (·.size) = some (cellsB d).size := by rw [cellsB_len, h]; exact info24
end Go.Proofs.YtpcjmicciccihaaDoor

/- ShaHex: any sum's signs are the document's, and tell it. -/
namespace Go.Proofs.YtpcjmicciccihaaDoor
set_option maxRecDepth 100000
open Go.RowKit

set_option maxHeartbeats 4000000 in
theorem law_hex (w : World) (hT : ShaT w) (l xs : List UInt8) (hl : l.length = 32) : Calls Tryd.prog 5 #[.agg (cellsB l), .string (strB xs)] w fun e w' => e = .returned (.bool true) ∧ Below w.heap.size w w' := by
  have HT := Lib.hid hT
  have hs2 := hT.size
  have Hl := Lib.hid hl
  have hsz := strB_sizeH xs
  obtain ⟨n, hn⟩ : ∃ n, n = xs.length := ⟨_, rfl⟩
  rw [← hn] at hsz
  have CU1 := Lib.hid (fun W => unhex_any W xs)
  have CU2 := Lib.hid (fun W => r21unhex_any W xs)
  obtain ⟨d, e, hd, hde⟩ := unhexV_form xs
  rw [hde] at CU1 CU2
  have CU3 := Lib.hid (fun W => unhex_any W (hexF l))
  rw [unhexV_hex l hl] at CU3
  have CH1 := Lib.hid (fun W => hex_any W l hl)
  have CH2 := Lib.hid (fun W => r21hex_any W l hl)
  have Hls : Hid ((cellsB l).size = 32) := Lib.hid (by rw [cellsB_len, hl])
  have HI := Lib.hid (laid32_info l hl)
  have HId := Lib.hid (laid32_info d hd)
  have HZl : Hid (∀ m, m = 32 → m = (cellsB l).size) := Lib.hid (fun m h => by rw [cellsB_len, hl, h])
  have HZd : Hid (∀ m, m = 32 → m = (cellsB d).size) := Lib.hid (fun m h => by rw [cellsB_len, hd, h])
  have HE1 := Lib.hid (fun W => eqI W l l hl hl)
  have HE2 := Lib.hid (fun W => eqI W d d hd hd)
  obtain ⟨S, hS⟩ : ∃ S, S = strB xs := ⟨_, rfl⟩
  obtain ⟨X, hX⟩ : ∃ X, X = strB (hexF l) := ⟨_, rfl⟩
  rw [← hS] at hsz CU1 CU2 ⊢
  rw [← hX] at CU3 CH1 CH2
  obtain ⟨CL, hCL⟩ : ∃ CL, CL = cellsB l := ⟨_, rfl⟩
  obtain ⟨CD, hCD⟩ : ∃ CD, CD = cellsB d := ⟨_, rfl⟩
  have HCL := Lib.hid hCL
  have HCD := Lib.hid hCD
  have H1L : Hid (CL.all (·.oneCell') = true) := Lib.hid (by rw [hCL]; exact cellsB_one _)
  have H1D : Hid (CD.all (·.oneCell') = true) := Lib.hid (by rw [hCD]; exact cellsB_one _)
  rw [← hCL] at Hls HI HZl HE1 CU3 CH1 CH2 ⊢
  rw [← hCD] at HId HZd HE2 CU1 CU2
  clear hT hl hde hd hS hX hCL hCD hn
  have CF := Lib.hid (fixed21_any (w.alloc (.cells CL 24)) (HT.out.only (Only.of_below ((Below.refl w.heap.size w).alloc (Nat.le_refl _) _) : Only Empty w _) (fun h => h) (fun h => h)))
  have HB0 : Hid (Blk (w.alloc (.cells CL 24)) w.heap.size 24 CL) := Lib.hid (Blk.new _ _ _)
  have HW0 : Hid (Below w.heap.size w (w.alloc (.cells CL 24))) := Lib.hid ((Below.refl w.heap.size w).alloc (Nat.le_refl _) _)
  go_enter Tryd.func5, Tryd.ntmps5
  go_wp2_with fail
  refine CF.out.mono ?_
  rintro e1 w1 ⟨rfl, hb1⟩
  have HB1 := Lib.hid (HB0.out.of (hb1.block _ HB0.out.lt))
  have HW1 := Lib.hid (HW0.out.trans (hb1.mono HW0.out.size))
  clear hb1 CF
  by_cases hgt : 300 < n
  · have hgtI : decide ((300 : Int) < (n : Int)) = true := by simp; omega
    clear hgt
    go_wp2
    go_ret
    exact ⟨rfl, HW1.out⟩
  · have hgtI : decide ((300 : Int) < (n : Int)) = false := by simp; omega
    have hg1 : w1.heap[w.heap.size]? = some (.cells CL 24 (0, 0)) := HB1.out
    clear hgt
    go_wp2_with (with_reducible refine wpList_load_row rfl 24 (.tmp 2) rfl w.heap.size rfl 24 CL (0, 0) _ hg1 Tryd.underlying24 rfl HI.out ?_)
    refine (CH1.out w1).mono ?_
    rintro e2 w2 ⟨rfl, hb2⟩
    have HB2 := Lib.hid (HB1.out.of (hb2.block _ HB1.out.lt))
    have HW2 := Lib.hid (HW1.out.trans (hb2.mono HW1.out.size))
    clear hb2 hg1
    go_wp2_with fail
    refine (CU3.out w2).mono ?_
    rintro e3 w3 ⟨rfl, hb3⟩
    have HB3 := Lib.hid (HB2.out.of (hb3.block _ HB2.out.lt))
    have HW3 := Lib.hid (HW2.out.trans (hb3.mono HW2.out.size))
    have hA3 : ∀ cs, (w3.alloc (.cells cs 24)).heap[w3.heap.size]? = some (.cells cs 24 (0, 0)) := fun cs => Blk.new _ _ _
    clear hb3
    go_wp2_with (with_reducible refine wpList_store_row rfl 24 (.tmp 6) (.tmp 22) rfl w3.heap.size CL rfl rfl 24 _ (hA3 _) HI.out (HZl.out _ (by kernel_rfl)) H1L.out ?_)
    obtain ⟨w4, hw4⟩ : ∃ W, laid32 w3 l = W := ⟨_, rfl⟩
    have HB4 : Hid (Blk w4 w.heap.size 24 CL) := Lib.hid (by rw [← hw4]; exact HB3.out.of ((laid32_below w3 l).block _ HB3.out.lt))
    have HC4 : Hid (Blk w4 w3.heap.size 24 CL) := Lib.hid (by rw [← hw4, HCL.out]; exact laid32_blk w3 l)
    have HW4 : Hid (Below w.heap.size w w4) := Lib.hid (by rw [← hw4]; exact HW3.out.trans ((laid32_below w3 l).mono HW3.out.size))
    unfold laid32 at hw4
    rw [← HCL.out] at hw4
    change Calls _ _ _ ((w3.alloc (.cells (cellsB (List.replicate 32 0)) 24)).setRow w3.heap.size CL) _
    rw [hw4]
    clear hw4 hA3
    refine (CU1.out w4).mono ?_
    rintro e5 w5 ⟨rfl, hb5⟩
    have HB5 := Lib.hid (HB4.out.of (hb5.block _ HB4.out.lt))
    have HC5 := Lib.hid (HC4.out.of (hb5.block _ HC4.out.lt))
    have HW5 := Lib.hid (HW4.out.trans (hb5.mono HW4.out.size))
    have hA5 : ∀ cs, (w5.alloc (.cells cs 24)).heap[w5.heap.size]? = some (.cells cs 24 (0, 0)) := fun cs => Blk.new _ _ _
    clear hb5
    go_wp2_with (with_reducible refine wpList_store_row rfl 24 (.tmp 8) (.tmp 27) rfl w5.heap.size CD rfl rfl 24 _ (hA5 _) HId.out (HZd.out _ (by kernel_rfl)) H1D.out ?_)
    obtain ⟨w6, hw6⟩ : ∃ W, laid32 w5 d = W := ⟨_, rfl⟩
    have HB6 : Hid (Blk w6 w.heap.size 24 CL) := Lib.hid (by rw [← hw6]; exact HB5.out.of ((laid32_below w5 d).block _ HB5.out.lt))
    have HC6 : Hid (Blk w6 w3.heap.size 24 CL) := Lib.hid (by rw [← hw6]; exact HC5.out.of ((laid32_below w5 d).block _ HC5.out.lt))
    have HD6 : Hid (Blk w6 w5.heap.size 24 CD) := Lib.hid (by rw [← hw6, HCD.out]; exact laid32_blk w5 d)
    have HW6 : Hid (Below w.heap.size w w6) := Lib.hid (by rw [← hw6]; exact HW5.out.trans ((laid32_below w5 d).mono HW5.out.size))
    unfold laid32 at hw6
    rw [← HCD.out] at hw6
    change Calls _ _ _ ((w5.alloc (.cells (cellsB (List.replicate 32 0)) 24)).setRow w5.heap.size CD) _
    rw [hw6]
    clear hw6 hA5
    refine (CU2.out w6).mono ?_
    rintro e7 w7 ⟨rfl, hb7⟩
    have HB7 := Lib.hid (HB6.out.of (hb7.block _ HB6.out.lt))
    have HC7 := Lib.hid (HC6.out.of (hb7.block _ HC6.out.lt))
    have HD7 := Lib.hid (HD6.out.of (hb7.block _ HD6.out.lt))
    have HW7 := Lib.hid (HW6.out.trans (hb7.mono HW6.out.size))
    have hA7 : ∀ cs, (w7.alloc (.cells cs 24)).heap[w7.heap.size]? = some (.cells cs 24 (0, 0)) := fun cs => Blk.new _ _ _
    have hK : ∀ cs, ((w7.alloc (.cells cs 24)).setRow w7.heap.size CD).heap[w.heap.size]? = some (.cells CL 24 (0, 0)) := fun cs =>
      (HB7.out.alloc _).of (setRow_other _ _ _ _ (by have := HB7.out.lt; omega))
    clear hb7
    go_wp2_with (first | with_reducible refine wpList_store_row rfl 24 (.tmp 10) (.tmp 32) rfl w7.heap.size CD rfl rfl 24 _ (hA7 _) HId.out (HZd.out _ (by kernel_rfl)) H1D.out ?_ | with_reducible refine wpList_load_row rfl 24 (.tmp 2) rfl w.heap.size rfl 24 CL (0, 0) _ (hK _) Tryd.underlying24 rfl HI.out ?_)
    obtain ⟨w8, hw8⟩ : ∃ W, laid32 w7 d = W := ⟨_, rfl⟩
    have HB8 : Hid (Blk w8 w.heap.size 24 CL) := Lib.hid (by rw [← hw8]; exact HB7.out.of ((laid32_below w7 d).block _ HB7.out.lt))
    have HC8 : Hid (Blk w8 w3.heap.size 24 CL) := Lib.hid (by rw [← hw8]; exact HC7.out.of ((laid32_below w7 d).block _ HC7.out.lt))
    have HD8 : Hid (Blk w8 w5.heap.size 24 CD) := Lib.hid (by rw [← hw8]; exact HD7.out.of ((laid32_below w7 d).block _ HD7.out.lt))
    have HE8 : Hid (Blk w8 w7.heap.size 24 CD) := Lib.hid (by rw [← hw8, HCD.out]; exact laid32_blk w7 d)
    have HW8 : Hid (Below w.heap.size w w8) := Lib.hid (by rw [← hw8]; exact HW7.out.trans ((laid32_below w7 d).mono HW7.out.size))
    unfold laid32 at hw8
    rw [← HCD.out] at hw8
    change Calls _ _ _ ((w7.alloc (.cells (cellsB (List.replicate 32 0)) 24)).setRow w7.heap.size CD) _
    rw [hw8]
    clear hw8 hA7 hK
    refine (CH2.out w8).mono ?_
    rintro e9 w9 ⟨rfl, hb9⟩
    have gB : w9.heap[w.heap.size]? = some (.cells CL 24 (0, 0)) := HB8.out.of (hb9.block _ HB8.out.lt)
    have gC : w9.heap[w3.heap.size]? = some (.cells CL 24 (0, 0)) := HC8.out.of (hb9.block _ HC8.out.lt)
    have gD : w9.heap[w5.heap.size]? = some (.cells CD 24 (0, 0)) := HD8.out.of (hb9.block _ HD8.out.lt)
    have gE : w9.heap[w7.heap.size]? = some (.cells CD 24 (0, 0)) := HE8.out.of (hb9.block _ HE8.out.lt)
    have HW9 := Lib.hid (HW8.out.trans (hb9.mono HW8.out.size))
    have q1 := HE1.out w9
    have q2 := HE2.out w9
    rw [show (l == l) = true by simp] at q1
    rw [show (d == d) = true by simp] at q2
    clear hb9
    go_wp2_with (refine wpList_unguard rfl ?_; first | with_reducible refine wpList_load_row rfl 24 (.tmp 6) rfl w3.heap.size rfl 24 CL (0, 0) _ gC Tryd.underlying24 rfl HI.out ?_ | with_reducible refine wpList_load_row rfl 24 (.tmp 2) rfl w.heap.size rfl 24 CL (0, 0) _ gB Tryd.underlying24 rfl HI.out ?_ | with_reducible refine wpList_load_row rfl 24 (.tmp 8) rfl w5.heap.size rfl 24 CD (0, 0) _ gD Tryd.underlying24 rfl HId.out ?_ | with_reducible refine wpList_load_row rfl 24 (.tmp 10) rfl w7.heap.size rfl 24 CD (0, 0) _ gE Tryd.underlying24 rfl HId.out ?_)
    go_ret
    exact ⟨rfl, HW9.out⟩
end Go.Proofs.YtpcjmicciccihaaDoor
