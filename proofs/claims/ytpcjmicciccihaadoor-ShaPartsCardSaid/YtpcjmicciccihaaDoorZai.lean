/- SHA-256: what the laws' head says; arrays of bytes compared. -/
import Derived.Test.YtpcjmicciccihaaDoorZah
import Derived.Stop.BytesEq
import Derived.Test.YtpcjmicciccihaaDoorZad
import Derived.Lib.SlBytesConst
namespace Go.Proofs.YtpcjmicciccihaaDoor
set_option maxRecDepth 100000
open Go.RowKit

theorem size8 : ∀ W : World, (sizeOf 5).run Tryd.prog W = .ok 1 W := fun W => by kernel_rfl
theorem eqI (W : World) (xs ys : List UInt8) (hx : xs.length = 32) (hy : ys.length = 32) : (Op.equalIn 10000 24 (.agg (cellsB xs)) (.agg (cellsB ys))).run Tryd.prog W = .ok (xs == ys) W :=
  run_equalIn_bytes W 9998 24 5 32 Tryd.underlying24 Tryd.underlying5 size8 xs ys hx hy
theorem unhexV_x : unhexV [120] = .tuple #[.agg (cellsB (List.replicate 32 0)), .int .i64 8] := by
  unfold unhexV unhexF
  rw [if_neg (fun h => by have := h.1; simp at this)]

def abcL : List UInt8 := [0xba, 0x78, 0x16, 0xbf, 0x8f, 0x01, 0xcf, 0xea, 0x41, 0x41, 0x40, 0xde, 0x5d, 0xae, 0x22, 0x23, 0xb0, 0x03, 0x61, 0xa3, 0x96, 0x17, 0x7a, 0x9c, 0xb4, 0x10, 0xff, 0x61, 0xf2, 0x00, 0x15, 0xad]
theorem hex_abc : ∃ r, hexF abcL = [98, 97, 55, 56, 49, 54, 98, 102] ++ r ∧ r.length = 56 := ⟨(hexF abcL).drop 8, by decide +kernel, by decide +kernel⟩

set_option maxHeartbeats 4000000 in
theorem fixed21_any (w : World) (hT : ShaT w) : Calls Tryd.prog 6 #[] w fun e w' => e = .returned (.bool true) ∧ Below w.heap.size w w' := by
  have HT := Lib.hid hT
  have hs2 := hT.size
  clear hT
  have kc := fun (w : World) (C : Array Value) (n c : Nat) => Lib.run_convert_bytes_const (P := Tryd.prog) w 22 5 C n c Tryd.underlying22 Tryd.underlying5
  have HX1 : Hid (ByteSl (w.alloc (.cells (cellsB [97, 98, 99]) 5 (3, 4))) Empty (some ⟨w.heap.size, 0, none⟩) 3 3 [97, 98, 99]) := Lib.hid (ByteSl.marked w Empty [97, 98, 99] 3 _ rfl (fun h => h) (by decide))
  have HB1 : Hid (Below w.heap.size w (w.alloc (.cells (cellsB [97, 98, 99]) 5 (3, 4)))) := Lib.hid ((Below.refl _ _).alloc (Nat.le_refl _) _)
  go_enter Tryd.func6, Tryd.ntmps6
  go_wp2_with fail
  obtain ⟨w1, hw1⟩ : ∃ W, w.alloc (.cells (cellsB [97, 98, 99]) 5 (3, 4)) = W := ⟨_, rfl⟩
  change Calls _ _ _ (w.alloc (.cells (cellsB [97, 98, 99]) 5 (3, 4))) _
  rw [hw1] at HX1 HB1 ⊢
  clear hw1
  refine (shsum_any w1 [97, 98, 99] _ 3 3 (HT.out.only (Only.of_below HB1.out : Only Empty w w1) (fun h => h) (fun h => h)) HX1.out (by omega)).mono ?_
  rintro e w2 ⟨rfl, hb2⟩
  have HB2 := Lib.hid (HB1.out.trans (hb2.mono HB1.out.size))
  clear hb2
  obtain ⟨R, hR⟩ : ∃ R, R = cellsB abcL := ⟨_, rfl⟩
  have HR := Lib.hid hR
  have HRs : Hid (R.size = 32) := Lib.hid (by rw [hR]; rfl)
  have HRz : Hid ((cellsB (List.replicate 32 0)).size = R.size) := Lib.hid (by rw [hR]; rfl)
  have HR1 : Hid (R.all (·.oneCell') = true) := Lib.hid (by rw [hR]; exact cellsB_one _)
  have r0 : R[0]? = some (.int .u8 186) := by rw [hR]; rfl
  have r1 : R[1]? = some (.int .u8 120) := by rw [hR]; rfl
  have r2 : R[2]? = some (.int .u8 22) := by rw [hR]; rfl
  have r3 : R[3]? = some (.int .u8 191) := by rw [hR]; rfl
  have r31 : R[31]? = some (.int .u8 173) := by rw [hR]; rfl
  have hA0 : ∀ cs, (w2.alloc (.cells cs 24)).heap[w2.heap.size]? = some (.cells cs 24 (0, 0)) := fun cs => Blk.new _ _ _
  rw [show sumF [97, 98, 99] = abcL from sum_abc, ← hR]
  clear hR
  go_wp2_with (with_reducible refine wpList_store_row rfl 24 (.tmp 1) (.tmp 6) rfl w2.heap.size R rfl rfl 24 _ (hA0 _) (by rw [HRs.out]; exact info24) (by rw [HRs.out]; kernel_rfl) HR1.out ?_)
  obtain ⟨w3, hw3⟩ : ∃ W, (w2.alloc (.cells (cellsB (List.replicate 32 0)) 24)).setRow w2.heap.size R = W := ⟨_, rfl⟩
  change Calls _ _ _ ((w2.alloc (.cells (cellsB (List.replicate 32 0)) 24)).setRow w2.heap.size R) _
  have hB3 : Blk w3 w2.heap.size 24 R := by rw [← hw3]; exact setRow_heap _ _ _ _ _ _ (hA0 _)
  have hW3 : Below w2.heap.size w2 w3 := by rw [← hw3]; exact below_setRow ((Below.refl _ _).alloc (Nat.le_refl _) _) (Nat.le_refl _) _
  rw [hw3]
  have HB3 := Lib.hid hB3
  have hl3 := hB3.lt
  have HW3 := Lib.hid (HB2.out.trans (hW3.mono HB2.out.size))
  clear hw3 hA0 kc hB3 hW3
  have CU := Lib.hid (unhex_any w3 [120])
  rw [unhexV_x] at CU
  refine CU.out.mono ?_
  rintro e w4 ⟨rfl, hb4⟩
  have HB4 := Lib.hid (HB3.out.of (hb4.block _ hl3))
  have HW4 := Lib.hid (HW3.out.trans (hb4.mono HW3.out.size))
  have hs24 := Nat.lt_of_lt_of_le hl3 hb4.size
  clear hb4 CU
  obtain ⟨Z, hZ⟩ : ∃ Z, Z = cellsB (List.replicate 32 0) := ⟨_, rfl⟩
  have HZ1 : Hid (Z.all (·.oneCell') = true) := Lib.hid (by rw [hZ]; exact zero_one)
  have HZs : Hid ((Tryd.prog.info? 24).map (·.size) = some Z.size) := Lib.hid (by rw [hZ]; exact zero_info)
  have HZ0 : Hid (∀ n, n = 32 → n = Z.size) := Lib.hid (fun n h => by rw [h, hZ]; rfl)
  rw [← hZ]
  have hA0 : ∀ cs, (w4.alloc (.cells cs 24)).heap[w4.heap.size]? = some (.cells cs 24 (0, 0)) := fun cs => Blk.new _ _ _
  have hK : ∀ cs, Blk ((w4.alloc (.cells cs 24)).setRow w4.heap.size Z) w2.heap.size 24 R := fun cs =>
    (HB4.out.alloc _).of (setRow_other _ _ _ _ (by omega))
  have k0 : ∀ cs, ((w4.alloc (.cells cs 24)).setRow w4.heap.size Z).cell? ⟨w2.heap.size, 0, none⟩ = some (.int .u8 186) := fun cs => ((hK cs).cell 0).trans r0
  have k1 : ∀ cs, ((w4.alloc (.cells cs 24)).setRow w4.heap.size Z).cell? ⟨w2.heap.size, 1, none⟩ = some (.int .u8 120) := fun cs => ((hK cs).cell 1).trans r1
  have k2 : ∀ cs, ((w4.alloc (.cells cs 24)).setRow w4.heap.size Z).cell? ⟨w2.heap.size, 2, none⟩ = some (.int .u8 22) := fun cs => ((hK cs).cell 2).trans r2
  have k3 : ∀ cs, ((w4.alloc (.cells cs 24)).setRow w4.heap.size Z).cell? ⟨w2.heap.size, 3, none⟩ = some (.int .u8 191) := fun cs => ((hK cs).cell 3).trans r3
  have k31 : ∀ cs, ((w4.alloc (.cells cs 24)).setRow w4.heap.size Z).cell? ⟨w2.heap.size, 31, none⟩ = some (.int .u8 173) := fun cs => ((hK cs).cell 31).trans r31
  have hKg : ∀ cs, ((w4.alloc (.cells cs 24)).setRow w4.heap.size Z).heap[w2.heap.size]? = some (.cells R 24 (0, 0)) := hK
  clear hZ r0 r1 r2 r3 r31 hK
  go_wp2_with (first | with_reducible refine wpList_store_row rfl 24 (.tmp 2) (.tmp 9) rfl w4.heap.size Z rfl rfl 24 _ (hA0 _) HZs.out (HZ0.out _ (by kernel_rfl)) HZ1.out ?_ | (refine wpList_unguard rfl ?_; with_reducible refine wpList_load_row rfl 24 (.tmp 1) rfl w2.heap.size rfl 24 R (0, 0) _ (hKg _) Tryd.underlying24 rfl (by rw [HRs.out]; exact info24) ?_))
  rw [HR.out]
  refine (hex_any _ abcL rfl).mono ?_
  rintro e w5 ⟨rfl, hb5⟩
  have HW5 : Hid (Below w.heap.size w w5) := Lib.hid ((below_setRow (HW4.out.alloc HW4.out.size _) HW4.out.size _).trans (hb5.mono (by rw [show ∀ (W : World) (g : Nat) (cs : Array Value), (W.setRow g cs).heap.size = W.heap.size from fun W g cs => by simp [World.setRow]]; have := HW4.out.size; simp; omega)))
  clear hb5
  obtain ⟨r, hr, hrl⟩ := hex_abc
  have hS8 : (strB (hexF abcL)).size = 64 := by rw [strB_sizeH, hexF_len]; rfl
  have hSe : (strB (hexF abcL)).extract 0 8 = ⟨#[98, 97, 55, 56, 49, 54, 98, 102]⟩ := by
    rw [hr]
    show ByteArray.extract ⟨_⟩ 0 8 = _
    rw [ByteArray.extract_mk]
    simp [strB]
  obtain ⟨S, hS⟩ : ∃ S, S = strB (hexF abcL) := ⟨_, rfl⟩
  rw [← hS] at hS8 hSe ⊢
  clear hS hr hrl r
  go_wp2
  go_ret
  exact ⟨rfl, HW5.out⟩
theorem unhexV_form (xs : List UInt8) : ∃ (d : List UInt8) (e : Int), d.length = 32 ∧ unhexV xs = .tuple #[.agg (cellsB d), .int .i64 e] := by
  unfold unhexV
  cases h : unhexF xs with
  | none => exact ⟨List.replicate 32 0, 8, by simp, rfl⟩
  | some l =>
    refine ⟨l, 0, ?_, rfl⟩
    unfold unhexF at h
    split at h
    · cases h; exact unB_len _ _
    · cases h
theorem unhexV_hex (l : List UInt8) (h : l.length = 32) : unhexV (hexF l) = .tuple #[.agg (cellsB l), .int .i64 0] := by
  unfold unhexV
  rw [unhex_hex l h]
/-- A value of 32 bytes laid into a new block. -/
def laid32 (w : World) (d : List UInt8) : World := (w.alloc (.cells (cellsB (List.replicate 32 0)) 24)).setRow w.heap.size (cellsB d)
theorem laid32_blk (w : World) (d : List UInt8) : Blk (laid32 w d) w.heap.size 24 (cellsB d) := setRow_heap _ _ _ _ _ _ (Blk.new _ _ _)
theorem laid32_below (w : World) (d : List UInt8) : Below w.heap.size w (laid32 w d) := below_setRow ((Below.refl _ _).alloc (Nat.le_refl _) _) (Nat.le_refl _) _
theorem laid32_info (d : List UInt8) (h : d.length = 32) : (Tryd.prog.info? 24).map (·.size) = some (cellsB d).size := by rw [cellsB_len, h]; exact info24
end Go.Proofs.YtpcjmicciccihaaDoor

/- ShaParts: in however many parts bytes come, the hash is that of them together. -/
namespace Go.Proofs.YtpcjmicciccihaaDoor
set_option maxRecDepth 100000
open Go.RowKit

theorem write_nil (w : World) (v : Value) : Calls Tryd.prog 10 #[.pointer none, v] w fun e w' => e = .returned (.tuple #[]) ∧ w = w' := by
  go_enter Tryd.func10, Tryd.ntmps10
  go_wp2
  exact bodyPost_ret (results_none rfl _ _ _) rfl ⟨rfl, rfl⟩
set_option maxHeartbeats 2000000 in
theorem hsum_nil (w : World) (hT : ShaT w) : Calls Tryd.prog 11 #[.pointer none] w fun e w' => e = .returned (.agg (cellsB (sumF []))) ∧ Below w.heap.size w w' := by
  have HT := Lib.hid hT
  have HW0 : Hid (Below w.heap.size w (w.alloc (.cells (cellsB (List.replicate 32 0)) 24))) := Lib.hid ((Below.refl _ _).alloc (Nat.le_refl _) _)
  have HB0 : Hid (Blk (w.alloc (.cells (cellsB (List.replicate 32 0)) 24)) w.heap.size 24 (cellsB (List.replicate 32 0))) := Lib.hid (Blk.new _ _ _)
  clear hT
  go_enter Tryd.func11, Tryd.ntmps11
  go_wp2_with fail
  obtain ⟨w1, hw1⟩ : ∃ W, w.alloc (.cells (cellsB (List.replicate 32 0)) 24) = W := ⟨_, rfl⟩
  change Calls _ _ _ (w.alloc (.cells (cellsB (List.replicate 32 0)) 24)) _
  rw [hw1] at HW0 HB0 ⊢
  clear hw1
  refine (new_any w1).mono ?_
  rintro e w2 ⟨rfl, hH2, hb2⟩
  have HH2 := Lib.hid hH2
  have HW2 := Lib.hid (HW0.out.trans (hb2.mono HW0.out.size))
  have HB2 := Lib.hid (HB0.out.of (hb2.block _ HB0.out.lt))
  clear hH2 hb2
  go_wp2_with fail
  refine (hsum_any w2 w1.heap.size [] (HT.out.only (Only.of_below HW2.out : Only Empty w w2) (fun h => h) (fun h => h)) HH2.out (by simp)).mono ?_
  rintro e w5 ⟨rfl, hb5⟩
  have HW05 := Lib.hid (HW2.out.trans (hb5.mono HW2.out.size))
  have HB15 := Lib.hid (HB2.out.of (hb5.block _ HB2.out.lt))
  obtain ⟨D, hD⟩ : ∃ D, D = cellsB (sumF []) := ⟨_, rfl⟩
  have HD := Lib.hid hD
  have HDs : Hid (D.size = 32) := Lib.hid (by rw [hD, cellsB_len, sumF_len])
  have HD1 : Hid (D.all (·.oneCell') = true) := Lib.hid (by rw [hD]; exact cellsB_one _)
  have HZD : Hid ((cellsB (List.replicate 32 0)).size = D.size) := Lib.hid (by rw [HDs.out]; rfl)
  rw [← hD]
  clear hb5 hD
  have hg5 : w5.heap[w.heap.size]? = some (.cells (cellsB (List.replicate 32 0)) 24 (0, 0)) := HB15.out
  go_wp2_with (with_reducible refine wpList_store_row rfl 24 (.tmp 2) (.tmp 7) rfl w.heap.size D rfl rfl 24 _ hg5 (by rw [HDs.out]; exact info24) HZD.out HD1.out ?_)
  refine bodyPost_ret (v := .agg D) (results_cell_row Tryd.results11 _ _ w.heap.size 24 D (0, 0) _ rfl (setRow_heap _ _ _ _ _ _ hg5) Tryd.underlying24 rfl (by rw [HDs.out]; exact info24)) rfl ?_
  refine ⟨by rw [HD.out], ?_⟩
  exact below_setRow HW05.out (Nat.le_refl _) _

/-- A slice of slices of bytes that came in. -/
def Lists (w : World) (A : Option Addr) (n cap : Nat) (ls : List (List UInt8)) : Prop :=
  ls.length = n ∧ n ≤ cap ∧ cap ≤ maxLen ∧ (0 < n → ∃ b o, A = some ⟨b, o, none⟩ ∧ b < w.heap.size ∧
    ∀ i l, ls[i]? = some l → ∃ A1 n1 c1, w.cell? ⟨b, o + i, none⟩ = some (.slice A1 n1 c1) ∧ ByteSl w (fun k => w.heap.size ≤ k) A1 n1 c1 l ∧ (A1 = none → n1 = 0 ∧ c1 = 0))

theorem xor_B8 (z : UInt8) : Value.int .u8 (bits .xor .u8 (z.toNat : Int) 255) = B8 (z ^^^ 255) := by
  have h := u8_xor_nat z.toNat 255 (byte_lt z) (by omega)
  unfold B8
  congr 1
set_option maxHeartbeats 8000000 in
theorem law_parts (w : World) (hT : ShaT w) (A : Option Addr) (n cap : Nat) (ls : List (List UInt8)) (hL : Lists w A n cap ls) : Calls Tryd.prog 4 #[.slice A n cap] w fun e w' => e = .returned (.bool true) ∧ Below w.heap.size w w' := by
  have HT := Lib.hid hT
  have hs2 := hT.size
  have HL := Lib.hid hL
  have hnc := hL.2.1
  have hcm : cap ≤ 9223372036854775807 := by have := hL.2.2.1; unfold maxLen at this; exact this
  clear hT hL
  go_enter Tryd.func4, Tryd.ntmps4
  go_wp2_with fail
  refine (fixed21_any w HT.out).mono ?_
  rintro e1 w1 ⟨rfl, hb1⟩
  have HW1 := Lib.hid hb1
  clear hb1
  by_cases hgt : 20 < n
  · have hgtI : decide ((20 : Int) < (n : Int)) = true := by simp; omega
    clear hgt
    go_wp2
    go_ret
    exact ⟨rfl, HW1.out⟩
  · have hgtI : decide ((20 : Int) < (n : Int)) = false := by simp; omega
    have hn20 : n ≤ 20 := by omega
    clear hgt
    go_wp2_with fail
    refine (new_any w1).mono ?_
    rintro e w2 ⟨rfl, hH2, hb2⟩
    obtain ⟨g, hg⟩ : ∃ g, g = w1.heap.size := ⟨_, rfl⟩
    have hgw : w.heap.size ≤ g := by rw [hg]; exact HW1.out.size
    have HW2 := Lib.hid (HW1.out.trans (hb2.mono HW1.out.size))
    have hg2 : g < w2.heap.size := by rw [hg]; exact hH2.lt
    rw [← hg] at hH2 ⊢
    have HH2 := Lib.hid hH2
    clear hH2 hb2 hg
    go_wp2_with fail
    go_loopw [4, 18] (fun a i wr => ∃ (k m c : Nat) (B : Option Addr) (dn : List UInt8), k ≤ n ∧ a = .slice B m c ∧ i = .int .i64 (k : Int) ∧ m = dn.length ∧ m ≤ 300 * k ∧ Hid (dn = (ls.take k).flatten) ∧ Hid (wr.ownsRow w2.heap.size 5 1 (.slice B m c) m (dn.map B8)) ∧ Hid (HashAt wr g dn) ∧ w2.heap.size ≤ wr.heap.size ∧ Hid (Below w.heap.size w wr)) (fun _ i _ => n - (intOf i).toNat)
    case atStart => exact ⟨0, 0, 0, none, [], by omega, rfl, rfl, rfl, by omega, Lib.hid rfl, Lib.hid ⟨rfl, Or.inl ⟨rfl, rfl⟩⟩, HH2, Nat.le_refl _, HW2⟩
    case round =>
      obtain ⟨k, m, c, B, dn, hk, rfl, rfl, rfl, hmk, HD, HO, HH, hs2r, HW⟩ := hrel
      by_cases hlt : k < n
      · obtain ⟨b, o, rfl, hbl, hcells⟩ := HL.out.2.2.2 (by omega)
        obtain ⟨l, hl⟩ : ∃ l, ls[k]? = some l := ⟨_, List.getElem?_eq_getElem (by rw [HL.out.1]; exact hlt)⟩
        obtain ⟨A1, n1, c1, hcell, hB1, hnil⟩ := hcells k l hl
        have hcw : wr.cell? ⟨b, o + k, none⟩ = some (.slice A1 n1 c1) := by rw [(Only.of_below HW.out : Only Empty w wr).cell hbl (fun h => h)]; exact hcell
        have hn1c := hB1.2.1
        have hc1m : c1 ≤ 9223372036854775807 := by have := hB1.2.2.1; unfold maxLen at this; exact this
        have hl1 := hB1.1
        have HBx := Lib.hid hB1
        have HNil := Lib.hid hnil
        have HDn : Hid (dn ++ l = (ls.take (k + 1)).flatten) := Lib.hid (by
          obtain ⟨h1, h2⟩ := List.getElem?_eq_some_iff.1 hl
          rw [List.take_succ_eq_append_getElem h1, h2, List.flatten_append, ← HD.out]
          simp)
        clear hcells hcell hB1 hnil hl
        by_cases h300 : 300 < n1
        · have h300I : decide ((300 : Int) < (n1 : Int)) = true := by simp; omega
          clear h300
          go_wp2
          go_ret
          exact ⟨rfl, HW.out⟩
        · have h300I : decide ((300 : Int) < (n1 : Int)) = false := by simp; omega
          have hn3 : n1 ≤ 300 := by omega
          clear h300
          have hsW := HW.out.size
          have HWa := Lib.hid ((Below.refl wr.heap.size wr).alloc (Nat.le_refl _) (.cells #[] 5))
          have Hown := Lib.hid (own_made wr wr.heap.size (Nat.le_refl _))
          have HBa := Lib.hid (HBx.out.only ((Only.of_below HW.out : Only Empty w wr).trans (Only.of_below HWa.out)) (fun _ _ h => h.elim))
          go_wp2_with (at_builtin; refine wpList_append_bytes rfl (.tmp 25) (.tmp 26) rfl wr.heap.size (.slice (some ⟨wr.heap.size, 0, none⟩) 0 0) rfl 0 [] Hown.out A1 n1 c1 l _ rfl HBa.out HNil.out (by omega) (by simp) ?_; intro v6 w6 ho6 hg6 hn6)
          have HB6 := Lib.hid (below_grown HWa.out (by simp) hg6 (own_ge Hown.out))
          obtain ⟨gw, cw, rfl, hgw6, hOB⟩ := OwnB.of_row ho6 (fun h => by have := hn6 h; cases this)
          rw [Nat.zero_add, List.nil_append] at *
          have hsx := hgw6
          have HX6 : Hid (ByteSl w6 (· = g) (some ⟨gw, 0, none⟩) n1 cw l) := Lib.hid (hOB.bytes _ (by omega))
          have HOB := Lib.hid hOB
          have HT6 := Lib.hid (HT.out.only ((Only.of_below HW.out : Only Empty w wr).trans (Only.of_below HB6.out)) (fun h => h) (fun h => h))
          have HH6 := Lib.hid (HH.out.of (HB6.out.block _ HH.out.lt))
          have hs6 := HB6.out.size
          clear ho6 hg6 hn6 hOB
          go_wp2_with fail
          refine (write_any w6 g dn l (some ⟨gw, 0, none⟩) n1 cw HT6.out (by omega) HH6.out HX6.out (by omega)).mono ?_
          rintro e7 w7 ⟨rfl, hC7, ho7⟩
          have HC7 : Hid (HashAt w7 g (dn ++ l)) := Lib.hid hC7.at_
          have HO7 := Lib.hid ho7
          have HOB7 : Hid (OwnB w7 gw n1 cw l) := Lib.hid (HOB.out.of (ho7.block _ HOB.out.lt (by omega)))
          have hgwg : gw ≠ g := by omega
          have KA : Hid (∀ W, Only (· = gw) w7 W → W.ownsRow w2.heap.size 5 1 (.slice B dn.length c) dn.length (dn.map B8) ∧ Below w.heap.size w W ∧ HashAt W g (dn ++ l) ∧ w2.heap.size ≤ W.heap.size) := Lib.hid (fun W hW => by
            have h1 : Only (· = g) wr W := ((Only.of_below HB6.out : Only (· = g) wr w6).trans HO7.out).trans' hW (fun q hq h => by have h : q = gw := h; omega)
            refine ⟨own_only HO.out h1 (fun q hq _ h => by have h : q = g := h; omega), HW.out.trans (h1.below hsW (fun q hq h => by have h : q = g := h; omega)), HC7.out.of (hW.block _ HC7.out.lt (fun h => hgwg h.symm)), Nat.le_trans hs2r h1.size⟩)
          clear hC7 ho7
          go_wp2_with fail
          go_loopw [33] (fun i wx => ∃ (j : Nat) (zs : List UInt8), j ≤ n1 ∧ i = .int .i64 (j : Int) ∧ Hid (OwnB wx gw n1 cw zs) ∧ Hid (Only (· = gw) w7 wx)) (fun i _ => n1 - (intOf i).toNat)
          case atStart => exact ⟨0, l, by omega, rfl, HOB7, Lib.hid (Only.refl _ _)⟩
          case round =>
            obtain ⟨j, zs, hj, rfl, HZ, HX⟩ := hrel
            by_cases hjn : j < n1
            · have hjI : (j : Int) < (n1 : Int) := by omega
              obtain ⟨z, hz⟩ : ∃ z, zs[j]? = some z := ⟨_, List.getElem?_eq_getElem (by rw [HZ.out.1]; exact hjn)⟩
              have hcz : wr.cell? ⟨gw, j, none⟩ = some (.int .u8 (z.toNat : Int)) := HZ.out.cell hz
              have hfz := HZ.out.frozen j
              clear hz
              go_wp2
              go_roundw
              case rel =>
                rw [xor_B8]
                exact ⟨j + 1, _, by omega, by go_num, Lib.hid (HZ.out.set_ j _), Lib.hid (HX.out.setCell (p := ⟨gw, j, none⟩) (Or.inl rfl) _)⟩
              case measure => simp [intOf]; omega
            · obtain ⟨hK1, hK2, hK3, hK4⟩ := KA.out wr HX.out
              have HK1 := Lib.hid hK1
              have HK2 := Lib.hid hK2
              have HK3 := Lib.hid hK3
              have HB8 := Lib.hid (HBx.out.only (Only.of_below hK2 : Only Empty w wr) (fun _ _ h => h.elim))
              clear hK1 hK2 hK3
              go_wp2_with (at_builtin; refine wpList_append_bytes rfl (.tmp 43) (.tmp 44) rfl w2.heap.size (.slice B dn.length c) rfl dn.length dn HK1.out A1 n1 c1 l _ rfl HB8.out HNil.out (by omega) hK4 ?_; intro v8 w8 ho8 hg8 hn8)
              obtain ⟨A8, c8, rfl, hX8, hN8⟩ := own_open ho8
              have HO8 := Lib.hid ho8
              have HX8 := Lib.hid hX8
              have HB9 := Lib.hid (below_grown HK2.out HK2.out.size hg8 (fun q hq => Nat.le_trans HW2.out.size (own_ge HK1.out q hq)))
              have h28 : w2.heap.size ≤ w8.heap.size := Nat.le_trans hK4 (below_grown (Below.refl w2.heap.size wr) hK4 hg8 (own_ge HK1.out)).size
              have HH8 : Hid (HashAt w8 g (dn ++ l)) := Lib.hid (by
                obtain ⟨u, h1, h2⟩ := HK3.out
                exact ⟨u, h1, grown_blk hg8 h2 (own_ne_ HK1.out h2 (by decide))⟩)
              have hlen : (dn ++ l).length = dn.length + n1 := by rw [List.length_append, hl1]
              have HT8 := Lib.hid (HT.out.only (Only.of_below HB9.out : Only Empty w w8) (fun h => h) (fun h => h))
              clear ho8 hg8 hn8 hX8 hN8
              go_wp2_with fail
              refine (hsum_any w8 g (dn ++ l) HT8.out HH8.out (by rw [hlen]; omega)).mono ?_
              rintro e9 w9 ⟨rfl, hb9⟩
              have HO9 := Lib.hid (own_only HO8.out (Only.of_below hb9 : Only Empty w8 w9) (fun _ _ _ h => h))
              have HX9 := Lib.hid (HX8.out.only (Only.of_below hb9 : Only Empty w8 w9) (fun _ _ h => h))
              have HH9 := Lib.hid (HH8.out.of (hb9.block _ HH8.out.lt))
              have HB10 := Lib.hid (HB9.out.trans (hb9.mono HB9.out.size))
              have h29 : w2.heap.size ≤ w9.heap.size := Nat.le_trans h28 hb9.size
              have HT9 := Lib.hid (HT.out.only (Only.of_below HB10.out : Only Empty w w9) (fun h => h) (fun h => h))
              clear hb9
              go_wp2_with fail
              refine (shsum_any w9 (dn ++ l) A8 (dn.length + n1) c8 HT9.out HX9.out (by omega)).mono ?_
              rintro e10 w10 ⟨rfl, hb10⟩
              have HO10 := Lib.hid (own_only HO9.out (Only.of_below hb10 : Only Empty w9 w10) (fun _ _ _ h => h))
              have HH10 := Lib.hid (HH9.out.of (hb10.block _ HH9.out.lt))
              have HB11 := Lib.hid (HB10.out.trans (hb10.mono HB10.out.size))
              have h210 : w2.heap.size ≤ w10.heap.size := Nat.le_trans h29 hb10.size
              have heq := eqI w10 (sumF (dn ++ l)) (sumF (dn ++ l)) (sumF_len _) (sumF_len _)
              rw [show (sumF (dn ++ l) == sumF (dn ++ l)) = true by simp] at heq
              obtain ⟨D, hD⟩ : ∃ D, D = cellsB (sumF (dn ++ l)) := ⟨_, rfl⟩
              rw [← hD] at heq ⊢
              clear hb10 hD
              go_wp2
              go_roundw
              case rel =>
                refine ⟨k + 1, dn.length + n1, c8, A8, dn ++ l, by omega, rfl, by go_num, hlen.symm, by omega, HDn, HO10, HH10, h210, HB11⟩
              case measure => simp [intOf]; omega
      · have HT3 := Lib.hid (HT.out.only (Only.of_below HW.out : Only Empty w wr) (fun h => h) (fun h => h))
        obtain ⟨A8, c8, he, hX8, hN8⟩ := own_open HO.out
        cases he
        have HX8 := Lib.hid hX8
        clear hX8
        go_wp2_with fail
        refine (write_nil wr _).mono ?_
        rintro e4 w4 ⟨rfl, rfl⟩
        go_wp2_with fail
        refine (hsum_any wr g dn HT3.out HH.out (by omega)).mono ?_
        rintro e9 w9 ⟨rfl, hb9⟩
        have HX9 := Lib.hid (HX8.out.only (Only.of_below hb9 : Only Empty wr w9) (fun _ _ h => h))
        have HB10 := Lib.hid (HW.out.trans (hb9.mono HW.out.size))
        have HT9 := Lib.hid (HT.out.only (Only.of_below HB10.out : Only Empty w w9) (fun h => h) (fun h => h))
        clear hb9
        go_wp2_with fail
        refine (shsum_any w9 dn B dn.length c HT9.out HX9.out (by omega)).mono ?_
        rintro e10 w10 ⟨rfl, hb10⟩
        have HB11 := Lib.hid (HB10.out.trans (hb10.mono HB10.out.size))
        have HT10 := Lib.hid (HT.out.only (Only.of_below HB11.out : Only Empty w w10) (fun h => h) (fun h => h))
        have heq : ∀ W : World, (Op.equalIn 10000 24 (.agg (cellsB (sumF dn))) (.agg (cellsB (sumF dn)))).run Tryd.prog W = .ok true W := fun W => by
          have h := eqI W (sumF dn) (sumF dn) (sumF_len _) (sumF_len _)
          rwa [show (sumF dn == sumF dn) = true by simp] at h
        have heq2 : ∀ W : World, (Op.equalIn 10000 24 (.agg (cellsB (sumF []))) (.agg (cellsB (sumF [])))).run Tryd.prog W = .ok true W := fun W => by
          have h := eqI W (sumF []) (sumF []) (sumF_len _) (sumF_len _)
          rwa [show (sumF [] == sumF []) = true by simp] at h
        have CN := Lib.hid (hsum_nil w10 HT10.out)
        have CS := Lib.hid (fun W (h : ShaT W) => shsum_any W [] none 0 0 h (ByteSl.nil_ _ _ _ _ (by decide)) (by omega))
        obtain ⟨D, hD⟩ : ∃ D, D = cellsB (sumF dn) := ⟨_, rfl⟩
        obtain ⟨E, hE⟩ : ∃ E, E = cellsB (sumF []) := ⟨_, rfl⟩
        rw [← hD] at heq ⊢
        rw [← hE] at heq2 CN CS
        clear hb10 hD hE
        go_wp2_with fail
        refine CN.out.mono ?_
        rintro e11 w11 ⟨rfl, hb11⟩
        have HB12 := Lib.hid (HB11.out.trans (hb11.mono HB11.out.size))
        have HT11 := Lib.hid (HT.out.only (Only.of_below HB12.out : Only Empty w w11) (fun h => h) (fun h => h))
        clear hb11
        go_wp2_with fail
        refine (CS.out w11 HT11.out).mono ?_
        rintro e12 w12 ⟨rfl, hb12⟩
        have HB13 := Lib.hid (HB12.out.trans (hb12.mono HB12.out.size))
        clear hb12
        go_wp2
        go_ret
        exact ⟨rfl, HB13.out⟩
end Go.Proofs.YtpcjmicciccihaaDoor

/- A slice of slices of bytes that comes in. -/
namespace Go.Proofs.YtpcjmicciccihaaDoor
set_option maxRecDepth 100000
open Go.ChangeShapes Go.WideShapes Go.ChangeAt Go.RowKit Go.Joins

section
variable {H : Type} {enc : TypeId × Value → H} {W : World} {base : Nat}
theorem open_lists {v : Value} {d : DataW H} {p : List MemPlace} (hv : Value.okWide Tryd.prog W .any base 27 v) (h : DataW.Trod enc Tryd.prog W 0 (fun _ => true) true 27 v d p) :
    ∃ (A : Option Addr) (n cap : Nat) (ls : List (List UInt8)), v = .slice A n cap ∧ Lists W A n cap ls := by
  obtain ⟨A, n, cap, l, rfl, hl, hn, hm, hA, hP⟩ := open_rows (enc := enc) ([] : List UInt8) 27 22 1 Tryd.underlying27 (by kernel_rfl) (by decide)
    (fun b off f => ∃ A1 n1 c1, W.cell? ⟨b, off, none⟩ = some (.slice A1 n1 c1) ∧ ByteSl W (fun k => W.heap.size ≤ k) A1 n1 c1 f ∧ (A1 = none → n1 = 0 ∧ c1 = 0))
    (fun b off fuel cs x hc ht => by
      obtain ⟨_, hl, hat⟩ := World.cells?_some hc
      obtain ⟨u, rfl⟩ : ∃ u, cs = [u] := by
        match cs, hl with
        | [u], _ => exact ⟨u, rfl⟩
      obtain ⟨A1, n1, c1, xs, rfl, hB, hN⟩ := bytes_cell ht
      have h1 := hat 0 (by omega)
      rw [add_off] at h1
      exact ⟨xs, A1, n1, c1, by simpa using h1, hB, hN⟩) hv h
  refine ⟨A, n, cap, l, rfl, hl, hn, hm, fun h0 => ?_⟩
  obtain ⟨b, o, e, hb, hc⟩ := hP h0
  refine ⟨b, o, e, hb, fun i f hf => ?_⟩
  have := hc i f hf
  rwa [Nat.mul_one] at this
end
end Go.Proofs.YtpcjmicciccihaaDoor
