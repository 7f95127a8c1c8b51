/- The walk over the document's Bytes. -/
import Derived.Test.YtidcgobnhfganaaHf
namespace Go.Proofs.Ytidcgobnhfganaa
open Go.RowKit

theorem one_byte (k : Nat) (h : k ≤ 255) : cellsB (putL k 1) = #[.int .u8 (k : Int)] := by
  have e : byteOf k 0 = UInt8.ofNat k := by simp [byteOf]
  show #[Value.int .u8 ((byteOf k 0).toNat : Int)] = _
  rw [e, UInt8.toNat_ofNat']
  congr 3
  omega

/-- A slice that was just built out of one byte. -/
theorem Got.lit_ {base : Nat} {W : World} (h : base ≤ W.heap.size) (k : Nat) (hk : k ≤ 255) : Got base (W.alloc (.cells #[.int .u8 (k : Int)] 5)) (some ⟨W.heap.size, 0, none⟩) 1 1 (putL k 1) := by
  rw [← one_byte k hk]
  refine ⟨?_, ByteSl.lit W Empty (putL k 1) 1 (putL_len k 1) (fun h => h) (by decide), fun h => by cases h⟩
  exact own_of_blk (cur := putL k 1) (Blk.new W 5 (cellsB (putL k 1))) h (putL_len k 1) (Nat.le_refl _) (by decide) (List.take_of_length_le (by rw [putL_len]; exact Nat.le_refl _))

set_option maxHeartbeats 2000000 in
theorem r5Bytes_yes (k t c : Nat) (s : ByteArray) (A : Option Addr) (n cap : Nat) (xs : List UInt8) (w : World) (hyes : mayB (k : Int) (t : Int) (s.size : Int) (n : Int) (c : Int) = true) (ht : t ≤ 4294967295) (hB : ByteSl w Empty A n cap xs) (hA : A = none → n = 0 ∧ cap = 0) :
    Calls Try.prog 7 #[.agg #[.int .i64 (k : Int), .int .u32 (t : Int), .string s, .slice A n cap, .int .i64 (c : Int)]] w fun e w' =>
      (∃ A' cap', e = .returned (.slice A' (15 + s.size + n) cap') ∧ Got w.heap.size w' A' (15 + s.size + n) cap' (recB k t c s.data.toList xs)) ∧ Below w.heap.size w w' := by
  have hy := mayB_iff.1 hyes
  have hk : k ≤ 255 := by omega
  have ha : s.size ≤ 64 := by omega
  have hb : n ≤ 4096 := by omega
  have hc : c ≤ 16 := by omega
  have HB := Lib.hid hB
  have HA := Lib.hid hA
  clear hyes hB hA hy
  have C0 : Hid (Acc w w.heap.size 28 #[.int .i64 (k : Int), .int .u32 (t : Int), .string s, .slice A n cap, .int .i64 (c : Int)] (w.alloc (.cells #[.int .i64 (k : Int), .int .u32 (t : Int), .string s, .slice A n cap, .int .i64 (c : Int)] 28))) := Lib.hid ⟨(Below.refl w.heap.size w).alloc (Nat.le_refl _) _, Blk.new w 28 _⟩
  have C1 := Lib.hid (C0.out.alloc (.cells #[.int .u8 (k : Int)] 5))
  have hs1 : (w.alloc (.cells #[.int .i64 (k : Int), .int .u32 (t : Int), .string s, .slice A n cap, .int .i64 (c : Int)] 28)).heap.size = w.heap.size + 1 := by simp
  have g1 := Got.lit_ (base := w.heap.size + 1) (W := w.alloc (.cells #[.int .i64 (k : Int), .int .u32 (t : Int), .string s, .slice A n cap, .int .i64 (c : Int)] 28)) (by omega) k hk
  rw [hs1] at g1
  have G1 := Lib.hid g1
  have hl1 : Hid (w.heap.size + 1 ≤ ((w.alloc (.cells #[.int .i64 (k : Int), .int .u32 (t : Int), .string s, .slice A n cap, .int .i64 (c : Int)] 28)).alloc (.cells #[.int .u8 (k : Int)] 5)).heap.size) := Lib.hid (by simp)
  clear g1 hs1
  go_enter Try.func7, Try.ntmps7
  go_wp2_with fail
  refine (refPut_step _ 1 1 (putL k 1) t 4 _ C1.out G1.out hl1.out (by omega) (by omega) (by omega) (by omega)).mono ?_
  rintro e1 w1 ⟨⟨A1, c1, rfl, hG2⟩, hC2⟩
  have z1 := hC2.blk.cell 2
  simp at z1
  have C2 := Lib.hid hC2
  have G2 := Lib.hid hG2
  have L2 : Hid (w.heap.size + 1 ≤ w1.heap.size) := Lib.hid hC2.blk.lt
  clear hC2 hG2
  have O3 := Lib.hid (G2.out.alloc (.cells #[.int .u8 (s.size : Int)] 5)).own
  have B3 := Lib.hid (Got.lit_ C2.out.below.size s.size (by omega)).bytes
  have C3 := Lib.hid (C2.out.alloc (.cells #[.int .u8 (s.size : Int)] 5))
  have L3 : Hid (w.heap.size + 1 ≤ (w1.alloc (.cells #[.int .u8 (s.size : Int)] 5)).heap.size) := Lib.hid C3.out.blk.lt
  go_wp2_with (at_builtin; refine wpList_append_bytes rfl (.tmp 12) (.tmp 17) rfl (w.heap.size + 1) _ rfl 5 (putL k 1 ++ putL t 4) O3.out (some ⟨w1.heap.size, 0, none⟩) 1 1 (putL s.size 1) Empty rfl B3.out (fun h => by cases h) (by omega) L3.out ?_)
  intro v2 w2 hown2 hg2 _
  have hO2 : Only (fun q => w.heap.size + 1 ≤ q) (w1.alloc (.cells #[.int .u8 (s.size : Int)] 5)) w2 := Only.of_grown hg2 (fun q hq _ => (O3.out.lt q hq).1)
  have hC4 : Acc w w.heap.size 28 #[.int .i64 (k : Int), .int .u32 (t : Int), .string s, .slice A n cap, .int .i64 (c : Int)] w2 := ⟨C3.out.below.trans (hO2.below (B := w.heap.size) C3.out.below.size (fun q h1 h2 => by omega)), hO2.blk C3.out.blk (by omega)⟩
  have hown3 : w2.ownsRow (w.heap.size + 1) 5 1 v2 6 ((putL k 1 ++ putL t 4 ++ putL s.size 1).map B8) := by
    rw [List.map_append, List.map_append, List.append_assoc]
    exact hown2
  obtain ⟨A2, c2, rfl, hG4⟩ := Got.of_own hown3
  have G4 := Lib.hid hG4
  have C4 := Lib.hid hC4
  clear hown2 hg2 hO2 hC4 hown3 hG4 z1
  go_wp2_with fail
  have L4 : Hid (w.heap.size + 1 ≤ w2.heap.size) := Lib.hid C4.out.blk.lt
  have HS : Hid (∀ W, Only (fun q => w.heap.size + 1 ≤ q) w2 W → W.cell? ⟨w.heap.size, 3, none⟩ = some (.slice A n cap) ∧ W.cell? ⟨w.heap.size, 4, none⟩ = some (.int .i64 (c : Int))) := Lib.hid (fun W h => by
    have hk1 := h.blk C4.out.blk (by omega)
    exact ⟨hk1.cell 3, hk1.cell 4⟩)
  have N1 : Hid (∀ W, Below w2.heap.size w2 W → Calls Try.prog 12 #[.slice A2 6 c2, .int .u64 (n : Int), .int .i64 2] W fun e W' => (∃ A' cap', e = .returned (.slice A' 8 cap') ∧ Got (w.heap.size + 1) W' A' 8 cap' (putL k 1 ++ putL t 4 ++ putL s.size 1 ++ putL n 2)) ∧ Only Empty W W' ∧ Only (fun q => w.heap.size + 1 ≤ q) w2 W' ∧ w.heap.size + 1 ≤ W'.heap.size) := Lib.hid (fun W hW =>
    (refPut_yes A2 6 c2 _ n 2 W (G4.out.next hW).bytes G4.out.isNil (by omega) (by omega) (by omega) (by omega)).mono fun e W' ⟨⟨u, he, ho⟩, hb⟩ => by
      have h1 := hW.size
      have h2 := hb.size
      have h3 := L4.out
      obtain ⟨A', cap', rfl, hg⟩ := Got.of_own (own_base ho (show w.heap.size + 1 ≤ W.heap.size by omega))
      exact ⟨⟨A', cap', he, hg⟩, Only.of_below hb, Only.of_below (hW.trans (hb.mono h1)), by omega⟩)
  have hDa : Below w2.heap.size w2 w2.drew := (Below.refl _ _).drewN 1
  have hDb : Below w2.heap.size w2 (w2.alloc (.cells #[.int .u8 (c : Int)] 5)).drew := ((Below.refl _ _).alloc (Nat.le_refl _) _).drewN 1
  have HDa := Lib.hid hDa
  have HDb := Lib.hid hDb
  have HLa : Hid (∀ W : World, ByteSl (W.alloc (.cells #[.int .u8 (c : Int)] 5)) Empty (some ⟨W.heap.size, 0, none⟩) 1 1 (putL c 1)) := Lib.hid (fun W => (Got.lit_ (base := 0) (Nat.zero_le _) c (by omega)).bytes)
  have HLb : Hid (ByteSl (w2.alloc (.cells #[.int .u8 (c : Int)] 5)).drew Empty (some ⟨w2.heap.size, 0, none⟩) 1 1 (putL c 1)) := Lib.hid ((HLa.out w2).only (Only.refl Empty _).drew (fun _ _ h => h))
  have HN : Hid (∀ q : Addr, some q = none → 1 = 0 ∧ 1 = 0) := Lib.hid (fun q h => by cases h)
  have Hm : Hid (8 + 1 ≤ 16777216) := Lib.hid (by omega)
  have Hal : Hid (∀ W : World, w.heap.size + 1 ≤ W.heap.size → w.heap.size + 1 ≤ (W.alloc (.cells #[.int .u8 (c : Int)] 5)).heap.size) := Lib.hid (fun W h => by simp; omega)
  have hs1 := HS.out _ (Only.of_below hDa)
  have hs2 := HS.out _ (Only.of_below hDb)
  have hwc : IntKind.u8.wrap (c : Int) = (c : Int) := by rw [IntKind.wrap_u8]; omega
  have hwn : IntKind.u64.wrap (n : Int) = (n : Int) := by rw [IntKind.wrap_u64]; omega
  clear hDa hDb
  go_region_held3 (fun W => W.cell? ⟨w.heap.size, 3, none⟩ = some (.slice A n cap) ∧ W.cell? ⟨w.heap.size, 4, none⟩ = some (.int .i64 (c : Int))) (first | with_reducible exact hs1 | with_reducible exact hs2 | with_reducible exact hs10 | with_reducible exact hs11 | with_reducible exact HS.out _ (Only.alloc hT10 _))
    (first | ((go_at_call 12; (with_reducible refine (N1.out _ ?_).mono ?_); (first | with_reducible exact HDa.out | with_reducible exact HDb.out); rintro e10 w10 ⟨⟨A10, c10, rfl, hG10⟩, hO10, hT10, hz10⟩; have hs10 := HS.out _ hT10)) | ((refine step_append_bytes rfl (.tmp 24) (.tmp 28) rfl (w.heap.size + 1) (.slice A10 8 c10) rfl 8 (putL k 1 ++ putL t 4 ++ putL s.size 1 ++ putL n 2) (hG10.alloc _).own (some ⟨w10.heap.size, 0, none⟩) 1 1 (putL c 1) Empty rfl (HLa.out w10) (HN.out _) Hm.out (Hal.out _ hz10) ?_; intro v11 w11 hown11 hg11 hnn11; have hT11 := (hT10.alloc (.cells #[.int .u8 (c : Int)] 5)).trans (Only.of_grown (S := fun q => w.heap.size + 1 ≤ q) hg11 (fun q hq _ => ((hG10.alloc (.cells #[.int .u8 (c : Int)] 5)).own.lt q hq).1)); have hs11 := HS.out _ hT11)) | ((refine step_append_bytes rfl (.tmp 24) (.tmp 28) rfl (w.heap.size + 1) (.slice A10 8 c10) rfl 8 (putL k 1 ++ putL t 4 ++ putL s.size 1 ++ putL n 2) hG10.own (some ⟨w2.heap.size, 0, none⟩) 1 1 (putL c 1) Empty rfl (HLb.out.only hO10 (fun _ _ h => h)) (HN.out _) Hm.out hz10 ?_; intro v11 w11 hown11 hg11 hnn11; have hT11 := hT10.trans (Only.of_grown (S := fun q => w.heap.size + 1 ≤ q) hg11 (fun q hq _ => (hG10.own.lt q hq).1)); have hs11 := HS.out _ hT11)))
  all_goals
    have hC11 : Acc w w.heap.size 28 #[.int .i64 (k : Int), .int .u32 (t : Int), .string s, .slice A n cap, .int .i64 (c : Int)] w11 := ⟨C4.out.below.trans (hT11.below (B := w.heap.size) C4.out.below.size (fun q h1 h2 => by omega)), hT11.blk C4.out.blk (by omega)⟩
    have hown12 : w11.ownsRow (w.heap.size + 1) 5 1 v11 9 ((nineB k t s.size n c).map B8) := by
      unfold nineB
      first | exact hown11 | (simp only [List.map_append, List.append_assoc] at hown11 ⊢; exact hown11)
    obtain ⟨A11, c11, rfl, hG11⟩ := Got.of_own hown12
    have hL11 : w.heap.size + 1 ≤ w11.heap.size := hC11.blk.lt
    have G11 := Lib.hid hG11
    have C11 := Lib.hid hC11
    have L11 := Lib.hid hL11
    clear hs1 hs2 hwc hwn hG10 hO10 hT10 hz10 hs10 hown11 hg11 hnn11 hT11 hs11 hC11 hown12 hG11 hL11
    go_wp2_with fail
    refine (refSum16_any A11 9 c11 (nineB k t s.size n c) _ G11.out.bytes).mono ?_
    rintro e1 w12 ⟨rfl, rfl⟩
    unfold V16
    have hv := (crc16 (nineB k t s.size n c)).isLt
    obtain ⟨v, hve⟩ : ∃ v, v = (crc16 (nineB k t s.size n c)).toNat := ⟨_, rfl⟩
    rw [← hve] at hv ⊢
    have hv2 : v ≤ 65535 := by omega
    have Hve := Lib.hid hve
    clear hv hve
    go_wp2_with fail
    refine (refPut_step A11 9 c11 (nineB k t s.size n c) v 2 _ C11.out G11.out L11.out (by omega) (by omega) (by omega) (by omega)).mono ?_
    rintro e1 w12 ⟨⟨A12, c12, rfl, hG12⟩, hC12⟩
    have hG13 : Got (w.heap.size + 1) w12 A12 11 c12 (headR k t s.size n c) := by
      rw [Hve.out] at hG12
      exact hG12
    have L12 : Hid (w.heap.size + 1 ≤ w12.heap.size) := Lib.hid hC12.blk.lt
    have G12 := Lib.hid hG13
    have C12 := Lib.hid hC12
    clear hG12 hC12 hG13 Hve
    go_wp2_with fail
    have HS2 : Hid (∀ W, Only (fun q => w.heap.size + 1 ≤ q) w12 W → W.cell? ⟨w.heap.size, 2, none⟩ = some (.string s) ∧ W.cell? ⟨w.heap.size, 3, none⟩ = some (.slice A n cap)) := Lib.hid (fun W h => by
      have hk1 := h.blk C12.out.blk (by omega)
      exact ⟨hk1.cell 2, hk1.cell 3⟩)
    have hD2 : Only (fun q => w.heap.size + 1 ≤ q) w12 w12.drew := (Only.refl _ _).drew
    have hs1 := HS2.out _ hD2
    have HD2 := Lib.hid hD2
    have HG2 : Hid (Got (w.heap.size + 1) w12.drew A12 11 c12 (headR k t s.size n c)) := Lib.hid (G12.out.next ((Below.refl _ _).drewN 1))
    have Hm1 : Hid (11 + s.size ≤ 16777216) := Lib.hid (by omega)
    have Hm2 : Hid (11 + s.size + n ≤ 16777216) := Lib.hid (by omega)
    have HBn : Hid (∀ W, Only (fun q => w.heap.size + 1 ≤ q) w12 W → w.heap.size + 1 ≤ W.heap.size ∧ ByteSl W Empty A n cap xs) := Lib.hid (fun W h => by
      have h1 := h.size
      have h2 := L12.out
      refine ⟨by omega, HB.out.only (Only.of_below (S := Empty) (C12.out.below.trans (h.below (B := w.heap.size) C12.out.below.size (fun q h1 h2 => by omega)))) (fun _ _ h => h)⟩)
    clear hD2
    go_region_held3 (fun W => W.cell? ⟨w.heap.size, 2, none⟩ = some (.string s) ∧ W.cell? ⟨w.heap.size, 3, none⟩ = some (.slice A n cap)) (first | with_reducible exact hs1 | with_reducible exact hs21 | with_reducible exact hs22)
      (first | ((refine step_append_str rfl (.tmp 35) (.tmp 37) rfl (w.heap.size + 1) (.slice A12 11 c12) rfl 11 (headR k t s.size n c) HG2.out.own s rfl Hm1.out L12.out ?_; intro v21 w21 hown21 hg21 hnn21; have hT21 := HD2.out.trans (Only.of_grown (S := fun q => w.heap.size + 1 ≤ q) hg21 (fun q hq _ => (HG2.out.own.lt q hq).1)); have hs21 := HS2.out _ hT21)) | ((refine step_append_bytes rfl (.tmp 38) (.tmp 40) rfl (w.heap.size + 1) v21 rfl (11 + s.size) (headR k t s.size n c ++ s.data.toList) hown21 A n cap xs Empty rfl (HBn.out _ hT21).2 HA.out Hm2.out (HBn.out _ hT21).1 ?_; intro v22 w22 hown22 hg22 hnn22; have hT22 := hT21.trans (Only.of_grown (S := fun q => w.heap.size + 1 ≤ q) hg22 (fun q hq _ => (hown21.lt q hq).1)); have hs22 := HS2.out _ hT22)))
    have hC22 : Acc w w.heap.size 28 #[.int .i64 (k : Int), .int .u32 (t : Int), .string s, .slice A n cap, .int .i64 (c : Int)] w22 := ⟨C12.out.below.trans (hT22.below (B := w.heap.size) C12.out.below.size (fun q h1 h2 => by omega)), hT22.blk C12.out.blk (by omega)⟩
    have hlen : s.data.toList.length = s.size := Array.length_toList
    have hxl : xs.length = n := HB.out.1
    have hown23 : w22.ownsRow (w.heap.size + 1) 5 1 v22 (11 + s.size + n) ((bodyR k t c s.data.toList xs).map B8) := by
      unfold bodyR
      rw [hlen, hxl]
      first | exact hown22 | (simp only [List.map_append, List.append_assoc] at hown22 ⊢; exact hown22)
    obtain ⟨A22, c22, rfl, hG22⟩ := Got.of_own hown23
    have hL22 : w.heap.size + 1 ≤ w22.heap.size := hC22.blk.lt
    have G22 := Lib.hid hG22
    have C22 := Lib.hid hC22
    have L22 := Lib.hid hL22
    clear hs1 hown21 hg21 hnn21 hT21 hs21 hown22 hg22 hnn22 hT22 hs22 hC22 hlen hxl hown23 hG22 hL22
    go_wp2_with fail
    refine (refSum32_any A22 (11 + s.size + n) c22 (bodyR k t c s.data.toList xs) _ G22.out.bytes).mono ?_
    rintro e1 w23 ⟨rfl, rfl⟩
    unfold V32
    have hv := (crc32 (bodyR k t c s.data.toList xs)).isLt
    obtain ⟨v3, hve⟩ : ∃ v3, v3 = (crc32 (bodyR k t c s.data.toList xs)).toNat := ⟨_, rfl⟩
    rw [← hve] at hv ⊢
    have hv3 : v3 ≤ 4294967295 := by omega
    have Hve := Lib.hid hve
    clear hv hve
    go_wp2_with fail
    refine (refPut_step A22 (11 + s.size + n) c22 (bodyR k t c s.data.toList xs) v3 4 _ C22.out G22.out L22.out (by omega) (by omega) (by omega) (by omega)).mono ?_
    rintro e1 w24 ⟨⟨A24, c24, rfl, hG24⟩, hC24⟩
    have G24 := Lib.hid hG24
    have C24 := Lib.hid hC24
    have hn15 : 11 + s.size + n + 4 = 15 + s.size + n := by omega
    have Hn15 := Lib.hid hn15
    clear hG24 hC24 hn15
    go_wp2
    go_ret
    have h := G24.out
    rw [Hve.out, Hn15.out] at h
    exact ⟨⟨A24, c24, by rw [Hn15.out]; rfl, h.lower (by omega)⟩, C24.out.below⟩

end Go.Proofs.Ytidcgobnhfganaa
