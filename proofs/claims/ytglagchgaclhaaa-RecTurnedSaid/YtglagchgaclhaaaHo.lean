/- The walk over RecTurned, where bits of a record's key and blob are turned. -/
import Derived.Test.YtglagchgaclhaaaHn
namespace Go.Proofs.Ytglagchgaclhaaa
open Go.RowKit

set_option maxRecDepth 100000 in
set_option maxHeartbeats 4000000 in
theorem recTurned_body (k t c : Nat) (s : ByteArray) (A : Option Addr) (n cap : Nat) (xs : List UInt8) (z y : Nat) (w : World) (hB0 : ByteSl w (fun q => w.heap.size ≤ q) A n cap xs) (hA : A = none → n = 0 ∧ cap = 0) (ht : t ≤ 4294967295)
    (hm : mayB (k : Int) (t : Int) (s.size : Int) (n : Int) (c : Int) = true) (hz : z ≤ 65535) (hy : y ≤ 4294967295) (hy0 : y ≠ 0) :
    Calls Try.prog 5 #[.agg #[.int .i64 (k : Int), .int .u32 (t : Int), .string s, .slice A n cap, .int .i64 (c : Int)], .int .u16 (z : Int), .int .u32 (y : Int), .bool true] w fun e w' => e = .returned (.bool true) ∧ Below w.heap.size w w' := by
  have hB := hB0.mono (T := Empty) (fun _ _ h => h.elim)
  have hyb : ((y : Int) == 0) = false := by simpa using hy0
  have HB := Lib.hid hB
  have HA := Lib.hid hA
  have Hm := Lib.hid hm
  have Hr : Hid (∀ W, Calls Try.prog 8 #[.agg #[.int .i64 (k : Int), .int .u32 (t : Int), .string s, .slice A n cap, .int .i64 (c : Int)]] W fun e w' => e = .returned (.bool true) ∧ Below W.heap.size W w') := Lib.hid (fun W => by
    have h := right_any (k : Int) (t : Int) (c : Int) s A n cap W (by omega)
    rw [hm] at h
    exact h)
  have Hy : Hid (∀ W, ByteSl W Empty A n cap xs → Calls Try.prog 10 #[.agg #[.int .i64 (k : Int), .int .u32 (t : Int), .string s, .slice A n cap, .int .i64 (c : Int)]] W fun e w' =>
      (∃ A' cap', e = .returned (.slice A' (15 + s.size + n) cap') ∧ Got W.heap.size w' A' (15 + s.size + n) cap' (recB k t c s.data.toList xs)) ∧ Below W.heap.size W w') := Lib.hid (fun W h => r5Bytes_yes k t c s A n cap xs W hm ht h hA)
  have C0 : Hid (Acc w w.heap.size 25 #[.int .i64 (k : Int), .int .u32 (t : Int), .string s, .slice A n cap, .int .i64 (c : Int)] (w.alloc (.cells #[.int .i64 (k : Int), .int .u32 (t : Int), .string s, .slice A n cap, .int .i64 (c : Int)] 25))) := Lib.hid ⟨(Below.refl w.heap.size w).alloc (Nat.le_refl _) _, Blk.new w 25 _⟩
  have hsz : s.size ≤ 64 ∧ n ≤ 4096 := by have := mayB_iff.1 hm; omega
  obtain ⟨hs64, hn4⟩ := hsz
  clear hB0 hB hA hm hy0
  go_enter Try.func5, Try.ntmps5
  go_wp2_with fail
  refine (fixed5_any _).mono ?_
  rintro e1 w1 ⟨rfl, hb1⟩
  have C1 := Lib.hid (C0.out.next hb1)
  have k0 := C1.out.blk.cell 0
  have k1 := C1.out.blk.cell 1
  have k2 := C1.out.blk.cell 2
  have k3 := C1.out.blk.cell 3
  have k4 := C1.out.blk.cell 4
  simp at k0 k1 k2 k3 k4
  clear hb1
  go_wp2_with fail
  clear k0 k1 k2 k3 k4
  refine (Hr.out _).mono ?_
  rintro e2 w2 ⟨rfl, hb2⟩
  have C2 := Lib.hid (C1.out.next hb2)
  have k0 := C2.out.blk.cell 0
  have k1 := C2.out.blk.cell 1
  have k2 := C2.out.blk.cell 2
  have k3 := C2.out.blk.cell 3
  have k4 := C2.out.blk.cell 4
  simp at k0 k1 k2 k3 k4
  clear hb2
  go_wp2_with fail
  clear k0 k1 k2 k3 k4
  refine (Hy.out _ (HB.out.only (Only.of_below (S := Empty) C2.out.below) (fun _ _ h => h))).mono ?_
  rintro e3 w3 ⟨⟨A3, c3, rfl, hG3⟩, hb3⟩
  have C3 := Lib.hid (C2.out.next hb3)
  obtain ⟨T, hN⟩ : ∃ T, T + 4 = 15 + s.size + n := ⟨11 + s.size + n, by omega⟩
  rw [← hN] at hG3 ⊢
  have Hz2 : Hid (w.heap.size < w2.heap.size) := Lib.hid C2.out.blk.lt
  have G3 := Lib.hid (hG3.alloc (.cells #[.int .u8 0] 5))
  have L3 : Hid (w2.heap.size ≤ (w3.alloc (.cells #[.int .u8 0] 5)).heap.size) := Lib.hid (by have := hb3.size; simp; omega)
  have B3 : Hid (ByteSl (w3.alloc (.cells #[.int .u8 0] 5)) Empty (some ⟨w3.heap.size, 0, none⟩) 1 1 [0]) := Lib.hid (ByteSl.lit w3 Empty [0] 1 rfl (fun h => h) (by decide))
  have HN := Lib.hid hN
  have hN2 : T ≤ 5000 := by omega
  clear hG3 hb3 hN
  go_wp2_with (at_builtin; refine wpList_append_bytes rfl (.tmp 30) (.tmp 31) rfl w2.heap.size _ rfl (T + 4) (recB k t c s.data.toList xs) G3.out.own (some ⟨w3.heap.size, 0, none⟩) 1 1 [0] Empty rfl B3.out (fun h => by cases h) (by omega) L3.out ?_)
  intro v4 w4 hown4 hg4 hnn4
  obtain ⟨hd, hhd⟩ : ∃ x, x = headR k t s.size n c := ⟨_, rfl⟩
  obtain ⟨md, hmd⟩ : ∃ x, x = s.data.toList ++ xs := ⟨_, rfl⟩
  obtain ⟨P, hP⟩ : ∃ P, P = putL (crc32 (headR k t s.size n c ++ (s.data.toList ++ xs))).toNat 4 ++ [0] := ⟨_, rfl⟩
  have hrest : recB k t c s.data.toList xs ++ [0] = hd ++ (md ++ P) := by
    rw [hhd, hmd, hP]
    have hb : bodyR k t c s.data.toList xs = headR k t s.size n c ++ (s.data.toList ++ xs) := by
      unfold bodyR
      rw [show s.data.toList.length = s.size from Array.length_toList, HB.out.1]
      simp only [List.append_assoc]
    unfold recB
    rw [hb]
    simp only [List.append_assoc]
  have hlhd : hd.length = 11 := by rw [hhd, headR_len]
  obtain ⟨L, hL⟩ : ∃ L, L = s.size + n := ⟨_, rfl⟩
  have hlmd : md.length = L := by rw [hmd, List.length_append, show s.data.toList.length = s.size from Array.length_toList, HB.out.1, hL]
  have hown5 : w4.ownsRow w2.heap.size 5 1 v4 (T + 5) ((hd ++ (md ++ P)).map B8) := by
    rw [← hrest]
    first | exact hown4 | simpa using hown4
  obtain ⟨g, cp, rfl, hgb, hO⟩ := OwnB.of_row hown5 (fun e => by have h1 := hnn4 e; have h2 := HN.out; omega)
  have hlt := G3.out.own.lt
  have hS4 : Only (fun q => w2.heap.size ≤ q) (w3.alloc (.cells #[.int .u8 0] 5)) w4 := Only.of_grown hg4 (fun q hq _ => (hlt q hq).1)
  have C4 : Hid (Below w.heap.size w w4) := Lib.hid ((C3.out.alloc _).below.trans (hS4.below (B := w.heap.size) (by have := C3.out.below.size; simp; omega) (fun q h1 h2 => by have := Hz2.out; omega)))
  have HO := Lib.hid hO
  have Hgb : Hid (w.heap.size < g) := Lib.hid (by have := Hz2.out; omega)
  have HP := Lib.hid hP
  have Hrest := Lib.hid hrest
  have Hhd := Lib.hid hhd
  have Hmd := Lib.hid hmd
  have Hlhd := Lib.hid hlhd
  have Hlmd := Lib.hid hlmd
  have HL := Lib.hid hL
  have hTL : (T : Int) - 11 = (L : Int) := by have := HN.out; omega
  have hT5 : (T : Int) + 5 - 5 = (T : Int) := by omega
  have hL2 : L ≤ 4160 := by omega
  have HTL : Hid (T = L + 11) := Lib.hid (by have := HN.out; omega)
  clear hown4 hg4 hnn4 hrest hP hhd hmd hlhd hlmd hown5 hgb hO hlt hS4 hL
  obtain ⟨r, hr⟩ : ∃ r, r = z % (8 * L) := ⟨_, rfl⟩
  have Hr2 := Lib.hid hr
  clear hr
  go_wp2
  go_loopw [13, 38] (fun tt i wr => ∃ (q : Nat) (b : Bool) (zs : List UInt8), q ≤ 32 ∧ i = .int .i64 (q : Int) ∧ tt = .bool b ∧ OwnB wr g (T + 5) cp (hd ++ (zs ++ P)) ∧ PartTurned way32 md zs r q b ∧ Only (· = g) w4 wr) (fun _ i _ => 32 - (intOf i).toNat)
  case atStart => exact ⟨0, false, md, by omega, rfl, rfl, HO.out, PartTurned.at_zero _ _ _, Only.refl _ _⟩
  case round =>
    obtain ⟨q, b, zs, hq, rfl, rfl, hO, hT, hW⟩ := hrel
    have HO2 := Lib.hid hO
    have HT := Lib.hid hT
    have HW := Lib.hid hW
    have Hzl : Hid (zs.length = L) := Lib.hid (by rw [hT.len, Hlmd.out])
    clear hO hT hW
    by_cases hlt : q < 32
    · by_cases hL0 : L = 0
      · have hT11 : decide ((11 : Int) < (T : Int)) = false := by have := HTL.out; simp; omega
        have hL1 : (L : Int) = 0 := by omega
        have hq0 : (0 : Int) ≤ (q : Int) := by omega
        clear hL0
        by_cases hbit : ((y : Int) / 2 ^ q).tmod 2 = 0
        · have hb1 : (((y : Int) / 2 ^ q).tmod 2 == 0) = true := by simpa using hbit
          clear hbit
          go_wp2
          go_roundw
          case rel => exact ⟨q + 1, b, zs, by omega, by go_num, rfl, HO2.out, HT.out.skip, HW.out⟩
          case measure => simp [intOf]; omega
        · have hb1 : (((y : Int) / 2 ^ q).tmod 2 == 0) = false := by simpa using hbit
          clear hbit
          go_wp2
          go_roundw
          case rel => exact ⟨q + 1, b, zs, by omega, by go_num, rfl, HO2.out, HT.out.skip, HW.out⟩
          case measure => simp [intOf]; omega
      · have hT11 : decide ((11 : Int) < (T : Int)) = true := by have := HTL.out; simp; omega
        have hL1 : 0 < L := by omega
        have hL2 : (0 : Int) < (L : Int) := by omega
        have hL3 : ((L : Int) == 0) = false := by simp; omega
        have hr2 : (z : Int) % (8 * (L : Int)) = (r : Int) := by
          rw [Hr2.out]
          simp
        have Hr3 : Hid (r < 8 * L) := Lib.hid (by rw [Hr2.out]; exact Nat.mod_lt _ (by omega))
        have hr4 : r ≤ 33280 := by have := Hr3.out; omega
        clear hL0
        by_cases hbit : ((y : Int) / 2 ^ q).tmod 2 = 0
        · have hb1 : (((y : Int) / 2 ^ q).tmod 2 == 0) = true := by simpa using hbit
          clear hbit
          go_wp2
          go_roundw
          case rel => exact ⟨q + 1, b, zs, by omega, by go_num, rfl, HO2.out, HT.out.skip, HW.out⟩
          case measure => simp [intOf]; omega
        · have hb1 : (((y : Int) / 2 ^ q).tmod 2 == 0) = false := by simpa using hbit
          clear hbit
          by_cases hin : r + q < 8 * L
          · obtain ⟨p, hp⟩ : ∃ p, p = (r + q) / 8 := ⟨_, rfl⟩
            have hpL : p < L := by omega
            have hpM : p ≤ 4160 := by omega
            obtain ⟨v, hv⟩ : ∃ v, zs[p]? = some v := ⟨_, List.getElem?_eq_getElem (by have := Hzl.out; omega)⟩
            have hv2 : (hd ++ (zs ++ P))[11 + p]? = some v := by
              rw [List.getElem?_append_right (by have := Hlhd.out; omega), Hlhd.out, Nat.add_sub_cancel_left, List.getElem?_append_left (by have := Hzl.out; omega)]
              exact hv
            have hcell : wr.cell? ⟨g, 11 + p, none⟩ = some (.int .u8 (v.toNat : Int)) := HO2.out.cell hv2
            have hfr := HO2.out.frozen (11 + p)
            have Hv := Lib.hid hv
            have Hp := Lib.hid hp
            have hvb : v.toNat < 256 := v.toNat_lt
            obtain ⟨j, hj⟩ : ∃ j, j = (r + q) % 8 := ⟨_, rfl⟩
            have hj2 : ((r : Int) + (q : Int)) % 8 = (j : Int) := by omega
            have hj3 : j < 8 := by omega
            have Hj := Lib.hid hj
            have hp2 : ((r : Int) + (q : Int)) / 8 = (p : Int) := by omega
            have hp3 : (11 : Int) + (p : Int) < (T : Int) + 5 := by have := HTL.out; omega
            have hp4 : ((11 : Int) + (p : Int)).toNat = 11 + p := by omega
            have hp5 : (0 : Int) ≤ (11 : Int) + (p : Int) := by omega
            have hin2 : (r : Int) + (q : Int) < 8 * (L : Int) := by omega
            have Hin := Lib.hid hin
            clear hv hv2 hj hin hp
            go_wp2
            go_roundw
            case rel =>
              rw [flip32 v j hj3]
              have hset := HO2.out.set_ (11 + p) (v ^^^ way32.bit j)
              rw [List.set_append_right _ _ (by have := Hlhd.out; omega), Hlhd.out, Nat.add_sub_cancel_left, List.set_append_left _ _ (by have := Hzl.out; omega)] at hset
              refine ⟨q + 1, true, zs.set p (v ^^^ way32.bit j), by omega, by go_num, rfl, hset, ?_, HW.out.setCell (p := ⟨g, 11 + p, none⟩) (Or.inl rfl) _⟩
              have hv3 := Hv.out
              rw [Hp.out] at hv3
              rw [Hp.out, Hj.out]
              exact HT.out.flip hlt (by have := Hin.out; have := Hlmd.out; omega) v hv3
            case measure => simp [intOf]; omega
          · have hin2 : 8 * (L : Int) ≤ (r : Int) + (q : Int) := by omega
            clear hin
            go_wp2
            go_roundw
            case rel => exact ⟨q + 1, b, zs, by omega, by go_num, rfl, HO2.out, HT.out.skip, HW.out⟩
            case measure => simp [intOf]; omega
    · obtain rfl : q = 32 := by omega
      have HG := Lib.hid (HO2.out.bytes Empty (fun h => h))
      have HW5 : Hid (Below w.heap.size w wr) := Lib.hid (C4.out.trans (HW.out.below (B := w.heap.size) C4.out.size (fun q h1 h2 => by have := Hgb.out; omega)))
      cases b with
      | false =>
        have hz : zs = md := HT.out.2 rfl
        have ho : (out (hd ++ (zs ++ P))).whole = true ∧ (out (hd ++ (zs ++ P))).e = 0 := by
          rw [hz, ← Hrest.out]
          have h := out_made k t c s.data.toList xs 0 [] (by rw [show s.data.toList.length = s.size from Array.length_toList, HB.out.1]; exact Hm.out) ht
          rw [h]
          exact ⟨rfl, rfl⟩
        have N6 := Lib.hid (fun W hB => told_any (some ⟨g, 0, none⟩) (T + 5) cp (hd ++ (zs ++ P)) true 0 W hB (by omega) ho.1 ho.2)
        clear hz ho
        go_wp2_with fail
        refine (N6.out _ HG.out).mono ?_
        rintro e6 w6 ⟨⟨a1, a2, a3, a4, s', A', n', cap', rfl⟩, hb6⟩
        have HW6 := Lib.hid (HW5.out.trans (hb6.mono HW5.out.size))
        clear hb6
        go_wp2
        go_ret
        exact ⟨rfl, HW6.out.alloc HW6.out.size _⟩
      | true =>
        have ho : (out (hd ++ (zs ++ P))).whole = false := by
          have hne : way32.sum (way32.sum (BitVec.allOnes 32) hd) zs ≠ way32.sum (way32.sum (BitVec.allOnes 32) hd) md := (HT.out.1.done (way32.sum (BitVec.allOnes 32) hd)).2 rfl
          have hne2 : crc32 (headR k t s.size n c ++ zs) ≠ crc32 (headR k t s.size n c ++ (s.data.toList ++ xs)) := by
            intro e
            apply hne
            have e2 := BitVec.not_inj.1 e
            rw [way32.sum_append, way32.sum_append, ← Hhd.out, ← Hmd.out] at e2
            exact e2
          rw [HP.out, Hhd.out]
          exact out_body_turned k t s.size n c _ zs Hm.out ht (by rw [Hzl.out, HL.out]) (by have := (crc32 (headR k t s.size n c ++ (s.data.toList ++ xs))).isLt; omega) (fun e => hne2 (BitVec.eq_of_toNat_eq e))
        obtain ⟨er, her⟩ : ∃ er, er = (out (hd ++ (zs ++ P))).e := ⟨_, rfl⟩
        have N6 := Lib.hid (fun W hB => told_any (some ⟨g, 0, none⟩) (T + 5) cp (hd ++ (zs ++ P)) false er W hB (by omega) ho her.symm)
        clear ho her
        by_cases he : er = 0
        · subst he
          go_wp2_with fail
          refine (N6.out _ HG.out).mono ?_
          rintro e6 w6 ⟨⟨a1, a2, a3, a4, s', A', n', cap', rfl⟩, hb6⟩
          have HW6 := Lib.hid (HW5.out.trans (hb6.mono HW5.out.size))
          clear hb6
          go_wp2
          go_ret
          exact ⟨rfl, HW6.out.alloc HW6.out.size _⟩
        · have he1 : (er == 0) = false := by simpa using he
          have he2 : (er != 0) = true := by simp only [bne, he1]; rfl
          clear he
          go_wp2_with fail
          refine (N6.out _ HG.out).mono ?_
          rintro e6 w6 ⟨⟨a1, a2, a3, a4, s', A', n', cap', rfl⟩, hb6⟩
          have HW6 := Lib.hid (HW5.out.trans (hb6.mono HW5.out.size))
          clear hb6
          go_wp2
          go_ret
          exact ⟨rfl, HW6.out.alloc HW6.out.size _⟩

end Go.Proofs.Ytglagchgaclhaaa
