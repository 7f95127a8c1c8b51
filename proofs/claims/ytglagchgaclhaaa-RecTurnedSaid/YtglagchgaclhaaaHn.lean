/- The walk over RecTurned, where bits of a record's header are turned. -/
import Derived.Test.YtglagchgaclhaaaHm
namespace Go.Proofs.Ytglagchgaclhaaa
open Go.RowKit

/-- How far bits of the first of two parts are turned. -/
def PartTurned {m : Nat} (c : Way m) (xs ys : List UInt8) (r k : Nat) (b : Bool) : Prop := c.Turned xs ys r k b ∧ (b = false → ys = xs)
theorem PartTurned.flip {m : Nat} {c : Way m} {xs ys : List UInt8} {r k : Nat} {b : Bool} (h : PartTurned c xs ys r k b) (hk : k < m) (hr : r + k < 8 * xs.length) (y : UInt8) (hy : ys[(r + k) / 8]? = some y) :
    PartTurned c xs (ys.set ((r + k) / 8) (y ^^^ c.bit ((r + k) % 8))) r (k + 1) true := ⟨h.1.flip hk hr y hy, fun h => by cases h⟩
theorem PartTurned.skip {m : Nat} {c : Way m} {xs ys : List UInt8} {r k : Nat} {b : Bool} (h : PartTurned c xs ys r k b) : PartTurned c xs ys r (k + 1) b := ⟨h.1.skip, h.2⟩
theorem PartTurned.at_zero {m : Nat} (c : Way m) (xs : List UInt8) (r : Nat) : PartTurned c xs xs r 0 false := ⟨Way.Turned.at_zero xs r, fun _ => rfl⟩
theorem PartTurned.len {m : Nat} {c : Way m} {xs ys : List UInt8} {r k : Nat} {b : Bool} (h : PartTurned c xs ys r k b) : ys.length = xs.length := h.1.1

/-- What is told of bytes, but for the record's parts. -/
theorem told_any (A : Option Addr) (n cap : Nat) (xs : List UInt8) (wh : Bool) (er : Int) (w : World) (hB : ByteSl w Empty A n cap xs) (hm : n ≤ 1048576) (h1 : (out xs).whole = wh) (h2 : (out xs).e = er) :
    Calls Try.prog 9 #[.slice A n cap] w fun e w' =>
      (∃ (a1 a2 a3 a4 : Int) (s : ByteArray) (A' : Option Addr) (n' cap' : Nat), e = .returned (.tuple #[.agg #[.int .i64 a1, .int .u32 a2, .string s, .slice A' n' cap', .int .i64 a3], .int .i64 a4, .bool wh, .int .i64 er])) ∧ Below w.heap.size w w' :=
  (rcParse_any A n cap xs w hB hm).mono fun e w' ⟨⟨A', n', cap', he, _⟩, hb⟩ => by
    rw [h1, h2] at he
    exact ⟨⟨_, _, _, _, _, _, _, _, he⟩, hb⟩

set_option maxRecDepth 100000 in
set_option maxHeartbeats 4000000 in
theorem recTurned_head (k t c : Nat) (s : ByteArray) (A : Option Addr) (n cap : Nat) (xs : List UInt8) (z y : Nat) (w : World) (hB0 : ByteSl w (fun q => w.heap.size ≤ q) A n cap xs) (hA : A = none → n = 0 ∧ cap = 0) (ht : t ≤ 4294967295)
    (hm : mayB (k : Int) (t : Int) (s.size : Int) (n : Int) (c : Int) = true) (hz : z ≤ 65535) (hy : y ≤ 4294967295) (hy0 : y ≠ 0) :
    Calls Try.prog 5 #[.agg #[.int .i64 (k : Int), .int .u32 (t : Int), .string s, .slice A n cap, .int .i64 (c : Int)], .int .u16 (z : Int), .int .u32 (y : Int), .bool false] w fun e w' => e = .returned (.bool true) ∧ Below w.heap.size w w' := by
  have hB := hB0.mono (T := Empty) (fun _ _ h => h.elim)
  have hyb : ((y : Int) == 0) = false := by simpa using hy0
  have HB := Lib.hid hB
  have HA := Lib.hid hA
  have Hm := Lib.hid hm
  have Hr : Hid (∀ W, Calls Try.prog 8 #[.agg #[.int .i64 (k : Int), .int .u32 (t : Int), .string s, .slice A n cap, .int .i64 (c : Int)]] W fun e w' => e = .returned (.bool true) ∧ Below W.heap.size W w') := Lib.hid (fun W => by
    have h := right_any (k : Int) (t : Int) (c : Int) s A n cap W (by omega)
    rw [hm] at h
    exact h)
  have Hy : Hid (∀ W, ByteSl W Empty A n cap xs → Calls Try.prog 10 #[.agg #[.int .i64 (k : Int), .int .u32 (t : Int), .string s, .slice A n cap, .int .i64 (c : Int)]] W fun e w' =>
      (∃ A' cap', e = .returned (.slice A' (15 + s.size + n) cap') ∧ Got W.heap.size w' A' (15 + s.size + n) cap' (recB k t c s.data.toList xs)) ∧ Below W.heap.size W w') := Lib.hid (fun W h => r5Bytes_yes k t c s A n cap xs W hm ht h hA)
  have C0 : Hid (Acc w w.heap.size 25 #[.int .i64 (k : Int), .int .u32 (t : Int), .string s, .slice A n cap, .int .i64 (c : Int)] (w.alloc (.cells #[.int .i64 (k : Int), .int .u32 (t : Int), .string s, .slice A n cap, .int .i64 (c : Int)] 25))) := Lib.hid ⟨(Below.refl w.heap.size w).alloc (Nat.le_refl _) _, Blk.new w 25 _⟩
  have hsz : s.size ≤ 64 ∧ n ≤ 4096 := by have := mayB_iff.1 hm; omega
  obtain ⟨hs64, hn4⟩ := hsz
  clear hB0 hB hA hm hy0
  go_enter Try.func5, Try.ntmps5
  go_wp2_with fail
  refine (fixed5_any _).mono ?_
  rintro e1 w1 ⟨rfl, hb1⟩
  have C1 := Lib.hid (C0.out.next hb1)
  have k0 := C1.out.blk.cell 0
  have k1 := C1.out.blk.cell 1
  have k2 := C1.out.blk.cell 2
  have k3 := C1.out.blk.cell 3
  have k4 := C1.out.blk.cell 4
  simp at k0 k1 k2 k3 k4
  clear hb1
  go_wp2_with fail
  clear k0 k1 k2 k3 k4
  refine (Hr.out _).mono ?_
  rintro e2 w2 ⟨rfl, hb2⟩
  have C2 := Lib.hid (C1.out.next hb2)
  have k0 := C2.out.blk.cell 0
  have k1 := C2.out.blk.cell 1
  have k2 := C2.out.blk.cell 2
  have k3 := C2.out.blk.cell 3
  have k4 := C2.out.blk.cell 4
  simp at k0 k1 k2 k3 k4
  clear hb2
  go_wp2_with fail
  clear k0 k1 k2 k3 k4
  refine (Hy.out _ (HB.out.only (Only.of_below (S := Empty) C2.out.below) (fun _ _ h => h))).mono ?_
  rintro e3 w3 ⟨⟨A3, c3, rfl, hG3⟩, hb3⟩
  have C3 := Lib.hid (C2.out.next hb3)
  obtain ⟨N, hN⟩ : ∃ N, N = 15 + s.size + n := ⟨_, rfl⟩
  rw [← hN] at hG3 ⊢
  have Hz2 : Hid (w.heap.size < w2.heap.size) := Lib.hid C2.out.blk.lt
  have G3 := Lib.hid (hG3.alloc (.cells #[.int .u8 0] 5))
  have L3 : Hid (w2.heap.size ≤ (w3.alloc (.cells #[.int .u8 0] 5)).heap.size) := Lib.hid (by have := hb3.size; simp; omega)
  have B3 : Hid (ByteSl (w3.alloc (.cells #[.int .u8 0] 5)) Empty (some ⟨w3.heap.size, 0, none⟩) 1 1 [0]) := Lib.hid (ByteSl.lit w3 Empty [0] 1 rfl (fun h => h) (by decide))
  have HN := Lib.hid hN
  have hN2 : N ≤ 5000 := by omega
  have hN3 : 15 ≤ N := by omega
  clear hG3 hb3 hN
  go_wp2_with (at_builtin; refine wpList_append_bytes rfl (.tmp 30) (.tmp 31) rfl w2.heap.size _ rfl N (recB k t c s.data.toList xs) G3.out.own (some ⟨w3.heap.size, 0, none⟩) 1 1 [0] Empty rfl B3.out (fun h => by cases h) (by omega) L3.out ?_)
  intro v4 w4 hown4 hg4 hnn4
  obtain ⟨rest, hrest⟩ : ∃ rest, recB k t c s.data.toList xs ++ [0] = nineB k t s.size n c ++ (putL (crc16 (nineB k t s.size n c)).toNat 2 ++ rest) := ⟨s.data.toList ++ xs ++ putL (crc32 (bodyR k t c s.data.toList xs)).toNat 4 ++ [0], by
    have hb : bodyR k t c s.data.toList xs = nineB k t s.size n c ++ putL (crc16 (nineB k t s.size n c)).toNat 2 ++ s.data.toList ++ xs := by
      unfold bodyR headR
      rw [show s.data.toList.length = s.size from Array.length_toList, HB.out.1]
    unfold recB
    generalize putL (crc32 (bodyR k t c s.data.toList xs)).toNat 4 = V
    rw [hb]
    simp only [List.append_assoc]⟩
  obtain ⟨P, hP⟩ : ∃ P, P = putL (crc16 (nineB k t s.size n c)).toNat 2 ++ rest := ⟨_, rfl⟩
  obtain ⟨nine, hnine⟩ : ∃ x, x = nineB k t s.size n c := ⟨_, rfl⟩
  rw [← hP, ← hnine] at hrest
  have hlnine : nine.length = 9 := by rw [hnine, nineB_len]
  have hown5 : w4.ownsRow w2.heap.size 5 1 v4 (N + 1) ((nine ++ P).map B8) := by
    rw [← hrest]
    first | exact hown4 | simpa using hown4
  obtain ⟨g, cp, rfl, hgb, hO⟩ := OwnB.of_row hown5 (fun e => by have h1 := hnn4 e; have h2 := HN.out; omega)
  have hlt := G3.out.own.lt
  have hS4 : Only (fun q => w2.heap.size ≤ q) (w3.alloc (.cells #[.int .u8 0] 5)) w4 := Only.of_grown hg4 (fun q hq _ => (hlt q hq).1)
  have C4 : Hid (Below w.heap.size w w4) := Lib.hid ((C3.out.alloc _).below.trans (hS4.below (B := w.heap.size) (by have := C3.out.below.size; simp; omega) (fun q h1 h2 => by have := Hz2.out; omega)))
  have HO := Lib.hid hO
  have Hgb : Hid (w.heap.size < g) := Lib.hid (by have := Hz2.out; omega)
  have HP := Lib.hid hP
  have Hrest := Lib.hid hrest
  have Hnine := Lib.hid hnine
  have Hlnine := Lib.hid hlnine
  clear hown4 hg4 hnn4 hrest hP hnine hlnine hown5 hgb hO hlt hS4
  obtain ⟨r, hr⟩ : ∃ r, r = z % 72 := ⟨_, rfl⟩
  have hr2 : (z : Int) % 72 = (r : Int) := by omega
  have hr3 : r < 72 := by omega
  clear hr
  go_wp2
  go_loopw [13, 38] (fun tt i wr => ∃ (q : Nat) (b : Bool) (zs : List UInt8), q ≤ 16 ∧ i = .int .i64 (q : Int) ∧ tt = .bool b ∧ OwnB wr g (N + 1) cp (zs ++ P) ∧ PartTurned way16 nine zs r q b ∧ Only (· = g) w4 wr) (fun _ i _ => 16 - (intOf i).toNat)
  case atStart => exact ⟨0, false, nine, by omega, rfl, rfl, HO.out, PartTurned.at_zero _ _ _, Only.refl _ _⟩
  case round =>
    obtain ⟨q, b, zs, hq, rfl, rfl, hO, hT, hW⟩ := hrel
    have HO2 := Lib.hid hO
    have HT := Lib.hid hT
    have HW := Lib.hid hW
    have Hzl : Hid (zs.length = 9) := Lib.hid (by rw [hT.len, Hlnine.out])
    clear hO hT hW
    by_cases hlt : q < 16
    · by_cases hbit : ((y : Int) / 2 ^ q).tmod 2 = 0
      · have hb1 : (((y : Int) / 2 ^ q).tmod 2 == 0) = true := by simpa using hbit
        clear hbit
        go_wp2
        go_roundw
        case rel => exact ⟨q + 1, b, zs, by omega, by go_num, rfl, HO2.out, HT.out.skip, HW.out⟩
        case measure => simp [intOf]; omega
      · have hb1 : (((y : Int) / 2 ^ q).tmod 2 == 0) = false := by simpa using hbit
        clear hbit
        by_cases hin : r + q < 72
        · obtain ⟨v, hv⟩ : ∃ v, zs[(r + q) / 8]? = some v := ⟨_, List.getElem?_eq_getElem (by have := Hzl.out; omega)⟩
          have hv2 : (zs ++ P)[(r + q) / 8]? = some v := by rw [List.getElem?_append_left (by have := Hzl.out; omega)]; exact hv
          have hcell : wr.cell? ⟨g, (r + q) / 8, none⟩ = some (.int .u8 (v.toNat : Int)) := HO2.out.cell hv2
          have hfr := HO2.out.frozen ((r + q) / 8)
          have Hv := Lib.hid hv
          clear hv hv2
          have hvb : v.toNat < 256 := v.toNat_lt
          obtain ⟨j, hj⟩ : ∃ j, j = (r + q) % 8 := ⟨_, rfl⟩
          have hj2 : ((r : Int) + (q : Int)) % 8 = (j : Int) := by omega
          have hj3 : j < 8 := by omega
          have Hj := Lib.hid hj
          have hi1 : (0 : Int) ≤ ((r : Int) + (q : Int)) / 8 := by omega
          have hi2 : ((r : Int) + (q : Int)) / 8 < (N : Int) + 1 := by omega
          have hin2 : (r : Int) + (q : Int) < 72 := by omega
          have Hin := Lib.hid hin
          clear hj hin
          go_wp2
          go_roundw
          case rel =>
            rw [flip16 v j hj3]
            have hset := HO2.out.set_ ((r + q) / 8) (v ^^^ way16.bit j)
            rw [List.set_append_left _ _ (by have := Hzl.out; have := Hin.out; omega)] at hset
            refine ⟨q + 1, true, zs.set ((r + q) / 8) (v ^^^ way16.bit j), by omega, by go_num, rfl, hset, ?_, HW.out.setCell (p := ⟨g, (r + q) / 8, none⟩) (Or.inl rfl) _⟩
            rw [Hj.out]
            exact HT.out.flip hlt (by have := Hin.out; have := Hlnine.out; omega) v Hv.out
          case measure => simp [intOf]; omega
        · have hin2 : (72 : Int) ≤ (r : Int) + (q : Int) := by omega
          clear hin
          go_wp2
          go_roundw
          case rel => exact ⟨q + 1, b, zs, by omega, by go_num, rfl, HO2.out, HT.out.skip, HW.out⟩
          case measure => simp [intOf]; omega
    · obtain rfl : q = 16 := by omega
      have hG := HO2.out.bytes Empty (fun h => h)
      have HG := Lib.hid hG
      have HW5 : Hid (Below w.heap.size w wr) := Lib.hid (C4.out.trans (HW.out.below (B := w.heap.size) C4.out.size (fun q h1 h2 => by have := Hgb.out; omega)))
      clear hG
      cases b with
      | false =>
        have hz : zs = nine := HT.out.2 rfl
        have ho : (out (zs ++ P)).whole = true ∧ (out (zs ++ P)).e = 0 := by
          rw [hz, ← Hrest.out]
          have h := out_made k t c s.data.toList xs 0 [] (by rw [show s.data.toList.length = s.size from Array.length_toList, HB.out.1]; exact Hm.out) ht
          rw [h]
          exact ⟨rfl, rfl⟩
        have N6 := Lib.hid (fun W hB => told_any (some ⟨g, 0, none⟩) (N + 1) cp (zs ++ P) true 0 W hB (by omega) ho.1 ho.2)
        clear hz ho
        go_wp2_with fail
        refine (N6.out _ HG.out).mono ?_
        rintro e6 w6 ⟨⟨a1, a2, a3, a4, s', A', n', cap', rfl⟩, hb6⟩
        have HW6 := Lib.hid (HW5.out.trans (hb6.mono HW5.out.size))
        clear hb6
        go_wp2
        go_ret
        exact ⟨rfl, HW6.out.alloc HW6.out.size _⟩
      | true =>
        have ho : (out (zs ++ P)).whole = false ∧ (out (zs ++ P)).e ≠ 0 := by
          have hne : crc16 zs ≠ crc16 nine := (HT.out.1.done (BitVec.allOnes 16)).2 rfl
          rw [HP.out]
          exact out_head_turned zs _ rest Hzl.out (by have := (crc16 (nineB k t s.size n c)).isLt; omega) (fun e => hne (by rw [Hnine.out]; exact BitVec.eq_of_toNat_eq e))
        obtain ⟨er, her⟩ : ∃ er, er = (out (zs ++ P)).e := ⟨_, rfl⟩
        have N6 := Lib.hid (fun W hB => told_any (some ⟨g, 0, none⟩) (N + 1) cp (zs ++ P) false er W hB (by omega) ho.1 her.symm)
        have he1 : (er == 0) = false := by rw [her]; simpa using ho.2
        have he2 : (er != 0) = true := by simp only [bne, he1]; rfl
        clear ho her
        go_wp2_with fail
        refine (N6.out _ HG.out).mono ?_
        rintro e6 w6 ⟨⟨a1, a2, a3, a4, s', A', n', cap', rfl⟩, hb6⟩
        have HW6 := Lib.hid (HW5.out.trans (hb6.mono HW5.out.size))
        clear hb6
        go_wp2
        go_ret
        exact ⟨rfl, HW6.out.alloc HW6.out.size _⟩

end Go.Proofs.Ytglagchgaclhaaa
