/- A record's bytes as plain data; the walks over head.bytes and rec.Bytes. -/
import Derived.Test.YtglagchgaclhaaaHd
namespace Go.Proofs.Ytglagchgaclhaaa
open Go.RowKit

/-- The nine bytes of a header that its sum is of. -/
def nineB (k t a b c : Nat) : List UInt8 := putL k 1 ++ putL t 4 ++ putL a 1 ++ putL b 2 ++ putL c 1
def headR (k t a b c : Nat) : List UInt8 := nineB k t a b c ++ putL (crc16 (nineB k t a b c)).toNat 2
/-- All that a record's sum of 32 bits is of. -/
def bodyR (k t c : Nat) (key blob : List UInt8) : List UInt8 := headR k t key.length blob.length c ++ key ++ blob
/-- A record's bytes but the last one. -/
def recB (k t c : Nat) (key blob : List UInt8) : List UInt8 := bodyR k t c key blob ++ putL (crc32 (bodyR k t c key blob)).toNat 4
theorem nineB_len (k t a b c : Nat) : (nineB k t a b c).length = 9 := by simp [nineB, putL_len]
theorem headR_len (k t a b c : Nat) : (headR k t a b c).length = 11 := by simp [headR, nineB_len, putL_len]
theorem bodyR_len (k t c : Nat) (key blob : List UInt8) : (bodyR k t c key blob).length = 11 + key.length + blob.length := by simp only [bodyR, List.length_append, headR_len]
theorem recB_len (k t c : Nat) (key blob : List UInt8) : (recB k t c key blob).length = 15 + key.length + blob.length := by simp only [recB, List.length_append, bodyR_len, putL_len]; omega

/-- A call's world: what was there is as it was; one block of its own is known whole. -/
structure Acc (w0 : World) (g : Nat) (t : TypeId) (cs : Array Value) (W : World) : Prop where
  below : Below w0.heap.size w0 W
  blk : Blk W g t cs
theorem Acc.next {w0 : World} {g : Nat} {t : TypeId} {cs : Array Value} {W W' : World} (h : Acc w0 g t cs W) (k : Below W.heap.size W W') : Acc w0 g t cs W' :=
  ⟨h.below.trans (k.mono h.below.size), h.blk.of (k.block g h.blk.lt)⟩
theorem Acc.alloc {w0 : World} {g : Nat} {t : TypeId} {cs : Array Value} {W : World} (h : Acc w0 g t cs W) (o : Obj) : Acc w0 g t cs (W.alloc o) :=
  ⟨h.below.alloc h.below.size o, h.blk.alloc o⟩

/-- Bytes that a call has made so far, in a row made since base. -/
structure Got (base : Nat) (W : World) (A : Option Addr) (n cap : Nat) (xs : List UInt8) : Prop where
  own : W.ownsRow base 5 1 (.slice A n cap) n (xs.map B8)
  bytes : ByteSl W Empty A n cap xs
  isNil : A = none → n = 0 ∧ cap = 0
theorem Got.of_own {base : Nat} {W : World} {n : Nat} {xs : List UInt8} {u : Value} (h : W.ownsRow base 5 1 u n (xs.map B8)) : ∃ A cap, u = .slice A n cap ∧ Got base W A n cap xs := by
  obtain ⟨A, cap, rfl, hb, -⟩ := ByteSl.of_own (S := Empty) h (fun _ _ _ h => h)
  refine ⟨A, cap, rfl, h, hb, fun e => ?_⟩
  subst e
  rcases h.2 with ⟨e, h0⟩ | ⟨g, c, cur, e, _⟩
  · cases e
    exact ⟨rfl, rfl⟩
  · cases e
theorem Got.nil_ (base : Nat) (W : World) : Got base W none 0 0 [] := ⟨own_nil _ _, ByteSl.nil_ _ _ _ _ (by simp [maxLen]), fun _ => ⟨rfl, rfl⟩⟩
theorem Got.next {base : Nat} {W W' : World} {A : Option Addr} {n cap : Nat} {xs : List UInt8} (h : Got base W A n cap xs) (k : Below W.heap.size W W') : Got base W' A n cap xs :=
  ⟨own_only h.own (Only.of_below (S := Empty) k) (fun _ _ _ h => h), h.bytes.only (Only.of_below (S := Empty) k) (fun _ _ h => h), h.isNil⟩
theorem Got.alloc {base : Nat} {W : World} {A : Option Addr} {n cap : Nat} {xs : List UInt8} (h : Got base W A n cap xs) (o : Obj) : Got base (W.alloc o) A n cap xs :=
  h.next ((Below.refl _ _).alloc (Nat.le_refl _) o)
theorem Got.lower {base base' : Nat} {W : World} {A : Option Addr} {n cap : Nat} {xs : List UInt8} (h : Got base W A n cap xs) (k : base' ≤ base) : Got base' W A n cap xs := ⟨own_base h.own k, h.bytes, h.isNil⟩

theorem put_step {w0 : World} {base g : Nat} {t : TypeId} {cs : Array Value} (A : Option Addr) (m cap : Nat) (xs : List UInt8) (v n : Nat) (W : World) (hC : Acc w0 g t cs W) (hG : Got base W A m cap xs) (hbase : base ≤ W.heap.size) (hv : v ≤ 18446744073709551615) (h1 : 1 ≤ n) (h2 : n ≤ 8) (hm : m ≤ 1048576) :
    Calls Try.prog 18 #[.slice A m cap, .int .u64 (v : Int), .int .i64 (n : Int)] W fun e W' => (∃ A' cap', e = .returned (.slice A' (m + n) cap') ∧ Got base W' A' (m + n) cap' (xs ++ putL v n)) ∧ Acc w0 g t cs W' :=
  (put_yes A m cap xs v n W hG.bytes hv h1 h2 hm).mono fun e W' ⟨⟨u, he, ho⟩, hb⟩ => by
    obtain ⟨A', cap', rfl, hg⟩ := Got.of_own (own_base ho hbase)
    exact ⟨⟨A', cap', he, hg⟩, hC.next hb⟩
theorem refPut_step {w0 : World} {base g : Nat} {t : TypeId} {cs : Array Value} (A : Option Addr) (m cap : Nat) (xs : List UInt8) (v n : Nat) (W : World) (hC : Acc w0 g t cs W) (hG : Got base W A m cap xs) (hbase : base ≤ W.heap.size) (hv : v ≤ 18446744073709551615) (h1 : 1 ≤ n) (h2 : n ≤ 8) (hm : m ≤ 1048576) :
    Calls Try.prog 24 #[.slice A m cap, .int .u64 (v : Int), .int .i64 (n : Int)] W fun e W' => (∃ A' cap', e = .returned (.slice A' (m + n) cap') ∧ Got base W' A' (m + n) cap' (xs ++ putL v n)) ∧ Acc w0 g t cs W' :=
  (refPut_yes A m cap xs v n W hG.bytes hG.isNil hv h1 h2 hm).mono fun e W' ⟨⟨u, he, ho⟩, hb⟩ => by
    obtain ⟨A', cap', rfl, hg⟩ := Got.of_own (own_base ho hbase)
    exact ⟨⟨A', cap', he, hg⟩, hC.next hb⟩

set_option maxHeartbeats 2000000 in
theorem hBytes_any (k t a b c : Nat) (w : World) (hk : k ≤ 255) (ht : t ≤ 4294967295) (ha : a ≤ 255) (hb : b ≤ 65535) (hc : c ≤ 255) :
    Calls Try.prog 17 #[.agg #[.int .i64 (k : Int), .int .u32 (t : Int), .int .i64 (a : Int), .int .i64 (b : Int), .int .i64 (c : Int)]] w fun e w' => Ret8 w.heap.size 11 (headR k t a b c) e w' ∧ Below w.heap.size w w' := by
  have C0 : Hid (Acc w w.heap.size 42 #[.int .i64 (k : Int), .int .u32 (t : Int), .int .i64 (a : Int), .int .i64 (b : Int), .int .i64 (c : Int)] (w.alloc (.cells #[.int .i64 (k : Int), .int .u32 (t : Int), .int .i64 (a : Int), .int .i64 (b : Int), .int .i64 (c : Int)] 42))) := Lib.hid ⟨(Below.refl w.heap.size w).alloc (Nat.le_refl _) _, Blk.new w 42 _⟩
  go_enter Try.func17, Try.ntmps17
  go_wp2_with fail
  refine (put_step none 0 0 [] k 1 _ C0.out (Got.nil_ w.heap.size _) C0.out.below.size (by omega) (by omega) (by omega) (by omega)).mono ?_
  rintro e1 w1 ⟨⟨A1, c1, rfl, hG1⟩, hC1⟩
  have G1 := Lib.hid hG1
  have C1 := Lib.hid hC1
  have z1 := hC1.blk.cell 1
  simp at z1
  clear hG1 hC1
  go_wp2_with fail
  clear z1
  refine (put_step A1 1 c1 ([] ++ putL k 1) t 4 _ C1.out G1.out C1.out.below.size (by omega) (by omega) (by omega) (by omega)).mono ?_
  rintro e1 w2 ⟨⟨A2, c2, rfl, hG2⟩, hC2⟩
  have G2 := Lib.hid hG2
  have C2 := Lib.hid hC2
  have z2 := hC2.blk.cell 2
  simp at z2
  clear hG2 hC2
  go_wp2_with fail
  clear z2
  refine (put_step A2 5 c2 ([] ++ putL k 1 ++ putL t 4) a 1 _ C2.out G2.out C2.out.below.size (by omega) (by omega) (by omega) (by omega)).mono ?_
  rintro e1 w3 ⟨⟨A3, c3, rfl, hG3⟩, hC3⟩
  have G3 := Lib.hid hG3
  have C3 := Lib.hid hC3
  have z3 := hC3.blk.cell 3
  simp at z3
  clear hG3 hC3
  go_wp2_with fail
  clear z3
  refine (put_step A3 6 c3 ([] ++ putL k 1 ++ putL t 4 ++ putL a 1) b 2 _ C3.out G3.out C3.out.below.size (by omega) (by omega) (by omega) (by omega)).mono ?_
  rintro e1 w4 ⟨⟨A4, c4, rfl, hG4⟩, hC4⟩
  have G4 := Lib.hid hG4
  have C4 := Lib.hid hC4
  have z4 := hC4.blk.cell 4
  simp at z4
  clear hG4 hC4
  go_wp2_with fail
  clear z4
  refine (put_step A4 8 c4 ([] ++ putL k 1 ++ putL t 4 ++ putL a 1 ++ putL b 2) c 1 _ C4.out G4.out C4.out.below.size (by omega) (by omega) (by omega) (by omega)).mono ?_
  rintro e1 w5 ⟨⟨A5, c5, rfl, hG5⟩, hC5⟩
  have hG6 : Got w.heap.size w5 A5 9 c5 (nineB k t a b c) := hG5
  have G5 := Lib.hid hG6
  have C5 := Lib.hid hC5
  clear hG5 hC5 hG6
  go_wp2_with fail
  refine (sum16_any A5 9 c5 (nineB k t a b c) _ G5.out.bytes).mono ?_
  rintro e1 w6 ⟨rfl, hb6⟩
  have G6 := Lib.hid (G5.out.next hb6)
  have C6 := Lib.hid (C5.out.next hb6)
  clear hb6
  unfold V16
  have hv := (crc16 (nineB k t a b c)).isLt
  obtain ⟨v, hve⟩ : ∃ v, v = (crc16 (nineB k t a b c)).toNat := ⟨_, rfl⟩
  rw [← hve] at hv ⊢
  have hv2 : v ≤ 65535 := by omega
  have Hve := Lib.hid hve
  clear hv hve
  go_wp2_with fail
  refine (put_step A5 9 c5 (nineB k t a b c) v 2 _ C6.out G6.out C6.out.below.size (by omega) (by omega) (by omega) (by omega)).mono ?_
  rintro e1 w7 ⟨⟨A7, c7, rfl, hG7⟩, hC7⟩
  have G7 := Lib.hid hG7
  have C7 := Lib.hid hC7
  clear hG7 hC7
  go_wp2
  go_ret
  refine ⟨⟨_, rfl, ?_⟩, C7.out.below⟩
  have h := G7.out.own
  rw [Hve.out] at h
  exact h

end Go.Proofs.Ytglagchgaclhaaa
