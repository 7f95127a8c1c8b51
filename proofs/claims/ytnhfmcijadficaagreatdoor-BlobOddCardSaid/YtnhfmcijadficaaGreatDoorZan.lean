/- The walk over the reader's record. -/
import Derived.Test.YtnhfmcijadficaaGreatDoorZam
namespace Go.Proofs.YtnhfmcijadficaaGreatDoor
set_option maxRecDepth 100000
open Go.RowKit

/-- A record as a value, whose blob is a row made since base. -/
def RecIs (base : Nat) (k t c : Int) (key blob : List UInt8) (v : Value) (w : World) : Prop :=
  ∃ A n cap, v = .agg #[.int .i64 k, .int .u32 t, .string (strB key), .slice A n cap, .int .i64 c] ∧ blob.length = n ∧ w.ownsRow base 5 1 (.slice A n cap) n (blob.map B8)
def RetRec (base : Nat) (k t c : Int) (key blob : List UInt8) (e : Ending) (w : World) : Prop := ∃ v, e = .returned v ∧ RecIs base k t c key blob v w

theorem ret8_slice {base k : Nat} {zs : List UInt8} {e : Ending} {w : World} (h : Ret8 base k zs e w) : ∃ A cap, e = .returned (.slice A k cap) ∧ w.ownsRow base 5 1 (.slice A k cap) k (zs.map B8) ∧ ByteSl w Empty A k cap zs := by
  obtain ⟨u, rfl, ho⟩ := h
  obtain ⟨A, cap, rfl, hb, -⟩ := ByteSl.of_own (S := Empty) ho (fun _ _ _ h => h)
  exact ⟨A, cap, rfl, ho, hb⟩

set_option maxHeartbeats 2000000 in
theorem record_any (g : Nat) (ad : Addr) (n cap : Nat) (k t c : Int) (a b : Nat) (xs : List UInt8) (w : World) (hR : Rd w g (some ad) n cap 11) (hB : ByteSl w (· = g) (some ad) n cap xs) (hm : n ≤ 1048576) (ha : 11 + a + b < n) :
    Calls Tryz.prog 176 #[.pointer (some ⟨g, 0, none⟩), .agg #[.int .i64 k, .int .u32 t, .int .i64 (a : Int), .int .i64 (b : Int), .int .i64 c]] w fun e w' =>
      RetRec w.heap.size k t c ((xs.drop 11).take a) ((xs.drop (11 + a)).take b) e w' ∧ Only (· = g) w w' := by
  have hlt : g < w.heap.size := hR.lt
  have HR := Lib.hid hR
  have HBy := Lib.hid hB
  have N1 : Hid (∀ W, Rd W g (some ad) n cap 11 → ByteSl W (· = g) (some ad) n cap xs → Calls Tryz.prog 201 #[.pointer (some ⟨g, 0, none⟩), .int .i64 (a : Int)] W fun e W' => Ret8 W.heap.size a ((xs.drop 11).take a) e W' ∧ Rd W' g (some ad) n cap (11 + a) ∧ Only (· = g) W W') := Lib.hid fun W hR hB =>
    rbytes_any g ad n cap 11 a xs W hR hB hm (by omega)
  have N2 : Hid (∀ W, Rd W g (some ad) n cap (11 + a) → ByteSl W (· = g) (some ad) n cap xs → Calls Tryz.prog 201 #[.pointer (some ⟨g, 0, none⟩), .int .i64 (b : Int)] W fun e W' => Ret8 W.heap.size b ((xs.drop (11 + a)).take b) e W' ∧ Rd W' g (some ad) n cap (11 + a + b) ∧ Only (· = g) W W') := Lib.hid fun W hR hB =>
    rbytes_any g ad n cap (11 + a) b xs W hR hB hm (by omega)
  have hO0 := ((Only.refl (· = g) w).alloc (.cells #[.int .i64 k, .int .u32 t, .int .i64 (a : Int), .int .i64 (b : Int), .int .i64 c] 199)).alloc (.cells #[.int .i64 0, .int .u32 0, .string ⟨#[]⟩, .slice none 0 0, .int .i64 0] 161)
  have hR0 : Rd _ g (some ad) n cap 11 := (HR.out.alloc (.cells #[.int .i64 k, .int .u32 t, .int .i64 (a : Int), .int .i64 (b : Int), .int .i64 c] 199)).alloc (.cells #[.int .i64 0, .int .u32 0, .string ⟨#[]⟩, .slice none 0 0, .int .i64 0] 161)
  have HO0 := Lib.hid hO0
  have HR0 := Lib.hid hR0
  have HB0 := Lib.hid (HBy.out.only HO0.out (fun _ _ h => h))
  have hlen : ((xs.drop 11).take a).length = a := by have := hB.1; simp; omega
  have hlen2 : ((xs.drop (11 + a)).take b).length = b := by have := hB.1; simp; omega
  have Hlen := Lib.hid hlen
  have Hlen2 := Lib.hid hlen2
  clear hR hB hO0 hR0 hlen hlen2
  go_enter Tryz.func176, Tryz.ntmps176
  go_wp2_with fail
  refine (N1.out _ HR0.out HB0.out).mono ?_
  rintro x1 w1 ⟨h8, hR1, hO1⟩
  obtain ⟨A1, cap1, rfl, hown1, hBk⟩ := ret8_slice h8
  have hcv := conv_bytes hBk
  have hbox : Blk w1 w.heap.size 199 #[.int .i64 k, .int .u32 t, .int .i64 (a : Int), .int .i64 (b : Int), .int .i64 c] := hO1.blk ((Blk.new w 199 #[.int .i64 k, .int .u32 t, .int .i64 (a : Int), .int .i64 (b : Int), .int .i64 c]).alloc _) (by omega)
  have hres : Blk w1 (w.heap.size + 1) 161 #[.int .i64 0, .int .u32 0, .string ⟨#[]⟩, .slice none 0 0, .int .i64 0] := hO1.blk (by have h := Blk.new (w.alloc (.cells #[.int .i64 k, .int .u32 t, .int .i64 (a : Int), .int .i64 (b : Int), .int .i64 c] 199)) 161 #[.int .i64 0, .int .u32 0, .string ⟨#[]⟩, .slice none 0 0, .int .i64 0]; simpa using h) (by omega)
  have Hbox := Lib.hid hbox
  have Hres := Lib.hid hres
  have HR1 := Lib.hid hR1
  have HO1 := Lib.hid (HO0.out.trans hO1)
  have HB1 := Lib.hid (HBy.out.only HO1.out (fun _ _ h => h))
  clear hbox hres hR1 hO1 h8 hown1 hBk
  go_wp2_with fail
  clear hcv
  have HS : Hid (∀ W, Only (fun q => q = g ∨ q = w.heap.size + 1) w1 W → W.cell? ⟨w.heap.size, 0, none⟩ = some (.int .i64 k) ∧ W.cell? ⟨w.heap.size, 1, none⟩ = some (.int .u32 t) ∧ W.cell? ⟨w.heap.size, 3, none⟩ = some (.int .i64 (b : Int)) ∧ W.cell? ⟨w.heap.size, 4, none⟩ = some (.int .i64 c)) := Lib.hid (fun W h => by
    have hb := h.blk Hbox.out (by omega)
    exact ⟨hb.cell 0, hb.cell 1, hb.cell 3, hb.cell 4⟩)
  have hD : Only (fun q => q = g ∨ q = w.heap.size + 1) w1 w1.drew := (Only.refl _ _).drew
  have hs1 := HS.out _ hD
  have HRd : Hid (Rd w1.drew g (some ad) n cap (11 + a)) := Lib.hid (Blk.drew HR1.out)
  have HBd : Hid (ByteSl w1.drew (· = g) (some ad) n cap xs) := Lib.hid (HB1.out.only ((Only.refl (· = g) w1).drew) (fun _ _ h => h))
  have HRes : Hid (∀ W, Only (· = g) w1.drew W → Blk W (w.heap.size + 1) 161 #[.int .i64 0, .int .u32 0, .string ⟨#[]⟩, .slice none 0 0, .int .i64 0]) := Lib.hid (fun W h => h.blk Hres.out.drew (by omega))
  have HD := Lib.hid hD
  clear hD
  go_region_held3 (fun W => W.cell? ⟨w.heap.size, 0, none⟩ = some (.int .i64 k) ∧ W.cell? ⟨w.heap.size, 1, none⟩ = some (.int .u32 t) ∧ W.cell? ⟨w.heap.size, 3, none⟩ = some (.int .i64 (b : Int)) ∧ W.cell? ⟨w.heap.size, 4, none⟩ = some (.int .i64 c)) (first | with_reducible exact hs1 | with_reducible exact hs10 | ((with_reducible refine HS.out _ ?_); exact (((((hT10.setCell (p := ⟨w.heap.size + 1, 0, none⟩) (Or.inl (Or.inr rfl)) _).setCell (p := ⟨w.heap.size + 1, 1, none⟩) (Or.inl (Or.inr rfl)) _).setCell (p := ⟨w.heap.size + 1, 2, none⟩) (Or.inl (Or.inr rfl)) _).setCell (p := ⟨w.heap.size + 1, 3, none⟩) (Or.inl (Or.inr rfl)) _).setCell (p := ⟨w.heap.size + 1, 4, none⟩) (Or.inl (Or.inr rfl)) _)))
    ((go_at_call 201; (with_reducible refine (N2.out _ HRd.out HBd.out).mono ?_); rintro e10 w10 ⟨h10, hR10, hO10⟩; obtain ⟨A2, cap2, rfl, hown2, hB2⟩ := ret8_slice h10; have hT10 := HD.out.trans (hO10.mono (fun _ _ h => Or.inl h)); have hs10 := HS.out _ hT10; have hr10 := HRes.out _ hO10; have c0 := hr10.cell 0; have c1 := hr10.cell 1; have c2 := hr10.cell 2; have c3 := hr10.cell 3; have c4 := hr10.cell 4; have f0 := hr10.frozen 0; have f1 := hr10.frozen 1; have f2 := hr10.frozen 2; have f3 := hr10.frozen 3; have f4 := hr10.frozen 4; simp at c0 c1 c2 c3 c4))
  go_wp2
  have hz1 : w.heap.size + 1 < w1.heap.size := Hres.out.lt
  have hT : Only (· = w.heap.size + 1) w10 (((((w10.setCell ⟨w.heap.size + 1, 0, none⟩ (.int .i64 k)).setCell ⟨w.heap.size + 1, 1, none⟩ (.int .u32 t)).setCell ⟨w.heap.size + 1, 2, none⟩ (.string (strB ((xs.drop 11).take a)))).setCell ⟨w.heap.size + 1, 3, none⟩ (.slice A2 b cap2)).setCell ⟨w.heap.size + 1, 4, none⟩ (.int .i64 c)) :=
    (((((Only.refl (· = w.heap.size + 1) w10).setCell (p := ⟨w.heap.size + 1, 0, none⟩) (Or.inl rfl) _).setCell (p := ⟨w.heap.size + 1, 1, none⟩) (Or.inl rfl) _).setCell (p := ⟨w.heap.size + 1, 2, none⟩) (Or.inl rfl) _).setCell (p := ⟨w.heap.size + 1, 3, none⟩) (Or.inl rfl) _).setCell (p := ⟨w.heap.size + 1, 4, none⟩) (Or.inl rfl) _
  refine bodyPost_ret (v := .agg #[.int .i64 k, .int .u32 t, .string (strB ((xs.drop 11).take a)), .slice A2 b cap2, .int .i64 c]) (by simp [results, Tryz.results176, go_sem, c0, c1, c2, c3, c4]) rfl ⟨?_, ?_⟩
  · have h1 : w1.drew.heap.size = w1.heap.size := rfl
    exact ⟨_, rfl, A2, b, cap2, rfl, Hlen2.out, own_base (own_only hown2 hT (fun q h2 _ => by omega)) (by omega)⟩
  · refine (HO1.out.drew.trans hO10).trans' hT (fun q h1 h2 => ?_)
    omega

end Go.Proofs.YtnhfmcijadficaaGreatDoor

/- A record's bytes as plain data; the walks over head.bytes and rec.Bytes. -/
namespace Go.Proofs.YtnhfmcijadficaaGreatDoor
set_option maxRecDepth 100000
open Go.RowKit

/-- The nine bytes of a header that its sum is of. -/
def nineB (k t a b c : Nat) : List UInt8 := putL k 1 ++ putL t 4 ++ putL a 1 ++ putL b 2 ++ putL c 1
def headR (k t a b c : Nat) : List UInt8 := nineB k t a b c ++ putL (crc16 (nineB k t a b c)).toNat 2
/-- All that a record's sum of 32 bits is of. -/
def bodyR (k t c : Nat) (key blob : List UInt8) : List UInt8 := headR k t key.length blob.length c ++ key ++ blob
/-- A record's bytes but the last one. -/
def recB (k t c : Nat) (key blob : List UInt8) : List UInt8 := bodyR k t c key blob ++ putL (crc32 (bodyR k t c key blob)).toNat 4
theorem nineB_len (k t a b c : Nat) : (nineB k t a b c).length = 9 := by simp [nineB, putL_len]
theorem headR_len (k t a b c : Nat) : (headR k t a b c).length = 11 := by simp [headR, nineB_len, putL_len]
theorem bodyR_len (k t c : Nat) (key blob : List UInt8) : (bodyR k t c key blob).length = 11 + key.length + blob.length := by simp only [bodyR, List.length_append, headR_len]
theorem recB_len (k t c : Nat) (key blob : List UInt8) : (recB k t c key blob).length = 15 + key.length + blob.length := by simp only [recB, List.length_append, bodyR_len, putL_len]; omega

/-- A call's world: what was there is as it was; one block of its own is known whole. -/
structure Acc (w0 : World) (g : Nat) (t : TypeId) (cs : Array Value) (W : World) : Prop where
  below : Below w0.heap.size w0 W
  blk : Blk W g t cs
theorem Acc.next {w0 : World} {g : Nat} {t : TypeId} {cs : Array Value} {W W' : World} (h : Acc w0 g t cs W) (k : Below W.heap.size W W') : Acc w0 g t cs W' :=
  ⟨h.below.trans (k.mono h.below.size), h.blk.of (k.block g h.blk.lt)⟩
theorem Acc.alloc {w0 : World} {g : Nat} {t : TypeId} {cs : Array Value} {W : World} (h : Acc w0 g t cs W) (o : Obj) : Acc w0 g t cs (W.alloc o) :=
  ⟨h.below.alloc h.below.size o, h.blk.alloc o⟩

/-- Bytes that a call has made so far, in a row made since base. -/
structure Got (base : Nat) (W : World) (A : Option Addr) (n cap : Nat) (xs : List UInt8) : Prop where
  own : W.ownsRow base 5 1 (.slice A n cap) n (xs.map B8)
  bytes : ByteSl W Empty A n cap xs
  isNil : A = none → n = 0 ∧ cap = 0
theorem Got.of_own {base : Nat} {W : World} {n : Nat} {xs : List UInt8} {u : Value} (h : W.ownsRow base 5 1 u n (xs.map B8)) : ∃ A cap, u = .slice A n cap ∧ Got base W A n cap xs := by
  obtain ⟨A, cap, rfl, hb, -⟩ := ByteSl.of_own (S := Empty) h (fun _ _ _ h => h)
  refine ⟨A, cap, rfl, h, hb, fun e => ?_⟩
  subst e
  rcases h.2 with ⟨e, h0⟩ | ⟨g, c, cur, e, _⟩
  · cases e
    exact ⟨rfl, rfl⟩
  · cases e
theorem Got.nil_ (base : Nat) (W : World) : Got base W none 0 0 [] := ⟨own_nil _ _, ByteSl.nil_ _ _ _ _ (by simp [maxLen]), fun _ => ⟨rfl, rfl⟩⟩
theorem Got.next {base : Nat} {W W' : World} {A : Option Addr} {n cap : Nat} {xs : List UInt8} (h : Got base W A n cap xs) (k : Below W.heap.size W W') : Got base W' A n cap xs :=
  ⟨own_only h.own (Only.of_below (S := Empty) k) (fun _ _ _ h => h), h.bytes.only (Only.of_below (S := Empty) k) (fun _ _ h => h), h.isNil⟩
theorem Got.alloc {base : Nat} {W : World} {A : Option Addr} {n cap : Nat} {xs : List UInt8} (h : Got base W A n cap xs) (o : Obj) : Got base (W.alloc o) A n cap xs :=
  h.next ((Below.refl _ _).alloc (Nat.le_refl _) o)
theorem Got.lower {base base' : Nat} {W : World} {A : Option Addr} {n cap : Nat} {xs : List UInt8} (h : Got base W A n cap xs) (k : base' ≤ base) : Got base' W A n cap xs := ⟨own_base h.own k, h.bytes, h.isNil⟩

theorem put_step {w0 : World} {base g : Nat} {t : TypeId} {cs : Array Value} (A : Option Addr) (m cap : Nat) (xs : List UInt8) (v n : Nat) (W : World) (hC : Acc w0 g t cs W) (hG : Got base W A m cap xs) (hbase : base ≤ W.heap.size) (hv : v ≤ 18446744073709551615) (h1 : 1 ≤ n) (h2 : n ≤ 8) (hm : m ≤ 1048576) :
    Calls Tryz.prog 93 #[.slice A m cap, .int .u64 (v : Int), .int .i64 (n : Int)] W fun e W' => (∃ A' cap', e = .returned (.slice A' (m + n) cap') ∧ Got base W' A' (m + n) cap' (xs ++ putL v n)) ∧ Acc w0 g t cs W' :=
  (put_yes A m cap xs v n W hG.bytes hv h1 h2 hm).mono fun e W' ⟨⟨u, he, ho⟩, hb⟩ => by
    obtain ⟨A', cap', rfl, hg⟩ := Got.of_own (own_base ho hbase)
    exact ⟨⟨A', cap', he, hg⟩, hC.next hb⟩
theorem refPut_step {w0 : World} {base g : Nat} {t : TypeId} {cs : Array Value} (A : Option Addr) (m cap : Nat) (xs : List UInt8) (v n : Nat) (W : World) (hC : Acc w0 g t cs W) (hG : Got base W A m cap xs) (hbase : base ≤ W.heap.size) (hv : v ≤ 18446744073709551615) (h1 : 1 ≤ n) (h2 : n ≤ 8) (hm : m ≤ 1048576) :
    Calls Tryz.prog 104 #[.slice A m cap, .int .u64 (v : Int), .int .i64 (n : Int)] W fun e W' => (∃ A' cap', e = .returned (.slice A' (m + n) cap') ∧ Got base W' A' (m + n) cap' (xs ++ putL v n)) ∧ Acc w0 g t cs W' :=
  (refPut_yes A m cap xs v n W hG.bytes hG.isNil hv h1 h2 hm).mono fun e W' ⟨⟨u, he, ho⟩, hb⟩ => by
    obtain ⟨A', cap', rfl, hg⟩ := Got.of_own (own_base ho hbase)
    exact ⟨⟨A', cap', he, hg⟩, hC.next hb⟩

set_option maxHeartbeats 2000000 in
theorem hBytes_any (k t a b c : Nat) (w : World) (hk : k ≤ 255) (ht : t ≤ 4294967295) (ha : a ≤ 255) (hb : b ≤ 65535) (hc : c ≤ 255) :
    Calls Tryz.prog 158 #[.agg #[.int .i64 (k : Int), .int .u32 (t : Int), .int .i64 (a : Int), .int .i64 (b : Int), .int .i64 (c : Int)]] w fun e w' => Ret8 w.heap.size 11 (headR k t a b c) e w' ∧ Below w.heap.size w w' := by
  have C0 : Hid (Acc w w.heap.size 199 #[.int .i64 (k : Int), .int .u32 (t : Int), .int .i64 (a : Int), .int .i64 (b : Int), .int .i64 (c : Int)] (w.alloc (.cells #[.int .i64 (k : Int), .int .u32 (t : Int), .int .i64 (a : Int), .int .i64 (b : Int), .int .i64 (c : Int)] 199))) := Lib.hid ⟨(Below.refl w.heap.size w).alloc (Nat.le_refl _) _, Blk.new w 199 _⟩
  go_enter Tryz.func158, Tryz.ntmps158
  go_wp2_with fail
  refine (put_step none 0 0 [] k 1 _ C0.out (Got.nil_ w.heap.size _) C0.out.below.size (by omega) (by omega) (by omega) (by omega)).mono ?_
  rintro e1 w1 ⟨⟨A1, c1, rfl, hG1⟩, hC1⟩
  have G1 := Lib.hid hG1
  have C1 := Lib.hid hC1
  have z1 := hC1.blk.cell 1
  simp at z1
  clear hG1 hC1
  go_wp2_with fail
  clear z1
  refine (put_step A1 1 c1 ([] ++ putL k 1) t 4 _ C1.out G1.out C1.out.below.size (by omega) (by omega) (by omega) (by omega)).mono ?_
  rintro e1 w2 ⟨⟨A2, c2, rfl, hG2⟩, hC2⟩
  have G2 := Lib.hid hG2
  have C2 := Lib.hid hC2
  have z2 := hC2.blk.cell 2
  simp at z2
  clear hG2 hC2
  go_wp2_with fail
  clear z2
  refine (put_step A2 5 c2 ([] ++ putL k 1 ++ putL t 4) a 1 _ C2.out G2.out C2.out.below.size (by omega) (by omega) (by omega) (by omega)).mono ?_
  rintro e1 w3 ⟨⟨A3, c3, rfl, hG3⟩, hC3⟩
  have G3 := Lib.hid hG3
  have C3 := Lib.hid hC3
  have z3 := hC3.blk.cell 3
  simp at z3
  clear hG3 hC3
  go_wp2_with fail
  clear z3
  refine (put_step A3 6 c3 ([] ++ putL k 1 ++ putL t 4 ++ putL a 1) b 2 _ C3.out G3.out C3.out.below.size (by omega) (by omega) (by omega) (by omega)).mono ?_
  rintro e1 w4 ⟨⟨A4, c4, rfl, hG4⟩, hC4⟩
  have G4 := Lib.hid hG4
  have C4 := Lib.hid hC4
  have z4 := hC4.blk.cell 4
  simp at z4
  clear hG4 hC4
  go_wp2_with fail
  clear z4
  refine (put_step A4 8 c4 ([] ++ putL k 1 ++ putL t 4 ++ putL a 1 ++ putL b 2) c 1 _ C4.out G4.out C4.out.below.size (by omega) (by omega) (by omega) (by omega)).mono ?_
  rintro e1 w5 ⟨⟨A5, c5, rfl, hG5⟩, hC5⟩
  have hG6 : Got w.heap.size w5 A5 9 c5 (nineB k t a b c) := hG5
  have G5 := Lib.hid hG6
  have C5 := Lib.hid hC5
  clear hG5 hC5 hG6
  go_wp2_with fail
  refine (sum16_any A5 9 c5 (nineB k t a b c) _ G5.out.bytes).mono ?_
  rintro e1 w6 ⟨rfl, hb6⟩
  have G6 := Lib.hid (G5.out.next hb6)
  have C6 := Lib.hid (C5.out.next hb6)
  clear hb6
  unfold V16
  have hv := (crc16 (nineB k t a b c)).isLt
  obtain ⟨v, hve⟩ : ∃ v, v = (crc16 (nineB k t a b c)).toNat := ⟨_, rfl⟩
  rw [← hve] at hv ⊢
  have hv2 : v ≤ 65535 := by omega
  have Hve := Lib.hid hve
  clear hv hve
  go_wp2_with fail
  refine (put_step A5 9 c5 (nineB k t a b c) v 2 _ C6.out G6.out C6.out.below.size (by omega) (by omega) (by omega) (by omega)).mono ?_
  rintro e1 w7 ⟨⟨A7, c7, rfl, hG7⟩, hC7⟩
  have G7 := Lib.hid hG7
  have C7 := Lib.hid hC7
  clear hG7 hC7
  go_wp2
  go_ret
  refine ⟨⟨_, rfl, ?_⟩, C7.out.below⟩
  have h := G7.out.own
  rw [Hve.out] at h
  exact h

end Go.Proofs.YtnhfmcijadficaaGreatDoor

/- The walks over rec.Bytes: refused, and made. -/
namespace Go.Proofs.YtnhfmcijadficaaGreatDoor
set_option maxRecDepth 100000
open Go.RowKit

set_option maxHeartbeats 1000000 in
theorem rcBytes_no (k t c : Int) (s : ByteArray) (A : Option Addr) (n cap : Nat) (w : World) (hno : mayB k t (s.size : Int) (n : Int) c = false) :
    Calls Tryz.prog 124 #[.agg #[.int .i64 k, .int .u32 t, .string s, .slice A n cap, .int .i64 c]] w fun e w' => e = .returned (.tuple #[.slice none 0 0, .int .i64 8]) ∧ Below w.heap.size w w' := by
  have Hno := Lib.hid hno
  clear hno
  go_enter Tryz.func124, Tryz.ntmps124
  go_wp2_with fail
  have hb0 := (Below.refl w.heap.size w).alloc (Nat.le_refl _) (.cells #[.int .i64 k, .int .u32 t, .string s, .slice A n cap, .int .i64 c] 161)
  refine (headOf_any k t c s A n cap _).mono ?_
  rintro e1 w1 ⟨rfl, hb1⟩
  have Hb1 := Lib.hid (hb0.trans (hb1.mono hb0.size))
  clear hb0 hb1
  go_wp2_with fail
  have hb2 := Hb1.out.alloc Hb1.out.size (.cells #[.int .i64 k, .int .u32 t, .int .i64 (s.size : Int), .int .i64 (n : Int), .int .i64 c] 199)
  refine (mayBe_any k t (s.size : Int) (n : Int) c _).mono ?_
  rw [Hno.out]
  rintro e1 w2 ⟨rfl, hb3⟩
  have Hb3 := Lib.hid (hb2.trans (hb3.mono hb2.size))
  clear hb2 hb3
  go_wp2
  go_ret2
  exact ⟨rfl, Hb3.out⟩

set_option maxHeartbeats 2000000 in
theorem rcBytes_yes (k t c : Nat) (s : ByteArray) (A : Option Addr) (n cap : Nat) (xs : List UInt8) (w : World) (hyes : mayB (k : Int) (t : Int) (s.size : Int) (n : Int) (c : Int) = true) (ht : t ≤ 4294967295) (hB : ByteSl w Empty A n cap xs) (hA : A = none → n = 0 ∧ cap = 0) :
    Calls Tryz.prog 124 #[.agg #[.int .i64 (k : Int), .int .u32 (t : Int), .string s, .slice A n cap, .int .i64 (c : Int)]] w fun e w' =>
      (∃ A' cap', e = .returned (.tuple #[.slice A' (15 + s.size + n) cap', .int .i64 0]) ∧ Got w.heap.size w' A' (15 + s.size + n) cap' (recB k t c s.data.toList xs)) ∧ Below w.heap.size w w' := by
  have hy := mayB_iff.1 hyes
  have hk : k ≤ 255 := by omega
  have ha : s.size ≤ 64 := by omega
  have hb : n ≤ 4096 := by omega
  have hc : c ≤ 16 := by omega
  have Hyes := Lib.hid hyes
  have HB := Lib.hid hB
  have HA := Lib.hid hA
  clear hyes hB hA hy
  have C0 : Hid (Acc w w.heap.size 161 #[.int .i64 (k : Int), .int .u32 (t : Int), .string s, .slice A n cap, .int .i64 (c : Int)] (w.alloc (.cells #[.int .i64 (k : Int), .int .u32 (t : Int), .string s, .slice A n cap, .int .i64 (c : Int)] 161))) := Lib.hid ⟨(Below.refl w.heap.size w).alloc (Nat.le_refl _) _, Blk.new w 161 _⟩
  go_enter Tryz.func124, Tryz.ntmps124
  go_wp2_with fail
  refine (headOf_any k t c s A n cap _).mono ?_
  rintro e1 w1 ⟨rfl, hb1⟩
  have C1 := Lib.hid (C0.out.next hb1)
  clear hb1
  go_wp2_with fail
  have C2 := Lib.hid (C1.out.alloc (.cells #[.int .i64 (k : Int), .int .u32 (t : Int), .int .i64 (s.size : Int), .int .i64 (n : Int), .int .i64 (c : Int)] 199))
  have hk2 := Blk.new w1 199 #[.int .i64 (k : Int), .int .u32 (t : Int), .int .i64 (s.size : Int), .int .i64 (n : Int), .int .i64 (c : Int)]
  refine (mayBe_any k t (s.size : Int) (n : Int) c _).mono ?_
  rw [Hyes.out]
  rintro e1 w2 ⟨rfl, hb3⟩
  have C3 := Lib.hid (C2.out.next hb3)
  have K3 := Lib.hid (hk2.of (hb3.block w1.heap.size (by simp)))
  clear hb3 hk2
  go_wp2_with fail
  have HS : Hid (∀ W, Only (fun q => w2.heap.size ≤ q) w2 W → W.cell? ⟨w1.heap.size, 0, none⟩ = some (.int .i64 (k : Int)) ∧ W.cell? ⟨w1.heap.size, 1, none⟩ = some (.int .u32 (t : Int)) ∧ W.cell? ⟨w1.heap.size, 2, none⟩ = some (.int .i64 (s.size : Int)) ∧ W.cell? ⟨w1.heap.size, 3, none⟩ = some (.int .i64 (n : Int)) ∧ W.cell? ⟨w1.heap.size, 4, none⟩ = some (.int .i64 (c : Int)) ∧ W.cell? ⟨w.heap.size, 2, none⟩ = some (.string s)) := Lib.hid (fun W h => by
    have hk4 := h.blk K3.out (by have := K3.out.lt; omega)
    have hk1 := h.blk C3.out.blk (by have := C3.out.blk.lt; omega)
    exact ⟨hk4.cell 0, hk4.cell 1, hk4.cell 2, hk4.cell 3, hk4.cell 4, hk1.cell 2⟩)
  have hD : Only (fun q => w2.heap.size ≤ q) w2 w2.drew := (Only.refl _ _).drew
  have hs1 := HS.out _ hD
  have HD := Lib.hid hD
  have N1 : Hid (∀ W, W.heap.size = w2.heap.size → Calls Tryz.prog 158 #[.agg #[.int .i64 (k : Int), .int .u32 (t : Int), .int .i64 (s.size : Int), .int .i64 (n : Int), .int .i64 (c : Int)]] W fun e W' => (∃ A' cap', e = .returned (.slice A' 11 cap') ∧ W'.ownsRow w2.heap.size 5 1 (.slice A' 11 cap') 11 ((headR k t s.size n c).map B8)) ∧ Only (fun q => w2.heap.size ≤ q) W W' ∧ w2.heap.size ≤ W'.heap.size) := Lib.hid (fun W hW =>
    (hBytes_any k t s.size n c W hk ht (by omega) (by omega) (by omega)).mono fun e W' ⟨⟨u, he, ho⟩, hb⟩ => by
      rw [hW] at ho
      obtain ⟨A', cap', rfl, -, -⟩ := ByteSl.of_own (S := Empty) ho (fun _ _ _ h => h)
      exact ⟨⟨A', cap', he, ho⟩, Only.of_below hb, by have := hb.size; omega⟩)
  have Hsz : Hid (11 + s.size ≤ 16777216) := Lib.hid (by omega)
  have Hd2 : Hid (w2.drew.heap.size = w2.heap.size) := Lib.hid rfl
  clear hD
  go_region_held3 (fun W => W.cell? ⟨w1.heap.size, 0, none⟩ = some (.int .i64 (k : Int)) ∧ W.cell? ⟨w1.heap.size, 1, none⟩ = some (.int .u32 (t : Int)) ∧ W.cell? ⟨w1.heap.size, 2, none⟩ = some (.int .i64 (s.size : Int)) ∧ W.cell? ⟨w1.heap.size, 3, none⟩ = some (.int .i64 (n : Int)) ∧ W.cell? ⟨w1.heap.size, 4, none⟩ = some (.int .i64 (c : Int)) ∧ W.cell? ⟨w.heap.size, 2, none⟩ = some (.string s)) (first | with_reducible exact hs1 | with_reducible exact hs10 | with_reducible exact hs11)
    (first | ((go_at_call 158; (with_reducible refine (N1.out _ Hd2.out).mono ?_); rintro e10 w10 ⟨⟨A10, c10, rfl, hown10⟩, hO10, hz10⟩; have hT10 := HD.out.trans hO10; have hs10 := HS.out _ hT10)) | ((refine step_append_str rfl (.tmp 12) (.tmp 14) rfl w2.heap.size (.slice A10 11 c10) rfl 11 (headR k t s.size n c) hown10 s rfl Hsz.out hz10 ?_; intro v11 w11 hown11 hg11 hnn11; have hO11 := Only.of_grown (S := fun q => w2.heap.size ≤ q) hg11 (fun q hq _ => (hown10.lt q hq).1); have hs11 := HS.out _ (hT10.trans hO11))))
  have hT11 := hT10.trans hO11
  have hC11 : Acc w w.heap.size 161 #[.int .i64 (k : Int), .int .u32 (t : Int), .string s, .slice A n cap, .int .i64 (c : Int)] w11 :=
    ⟨C3.out.below.trans (hT11.below (B := w.heap.size) C3.out.below.size (fun q h1 h2 => by have := C3.out.below.size; omega)), hT11.blk C3.out.blk (by have := C3.out.blk.lt; omega)⟩
  have C11 := Lib.hid hC11
  have O11 := Lib.hid (own_base hown11 C3.out.below.size)
  have B11 := Lib.hid (HB.out.only (Only.of_below (S := Empty) hC11.below) (fun _ _ h => h))
  have z11 := hC11.blk.cell 3
  simp at z11
  clear hT11 hC11 hown11 hg11 hnn11 hO11 hs11 hs10 hT10 hO10 hz10 hown10 hs1
  go_wp2_with (at_builtin; refine wpList_append_bytes rfl (.tmp 16) (.tmp 18) rfl w.heap.size _ rfl (11 + s.size) (headR k t s.size n c ++ s.data.toList) O11.out A n cap xs Empty rfl B11.out HA.out (by omega) C11.out.below.size ?_)
  intro v12 w12 hown12 hg12 hnn12
  have hown13 : w12.ownsRow w.heap.size 5 1 v12 (11 + s.size + n) ((headR k t s.size n c ++ s.data.toList ++ xs).map B8) := by
    rw [List.map_append, List.map_append, List.append_assoc]
    exact hown12
  obtain ⟨A12, c12, rfl, hG12⟩ := Got.of_own hown13
  have hlt := O11.out.lt
  have hb12 : Below w.heap.size w w12 := below_grown C11.out.below C11.out.below.size hg12 (fun q hq => (hlt q hq).1)
  have hlen : s.data.toList.length = s.size := Array.length_toList
  have hxl : xs.length = n := HB.out.1
  have hbody : headR k t s.size n c ++ s.data.toList ++ xs = bodyR k t c s.data.toList xs := by unfold bodyR; rw [hlen, hxl]
  rw [hbody] at hG12
  have G12 := Lib.hid hG12
  have C12 := Lib.hid hb12
  clear hown12 hown13 hG12 hg12 hnn12 hlt hb12 hlen hxl hbody z11
  go_wp2_with fail
  refine (sum32_any A12 (11 + s.size + n) c12 (bodyR k t c s.data.toList xs) _ G12.out.bytes).mono ?_
  rintro e1 w13 ⟨rfl, hb13⟩
  have G13 := Lib.hid (G12.out.next hb13)
  have C13 := Lib.hid (C12.out.trans (hb13.mono C12.out.size))
  clear hb13
  unfold V32
  have hv := (crc32 (bodyR k t c s.data.toList xs)).isLt
  obtain ⟨v, hve⟩ : ∃ v, v = (crc32 (bodyR k t c s.data.toList xs)).toNat := ⟨_, rfl⟩
  rw [← hve] at hv ⊢
  have hv2 : v ≤ 4294967295 := by omega
  have Hve := Lib.hid hve
  clear hv hve
  go_wp2_with fail
  refine (put_yes A12 (11 + s.size + n) c12 (bodyR k t c s.data.toList xs) v 4 _ G13.out.bytes (by omega) (by omega) (by omega) (by omega)).mono ?_
  rintro e1 w14 ⟨⟨u, rfl, hown14⟩, hb14⟩
  have h14 := own_base hown14 C13.out.size
  rw [Hve.out, show 11 + s.size + n + 4 = 15 + s.size + n by omega] at h14
  obtain ⟨A14, c14, rfl, hG14⟩ := Got.of_own (base := w.heap.size) (xs := recB k t c s.data.toList xs) h14
  have G14 := Lib.hid hG14
  have C14 := Lib.hid (C13.out.trans (hb14.mono C13.out.size))
  clear hown14 hb14 h14 hG14
  go_wp2
  go_ret2
  exact ⟨⟨_, _, rfl, G14.out⟩, C14.out⟩

end Go.Proofs.YtnhfmcijadficaaGreatDoor
