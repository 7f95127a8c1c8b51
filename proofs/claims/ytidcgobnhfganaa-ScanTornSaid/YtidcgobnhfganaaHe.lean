/- A record's bytes as plain data; the walks over head.bytes and rec.Bytes. -/
import Derived.Test.YtidcgobnhfganaaHd
namespace Go.Proofs.Ytidcgobnhfganaa
open Go.RowKit

/-- The nine bytes of a header that its sum is of. -/
def nineB (k t a b c : Nat) : List UInt8 := putL k 1 ++ putL t 4 ++ putL a 1 ++ putL b 2 ++ putL c 1
def headR (k t a b c : Nat) : List UInt8 := nineB k t a b c ++ putL (crc16 (nineB k t a b c)).toNat 2
/-- All that a record's sum of 32 bits is of. -/
def bodyR (k t c : Nat) (key blob : List UInt8) : List UInt8 := headR k t key.length blob.length c ++ key ++ blob
/-- A record's bytes but the last one. -/
def recB (k t c : Nat) (key blob : List UInt8) : List UInt8 := bodyR k t c key blob ++ putL (crc32 (bodyR k t c key blob)).toNat 4
theorem nineB_len (k t a b c : Nat) : (nineB k t a b c).length = 9 := by simp [nineB, putL_len]
theorem headR_len (k t a b c : Nat) : (headR k t a b c).length = 11 := by simp [headR, nineB_len, putL_len]
theorem bodyR_len (k t c : Nat) (key blob : List UInt8) : (bodyR k t c key blob).length = 11 + key.length + blob.length := by simp only [bodyR, List.length_append, headR_len]
theorem recB_len (k t c : Nat) (key blob : List UInt8) : (recB k t c key blob).length = 15 + key.length + blob.length := by simp only [recB, List.length_append, bodyR_len, putL_len]; omega

/-- A call's world: what was there is as it was; one block of its own is known whole. -/
structure Acc (w0 : World) (g : Nat) (t : TypeId) (cs : Array Value) (W : World) : Prop where
  below : Below w0.heap.size w0 W
  blk : Blk W g t cs
theorem Acc.next {w0 : World} {g : Nat} {t : TypeId} {cs : Array Value} {W W' : World} (h : Acc w0 g t cs W) (k : Below W.heap.size W W') : Acc w0 g t cs W' :=
  ⟨h.below.trans (k.mono h.below.size), h.blk.of (k.block g h.blk.lt)⟩
theorem Acc.alloc {w0 : World} {g : Nat} {t : TypeId} {cs : Array Value} {W : World} (h : Acc w0 g t cs W) (o : Obj) : Acc w0 g t cs (W.alloc o) :=
  ⟨h.below.alloc h.below.size o, h.blk.alloc o⟩

/-- Bytes that a call has made so far, in a row made since base. -/
structure Got (base : Nat) (W : World) (A : Option Addr) (n cap : Nat) (xs : List UInt8) : Prop where
  own : W.ownsRow base 5 1 (.slice A n cap) n (xs.map B8)
  bytes : ByteSl W Empty A n cap xs
  isNil : A = none → n = 0 ∧ cap = 0
theorem Got.of_own {base : Nat} {W : World} {n : Nat} {xs : List UInt8} {u : Value} (h : W.ownsRow base 5 1 u n (xs.map B8)) : ∃ A cap, u = .slice A n cap ∧ Got base W A n cap xs := by
  obtain ⟨A, cap, rfl, hb, -⟩ := ByteSl.of_own (S := Empty) h (fun _ _ _ h => h)
  refine ⟨A, cap, rfl, h, hb, fun e => ?_⟩
  subst e
  rcases h.2 with ⟨e, h0⟩ | ⟨g, c, cur, e, _⟩
  · cases e
    exact ⟨rfl, rfl⟩
  · cases e
theorem Got.nil_ (base : Nat) (W : World) : Got base W none 0 0 [] := ⟨own_nil _ _, ByteSl.nil_ _ _ _ _ (by simp [maxLen]), fun _ => ⟨rfl, rfl⟩⟩
theorem Got.next {base : Nat} {W W' : World} {A : Option Addr} {n cap : Nat} {xs : List UInt8} (h : Got base W A n cap xs) (k : Below W.heap.size W W') : Got base W' A n cap xs :=
  ⟨own_only h.own (Only.of_below (S := Empty) k) (fun _ _ _ h => h), h.bytes.only (Only.of_below (S := Empty) k) (fun _ _ h => h), h.isNil⟩
theorem Got.alloc {base : Nat} {W : World} {A : Option Addr} {n cap : Nat} {xs : List UInt8} (h : Got base W A n cap xs) (o : Obj) : Got base (W.alloc o) A n cap xs :=
  h.next ((Below.refl _ _).alloc (Nat.le_refl _) o)
theorem Got.lower {base base' : Nat} {W : World} {A : Option Addr} {n cap : Nat} {xs : List UInt8} (h : Got base W A n cap xs) (k : base' ≤ base) : Got base' W A n cap xs := ⟨own_base h.own k, h.bytes, h.isNil⟩

theorem refPut_step {w0 : World} {base g : Nat} {t : TypeId} {cs : Array Value} (A : Option Addr) (m cap : Nat) (xs : List UInt8) (v n : Nat) (W : World) (hC : Acc w0 g t cs W) (hG : Got base W A m cap xs) (hbase : base ≤ W.heap.size) (hv : v ≤ 18446744073709551615) (h1 : 1 ≤ n) (h2 : n ≤ 8) (hm : m ≤ 1048576) :
    Calls Try.prog 12 #[.slice A m cap, .int .u64 (v : Int), .int .i64 (n : Int)] W fun e W' => (∃ A' cap', e = .returned (.slice A' (m + n) cap') ∧ Got base W' A' (m + n) cap' (xs ++ putL v n)) ∧ Acc w0 g t cs W' :=
  (refPut_yes A m cap xs v n W hG.bytes hG.isNil hv h1 h2 hm).mono fun e W' ⟨⟨u, he, ho⟩, hb⟩ => by
    obtain ⟨A', cap', rfl, hg⟩ := Got.of_own (own_base ho hbase)
    exact ⟨⟨A', cap', he, hg⟩, hC.next hb⟩


end Go.Proofs.Ytidcgobnhfganaa
