/- The flash as plain data, what a program and an erase do to it, and how it lies in memory. -/
import Derived.Test.YtdhnbeimkeoefaaDoorMem
namespace Go.Proofs.YtdhnbeimkeoefaaDoor
open Go.RowKit

structure Fl where
  S : Nat
  Z : Nat
  L : Nat
  bs : List UInt8
  er : List Nat
  up : Bool
  fuse : Int
  keep : Int
  mask : UInt8

namespace Fl

/-- What holds of every flash that New has made. -/
structure Ok (fl : Fl) : Prop where
  s1 : 1 ≤ fl.S
  s2 : fl.S ≤ 64
  z1 : 64 ≤ fl.Z
  z2 : fl.Z ≤ 65536
  l1 : 1 ≤ fl.L
  l2 : fl.L ≤ 1048576
  bl : fl.bs.length = fl.S * fl.Z
  el : fl.er.length = fl.S
  eb : ∀ (i n : Nat), fl.er[i]? = some n → n ≤ fl.L
  f1 : -9223372036854775808 ≤ fl.fuse
  f2 : fl.fuse ≤ 9223372036854775807
  k1 : -9223372036854775808 ≤ fl.keep
  k2 : fl.keep ≤ 9223372036854775807

/-- How many of n bytes an act does whole: all, or as the tear says. -/
def many (fl : Fl) (n : Nat) : Nat := if fl.fuse = 0 then (max fl.keep 0).toNat % (n + 1) else n
/-- An act's answer. -/
def code (fl : Fl) : Int := if fl.fuse = 0 then 5 else 0
/-- The fuse and the state behind an act. -/
def burn (fl : Fl) : Fl := if fl.fuse = 0 then { fl with up := false } else if 0 < fl.fuse then { fl with fuse := fl.fuse - 1 } else fl

/-- The cells of a flash's own block: its cells lie in block c, its counts in block e. -/
def hdr (fl : Fl) (c e : Nat) : Array Value :=
  #[.int .i64 (fl.S : Int), .int .i64 (fl.Z : Int), .int .i64 (fl.L : Int), .slice (some ⟨c, 0, none⟩) (fl.S * fl.Z) (fl.S * fl.Z), .slice (some ⟨e, 0, none⟩) fl.S fl.S,
    .bool fl.up, .int .i64 fl.fuse, .int .i64 fl.keep, B8 fl.mask]

theorem burn_geo (fl : Fl) : fl.burn.S = fl.S ∧ fl.burn.Z = fl.Z ∧ fl.burn.L = fl.L ∧ fl.burn.bs = fl.bs ∧ fl.burn.er = fl.er := by
  unfold burn
  by_cases h : fl.fuse = 0
  · simp [h]
  · by_cases h1 : 0 < fl.fuse <;> simp [h, h1]

theorem burn_rest (fl : Fl) : fl.burn.mask = fl.mask ∧ fl.burn.keep = fl.keep := by
  unfold burn
  by_cases h : fl.fuse = 0
  · simp [h]
  · by_cases h1 : 0 < fl.fuse <;> simp [h, h1]

end Fl

/-- A flash lies in memory: its own block p, its cells in c, its counts in e. -/
structure FlashAt (w : World) (p c e : Nat) (fl : Fl) : Prop where
  ok : fl.Ok
  hd : Blk w p 67 (fl.hdr c e)
  ce : Blk w c 5 (fl.bs.map B8).toArray
  er : Blk w e 3 (fl.er.map fun (n : Nat) => Value.int .i64 (n : Int)).toArray

section
variable {w w' : World} {p c e : Nat} {fl : Fl} {S : Nat → Prop}
theorem FlashAt.of (h : FlashAt w p c e fl) (k : Only S w w') (hp : ¬ S p) (hc : ¬ S c) (he : ¬ S e) : FlashAt w' p c e fl :=
  ⟨h.ok, k.blk h.hd hp, k.blk h.ce hc, k.blk h.er he⟩
theorem FlashAt.pc (h : FlashAt w p c e fl) : p ≠ c := h.hd.ne_ h.ce (by decide)
theorem FlashAt.pe (h : FlashAt w p c e fl) : p ≠ e := h.hd.ne_ h.er (by decide)
theorem FlashAt.cep (h : FlashAt w p c e fl) : c ≠ e := h.ce.ne_ h.er (by decide)
end

theorem FlashAt.drew {w : World} {p c e : Nat} {fl : Fl} (h : FlashAt w p c e fl) : FlashAt w.drew p c e fl := ⟨h.ok, h.hd.drew, h.ce.drew, h.er.drew⟩
theorem FlashAt.drewN {w : World} {p c e : Nat} {fl : Fl} (h : FlashAt w p c e fl) (n : Nat) : FlashAt (w.drewN n) p c e fl := ⟨h.ok, h.hd.drewN n, h.ce.drewN n, h.er.drewN n⟩

/-- Other bytes, as many, in a flash. -/
theorem FlashAt.bytes {w w' : World} {p c e : Nat} {fl : Fl} {S : Nat → Prop} {bs : List UInt8} (h : FlashAt w p c e fl) (k : Only S w w') (hp : ¬ S p) (he : ¬ S e) (hb : bs.length = fl.bs.length)
    (hc : Blk w' c 5 (bs.map B8).toArray) : FlashAt w' p c e { fl with bs := bs } :=
  ⟨⟨h.ok.s1, h.ok.s2, h.ok.z1, h.ok.z2, h.ok.l1, h.ok.l2, hb.trans h.ok.bl, h.ok.el, h.ok.eb, h.ok.f1, h.ok.f2, h.ok.k1, h.ok.k2⟩, k.blk h.hd hp, hc, k.blk h.er he⟩

/-- The three blocks of a flash. -/
def Three (p c e : Nat) : Nat → Prop := fun k => k = p ∨ k = c ∨ k = e

end Go.Proofs.YtdhnbeimkeoefaaDoor
