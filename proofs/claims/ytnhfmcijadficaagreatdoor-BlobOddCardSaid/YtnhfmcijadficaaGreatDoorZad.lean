/- The walks over cmp.Compare at numbers of 32 bits, over the comparison of usedRow, over the stable sort of a short row. -/
import Derived.Test.YtnhfmcijadficaaGreatDoorZab
import Derived.Test.YtnhfmcijadficaaGreatDoorZac
import Derived.Deep.QuietTactic
import Derived.BigQuiet
import Derived.Test.YtnhfmcijadficaaGreatDoorZaa
import Derived.Outline
namespace Go.Proofs.YtnhfmcijadficaaGreatDoor
set_option maxRecDepth 100000
open Go.RowKit Go.Sort

def cf32 (x y : Int) : Int := if x < y then -1 else if y < x then 1 else 0
theorem nan32 (x : Int) (w : World) : Calls Tryz.prog 113 #[.int .u32 x] w fun e w' => e = .returned (.bool false) ∧ w = w' := by
  go_enter Tryz.func113, Tryz.ntmps113
  go_wp2
  go_ret
  exact ⟨by simp, rfl⟩
theorem compare32 (x y : Int) (w : World) : Calls Tryz.prog 73 #[.int .u32 x, .int .u32 y] w fun e w' => e = .returned (.int .i64 (cf32 x y)) ∧ w = w' := by
  have H1 := Lib.hid (nan32 x w)
  have H2 := Lib.hid (nan32 y w)
  by_cases h1 : x < y
  · have he : cf32 x y = -1 := by unfold cf32; rw [if_pos h1]
    rw [he]
    go_enter Tryz.func73, Tryz.ntmps73
    go_wp2_with fail
    refine H1.out.mono ?_
    rintro e1 w1 ⟨rfl, rfl⟩
    go_wp2_with fail
    refine H2.out.mono ?_
    rintro e1 w1 ⟨rfl, rfl⟩
    go_wp2_with fail
    go_ret
    exact ⟨rfl, rfl⟩
  · by_cases h2 : y < x
    · have he : cf32 x y = 1 := by unfold cf32; rw [if_neg h1, if_pos h2]
      rw [he]
      go_enter Tryz.func73, Tryz.ntmps73
      go_wp2_with fail
      refine H1.out.mono ?_
      rintro e1 w1 ⟨rfl, rfl⟩
      go_wp2_with fail
      refine H2.out.mono ?_
      rintro e1 w1 ⟨rfl, rfl⟩
      go_wp2_with fail
      go_ret
      exact ⟨rfl, rfl⟩
    · have he : cf32 x y = 0 := by unfold cf32; rw [if_neg h1, if_neg h2]
      rw [he]
      go_enter Tryz.func73, Tryz.ntmps73
      go_wp2_with fail
      refine H1.out.mono ?_
      rintro e1 w1 ⟨rfl, rfl⟩
      go_wp2_with fail
      refine H2.out.mono ?_
      rintro e1 w1 ⟨rfl, rfl⟩
      go_wp2_with fail
      go_ret
      exact ⟨rfl, rfl⟩

/-- What the comparison of usedRow reads: the box of the sectors, their row. -/
structure CmpAt (W : World) (g b o : Nat) (n cap : Nat) (l : List Sc) : Prop where
  box : W.cell? ⟨g, 0, none⟩ = some (.slice (some ⟨b, o, none⟩) n cap)
  gl : g < W.heap.size
  bl : b < W.heap.size
  row : ∀ (i : Nat) (s : Sc), l[i]? = some s → W.cell? ⟨b, o + i * 3 + 1, none⟩ = some (.int .u32 s.q)
theorem usedCmp_any (W : World) (g b o n cap : Nat) (l : List Sc) (x y : Nat) (sx sy : Sc) (h : CmpAt W g b o n cap l) (hn : n ≤ cap) (hcap : cap ≤ 9223372036854775807) (hx : l[x]? = some sx) (hy : l[y]? = some sy) (hxn : x < n) (hyn : y < n) :
    Calls Tryz.prog 72 #[.int .i64 (x : Int), .int .i64 (y : Int), .pointer (some ⟨g, 0, none⟩)] W fun e w' => e = .returned (.int .i64 (cf32 sx.q sy.q)) ∧ ∃ q, w' = W.drewN q := by
  have c0 := h.box
  have gl := h.gl
  have bl := h.bl
  have x1 := h.row x sx hx
  have y1 := h.row y sy hy
  have hxI : (x : Int) < (n : Int) := by omega
  have hyI : (y : Int) < (n : Int) := by omega
  have Hc := Lib.hid (fun V => compare32 sx.q sy.q V)
  clear h hx hy
  go_enter Tryz.func72, Tryz.ntmps72
  go_wp2_with fail
  go_quiet ((go_at_call 73; exact Calls.quiet_of_same ((Hc.out _).mono fun _ _ ⟨h1, h2⟩ => ⟨h1, h2.symm⟩)))
  go_wp2_with fail
  go_ret
  exact ⟨rfl, _, rfl⟩

end Go.Proofs.YtnhfmcijadficaaGreatDoor

/- The flash as plain data, what a program and an erase do to it, and how it lies in memory. -/
namespace Go.Proofs.YtnhfmcijadficaaGreatDoor
set_option maxRecDepth 100000
open Go.RowKit

structure Fl where
  S : Nat
  Z : Nat
  L : Nat
  bs : List UInt8
  er : List Nat
  up : Bool
  fuse : Int
  keep : Int
  mask : UInt8

namespace Fl

/-- What holds of every flash that New has made. -/
structure Ok (fl : Fl) : Prop where
  s1 : 1 ≤ fl.S
  s2 : fl.S ≤ 64
  z1 : 64 ≤ fl.Z
  z2 : fl.Z ≤ 65536
  l1 : 1 ≤ fl.L
  l2 : fl.L ≤ 1048576
  bl : fl.bs.length = fl.S * fl.Z
  el : fl.er.length = fl.S
  eb : ∀ (i n : Nat), fl.er[i]? = some n → n ≤ fl.L
  f1 : -9223372036854775808 ≤ fl.fuse
  f2 : fl.fuse ≤ 9223372036854775807
  k1 : -9223372036854775808 ≤ fl.keep
  k2 : fl.keep ≤ 9223372036854775807

/-- How many of n bytes an act does whole: all, or as the tear says. -/
def many (fl : Fl) (n : Nat) : Nat := if fl.fuse = 0 then (max fl.keep 0).toNat % (n + 1) else n
/-- An act's answer. -/
def code (fl : Fl) : Int := if fl.fuse = 0 then 5 else 0
/-- The fuse and the state behind an act. -/
def burn (fl : Fl) : Fl := if fl.fuse = 0 then { fl with up := false } else if 0 < fl.fuse then { fl with fuse := fl.fuse - 1 } else fl

/-- The cells of a flash's own block: its cells lie in block c, its counts in block e. -/
def hdr (fl : Fl) (c e : Nat) : Array Value :=
  #[.int .i64 (fl.S : Int), .int .i64 (fl.Z : Int), .int .i64 (fl.L : Int), .slice (some ⟨c, 0, none⟩) (fl.S * fl.Z) (fl.S * fl.Z), .slice (some ⟨e, 0, none⟩) fl.S fl.S,
    .bool fl.up, .int .i64 fl.fuse, .int .i64 fl.keep, B8 fl.mask]

theorem burn_geo (fl : Fl) : fl.burn.S = fl.S ∧ fl.burn.Z = fl.Z ∧ fl.burn.L = fl.L ∧ fl.burn.bs = fl.bs ∧ fl.burn.er = fl.er := by
  unfold burn
  by_cases h : fl.fuse = 0
  · simp [h]
  · by_cases h1 : 0 < fl.fuse <;> simp [h, h1]

theorem burn_rest (fl : Fl) : fl.burn.mask = fl.mask ∧ fl.burn.keep = fl.keep := by
  unfold burn
  by_cases h : fl.fuse = 0
  · simp [h]
  · by_cases h1 : 0 < fl.fuse <;> simp [h, h1]

end Fl

/-- A flash lies in memory: its own block p, its cells in c, its counts in e. -/
structure FlashAt (w : World) (p c e : Nat) (fl : Fl) : Prop where
  ok : fl.Ok
  hd : Blk w p 78 (fl.hdr c e)
  ce : Blk w c 5 (fl.bs.map B8).toArray
  er : Blk w e 3 (fl.er.map fun (n : Nat) => Value.int .i64 (n : Int)).toArray

section
variable {w w' : World} {p c e : Nat} {fl : Fl} {S : Nat → Prop}
theorem FlashAt.of (h : FlashAt w p c e fl) (k : Only S w w') (hp : ¬ S p) (hc : ¬ S c) (he : ¬ S e) : FlashAt w' p c e fl :=
  ⟨h.ok, k.blk h.hd hp, k.blk h.ce hc, k.blk h.er he⟩
theorem FlashAt.pc (h : FlashAt w p c e fl) : p ≠ c := h.hd.ne_ h.ce (by decide)
theorem FlashAt.pe (h : FlashAt w p c e fl) : p ≠ e := h.hd.ne_ h.er (by decide)
theorem FlashAt.cep (h : FlashAt w p c e fl) : c ≠ e := h.ce.ne_ h.er (by decide)
end

theorem FlashAt.drew {w : World} {p c e : Nat} {fl : Fl} (h : FlashAt w p c e fl) : FlashAt w.drew p c e fl := ⟨h.ok, h.hd.drew, h.ce.drew, h.er.drew⟩
theorem FlashAt.drewN {w : World} {p c e : Nat} {fl : Fl} (h : FlashAt w p c e fl) (n : Nat) : FlashAt (w.drewN n) p c e fl := ⟨h.ok, h.hd.drewN n, h.ce.drewN n, h.er.drewN n⟩

/-- Other bytes, as many, in a flash. -/
theorem FlashAt.bytes {w w' : World} {p c e : Nat} {fl : Fl} {S : Nat → Prop} {bs : List UInt8} (h : FlashAt w p c e fl) (k : Only S w w') (hp : ¬ S p) (he : ¬ S e) (hb : bs.length = fl.bs.length)
    (hc : Blk w' c 5 (bs.map B8).toArray) : FlashAt w' p c e { fl with bs := bs } :=
  ⟨⟨h.ok.s1, h.ok.s2, h.ok.z1, h.ok.z2, h.ok.l1, h.ok.l2, hb.trans h.ok.bl, h.ok.el, h.ok.eb, h.ok.f1, h.ok.f2, h.ok.k1, h.ok.k2⟩, k.blk h.hd hp, hc, k.blk h.er he⟩

/-- The three blocks of a flash. -/
def Three (p c e : Nat) : Nat → Prop := fun k => k = p ∨ k = c ∨ k = e

end Go.Proofs.YtnhfmcijadficaaGreatDoor

/- The walks over nor's small functions: within, isDown, has, act, span, sector. -/
namespace Go.Proofs.YtnhfmcijadficaaGreatDoor
set_option maxRecDepth 100000
open Go.RowKit

set_option maxHeartbeats 400000 in
theorem within_any (a b c : Int) (w : World) :
    Calls Tryz.prog 68 #[.int .i64 a, .int .i64 b, .int .i64 c] w fun e w' => e = .returned (.bool (decide (b ≤ a) && decide (a ≤ c))) ∧ w = w' := by
  by_cases h : b ≤ a
  · go_enter Tryz.func68, Tryz.ntmps68
    go_wp2
    go_ret
    simp [h]
  · go_enter Tryz.func68, Tryz.ntmps68
    go_wp2
    go_ret
    simp; omega

theorem isDown_nil (w : World) :
    Calls Tryz.prog 69 #[.pointer none] w fun e w' => e = .returned (.bool true) ∧ w = w' := by
  go_enter Tryz.func69, Tryz.ntmps69
  go_wp2
  go_ret
  exact ⟨rfl, rfl⟩

theorem isDown_any (p : Nat) (up : Bool) (w : World) (h5 : w.cell? ⟨p, 5, none⟩ = some (.bool up)) :
    Calls Tryz.prog 69 #[.pointer (some ⟨p, 0, none⟩)] w fun e w' => e = .returned (.bool (!up)) ∧ w = w' := by
  go_enter Tryz.func69, Tryz.ntmps69
  go_wp2
  go_ret
  exact ⟨rfl, rfl⟩

theorem has_nil (k : Int) (w : World) :
    Calls Tryz.prog 138 #[.pointer none, .int .i64 k] w fun e w' => e = .returned (.bool false) ∧ w = w' := by
  go_enter Tryz.func138, Tryz.ntmps138
  go_wp2
  go_ret
  exact ⟨rfl, rfl⟩

theorem has_any (p eb S : Nat) (k : Int) (w : World) (h4 : w.cell? ⟨p, 4, none⟩ = some (.slice (some ⟨eb, 0, none⟩) S S)) :
    Calls Tryz.prog 138 #[.pointer (some ⟨p, 0, none⟩), .int .i64 k] w fun e w' => e = .returned (.bool (decide (0 ≤ k) && decide (k < S))) ∧ w = w' := by
  by_cases h : 0 ≤ k
  · go_enter Tryz.func138, Tryz.ntmps138
    go_wp2
    go_ret
    simp [h]
  · go_enter Tryz.func138, Tryz.ntmps138
    go_wp2
    go_ret
    simp; omega

set_option maxHeartbeats 1000000 in
theorem act_whole (p : Nat) (fuse n : Int) (w : World) (h6 : w.cell? ⟨p, 6, none⟩ = some (.int .i64 fuse)) (f6 : w.frozen? ⟨p, 6, none⟩ = false) (hf : ¬ fuse = 0)
    (f1 : -9223372036854775808 ≤ fuse) (f2 : fuse ≤ 9223372036854775807) :
    Calls Tryz.prog 34 #[.pointer (some ⟨p, 0, none⟩), .int .i64 n] w fun e w' => e = .returned (.tuple #[.int .i64 n, .int .i64 0]) ∧
      w' = if 0 < fuse then w.setCell ⟨p, 6, none⟩ (.int .i64 (fuse - 1)) else w := by
  have hb : (fuse == 0) = false := by simp [hf]
  by_cases h : 0 < fuse
  · go_enter Tryz.func34, Tryz.ntmps34
    go_wp2
    go_ret2
    simp
  · go_enter Tryz.func34, Tryz.ntmps34
    go_wp2
    go_ret2
    simp

theorem ret_two {k l : IntKind} {a b : Int} (h : a = b) : Ending.returned (.tuple #[.int k a, .int l 5]) = .returned (.tuple #[.int k b, .int l 5]) := by rw [h]

set_option maxHeartbeats 1000000 in
theorem act_torn (p : Nat) (n keep : Int) (w : World) (h6 : w.cell? ⟨p, 6, none⟩ = some (.int .i64 0)) (h5 : w.cell? ⟨p, 5, none⟩ = some (.bool true)) (f5 : w.frozen? ⟨p, 5, none⟩ = false)
    (h7 : w.cell? ⟨p, 7, none⟩ = some (.int .i64 keep)) (n0 : 0 ≤ n) (n1 : n < 9223372036854775807) :
    Calls Tryz.prog 34 #[.pointer (some ⟨p, 0, none⟩), .int .i64 n] w fun e w' => e = .returned (.tuple #[.int .i64 (max keep 0 % (n + 1)), .int .i64 5]) ∧
      w' = w.setCell ⟨p, 5, none⟩ (.bool false) := by
  by_cases hk : keep < 0
  · have hm : max keep 0 % (n + 1) = 0 := by rw [Int.max_eq_right (by omega)]; simp
    rw [hm]
    clear hm
    go_enter Tryz.func34, Tryz.ntmps34
    go_wp2
    go_ret2
    exact ⟨rfl, rfl⟩
  · have hm : max keep 0 % (n + 1) = keep % (n + 1) := by rw [Int.max_eq_left (by omega)]
    rw [hm]
    clear hm
    go_enter Tryz.func34, Tryz.ntmps34
    go_wp2
    go_ret2
    exact ⟨rfl, rfl⟩

/-- How many bytes lie in the flash: this never meets the limits of int. -/
theorem Fl.Ok.sz {fl : Fl} (h : fl.Ok) : fl.S * fl.Z ≤ 4194304 ∧ 64 ≤ fl.S * fl.Z := by
  have h1 : fl.S * fl.Z ≤ 64 * 65536 := Nat.mul_le_mul h.s2 h.z2
  have h2 : 1 * 64 ≤ fl.S * fl.Z := Nat.mul_le_mul h.s1 h.z1
  omega

set_option maxHeartbeats 1000000 in
theorem act_any (p c e : Nat) (fl : Fl) (n : Nat) (w : World) (hf : FlashAt w p c e fl) (hu : fl.up = true) (hn : n ≤ 4611686018427387904) :
    Calls Tryz.prog 34 #[.pointer (some ⟨p, 0, none⟩), .int .i64 (n : Int)] w fun e1 w' => e1 = .returned (.tuple #[.int .i64 (fl.many n : Nat), .int .i64 fl.code]) ∧
      FlashAt w' p c e fl.burn ∧ Only (· = p) w w' := by
  have hc := hf.hd.cell
  have hz := hf.hd.frozen
  by_cases h : fl.fuse = 0
  · have e1 : ((fl.many n : Nat) : Int) = max fl.keep 0 % ((n : Int) + 1) := by
      unfold Fl.many
      rw [if_pos h]
      obtain ⟨m, hm⟩ := Int.eq_ofNat_of_zero_le (Int.le_max_right fl.keep 0)
      rw [hm]
      simp
    have e2 : fl.code = 5 := by simp [Fl.code, h]
    rw [e1, e2]
    refine (act_torn p n fl.keep w (by rw [hc]; simp [Fl.hdr, h]) (by rw [hc]; simp [Fl.hdr, hu]) (hz 5) (by rw [hc]; simp [Fl.hdr]) (by omega) (by omega)).mono fun e1 w' ⟨he, hw⟩ => ?_
    subst hw
    refine ⟨he, ?_, (Only.refl (· = p) w).setCell (p := ⟨p, 5, none⟩) (Or.inl rfl) _⟩
    have hb : fl.burn = { fl with up := false } := by simp [Fl.burn, h]
    rw [hb]
    refine ⟨⟨hf.ok.s1, hf.ok.s2, hf.ok.z1, hf.ok.z2, hf.ok.l1, hf.ok.l2, hf.ok.bl, hf.ok.el, hf.ok.eb, hf.ok.f1, hf.ok.f2, hf.ok.k1, hf.ok.k2⟩, ?_, hf.ce.far (by simpa using hf.pc.symm) _, hf.er.far (by simpa using hf.pe.symm) _⟩
    have h2 := hf.hd.set_ 5 (.bool false)
    simpa [Fl.hdr] using h2
  · have e1 : fl.many n = n := by simp [Fl.many, h]
    have e2 : fl.code = 0 := by simp [Fl.code, h]
    rw [e1, e2]
    refine (act_whole p fl.fuse n w (by rw [hc]; simp [Fl.hdr]) (hz 6) h hf.ok.f1 hf.ok.f2).mono fun e1 w' ⟨he, hw⟩ => ?_
    by_cases h1 : 0 < fl.fuse
    · rw [if_pos h1] at hw
      subst hw
      refine ⟨he, ?_, (Only.refl (· = p) w).setCell (p := ⟨p, 6, none⟩) (Or.inl rfl) _⟩
      have hb : fl.burn = { fl with fuse := fl.fuse - 1 } := by simp [Fl.burn, h, h1]
      rw [hb]
      refine ⟨⟨hf.ok.s1, hf.ok.s2, hf.ok.z1, hf.ok.z2, hf.ok.l1, hf.ok.l2, hf.ok.bl, hf.ok.el, hf.ok.eb, by show _ ≤ fl.fuse - 1; omega, by have := hf.ok.f2; show fl.fuse - 1 ≤ _; omega, hf.ok.k1, hf.ok.k2⟩, ?_, hf.ce.far (by simpa using hf.pc.symm) _, hf.er.far (by simpa using hf.pe.symm) _⟩
      have h2 := hf.hd.set_ 6 (.int .i64 (fl.fuse - 1))
      simpa [Fl.hdr] using h2
    · rw [if_neg h1] at hw
      subst hw
      have hb : fl.burn = fl := by simp [Fl.burn, h, h1]
      rw [hb]
      exact ⟨he, hf, Only.refl _ _⟩

theorem span_down (p : Nat) (a n : Int) (w : World) (h5 : w.cell? ⟨p, 5, none⟩ = some (.bool false)) :
    Calls Tryz.prog 33 #[.pointer (some ⟨p, 0, none⟩), .int .i64 a, .int .i64 n] w fun e w' => e = .returned (.tuple #[.slice none 0 0, .int .i64 5]) ∧ w = w' := by
  go_enter Tryz.func33, Tryz.ntmps33
  go_wp2
  go_ret2
  exact ⟨rfl, rfl⟩

theorem span_nil (a n : Int) (w : World) :
    Calls Tryz.prog 33 #[.pointer none, .int .i64 a, .int .i64 n] w fun e w' => e = .returned (.tuple #[.slice none 0 0, .int .i64 5]) ∧ w = w' := by
  go_enter Tryz.func33, Tryz.ntmps33
  go_wp2
  go_ret2
  exact ⟨rfl, rfl⟩

theorem span_out (p cb T : Nat) (a n : Int) (w : World) (h5 : w.cell? ⟨p, 5, none⟩ = some (.bool true)) (h3 : w.cell? ⟨p, 3, none⟩ = some (.slice (some ⟨cb, 0, none⟩) T T)) (hT : T ≤ 4194304)
    (a2 : a ≤ 9223372036854775807) (n2 : n ≤ 9223372036854775807) (h : a < 0 ∨ n < 0 ∨ (T : Int) < a + n) :
    Calls Tryz.prog 33 #[.pointer (some ⟨p, 0, none⟩), .int .i64 a, .int .i64 n] w fun e w' => e = .returned (.tuple #[.slice none 0 0, .int .i64 2]) ∧ w = w' := by
  by_cases ha : a < 0
  · go_enter Tryz.func33, Tryz.ntmps33
    go_wp2
    go_ret2
    exact ⟨rfl, rfl⟩
  · by_cases hn : n < 0
    · go_enter Tryz.func33, Tryz.ntmps33
      go_wp2
      go_ret2
      exact ⟨rfl, rfl⟩
    · have h' : (T : Int) - a < n := by omega
      clear h
      go_enter Tryz.func33, Tryz.ntmps33
      go_wp2
      go_ret2
      exact ⟨rfl, rfl⟩

set_option maxHeartbeats 1000000 in
theorem span_in (p cb T a n : Nat) (w : World) (h5 : w.cell? ⟨p, 5, none⟩ = some (.bool true)) (h3 : w.cell? ⟨p, 3, none⟩ = some (.slice (some ⟨cb, 0, none⟩) T T)) (hT : T ≤ 4194304)
    (h : a + n ≤ T) :
    Calls Tryz.prog 33 #[.pointer (some ⟨p, 0, none⟩), .int .i64 (a : Int), .int .i64 (n : Int)] w fun e w' => e = .returned (.tuple #[.slice (some ⟨cb, if n = 0 then 0 else a, none⟩) n n, .int .i64 0]) ∧ w = w' := by
  have h1 : ¬ (a : Int) < 0 := by omega
  have h2 : ¬ (n : Int) < 0 := by omega
  have h4 : (n : Int) ≤ (T : Int) - a := by omega
  by_cases h0 : n = 0
  · subst h0
    go_enter Tryz.func33, Tryz.ntmps33
    go_wp2
    go_ret2
    exact ⟨rfl, rfl⟩
  · rw [if_neg h0]
    go_enter Tryz.func33, Tryz.ntmps33
    go_wp2
    go_ret2
    exact ⟨rfl, rfl⟩

end Go.Proofs.YtnhfmcijadficaaGreatDoor
