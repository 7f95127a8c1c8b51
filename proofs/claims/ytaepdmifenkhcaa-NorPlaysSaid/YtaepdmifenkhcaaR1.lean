/- The document's flash in memory, and the walks over its small functions: it is the same plain flash, said down for up. -/
import Derived.Test.YtaepdmifenkhcaaW7
import Derived.Laws.CopyOwn
namespace Go.Proofs.Ytaepdmifenkhcaa
open Go.RowKit

/-- The cells of the document's flash. -/
def Fl.rhdr (fl : Fl) (c e : Nat) : Array Value :=
  #[.int .i64 (fl.S : Int), .int .i64 (fl.Z : Int), .int .i64 (fl.L : Int), .slice (some ⟨c, 0, none⟩) (fl.S * fl.Z) (fl.S * fl.Z), .slice (some ⟨e, 0, none⟩) fl.S fl.S,
    .bool (!fl.up), .int .i64 fl.fuse, .int .i64 fl.keep, B8 fl.mask]

structure RefAt (w : World) (p c e : Nat) (fl : Fl) : Prop where
  ok : fl.Ok
  fu : -1 ≤ fl.fuse
  hd : Blk w p 44 (fl.rhdr c e)
  ce : Blk w c 5 (fl.bs.map B8).toArray
  er : Blk w e 3 (fl.er.map fun (n : Nat) => Value.int .i64 (n : Int)).toArray

section
variable {w w' : World} {p c e : Nat} {fl : Fl} {S : Nat → Prop}
theorem RefAt.of (h : RefAt w p c e fl) (k : Only S w w') (hp : ¬ S p) (hc : ¬ S c) (he : ¬ S e) : RefAt w' p c e fl :=
  ⟨h.ok, h.fu, k.blk h.hd hp, k.blk h.ce hc, k.blk h.er he⟩
theorem RefAt.pc (h : RefAt w p c e fl) : p ≠ c := h.hd.ne_ h.ce (by decide)
theorem RefAt.pe (h : RefAt w p c e fl) : p ≠ e := h.hd.ne_ h.er (by decide)
theorem RefAt.cep (h : RefAt w p c e fl) : c ≠ e := h.ce.ne_ h.er (by decide)
theorem RefAt.drew (h : RefAt w p c e fl) : RefAt w.drew p c e fl := ⟨h.ok, h.fu, h.hd.drew, h.ce.drew, h.er.drew⟩
theorem RefAt.drewN (h : RefAt w p c e fl) (n : Nat) : RefAt (w.drewN n) p c e fl := ⟨h.ok, h.fu, h.hd.drewN n, h.ce.drewN n, h.er.drewN n⟩
end

/-! ### whole, there -/
set_option maxHeartbeats 1000000 in
theorem whole_any (p c e : Nat) (fl : Fl) (w : World) (hf : RefAt w p c e fl) (hu : fl.up = true) :
    Calls Try.prog 36 #[.pointer (some ⟨p, 0, none⟩)] w fun e1 w' => e1 = .returned (.bool (!decide (fl.fuse = 0))) ∧ RefAt w' p c e fl.burn ∧ Only (· = p) w w' := by
  have h5 : w.cell? ⟨p, 5, none⟩ = some (.bool false) := by rw [hf.hd.cell]; simp [Fl.rhdr, hu]
  have h6 : w.cell? ⟨p, 6, none⟩ = some (.int .i64 fl.fuse) := by rw [hf.hd.cell]; simp [Fl.rhdr]
  have f5 := hf.hd.frozen 5
  have f6 := hf.hd.frozen 6
  have f1 := hf.fu
  have f2 := hf.ok.f2
  have Hf := Lib.hid hf
  have Hu := Lib.hid hu
  clear hf hu
  by_cases h : fl.fuse = 0
  · have H := Lib.hid h
    have hb : (fl.fuse == 0) = true := by simp [h]
    clear h f1 f2
    go_enter Try.func36, Try.ntmps36
    go_wp2
    go_ret
    have hf := Hf.out
    have hb : fl.burn = { fl with up := false } := by simp [Fl.burn, H.out]
    rw [hb]
    refine ⟨by rw [decide_eq_true H.out]; rfl, ⟨⟨hf.ok.s1, hf.ok.s2, hf.ok.z1, hf.ok.z2, hf.ok.l1, hf.ok.l2, hf.ok.bl, hf.ok.el, hf.ok.eb, hf.ok.f1, hf.ok.f2, hf.ok.k1, hf.ok.k2⟩, hf.fu, ?_, hf.ce.far (p := ⟨p, 5, none⟩) (fun e => hf.pc e.symm) _, hf.er.far (p := ⟨p, 5, none⟩) (fun e => hf.pe e.symm) _⟩, (Only.refl (· = p) w).setCell (p := ⟨p, 5, none⟩) (Or.inl rfl) _⟩
    have h2 := hf.hd.set_ 5 (.bool true)
    simpa [Fl.rhdr] using h2
  · have hb : (fl.fuse == 0) = false := by simp [h]
    by_cases h1 : 0 < fl.fuse
    · go_enter Try.func36, Try.ntmps36
      go_wp2
      go_ret
      have hf := Hf.out
      have hb : fl.burn = { fl with fuse := fl.fuse - 1 } := by simp [Fl.burn, h, h1]
      rw [hb]
      refine ⟨by rw [decide_eq_false h]; rfl, ⟨⟨hf.ok.s1, hf.ok.s2, hf.ok.z1, hf.ok.z2, hf.ok.l1, hf.ok.l2, hf.ok.bl, hf.ok.el, hf.ok.eb, by show _ ≤ fl.fuse - 1; omega, by show fl.fuse - 1 ≤ _; omega, hf.ok.k1, hf.ok.k2⟩, by show -1 ≤ fl.fuse - 1; omega, ?_, hf.ce.far (p := ⟨p, 6, none⟩) (fun e => hf.pc e.symm) _, hf.er.far (p := ⟨p, 6, none⟩) (fun e => hf.pe e.symm) _⟩, (Only.refl (· = p) w).setCell (p := ⟨p, 6, none⟩) (Or.inl rfl) _⟩
      have h2 := hf.hd.set_ 6 (.int .i64 (fl.fuse - 1))
      simpa [Fl.rhdr] using h2
    · go_enter Try.func36, Try.ntmps36
      go_wp2
      go_ret
      have hb : fl.burn = fl := by
        unfold Fl.burn
        rw [if_neg h, if_neg (by omega)]
      rw [hb]
      exact ⟨rfl, Hf.out, Only.refl _ _⟩

theorem there_no (p cb T : Nat) (a n : Int) (w : World) (h3 : w.cell? ⟨p, 3, none⟩ = some (.slice (some ⟨cb, 0, none⟩) T T))
    (a2 : a ≤ 9223372036854775807) (n2 : n ≤ 9223372036854775807) (h : a < 0 ∨ n < 0 ∨ (T : Int) < a + n) :
    Calls Try.prog 35 #[.pointer (some ⟨p, 0, none⟩), .int .i64 a, .int .i64 n] w fun e w' => e = .returned (.bool false) ∧ w = w' := by
  by_cases ha : a < 0
  · go_enter Try.func35, Try.ntmps35
    go_wp2
    go_ret
    exact ⟨rfl, rfl⟩
  · by_cases hn : n < 0
    · go_enter Try.func35, Try.ntmps35
      go_wp2
      go_ret
      exact ⟨rfl, rfl⟩
    · have h' : (T : Int) - a < n := by omega
      have hd : decide (n ≤ (T : Int) - a) = false := by simp; omega
      clear h
      by_cases hq : (T : Int) < a
      · go_enter Try.func35, Try.ntmps35
        go_wp2
        go_ret
        exact ⟨rfl, rfl⟩
      · go_enter Try.func35, Try.ntmps35
        go_wp2
        go_ret
        exact ⟨rfl, rfl⟩

theorem there_yes (p cb T a n : Nat) (w : World) (h3 : w.cell? ⟨p, 3, none⟩ = some (.slice (some ⟨cb, 0, none⟩) T T)) (hT : T ≤ 4194304) (h : a + n ≤ T) :
    Calls Try.prog 35 #[.pointer (some ⟨p, 0, none⟩), .int .i64 (a : Int), .int .i64 (n : Int)] w fun e w' => e = .returned (.bool true) ∧ w = w' := by
  have h0 : (0 : Int) ≤ (a : Int) := by omega
  have h1 : (0 : Int) ≤ (n : Int) := by omega
  have h2 : a ≤ T := by omega
  have h4 : (n : Int) ≤ (T : Int) - a := by omega
  go_enter Try.func35, Try.ntmps35
  go_wp2
  go_ret
  exact ⟨rfl, rfl⟩

end Go.Proofs.Ytaepdmifenkhcaa
