/- The walks over nor's small functions: within, isDown, has, act, span, sector. -/
import Derived.Test.YtdhnbeimkeoefaaDoorFl
import Derived.Outline
namespace Go.Proofs.YtdhnbeimkeoefaaDoor
open Go.RowKit

set_option maxHeartbeats 400000 in
theorem within_any (a b c : Int) (w : World) :
    Calls Tryd.prog 45 #[.int .i64 a, .int .i64 b, .int .i64 c] w fun e w' => e = .returned (.bool (decide (b ≤ a) && decide (a ≤ c))) ∧ w = w' := by
  by_cases h : b ≤ a
  · go_enter Tryd.func45, Tryd.ntmps45
    go_wp2
    go_ret
    simp [h]
  · go_enter Tryd.func45, Tryd.ntmps45
    go_wp2
    go_ret
    simp; omega

theorem isDown_nil (w : World) :
    Calls Tryd.prog 35 #[.pointer none] w fun e w' => e = .returned (.bool true) ∧ w = w' := by
  go_enter Tryd.func35, Tryd.ntmps35
  go_wp2
  go_ret
  exact ⟨rfl, rfl⟩

theorem isDown_any (p : Nat) (up : Bool) (w : World) (h5 : w.cell? ⟨p, 5, none⟩ = some (.bool up)) :
    Calls Tryd.prog 35 #[.pointer (some ⟨p, 0, none⟩)] w fun e w' => e = .returned (.bool (!up)) ∧ w = w' := by
  go_enter Tryd.func35, Tryd.ntmps35
  go_wp2
  go_ret
  exact ⟨rfl, rfl⟩

theorem has_nil (k : Int) (w : World) :
    Calls Tryd.prog 36 #[.pointer none, .int .i64 k] w fun e w' => e = .returned (.bool false) ∧ w = w' := by
  go_enter Tryd.func36, Tryd.ntmps36
  go_wp2
  go_ret
  exact ⟨rfl, rfl⟩

theorem has_any (p eb S : Nat) (k : Int) (w : World) (h4 : w.cell? ⟨p, 4, none⟩ = some (.slice (some ⟨eb, 0, none⟩) S S)) :
    Calls Tryd.prog 36 #[.pointer (some ⟨p, 0, none⟩), .int .i64 k] w fun e w' => e = .returned (.bool (decide (0 ≤ k) && decide (k < S))) ∧ w = w' := by
  by_cases h : 0 ≤ k
  · go_enter Tryd.func36, Tryd.ntmps36
    go_wp2
    go_ret
    simp [h]
  · go_enter Tryd.func36, Tryd.ntmps36
    go_wp2
    go_ret
    simp; omega

set_option maxHeartbeats 1000000 in
theorem act_whole (p : Nat) (fuse n : Int) (w : World) (h6 : w.cell? ⟨p, 6, none⟩ = some (.int .i64 fuse)) (f6 : w.frozen? ⟨p, 6, none⟩ = false) (hf : ¬ fuse = 0)
    (f1 : -9223372036854775808 ≤ fuse) (f2 : fuse ≤ 9223372036854775807) :
    Calls Tryd.prog 29 #[.pointer (some ⟨p, 0, none⟩), .int .i64 n] w fun e w' => e = .returned (.tuple #[.int .i64 n, .int .i64 0]) ∧
      w' = if 0 < fuse then w.setCell ⟨p, 6, none⟩ (.int .i64 (fuse - 1)) else w := by
  have hb : (fuse == 0) = false := by simp [hf]
  by_cases h : 0 < fuse
  · go_enter Tryd.func29, Tryd.ntmps29
    go_wp2
    go_ret2
    simp
  · go_enter Tryd.func29, Tryd.ntmps29
    go_wp2
    go_ret2
    simp

theorem ret_two {k l : IntKind} {a b : Int} (h : a = b) : Ending.returned (.tuple #[.int k a, .int l 5]) = .returned (.tuple #[.int k b, .int l 5]) := by rw [h]

set_option maxHeartbeats 1000000 in
theorem act_torn (p : Nat) (n keep : Int) (w : World) (h6 : w.cell? ⟨p, 6, none⟩ = some (.int .i64 0)) (h5 : w.cell? ⟨p, 5, none⟩ = some (.bool true)) (f5 : w.frozen? ⟨p, 5, none⟩ = false)
    (h7 : w.cell? ⟨p, 7, none⟩ = some (.int .i64 keep)) (n0 : 0 ≤ n) (n1 : n < 9223372036854775807) :
    Calls Tryd.prog 29 #[.pointer (some ⟨p, 0, none⟩), .int .i64 n] w fun e w' => e = .returned (.tuple #[.int .i64 (max keep 0 % (n + 1)), .int .i64 5]) ∧
      w' = w.setCell ⟨p, 5, none⟩ (.bool false) := by
  by_cases hk : keep < 0
  · have hm : max keep 0 % (n + 1) = 0 := by rw [Int.max_eq_right (by omega)]; simp
    rw [hm]
    clear hm
    go_enter Tryd.func29, Tryd.ntmps29
    go_wp2
    go_ret2
    exact ⟨rfl, rfl⟩
  · have hm : max keep 0 % (n + 1) = keep % (n + 1) := by rw [Int.max_eq_left (by omega)]
    rw [hm]
    clear hm
    go_enter Tryd.func29, Tryd.ntmps29
    go_wp2
    go_ret2
    exact ⟨rfl, rfl⟩

/-- How many bytes lie in the flash: this never meets the limits of int. -/
theorem Fl.Ok.sz {fl : Fl} (h : fl.Ok) : fl.S * fl.Z ≤ 4194304 ∧ 64 ≤ fl.S * fl.Z := by
  have h1 : fl.S * fl.Z ≤ 64 * 65536 := Nat.mul_le_mul h.s2 h.z2
  have h2 : 1 * 64 ≤ fl.S * fl.Z := Nat.mul_le_mul h.s1 h.z1
  omega

set_option maxHeartbeats 1000000 in
theorem act_any (p c e : Nat) (fl : Fl) (n : Nat) (w : World) (hf : FlashAt w p c e fl) (hu : fl.up = true) (hn : n ≤ 4611686018427387904) :
    Calls Tryd.prog 29 #[.pointer (some ⟨p, 0, none⟩), .int .i64 (n : Int)] w fun e1 w' => e1 = .returned (.tuple #[.int .i64 (fl.many n : Nat), .int .i64 fl.code]) ∧
      FlashAt w' p c e fl.burn ∧ Only (· = p) w w' := by
  have hc := hf.hd.cell
  have hz := hf.hd.frozen
  by_cases h : fl.fuse = 0
  · have e1 : ((fl.many n : Nat) : Int) = max fl.keep 0 % ((n : Int) + 1) := by
      unfold Fl.many
      rw [if_pos h]
      obtain ⟨m, hm⟩ := Int.eq_ofNat_of_zero_le (Int.le_max_right fl.keep 0)
      rw [hm]
      simp
    have e2 : fl.code = 5 := by simp [Fl.code, h]
    rw [e1, e2]
    refine (act_torn p n fl.keep w (by rw [hc]; simp [Fl.hdr, h]) (by rw [hc]; simp [Fl.hdr, hu]) (hz 5) (by rw [hc]; simp [Fl.hdr]) (by omega) (by omega)).mono fun e1 w' ⟨he, hw⟩ => ?_
    subst hw
    refine ⟨he, ?_, (Only.refl (· = p) w).setCell (p := ⟨p, 5, none⟩) (Or.inl rfl) _⟩
    have hb : fl.burn = { fl with up := false } := by simp [Fl.burn, h]
    rw [hb]
    refine ⟨⟨hf.ok.s1, hf.ok.s2, hf.ok.z1, hf.ok.z2, hf.ok.l1, hf.ok.l2, hf.ok.bl, hf.ok.el, hf.ok.eb, hf.ok.f1, hf.ok.f2, hf.ok.k1, hf.ok.k2⟩, ?_, hf.ce.far (by simpa using hf.pc.symm) _, hf.er.far (by simpa using hf.pe.symm) _⟩
    have h2 := hf.hd.set_ 5 (.bool false)
    simpa [Fl.hdr] using h2
  · have e1 : fl.many n = n := by simp [Fl.many, h]
    have e2 : fl.code = 0 := by simp [Fl.code, h]
    rw [e1, e2]
    refine (act_whole p fl.fuse n w (by rw [hc]; simp [Fl.hdr]) (hz 6) h hf.ok.f1 hf.ok.f2).mono fun e1 w' ⟨he, hw⟩ => ?_
    by_cases h1 : 0 < fl.fuse
    · rw [if_pos h1] at hw
      subst hw
      refine ⟨he, ?_, (Only.refl (· = p) w).setCell (p := ⟨p, 6, none⟩) (Or.inl rfl) _⟩
      have hb : fl.burn = { fl with fuse := fl.fuse - 1 } := by simp [Fl.burn, h, h1]
      rw [hb]
      refine ⟨⟨hf.ok.s1, hf.ok.s2, hf.ok.z1, hf.ok.z2, hf.ok.l1, hf.ok.l2, hf.ok.bl, hf.ok.el, hf.ok.eb, by show _ ≤ fl.fuse - 1; omega, by have := hf.ok.f2; show fl.fuse - 1 ≤ _; omega, hf.ok.k1, hf.ok.k2⟩, ?_, hf.ce.far (by simpa using hf.pc.symm) _, hf.er.far (by simpa using hf.pe.symm) _⟩
      have h2 := hf.hd.set_ 6 (.int .i64 (fl.fuse - 1))
      simpa [Fl.hdr] using h2
    · rw [if_neg h1] at hw
      subst hw
      have hb : fl.burn = fl := by simp [Fl.burn, h, h1]
      rw [hb]
      exact ⟨he, hf, Only.refl _ _⟩

theorem span_down (p : Nat) (a n : Int) (w : World) (h5 : w.cell? ⟨p, 5, none⟩ = some (.bool false)) :
    Calls Tryd.prog 28 #[.pointer (some ⟨p, 0, none⟩), .int .i64 a, .int .i64 n] w fun e w' => e = .returned (.tuple #[.slice none 0 0, .int .i64 5]) ∧ w = w' := by
  go_enter Tryd.func28, Tryd.ntmps28
  go_wp2
  go_ret2
  exact ⟨rfl, rfl⟩

theorem span_nil (a n : Int) (w : World) :
    Calls Tryd.prog 28 #[.pointer none, .int .i64 a, .int .i64 n] w fun e w' => e = .returned (.tuple #[.slice none 0 0, .int .i64 5]) ∧ w = w' := by
  go_enter Tryd.func28, Tryd.ntmps28
  go_wp2
  go_ret2
  exact ⟨rfl, rfl⟩

theorem span_out (p cb T : Nat) (a n : Int) (w : World) (h5 : w.cell? ⟨p, 5, none⟩ = some (.bool true)) (h3 : w.cell? ⟨p, 3, none⟩ = some (.slice (some ⟨cb, 0, none⟩) T T)) (hT : T ≤ 4194304)
    (a2 : a ≤ 9223372036854775807) (n2 : n ≤ 9223372036854775807) (h : a < 0 ∨ n < 0 ∨ (T : Int) < a + n) :
    Calls Tryd.prog 28 #[.pointer (some ⟨p, 0, none⟩), .int .i64 a, .int .i64 n] w fun e w' => e = .returned (.tuple #[.slice none 0 0, .int .i64 2]) ∧ w = w' := by
  by_cases ha : a < 0
  · go_enter Tryd.func28, Tryd.ntmps28
    go_wp2
    go_ret2
    exact ⟨rfl, rfl⟩
  · by_cases hn : n < 0
    · go_enter Tryd.func28, Tryd.ntmps28
      go_wp2
      go_ret2
      exact ⟨rfl, rfl⟩
    · have h' : (T : Int) - a < n := by omega
      clear h
      go_enter Tryd.func28, Tryd.ntmps28
      go_wp2
      go_ret2
      exact ⟨rfl, rfl⟩

set_option maxHeartbeats 1000000 in
theorem span_in (p cb T a n : Nat) (w : World) (h5 : w.cell? ⟨p, 5, none⟩ = some (.bool true)) (h3 : w.cell? ⟨p, 3, none⟩ = some (.slice (some ⟨cb, 0, none⟩) T T)) (hT : T ≤ 4194304)
    (h : a + n ≤ T) :
    Calls Tryd.prog 28 #[.pointer (some ⟨p, 0, none⟩), .int .i64 (a : Int), .int .i64 (n : Int)] w fun e w' => e = .returned (.tuple #[.slice (some ⟨cb, if n = 0 then 0 else a, none⟩) n n, .int .i64 0]) ∧ w = w' := by
  have h1 : ¬ (a : Int) < 0 := by omega
  have h2 : ¬ (n : Int) < 0 := by omega
  have h4 : (n : Int) ≤ (T : Int) - a := by omega
  by_cases h0 : n = 0
  · subst h0
    go_enter Tryd.func28, Tryd.ntmps28
    go_wp2
    go_ret2
    exact ⟨rfl, rfl⟩
  · rw [if_neg h0]
    go_enter Tryd.func28, Tryd.ntmps28
    go_wp2
    go_ret2
    exact ⟨rfl, rfl⟩

end Go.Proofs.YtdhnbeimkeoefaaDoor
