/- How the program's flash and the document's go together; each act of the two as a pair of contracts. -/
import Derived.Test.YtaepdmifenkhcaaR8
namespace Go.Proofs.Ytaepdmifenkhcaa
open Go.RowKit

structure Rel (f g : Fl) : Prop where
  s : f.S = g.S
  z : f.Z = g.Z
  l : f.L = g.L
  b : f.bs = g.bs
  e : f.er = g.er
  u : f.up = g.up
  fu : (f.fuse < 0 ∧ g.fuse = -1) ∨ (f.fuse = g.fuse ∧ 0 ≤ g.fuse ∧ f.keep = g.keep ∧ f.mask = g.mask)

section
variable {f g : Fl}
theorem Rel.zero (h : Rel f g) : f.fuse = 0 ↔ g.fuse = 0 := by rcases h.fu with ⟨h1, h2⟩ | ⟨h1, _⟩ <;> omega
theorem Rel.code (h : Rel f g) : f.code = g.code := by
  unfold Fl.code
  by_cases h0 : f.fuse = 0
  · rw [if_pos h0, if_pos (h.zero.1 h0)]
  · rw [if_neg h0, if_neg (fun h1 => h0 (h.zero.2 h1))]
theorem Rel.many (h : Rel f g) (n : Nat) : f.many n = g.many n := by
  unfold Fl.many
  rcases h.fu with ⟨h1, h2⟩ | ⟨h1, _, h3, _⟩
  · rw [if_neg (by omega), if_neg (by omega)]
  · rw [h1, h3]
theorem burn_up {fl : Fl} : fl.burn.up = if fl.fuse = 0 then false else fl.up := by
  unfold Fl.burn
  by_cases h : fl.fuse = 0
  · simp [h]
  · by_cases h1 : 0 < fl.fuse <;> simp [h, h1]
theorem burn_fuse {fl : Fl} : fl.burn.fuse = if 0 < fl.fuse then fl.fuse - 1 else fl.fuse := by
  unfold Fl.burn
  by_cases h : fl.fuse = 0
  · simp [h]
  · by_cases h1 : 0 < fl.fuse <;> simp [h, h1]
theorem Rel.burn (h : Rel f g) : Rel f.burn g.burn := by
  refine ⟨?_, ?_, ?_, ?_, ?_, ?_, ?_⟩
  · rw [f.burn_geo.1, g.burn_geo.1, h.s]
  · rw [f.burn_geo.2.1, g.burn_geo.2.1, h.z]
  · rw [f.burn_geo.2.2.1, g.burn_geo.2.2.1, h.l]
  · rw [f.burn_geo.2.2.2.1, g.burn_geo.2.2.2.1, h.b]
  · rw [f.burn_geo.2.2.2.2, g.burn_geo.2.2.2.2, h.e]
  · rw [burn_up, burn_up]
    by_cases h0 : f.fuse = 0
    · rw [if_pos h0, if_pos (h.zero.1 h0)]
    · rw [if_neg h0, if_neg (fun h1 => h0 (h.zero.2 h1)), h.u]
  · rw [burn_fuse, burn_fuse, f.burn_rest.1, f.burn_rest.2, g.burn_rest.1, g.burn_rest.2]
    rcases h.fu with ⟨h1, h2⟩ | ⟨h1, h2, h3, h4⟩
    · left
      rw [if_neg (by omega), if_neg (by omega)]
      exact ⟨h1, h2⟩
    · right
      rw [h1]
      by_cases h5 : 0 < g.fuse
      · rw [if_pos h5]; exact ⟨rfl, by omega, h3, h4⟩
      · rw [if_neg h5]; exact ⟨rfl, h2, h3, h4⟩
theorem Rel.prog (h : Rel f g) (o : Nat) (xs : List UInt8) : Rel (f.prog o xs) (g.prog o xs) := by
  have hb := h.burn
  refine ⟨hb.s, hb.z, hb.l, ?_, hb.e, hb.u, hb.fu⟩
  show f.bs.mapIdx (tornF o xs (f.many xs.length) f.mask) = g.bs.mapIdx (tornF o xs (g.many xs.length) g.mask)
  rw [h.many, h.b]
  rcases h.fu with ⟨h1, h2⟩ | ⟨_, _, _, h4⟩
  · have hm : g.many xs.length = xs.length := by unfold Fl.many; rw [if_neg (by omega)]
    rw [hm, ← progF_all g.bs o xs.length xs f.mask (by omega), ← progF_all g.bs o xs.length xs g.mask (by omega)]
  · rw [h4]
theorem Rel.erased (h : Rel f g) (k : Nat) : Rel (f.erased k) (g.erased k) := by
  have hb := h.burn
  refine ⟨hb.s, hb.z, hb.l, ?_, ?_, hb.u, hb.fu⟩
  · show f.bs.mapIdx (eraseF (k * f.Z) (f.many f.Z) f.Z f.mask) = g.bs.mapIdx (eraseF (k * g.Z) (g.many g.Z) g.Z g.mask)
    rw [h.many, h.b, h.z]
    rcases h.fu with ⟨h1, h2⟩ | ⟨_, _, _, h4⟩
    · have hm : g.many g.Z = g.Z := by unfold Fl.many; rw [if_neg (by omega)]
      rw [hm, ← eraseF_all g.bs (k * g.Z) g.Z g.Z f.mask (by omega), ← eraseF_all g.bs (k * g.Z) g.Z g.Z g.mask (by omega)]
    · rw [h4]
  · show f.er.set k ((f.er[k]?.getD 0) + 1) = g.er.set k ((g.er[k]?.getD 0) + 1)
    rw [h.e]
theorem Rel.fused (h : Rel f g) (n k : Int) (m : UInt8) : Rel (f.fused n k m) (g.fused (max n (-1)) k m) := by
  refine ⟨h.s, h.z, h.l, h.b, h.e, h.u, ?_⟩
  show (n < 0 ∧ max n (-1) = -1) ∨ (n = max n (-1) ∧ 0 ≤ max n (-1) ∧ k = k ∧ m = m)
  by_cases h0 : n < 0
  · left; exact ⟨h0, Int.max_eq_right (by omega)⟩
  · right; rw [Int.max_eq_left (by omega)]; exact ⟨rfl, by omega, rfl, rfl⟩
theorem Rel.reset (h : Rel f g) : Rel f.reset { g with up := true, fuse := -1 } := ⟨h.s, h.z, h.l, h.b, h.e, rfl, Or.inl ⟨by show (-1 : Int) < 0; omega, rfl⟩⟩
end

/-- The blocks of both flashes. -/
def Six (p c e p' c' e' : Nat) : Nat → Prop := fun k => Three p c e k ∨ Three p' c' e' k

theorem downAt {w : World} {p c e : Nat} {fl : Fl} (h : FlashAt w p c e fl) (hu : fl.up = false) : w.cell? ⟨p, 5, none⟩ = some (.bool false) := by rw [h.hd.cell]; simp [Fl.hdr, hu]
theorem rdownAt {w : World} {p c e : Nat} {fl : Fl} (h : RefAt w p c e fl) (hu : fl.up = false) : w.cell? ⟨p, 5, none⟩ = some (.bool true) := by rw [h.hd.cell]; simp [Fl.rhdr, hu]

/-- The two programs: one code, and two flashes that go together again. -/
theorem prog_pair (p c e p' c' e' : Nat) (f g : Fl) (a : Int) (n cap : Nat) (A : Option Addr) (xs : List UInt8) (hr : Rel f g) (a2 : a ≤ 9223372036854775807) (hn : n ≤ maxLen) :
    ∃ (cd : Int) (f' g' : Fl), Rel f' g' ∧ f'.S = f.S ∧ f'.Z = f.Z ∧ f'.L = f.L ∧
      (∀ W, FlashAt W p c e f → ByteSl W (Three p c e) A n cap xs → Calls Try.prog 20 #[.pointer (some ⟨p, 0, none⟩), .int .i64 a, .slice A n cap] W fun e1 w' => e1 = .returned (.int .i64 cd) ∧ FlashAt w' p c e f' ∧ Only (Three p c e) W w') ∧
      (∀ W, RefAt W p' c' e' g → ByteSl W (Three p' c' e') A n cap xs → Calls Try.prog 25 #[.pointer (some ⟨p', 0, none⟩), .int .i64 a, .slice A n cap] W fun e1 w' => e1 = .returned (.int .i64 cd) ∧ RefAt w' p' c' e' g' ∧ Only (Three p' c' e') W w') := by
  rcases hu : f.up with _ | _
  · refine ⟨5, f, g, hr, rfl, rfl, rfl, fun W hf _ => ?_, fun W hg _ => ?_⟩
    · refine (program_down p a A n cap W (downAt hf hu)).mono ?_
      rintro e1 w' ⟨he, rfl⟩
      exact ⟨he, hf, Only.refl _ _⟩
    · refine (rprogram_down p' a A n cap W (rdownAt hg (by rw [← hr.u]; exact hu))).mono ?_
      rintro e1 w' ⟨he, rfl⟩
      exact ⟨he, hg, Only.refl _ _⟩
  · by_cases ho : a < 0 ∨ ((f.S * f.Z : Nat) : Int) < a + n
    · refine ⟨2, f, g, hr, rfl, rfl, rfl, fun W hf _ => ?_, fun W hg _ => ?_⟩
      · refine (program_out p c e f a A n cap W hf hu a2 hn ho).mono ?_
        rintro e1 w' ⟨he, rfl⟩
        exact ⟨he, hf, Only.refl _ _⟩
      · refine (rprogram_out p' c' e' g a A n cap W hg (by rw [← hr.u]; exact hu) a2 hn (by rw [← hr.s, ← hr.z]; exact ho)).mono ?_
        rintro e1 w' ⟨he, rfl⟩
        exact ⟨he, hg, Only.refl _ _⟩
    · obtain ⟨k, rfl⟩ := Int.eq_ofNat_of_zero_le (show 0 ≤ a by omega)
      have hin : k + n ≤ f.S * f.Z := by omega
      by_cases hfit : Fits f.bs k xs
      · refine ⟨f.code, f.prog k xs, g.prog k xs, hr.prog k xs, f.burn_geo.1, f.burn_geo.2.1, f.burn_geo.2.2.1, fun W hf hs => program_fits p c e k n cap f xs A W hf hu hs hin hfit, fun W hg hs => ?_⟩
        rw [hr.code]
        exact rprogram_fits p' c' e' k n cap g xs A W hg (by rw [← hr.u]; exact hu) hs (by rw [← hr.s, ← hr.z]; exact hin) (by rw [← hr.b]; exact hfit)
      · refine ⟨3, f, g, hr, rfl, rfl, rfl, fun W hf hs => ?_, fun W hg hs => ?_⟩
        · refine (program_bits p c e k n cap f xs A W hf hu hs hin hfit).mono ?_
          rintro e1 w' ⟨he, rfl⟩
          exact ⟨he, hf, Only.refl _ _⟩
        · refine (rprogram_bits p' c' e' k n cap g xs A W hg (by rw [← hr.u]; exact hu) hs (by rw [← hr.s, ← hr.z]; exact hin) (by rw [← hr.b]; exact hfit)).mono ?_
          rintro e1 w' ⟨he, rfl⟩
          exact ⟨he, hg, Only.refl _ _⟩

/-- The two erases. -/
theorem erase_pair (p c e p' c' e' : Nat) (f g : Fl) (a : Int) (hr : Rel f g) (hok : f.Ok) :
    ∃ (cd : Int) (f' g' : Fl), Rel f' g' ∧ f'.S = f.S ∧ f'.Z = f.Z ∧ f'.L = f.L ∧
      (∀ W, FlashAt W p c e f → Calls Try.prog 22 #[.pointer (some ⟨p, 0, none⟩), .int .i64 a] W fun e1 w' => e1 = .returned (.int .i64 cd) ∧ FlashAt w' p c e f' ∧ Only (Three p c e) W w') ∧
      (∀ W, RefAt W p' c' e' g → Calls Try.prog 26 #[.pointer (some ⟨p', 0, none⟩), .int .i64 a] W fun e1 w' => e1 = .returned (.int .i64 cd) ∧ RefAt w' p' c' e' g' ∧ Only (Three p' c' e') W w') := by
  rcases hu : f.up with _ | _
  · refine ⟨5, f, g, hr, rfl, rfl, rfl, fun W hf => ?_, fun W hg => ?_⟩
    · refine (erase_down p a W (downAt hf hu)).mono ?_
      rintro e1 w' ⟨he, rfl⟩
      exact ⟨he, hf, Only.refl _ _⟩
    · refine (rerase_down p' a W (rdownAt hg (by rw [← hr.u]; exact hu))).mono ?_
      rintro e1 w' ⟨he, rfl⟩
      exact ⟨he, hg, Only.refl _ _⟩
  · have hgu : g.up = true := by rw [← hr.u]; exact hu
    by_cases ho : a < 0 ∨ (f.S : Int) ≤ a
    · refine ⟨2, f, g, hr, rfl, rfl, rfl, fun W hf => ?_, fun W hg => ?_⟩
      · refine (erase_out p c e f a W hf hu ho).mono ?_
        rintro e1 w' ⟨he, rfl⟩
        exact ⟨he, hf, Only.refl _ _⟩
      · refine (rerase_out p' c' e' g a W hg hgu (by rw [← hr.s]; exact ho)).mono ?_
        rintro e1 w' ⟨he, rfl⟩
        exact ⟨he, hg, Only.refl _ _⟩
    · obtain ⟨k, rfl⟩ := Int.eq_ofNat_of_zero_le (show 0 ≤ a by omega)
      obtain ⟨m, hm⟩ : ∃ m, f.er[k]? = some m := ⟨_, List.getElem?_eq_getElem (by rw [hok.el]; omega)⟩
      have hgm : g.er[k]? = some m := by rw [← hr.e]; exact hm
      by_cases hL : f.L ≤ m
      · refine ⟨4, f, g, hr, rfl, rfl, rfl, fun W hf => ?_, fun W hg => ?_⟩
        · refine (erase_worn p c e k m f W hf hu hm hL).mono ?_
          rintro e1 w' ⟨he, q, rfl⟩
          exact ⟨he, hf.drewN q, (Only.refl _ _).drewN q⟩
        · refine (rerase_worn p' c' e' k m g W hg hgu hgm (by rw [← hr.l]; exact hL)).mono ?_
          rintro e1 w' ⟨he, q, rfl⟩
          exact ⟨he, hg.drewN q, (Only.refl _ _).drewN q⟩
      · refine ⟨f.code, f.erased k, g.erased k, hr.erased k, f.burn_geo.1, f.burn_geo.2.1, f.burn_geo.2.2.1, fun W hf => erase_in p c e k m f W hf hu hm (by omega), fun W hg => ?_⟩
        rw [hr.code]
        have hgL : m < g.L := by rw [← hr.l]; omega
        by_cases hfu : g.fuse = 0
        · have hc : g.code = 5 := by unfold Fl.code; rw [if_pos hfu]
          rw [hc]
          by_cases hk : g.keep < 0
          · exact rerase_neg p' c' e' k m g W hg hgu hgm hgL hfu hk
          · exact rerase_torn p' c' e' k m g W hg hgu hgm hgL hfu (by omega)
        · have hc : g.code = 0 := by unfold Fl.code; rw [if_neg hfu]
          rw [hc]
          exact rerase_whole p' c' e' k m g W hg hgu hgm hgL hfu

end Go.Proofs.Ytaepdmifenkhcaa
