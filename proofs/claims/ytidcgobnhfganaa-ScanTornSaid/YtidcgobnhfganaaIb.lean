/- Where bytes end that aren't blank; the walk over scan.laidEnd. -/
import Derived.Test.YtidcgobnhfganaaIa
namespace Go.Proofs.Ytidcgobnhfganaa
open Go.RowKit

/-- Behind e there is 255 alone, and e is the first such place. -/
structure IsEnd (xs : List UInt8) (e : Nat) : Prop where
  le : e ≤ xs.length
  blank : ∀ j, e ≤ j → j < xs.length → xs[j]? = some 255
  last : 0 < e → ∀ z, xs[e - 1]? = some z → z ≠ 255

theorem IsEnd.exists_ (xs : List UInt8) : ∃ e, IsEnd xs e := by
  have h : ∀ m, m ≤ xs.length → (∀ j, m ≤ j → j < xs.length → xs[j]? = some 255) → ∃ e, IsEnd xs e := by
    intro m
    induction m with
    | zero => exact fun _ hb => ⟨0, Nat.zero_le _, hb, fun h => absurd h (by omega)⟩
    | succ m ih =>
      intro hm hb
      by_cases hz : xs[m]? = some 255
      · exact ih (by omega) (fun j h1 h2 => by
          by_cases hj : j = m
          · subst hj; exact hz
          · exact hb j (by omega) h2)
      · exact ⟨m + 1, hm, hb, fun _ z h => by
          rw [Nat.add_sub_cancel] at h
          intro e
          rw [e] at h
          exact hz h⟩
  exact h xs.length (Nat.le_refl _) (fun j h1 h2 => absurd h2 (by omega))

set_option maxHeartbeats 1000000 in
theorem laidEnd_any (A : Option Addr) (n cap : Nat) (xs : List UInt8) (w : World) (hB : ByteSl w Empty A n cap xs) (hm : n ≤ 1048576) (e : Nat) (hE : IsEnd xs e) :
    Calls Try.prog 15 #[.slice A n cap] w fun r w' => r = .returned (.int .i64 (e : Int)) ∧ w = w' := by
  have hl := hB.1
  have hle := hE.le
  rw [hl] at hle
  have HE := Lib.hid hE
  have HB := Lib.hid hB
  have Hl := Lib.hid hl
  clear hE hB hl
  go_enter Try.func15, Try.ntmps15
  go_wp2_with fail
  go_loop [3] (fun v => ∃ k : Nat, e ≤ k ∧ k ≤ n ∧ v = .int .i64 (k : Int)) (fun v => (intOf v).toNat)
  case atStart => exact ⟨n, hle, Nat.le_refl _, rfl⟩
  case round =>
    obtain ⟨k, h1, h2, rfl⟩ := hrel
    rcases Nat.eq_zero_or_pos k with h0 | h0
    · subst h0
      obtain rfl : e = 0 := by omega
      go_wp2
      go_ret
      exact ⟨rfl, rfl⟩
    · obtain ⟨j, rfl⟩ : ∃ j, k = j + 1 := ⟨k - 1, by omega⟩
      obtain ⟨ad, rfl, -, -, hcell⟩ := HB.out.2.2.2 (by omega)
      obtain ⟨x, hx⟩ : ∃ x, xs[j]? = some x := ⟨_, List.getElem?_eq_getElem (by have := Hl.out; omega)⟩
      have hc := hcell j x hx
      have hz := u8_dec x 255 255 rfl
      have hv : ((j + 1 : Nat) : Int) = (j : Int) + 1 := by omega
      rw [hv]
      have Hx := Lib.hid hx
      unfold B8 at hc
      have hcap := HB.out.2.1
      have hcap2 : cap ≤ 9223372036854775807 := by have := HB.out.2.2.1; unfold maxLen at this; omega
      clear hcell hx hv h0
      by_cases h255 : x = 255
      · have hne : e ≠ j + 1 := by
          intro e1
          subst e1
          exact HE.out.last (by omega) x (by rw [Nat.add_sub_cancel]; exact Hx.out) h255
        rw [decide_eq_true h255] at hz
        have Hne := Lib.hid hne
        clear hne h255
        go_wp2
        go_round
        case rel => exact ⟨j, by have := Hne.out; omega, by omega, by go_num⟩
        case measure => simp [intOf]
      · have he : e = j + 1 := by
          rcases Nat.lt_or_ge e (j + 1) with h | h
          · have h3 := HE.out.blank j (by omega) (by have := Hl.out; omega)
            rw [Hx.out] at h3
            cases h3
            exact absurd rfl h255
          · omega
        have He := Lib.hid he
        rw [decide_eq_false h255] at hz
        clear he h255
        go_wp2
        go_ret
        exact ⟨by rw [He.out]; rfl, rfl⟩

end Go.Proofs.Ytidcgobnhfganaa
