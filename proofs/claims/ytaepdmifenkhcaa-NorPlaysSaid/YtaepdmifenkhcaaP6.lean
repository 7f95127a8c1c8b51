/- 'few': a look at the acts. -/
import Derived.Test.YtaepdmifenkhcaaP5
namespace Go.Proofs.Ytaepdmifenkhcaa
open Go.RowKit

set_option maxRecDepth 100000 in
set_option maxHeartbeats 4000000 in
theorem few_any (b o n cap : Nat) (w : World) (hn : n ≤ 9223372036854775807) (K a m k : Nat → Int) (mk : Nat → UInt8) (A : Nat → Option Addr) (ln cp : Nat → Nat)
    (hc : ∀ i, i < n → ∀ j, j < 6 → w.cell? ⟨b, o + i * 6 + j, none⟩ = (actBox (K i) (a i) (m i) (A i) (ln i) (cp i) (k i) (mk i))[j]?) (hb : b < w.heap.size) :
    Calls Try.prog 11 #[.slice (some ⟨b, o, none⟩) n cap] w fun e1 w' => ((e1 = .returned (.bool true) ∧ ∀ i, i < n → ln i ≤ 300) ∨ e1 = .returned (.bool false)) ∧ Below w.heap.size w w' := by
  go_enter Try.func11, Try.ntmps11
  go_wp2_with fail
  go_loopw [7] (fun v wr => ∃ i : Nat, i ≤ n ∧ v = .int .i64 (i : Int) ∧ Below w.heap.size w wr ∧ ∀ j, j < i → ln j ≤ 300) (fun v _ => n - (intOf v).toNat)
  case atStart => exact ⟨0, Nat.zero_le _, rfl, Below.refl _ _, fun j hj => absurd hj (by omega)⟩
  case round =>
    obtain ⟨i, hi, rfl, hB, hall⟩ := hrel
    have hw : ∀ j, j < 6 → i < n → wr.cell? ⟨b, o + i * 6 + j, none⟩ = (actBox (K i) (a i) (m i) (A i) (ln i) (cp i) (k i) (mk i))[j]? := fun j hj hin => by
      rw [← hc i hin j hj]
      exact World.cell?_of_block (w := w) (hB.block b hb)
    have d0 : i < n → wr.cell? ⟨b, o + i * 6, none⟩ = some (.int .u8 (K i)) := hw 0 (by decide)
    have d1 : i < n → wr.cell? ⟨b, o + i * 6 + 1, none⟩ = some (.int .i64 (a i)) := hw 1 (by decide)
    have d2 : i < n → wr.cell? ⟨b, o + i * 6 + 2, none⟩ = some (.int .i64 (m i)) := hw 2 (by decide)
    have d3 : i < n → wr.cell? ⟨b, o + i * 6 + 3, none⟩ = some (.slice (A i) (ln i) (cp i)) := hw 3 (by decide)
    have d4 : i < n → wr.cell? ⟨b, o + i * 6 + 4, none⟩ = some (.int .i64 (k i)) := hw 4 (by decide)
    have d5 : i < n → wr.cell? ⟨b, o + i * 6 + 5, none⟩ = some (.int .u8 ((mk i).toNat : Int)) := hw 5 (by decide)
    clear hw
    have Hc := Lib.hid hc
    clear hc
    go_wp2
    · go_ret
      exact ⟨Or.inr rfl, hB.alloc hB.size _⟩
    · go_roundw
      case rel => exact ⟨i + 1, by omega, by go_num, hB.alloc hB.size _, fun j hj => by
          by_cases hji : j = i
          · subst hji; omega
          · exact hall j (by omega)⟩
      case measure => simp [intOf]; omega
    · go_ret
      by_cases h100 : (n : Int) ≤ 100
      · exact ⟨Or.inl ⟨by simp [h100], fun j hj => hall j (by omega)⟩, hB⟩
      · exact ⟨Or.inr (by simp [h100]), hB⟩

theorem few_nil (L : Option Addr) (cap : Nat) (w : World) : Calls Try.prog 11 #[.slice L 0 cap] w fun e1 w' => (e1 = .returned (.bool true) ∨ e1 = .returned (.bool false)) ∧ Below w.heap.size w w' := by
  go_enter Try.func11, Try.ntmps11
  go_wp2_with fail
  go_loopw [7] (fun v wr => v = .int .i64 0 ∧ wr = w) (fun _ _ => 0)
  case atStart => exact ⟨rfl, rfl⟩
  case round =>
    obtain ⟨rfl, rfl⟩ := hrel
    go_wp2
    go_ret
    exact ⟨Or.inl rfl, Below.refl _ _⟩
end Go.Proofs.Ytaepdmifenkhcaa
