/- The two reads: one code, and the same bytes in rows of their own. -/
import Derived.Test.YtaepdmifenkhcaaP2
namespace Go.Proofs.Ytaepdmifenkhcaa
open Go.RowKit

/-- A read's answer: a row of its own with these bytes, and a code. -/
def Rd (w w' : World) (cd : Int) (n : Nat) (xs : List UInt8) (e1 : Ending) : Prop :=
  ∃ v, e1 = .returned (.tuple #[v, .int .i64 cd]) ∧ w'.ownsRow w.heap.size 5 1 v n (xs.map B8) ∧ Below w.heap.size w w'

theorem Rd.none_ {w : World} {cd : Int} : Rd w w cd 0 [] (.returned (.tuple #[.slice none 0 0, .int .i64 cd])) :=
  ⟨_, rfl, World.ownsRow_nil _ _ _ _, Below.refl _ _⟩

theorem read_pair (p c e p' c' e' : Nat) (f g : Fl) (a m : Int) (hr : Rel f g) (a2 : a ≤ 9223372036854775807) (m2 : m ≤ 9223372036854775807) :
    ∃ (cd : Int) (n : Nat) (xs : List UInt8),
      (∀ W, FlashAt W p c e f → Calls Try.prog 16 #[.pointer (some ⟨p, 0, none⟩), .int .i64 a, .int .i64 m] W fun e1 w' => Rd W w' cd n xs e1) ∧
      (∀ W, RefAt W p' c' e' g → Calls Try.prog 27 #[.pointer (some ⟨p', 0, none⟩), .int .i64 a, .int .i64 m] W fun e1 w' => Rd W w' cd n xs e1) := by
  rcases hu : f.up with _ | _
  · refine ⟨5, 0, [], fun W hf => ?_, fun W hg => ?_⟩
    · refine (read_down p a m W (downAt hf hu)).mono ?_
      rintro e1 w' ⟨rfl, rfl⟩
      exact Rd.none_
    · refine (rread_down p' a m W (rdownAt hg (by rw [← hr.u]; exact hu))).mono ?_
      rintro e1 w' ⟨rfl, rfl⟩
      exact Rd.none_
  · have hgu : g.up = true := by rw [← hr.u]; exact hu
    by_cases ho : a < 0 ∨ m < 0 ∨ ((f.S * f.Z : Nat) : Int) < a + m
    · refine ⟨2, 0, [], fun W hf => ?_, fun W hg => ?_⟩
      · refine (read_out p c e f a m W hf hu a2 m2 ho).mono ?_
        rintro e1 w' ⟨rfl, rfl⟩
        exact Rd.none_
      · refine (rread_out p' c' e' g a m W hg hgu a2 m2 (by rw [← hr.s, ← hr.z]; exact ho)).mono ?_
        rintro e1 w' ⟨rfl, rfl⟩
        exact Rd.none_
    · obtain ⟨k, rfl⟩ := Int.eq_ofNat_of_zero_le (show 0 ≤ a by omega)
      obtain ⟨n, rfl⟩ := Int.eq_ofNat_of_zero_le (show 0 ≤ m by omega)
      have hin : k + n ≤ f.S * f.Z := by omega
      refine ⟨0, n, (f.bs.drop k).take n, fun W hf => read_in p c e k n f W hf hu hin, fun W hg => ?_⟩
      rw [hr.b]
      exact rread_in p' c' e' k n g W hg hgu (by rw [← hr.s, ← hr.z]; exact hin)

theorem St.reading {w W w' : World} {p c e p' c' e' bx n cap : Nat} {box : Array Value} {A : Option Addr} {xs : List UInt8} {f g : Fl} (h : St w p c e p' c' e' bx box A n cap xs f g W) (hb : Below W.heap.size W w') :
    St w p c e p' c' e' bx box A n cap xs f g w' := h.same (Only.of_below hb)
end Go.Proofs.Ytaepdmifenkhcaa
