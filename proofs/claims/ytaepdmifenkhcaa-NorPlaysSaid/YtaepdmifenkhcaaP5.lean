/- 'do', whatever the act is. -/
import Derived.Test.YtaepdmifenkhcaaP4
namespace Go.Proofs.Ytaepdmifenkhcaa
open Go.RowKit

theorem do_any (p c e p' c' e' n cap : Nat) (f g : Fl) (K a m k : Int) (mk : UInt8) (A : Option Addr) (xs : List UInt8) (w : World) (hr : Rel f g) (hf : FlashAt w p c e f) (hg : RefAt w p' c' e' g) (hs : ByteSl w (Six p c e p' c' e') A n cap xs)
    (sep : ∀ k, Three p c e k → ¬ Three p' c' e' k) (K1 : 0 ≤ K) (K2 : K ≤ 255) (a2 : a ≤ 9223372036854775807) (m1 : -9223372036854775808 ≤ m) (m2 : m ≤ 9223372036854775807) (k1 : -9223372036854775808 ≤ k) (k2 : k ≤ 9223372036854775807) :
    Calls Try.prog 13 #[.pointer (some ⟨p, 0, none⟩), .pointer (some ⟨p', 0, none⟩), .agg (actBox K a m A n cap k mk)] w fun e1 w' => DoOk w w' p c e p' c' e' f e1 := by
  by_cases h0 : K % 5 = 0
  · exact do_program p c e p' c' e' n cap f g K a m k mk A xs w hr hf hg hs sep K1 K2 h0 a2
  · by_cases h1 : K % 5 = 1
    · exact do_erase p c e p' c' e' n cap f g K a m k mk A xs w hr hf hg hs sep K1 K2 h1 hf.ok
    · by_cases h2 : K % 5 = 2
      · exact do_read p c e p' c' e' n cap f g K a m k mk A xs w hr hf hg hs sep K1 K2 h2 a2 m2
      · by_cases h3 : K % 5 = 3
        · exact do_fuse p c e p' c' e' n cap f g K a m k mk A xs w hr hf hg hs sep K1 K2 h3 m1 m2 k1 k2
        · exact do_reset p c e p' c' e' n cap f g K a m k mk A xs w hr hf hg hs sep K1 K2 (by omega)

end Go.Proofs.Ytaepdmifenkhcaa
