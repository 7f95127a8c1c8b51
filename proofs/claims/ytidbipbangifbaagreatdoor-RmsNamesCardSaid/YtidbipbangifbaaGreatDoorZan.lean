/- The walks over the document's Parse, where the mark is right; Parse as one answer, the program's and the document's. -/
import Derived.Test.YtidbipbangifbaaGreatDoorZak
import Derived.Deep.RegionHeld3
namespace Go.Proofs.YtidbipbangifbaaGreatDoor
set_option maxRecDepth 100000
open Go.RowKit


/-! ### Parse as one answer -/
theorem two_of {xs : List UInt8} (h : 12 ≤ xs.length) : ∃ x y, xs[0]? = some x ∧ xs[1]? = some y := ⟨_, _, List.getElem?_eq_getElem (by omega), List.getElem?_eq_getElem (by omega)⟩

theorem parse_any (A : Option Addr) (n cap : Nat) (xs : List UInt8) (w : World) (hB : ByteSl w Empty A n cap xs) (hM : Mark w) (hn : n ≤ 1048576) :
    Calls Tryz.prog 119 #[.slice A n cap] w fun e w' => ParseOk xs w w' e := by
  by_cases h : n < 12
  · exact parse_short A n cap xs w hB.1 h
  · obtain ⟨⟨b, o, sp⟩, rfl, -, -, -⟩ := hB.2.2.2 (by omega)
    obtain ⟨x, y, h0, h1⟩ := two_of (xs := xs) (by have := hB.1; omega)
    by_cases hm : x = 67 ∧ y = 66
    · obtain ⟨rfl, rfl⟩ := hm
      by_cases hs : getV ((xs.drop 6).take 2) = (crc16 (xs.take 6)).toNat
      · exact parse_yes b o sp n cap xs w hB hM (by omega) hn h0 h1 hs
      · exact parse_sum b o sp n cap xs w hB hM (by omega) hn h0 h1 hs
    · exact parse_form ⟨b, o, sp⟩ n cap xs x y w hB hM (by omega) hn h0 h1 hm


end Go.Proofs.YtidbipbangifbaaGreatDoor
