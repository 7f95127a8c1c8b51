/- A flash with no fuse; bytes that are cleared by bytes. Plain lemmas. -/
import Derived.Test.YtdhnbeimkeoefaaDoorFl
namespace Go.Proofs.YtdhnbeimkeoefaaDoor
open Go.RowKit

theorem burn_none {fl : Fl} (h : fl.fuse = -1) : fl.burn = fl := by
  unfold Fl.burn
  rw [if_neg (by omega), if_neg (by omega)]
theorem many_none {fl : Fl} (h : fl.fuse = -1) (n : Nat) : fl.many n = n := by
  unfold Fl.many
  rw [if_neg (by omega)]
theorem code_none {fl : Fl} (h : fl.fuse = -1) : fl.code = 0 := by
  unfold Fl.code
  rw [if_neg (by omega)]
theorem and_full (x : UInt8) : 255 &&& x = x := by
  apply UInt8.toBitVec_inj.1
  show BitVec.allOnes 8 &&& x.toBitVec = x.toBitVec
  exact BitVec.allOnes_and
theorem and_back (b z : UInt8) : (b &&& z) &&& b = b &&& z := by
  rw [UInt8.and_comm (b &&& z) b, ← UInt8.and_assoc, UInt8.and_self]

/-- A byte that has no bit beyond the flash's: what is cleared by it is it. -/
theorem and_fit {b x : UInt8} (h : x &&& ~~~b = 0) : b &&& x = x := by
  have e : x = (x &&& b) ||| (x &&& ~~~b) := by
    apply UInt8.toBitVec_inj.1
    show x.toBitVec = (x.toBitVec &&& b.toBitVec) ||| (x.toBitVec &&& ~~~b.toBitVec)
    ext i hi
    simp only [BitVec.getElem_or, BitVec.getElem_and, BitVec.getElem_not]
    cases x.toBitVec[i] <;> cases b.toBitVec[i] <;> rfl
  rw [h, UInt8.or_zero] at e
  rw [UInt8.and_comm]
  exact e.symm

end Go.Proofs.YtdhnbeimkeoefaaDoor
