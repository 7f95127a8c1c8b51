/- The walks over utf.Encode and the document's Encode. -/
import Derived.Test.YtinkjeifkjfkgaaUd
namespace Go.Proofs.Ytinkjeifkjfkgaa
set_option maxRecDepth 100000
open Go.RowKit

/-- A number of 16 bits as it lies in a row. -/
def cells16 (u : Nat) : List Value := [.int .u16 (u : Int)]
theorem cells16_len (u : Nat) : (cells16 u).length = 1 := rfl
theorem cells16_one (u : Nat) : ∀ v ∈ cells16 u, v.oneCell' = true := by
  intro v hv
  obtain rfl : v = .int .u16 (u : Int) := by simpa [cells16] using hv
  rfl
/-- A text in memory. -/
abbrev T16 (w : World) (A : Option Addr) (n cap : Nat) (l : List Nat) : Prop := RowSl cells16 1 w Empty A n cap l
theorem at16 {w : World} {S : Nat → Prop} {A : Option Addr} {n cap : Nat} {l : List Nat} (h : RowSl cells16 1 w S A n cap l) {k : Nat} (hk : k < n) :
    ∃ b o u, A = some ⟨b, o, none⟩ ∧ l[k]? = some u ∧ b < w.heap.size ∧ w.cell? ⟨b, o + k, none⟩ = some (.int .u16 (u : Int)) := by
  obtain ⟨b, o, f, e, hb, _, hf, hc⟩ := h.at_ hk
  refine ⟨b, o, f, e, hf, hb, ?_⟩
  have := hc 0 (by omega)
  simpa [cells16] using this
theorem own_nil8 (w : World) (base : Nat) : w.ownsRow base 5 1 (.slice none 0 0) 0 (([] : List UInt8).map B8) := ⟨rfl, .inl ⟨rfl, rfl⟩⟩

theorem encT_take (l : List Nat) (k u : Nat) (h : l[k]? = some u) : encT (l.take (k + 1)) = encT (l.take k) ++ encU u := by
  rw [take_one l k u h, encT_snoc]
theorem encT_le (l : List Nat) : (encT l).length ≤ 3 * l.length := by
  induction l with
  | nil => simp [encT]
  | cons u l ih =>
    rw [encT_cons, List.length_append, encU_len]
    have := sizeU_pos u
    simp only [List.length_cons]
    omega



end Go.Proofs.Ytinkjeifkjfkgaa
