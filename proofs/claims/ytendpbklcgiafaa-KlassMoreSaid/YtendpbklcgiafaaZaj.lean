/- The walks over utf.add and the document's unit: a unit's bytes. -/
import Derived.Test.YtendpbklcgiafaaZai
import Derived.Test.YtendpbklcgiafaaZac
namespace Go.Proofs.Ytendpbklcgiafaa
set_option maxRecDepth 100000
open Go.RowKit

/-- Bytes that a call has put behind bytes of a row made since base. -/
def AddedB (base : Nat) (w w' : World) (k : Nat) (zs : List UInt8) (e : Ending) : Prop := (∃ u, e = .returned u ∧ w'.ownsRow base 5 1 u k (zs.map B8)) ∧ Below base w w'

theorem ByteSl.lit_vals (w : World) (xs : List UInt8) (n : Nat) (vs : Array Value) (hv : vs = cellsB xs) (hn : xs.length = n) (h : n ≤ 3) :
    ByteSl (w.alloc (.cells vs 5)) Empty (some ⟨w.heap.size, 0, none⟩) n n xs := by
  subst hv
  exact ByteSl.lit w _ xs n hn (fun h => h) (by unfold maxLen; omega)
theorem AddedB.mk_ {base : Nat} {w w1 w' : World} {v v' : Value} {k m : Nat} {zs ys : List UInt8} {L : List Value} (hL : L = (zs ++ ys).map B8) (hown : w1.ownsRow base 5 1 v k (zs.map B8)) (hb : Below base w w1) (hbase : base ≤ w1.heap.size)
    (h1 : w'.ownsRow base 5 1 v' (k + m) L) (hg : w1.grownBy w' v.ownBlock) : AddedB base w w' (k + m) (zs ++ ys) (.returned v') :=
  ⟨⟨v', rfl, hL ▸ h1⟩, below_grown hb hbase hg (fun q hq => (hown.lt q hq).1)⟩
theorem b8n (n : Nat) (h : n < 256) : Value.int .u8 (n : Int) = B8 (UInt8.ofNat n) := by unfold B8; rw [u8n _ h]


/-- What the document's unit answers: a unit's bytes, in a block of their own. -/
theorem refUnit_any (u : Nat) (w : World) (hu : u < 65536) :
    Calls Try.prog 47 #[.int .u16 (u : Int)] w fun e w' => e = .returned (.slice (some ⟨w.heap.size, 0, none⟩) (sizeU u) (sizeU u)) ∧ w' = w.alloc (.cells (cellsB (encU u)) 5) := by
  by_cases h1 : 1 ≤ u ∧ u ≤ 127
  · have hs : sizeU u = 1 := by unfold sizeU; rw [if_pos h1]
    have he : encU u = [UInt8.ofNat u] := by unfold encU; rw [if_pos h1]
    have hvs : cellsB [UInt8.ofNat u] = #[Value.int .u8 (u : Int)] := by rw [b8n u (by omega)]; rfl
    rw [hs, he, hvs]
    have a1 : decide ((u : Int) ≥ 1) = true := by simp; omega
    have a2 : decide ((u : Int) ≤ 127) = true := by simp; omega
    clear hs he hvs
    go_enter Try.func47, Try.ntmps47
    go_wp2
    go_ret
    exact ⟨rfl, rfl⟩
  · by_cases h2 : u ≤ 2047
    · have hs : sizeU u = 2 := by unfold sizeU; rw [if_neg h1, if_pos h2]
      have he : encU u = [UInt8.ofNat (192 + u / 64), UInt8.ofNat (128 + u % 64)] := by unfold encU; rw [if_neg h1, if_pos h2]
      have hvs : cellsB [UInt8.ofNat (192 + u / 64), UInt8.ofNat (128 + u % 64)] = #[Value.int .u8 (192 + (u : Int) / 64), Value.int .u8 (128 + (u : Int) % 64)] := by
        have e1 : (192 + (u : Int) / 64) = ((192 + u / 64 : Nat) : Int) := by simp
        have e2 : (128 + (u : Int) % 64) = ((128 + u % 64 : Nat) : Int) := by simp
        rw [e1, e2, b8n _ (by omega), b8n _ (by omega)]
        rfl
      rw [hs, he, hvs]
      clear hs he hvs
      by_cases h0 : u = 0
      · subst h0
        go_enter Try.func47, Try.ntmps47
        go_wp2
        go_ret
        exact ⟨rfl, rfl⟩
      · have a1 : decide ((u : Int) ≥ 1) = true := by simp; omega
        have a2 : decide ((u : Int) ≤ 127) = false := by simp; omega
        go_enter Try.func47, Try.ntmps47
        go_wp2
        go_ret
        exact ⟨rfl, rfl⟩
    · have hs : sizeU u = 3 := by unfold sizeU; rw [if_neg h1, if_neg h2]
      have he : encU u = [UInt8.ofNat (224 + u / 4096), UInt8.ofNat (128 + u / 64 % 64), UInt8.ofNat (128 + u % 64)] := by unfold encU; rw [if_neg h1, if_neg h2]
      have hvs : cellsB [UInt8.ofNat (224 + u / 4096), UInt8.ofNat (128 + u / 64 % 64), UInt8.ofNat (128 + u % 64)] = #[Value.int .u8 (224 + (u : Int) / 4096), Value.int .u8 (128 + (u : Int) / 64 % 64), Value.int .u8 (128 + (u : Int) % 64)] := by
        have e1 : (224 + (u : Int) / 4096) = ((224 + u / 4096 : Nat) : Int) := by simp
        have e2 : (128 + (u : Int) % 64) = ((128 + u % 64 : Nat) : Int) := by simp
        have e3 : (128 + (u : Int) / 64 % 64) = ((128 + u / 64 % 64 : Nat) : Int) := by simp
        rw [e1, e2, e3, b8n _ (by omega), b8n _ (by omega), b8n _ (by omega)]
        rfl
      rw [hs, he, hvs]
      clear hs he hvs
      have a1 : decide ((u : Int) ≥ 1) = true := by simp; omega
      have a2 : decide ((u : Int) ≤ 127) = false := by simp; omega
      go_enter Try.func47, Try.ntmps47
      go_wp2
      go_ret
      exact ⟨rfl, rfl⟩

end Go.Proofs.Ytendpbklcgiafaa

/- The walks over utf.Encode and the document's Encode. -/
namespace Go.Proofs.Ytendpbklcgiafaa
set_option maxRecDepth 100000
open Go.RowKit

/-- A number of 16 bits as it lies in a row. -/
def cells16 (u : Nat) : List Value := [.int .u16 (u : Int)]
theorem cells16_len (u : Nat) : (cells16 u).length = 1 := rfl
theorem cells16_one (u : Nat) : ∀ v ∈ cells16 u, v.oneCell' = true := by
  intro v hv
  obtain rfl : v = .int .u16 (u : Int) := by simpa [cells16] using hv
  rfl
/-- A text in memory. -/
abbrev T16 (w : World) (A : Option Addr) (n cap : Nat) (l : List Nat) : Prop := RowSl cells16 1 w Empty A n cap l
theorem at16 {w : World} {S : Nat → Prop} {A : Option Addr} {n cap : Nat} {l : List Nat} (h : RowSl cells16 1 w S A n cap l) {k : Nat} (hk : k < n) :
    ∃ b o u, A = some ⟨b, o, none⟩ ∧ l[k]? = some u ∧ b < w.heap.size ∧ w.cell? ⟨b, o + k, none⟩ = some (.int .u16 (u : Int)) := by
  obtain ⟨b, o, f, e, hb, _, hf, hc⟩ := h.at_ hk
  refine ⟨b, o, f, e, hf, hb, ?_⟩
  have := hc 0 (by omega)
  simpa [cells16] using this
theorem own_nil8 (w : World) (base : Nat) : w.ownsRow base 5 1 (.slice none 0 0) 0 (([] : List UInt8).map B8) := ⟨rfl, .inl ⟨rfl, rfl⟩⟩

theorem encT_take (l : List Nat) (k u : Nat) (h : l[k]? = some u) : encT (l.take (k + 1)) = encT (l.take k) ++ encU u := by
  rw [take_one l k u h, encT_snoc]
theorem encT_le (l : List Nat) : (encT l).length ≤ 3 * l.length := by
  induction l with
  | nil => simp [encT]
  | cons u l ih =>
    rw [encT_cons, List.length_append, encU_len]
    have := sizeU_pos u
    simp only [List.length_cons]
    omega



end Go.Proofs.Ytendpbklcgiafaa
