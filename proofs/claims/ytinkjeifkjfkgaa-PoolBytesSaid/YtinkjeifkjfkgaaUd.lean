/- The walks over utf.add and the document's unit: a unit's bytes. -/
import Derived.Test.YtinkjeifkjfkgaaUb
import Derived.Test.YtinkjeifkjfkgaaRw
namespace Go.Proofs.Ytinkjeifkjfkgaa
set_option maxRecDepth 100000
open Go.RowKit

/-- Bytes that a call has put behind bytes of a row made since base. -/
def AddedB (base : Nat) (w w' : World) (k : Nat) (zs : List UInt8) (e : Ending) : Prop := (∃ u, e = .returned u ∧ w'.ownsRow base 5 1 u k (zs.map B8)) ∧ Below base w w'

theorem ByteSl.lit_vals (w : World) (xs : List UInt8) (n : Nat) (vs : Array Value) (hv : vs = cellsB xs) (hn : xs.length = n) (h : n ≤ 3) :
    ByteSl (w.alloc (.cells vs 5)) Empty (some ⟨w.heap.size, 0, none⟩) n n xs := by
  subst hv
  exact ByteSl.lit w _ xs n hn (fun h => h) (by unfold maxLen; omega)
theorem AddedB.mk_ {base : Nat} {w w1 w' : World} {v v' : Value} {k m : Nat} {zs ys : List UInt8} {L : List Value} (hL : L = (zs ++ ys).map B8) (hown : w1.ownsRow base 5 1 v k (zs.map B8)) (hb : Below base w w1) (hbase : base ≤ w1.heap.size)
    (h1 : w'.ownsRow base 5 1 v' (k + m) L) (hg : w1.grownBy w' v.ownBlock) : AddedB base w w' (k + m) (zs ++ ys) (.returned v') :=
  ⟨⟨v', rfl, hL ▸ h1⟩, below_grown hb hbase hg (fun q hq => (hown.lt q hq).1)⟩
theorem b8n (n : Nat) (h : n < 256) : Value.int .u8 (n : Int) = B8 (UInt8.ofNat n) := by unfold B8; rw [u8n _ h]


/-- What the document's unit answers: a unit's bytes, in a block of their own. -/
theorem refUnit_any (u : Nat) (w : World) (hu : u < 65536) :
    Calls Try.prog 41 #[.int .u16 (u : Int)] w fun e w' => e = .returned (.slice (some ⟨w.heap.size, 0, none⟩) (sizeU u) (sizeU u)) ∧ w' = w.alloc (.cells (cellsB (encU u)) 5) := by
  by_cases h1 : 1 ≤ u ∧ u ≤ 127
  · have hs : sizeU u = 1 := by unfold sizeU; rw [if_pos h1]
    have he : encU u = [UInt8.ofNat u] := by unfold encU; rw [if_pos h1]
    have hvs : cellsB [UInt8.ofNat u] = #[Value.int .u8 (u : Int)] := by rw [b8n u (by omega)]; rfl
    rw [hs, he, hvs]
    have a1 : decide ((u : Int) ≥ 1) = true := by simp; omega
    have a2 : decide ((u : Int) ≤ 127) = true := by simp; omega
    clear hs he hvs
    go_enter Try.func41, Try.ntmps41
    go_wp2
    go_ret
    exact ⟨rfl, rfl⟩
  · by_cases h2 : u ≤ 2047
    · have hs : sizeU u = 2 := by unfold sizeU; rw [if_neg h1, if_pos h2]
      have he : encU u = [UInt8.ofNat (192 + u / 64), UInt8.ofNat (128 + u % 64)] := by unfold encU; rw [if_neg h1, if_pos h2]
      have hvs : cellsB [UInt8.ofNat (192 + u / 64), UInt8.ofNat (128 + u % 64)] = #[Value.int .u8 (192 + (u : Int) / 64), Value.int .u8 (128 + (u : Int) % 64)] := by
        have e1 : (192 + (u : Int) / 64) = ((192 + u / 64 : Nat) : Int) := by simp
        have e2 : (128 + (u : Int) % 64) = ((128 + u % 64 : Nat) : Int) := by simp
        rw [e1, e2, b8n _ (by omega), b8n _ (by omega)]
        rfl
      rw [hs, he, hvs]
      clear hs he hvs
      by_cases h0 : u = 0
      · subst h0
        go_enter Try.func41, Try.ntmps41
        go_wp2
        go_ret
        exact ⟨rfl, rfl⟩
      · have a1 : decide ((u : Int) ≥ 1) = true := by simp; omega
        have a2 : decide ((u : Int) ≤ 127) = false := by simp; omega
        go_enter Try.func41, Try.ntmps41
        go_wp2
        go_ret
        exact ⟨rfl, rfl⟩
    · have hs : sizeU u = 3 := by unfold sizeU; rw [if_neg h1, if_neg h2]
      have he : encU u = [UInt8.ofNat (224 + u / 4096), UInt8.ofNat (128 + u / 64 % 64), UInt8.ofNat (128 + u % 64)] := by unfold encU; rw [if_neg h1, if_neg h2]
      have hvs : cellsB [UInt8.ofNat (224 + u / 4096), UInt8.ofNat (128 + u / 64 % 64), UInt8.ofNat (128 + u % 64)] = #[Value.int .u8 (224 + (u : Int) / 4096), Value.int .u8 (128 + (u : Int) / 64 % 64), Value.int .u8 (128 + (u : Int) % 64)] := by
        have e1 : (224 + (u : Int) / 4096) = ((224 + u / 4096 : Nat) : Int) := by simp
        have e2 : (128 + (u : Int) % 64) = ((128 + u % 64 : Nat) : Int) := by simp
        have e3 : (128 + (u : Int) / 64 % 64) = ((128 + u / 64 % 64 : Nat) : Int) := by simp
        rw [e1, e2, e3, b8n _ (by omega), b8n _ (by omega), b8n _ (by omega)]
        rfl
      rw [hs, he, hvs]
      clear hs he hvs
      have a1 : decide ((u : Int) ≥ 1) = true := by simp; omega
      have a2 : decide ((u : Int) ≤ 127) = false := by simp; omega
      go_enter Try.func41, Try.ntmps41
      go_wp2
      go_ret
      exact ⟨rfl, rfl⟩

end Go.Proofs.Ytinkjeifkjfkgaa
