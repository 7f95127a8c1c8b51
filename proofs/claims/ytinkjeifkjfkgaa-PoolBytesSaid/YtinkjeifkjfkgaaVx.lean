/- Words for the walk over the document's right (layer 11). -/
import Derived.Test.YtinkjeifkjfkgaaVw
import Derived.Test.YtinkjeifkjfkgaaUh
namespace Go.Proofs.Ytinkjeifkjfkgaa
set_option maxRecDepth 100000
open Go.RowKit

theorem rightR_no {l : List Cst} {k : Nat} {c : Cst} (hc : l[k]? = some c) (h : headR c = false) : rightR l k = false := by
  unfold rightR
  rw [hc]
  simp only
  rw [h]
  rfl
theorem rightR_yes {l : List Cst} {k : Nat} {c : Cst} (hc : l[k]? = some c) (h : headR c = true) : rightR l k = tailR l k c := by
  unfold rightR
  rw [hc]
  simp only
  rw [h]
  rfl
theorem str_ne (s : List UInt8) (h : s ≠ []) : ¬ (strB s).toList = [] := by
  rw [strB_toList]
  exact h
/-- A place of a pool, as the walks over it want it. -/
structure PlaceC (w : World) (b o n cap k : Nat) (l : List Cst) (c : Cst) : Prop where
  pool : PoolSl w (some ⟨b, o, none⟩) n cap l
  get : l[k]? = some c
  lt : b < w.heap.size
  c0 : w.cell? ⟨b, o + k * 5, none⟩ = some (.int .i64 c.tag)
  c1 : w.cell? ⟨b, o + k * 5 + 1, none⟩ = some (.int .i64 c.a)
  c2 : w.cell? ⟨b, o + k * 5 + 2, none⟩ = some (.int .i64 c.b)
  c3 : w.cell? ⟨b, o + k * 5 + 3, none⟩ = some (.int .i64 c.n)
  c4 : w.cell? ⟨b, o + k * 5 + 4, none⟩ = some (.string (strB c.s))
  hn : n ≤ 1000000
  hk : k < n
  ok : c.ok
  short : c.s.length ≤ 100000
theorem decode_c (s : List UInt8) (hs : s.length ≤ 100000) (A : Option Addr) (cap : Nat) (W : World) (hB : ByteSl W Empty A s.length cap s) :
    Calls Try.prog 32 #[.slice A s.length cap] W fun e w' => ∃ u, e = .returned (.tuple #[u, .int .i64 (if (decF s).isSome = true then 0 else 8)]) ∧ Below W.heap.size W w' :=
  (refDecode_any A s.length cap s _ W hB (decF_is s) hs).mono fun e w' h => by
    unfold Decoded at h
    cases hd : decF s with
    | none => rw [hd] at h; exact ⟨_, h.1, h.2⟩
    | some t =>
      rw [hd] at h
      obtain ⟨⟨A, c, he, _⟩, hb⟩ := h
      exact ⟨_, he, hb⟩

end Go.Proofs.Ytinkjeifkjfkgaa
