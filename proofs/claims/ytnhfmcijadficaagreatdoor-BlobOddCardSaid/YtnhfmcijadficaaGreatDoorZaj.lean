/- The walks over cmp.Compare at numbers of 32 bits, over the comparison of usedRow, over the stable sort of a short row. -/
import Derived.Test.YtnhfmcijadficaaGreatDoorZag
import Derived.Test.YtnhfmcijadficaaGreatDoorZaf
import Derived.Test.YtnhfmcijadficaaGreatDoorZah
import Derived.Deep.QuietTactic
import Derived.BigQuiet
namespace Go.Proofs.YtnhfmcijadficaaGreatDoor
set_option maxRecDepth 100000
open Go.RowKit Go.Sort

def cf32 (x y : Int) : Int := if x < y then -1 else if y < x then 1 else 0
theorem nan32 (x : Int) (w : World) : Calls Tryz.prog 113 #[.int .u32 x] w fun e w' => e = .returned (.bool false) ∧ w = w' := by
  go_enter Tryz.func113, Tryz.ntmps113
  go_wp2
  go_ret
  exact ⟨by simp, rfl⟩
theorem compare32 (x y : Int) (w : World) : Calls Tryz.prog 73 #[.int .u32 x, .int .u32 y] w fun e w' => e = .returned (.int .i64 (cf32 x y)) ∧ w = w' := by
  have H1 := Lib.hid (nan32 x w)
  have H2 := Lib.hid (nan32 y w)
  by_cases h1 : x < y
  · have he : cf32 x y = -1 := by unfold cf32; rw [if_pos h1]
    rw [he]
    go_enter Tryz.func73, Tryz.ntmps73
    go_wp2_with fail
    refine H1.out.mono ?_
    rintro e1 w1 ⟨rfl, rfl⟩
    go_wp2_with fail
    refine H2.out.mono ?_
    rintro e1 w1 ⟨rfl, rfl⟩
    go_wp2_with fail
    go_ret
    exact ⟨rfl, rfl⟩
  · by_cases h2 : y < x
    · have he : cf32 x y = 1 := by unfold cf32; rw [if_neg h1, if_pos h2]
      rw [he]
      go_enter Tryz.func73, Tryz.ntmps73
      go_wp2_with fail
      refine H1.out.mono ?_
      rintro e1 w1 ⟨rfl, rfl⟩
      go_wp2_with fail
      refine H2.out.mono ?_
      rintro e1 w1 ⟨rfl, rfl⟩
      go_wp2_with fail
      go_ret
      exact ⟨rfl, rfl⟩
    · have he : cf32 x y = 0 := by unfold cf32; rw [if_neg h1, if_neg h2]
      rw [he]
      go_enter Tryz.func73, Tryz.ntmps73
      go_wp2_with fail
      refine H1.out.mono ?_
      rintro e1 w1 ⟨rfl, rfl⟩
      go_wp2_with fail
      refine H2.out.mono ?_
      rintro e1 w1 ⟨rfl, rfl⟩
      go_wp2_with fail
      go_ret
      exact ⟨rfl, rfl⟩

/-- What the comparison of usedRow reads: the box of the sectors, their row. -/
structure CmpAt (W : World) (g b o : Nat) (n cap : Nat) (l : List Sc) : Prop where
  box : W.cell? ⟨g, 0, none⟩ = some (.slice (some ⟨b, o, none⟩) n cap)
  gl : g < W.heap.size
  bl : b < W.heap.size
  row : ∀ (i : Nat) (s : Sc), l[i]? = some s → W.cell? ⟨b, o + i * 3 + 1, none⟩ = some (.int .u32 s.q)
theorem usedCmp_any (W : World) (g b o n cap : Nat) (l : List Sc) (x y : Nat) (sx sy : Sc) (h : CmpAt W g b o n cap l) (hn : n ≤ cap) (hcap : cap ≤ 9223372036854775807) (hx : l[x]? = some sx) (hy : l[y]? = some sy) (hxn : x < n) (hyn : y < n) :
    Calls Tryz.prog 72 #[.int .i64 (x : Int), .int .i64 (y : Int), .pointer (some ⟨g, 0, none⟩)] W fun e w' => e = .returned (.int .i64 (cf32 sx.q sy.q)) ∧ ∃ q, w' = W.drewN q := by
  have c0 := h.box
  have gl := h.gl
  have bl := h.bl
  have x1 := h.row x sx hx
  have y1 := h.row y sy hy
  have hxI : (x : Int) < (n : Int) := by omega
  have hyI : (y : Int) < (n : Int) := by omega
  have Hc := Lib.hid (fun V => compare32 sx.q sy.q V)
  clear h hx hy
  go_enter Tryz.func72, Tryz.ntmps72
  go_wp2_with fail
  go_quiet ((go_at_call 73; exact Calls.quiet_of_same ((Hc.out _).mono fun _ _ ⟨h1, h2⟩ => ⟨h1, h2.symm⟩)))
  go_wp2_with fail
  go_ret
  exact ⟨rfl, _, rfl⟩

end Go.Proofs.YtnhfmcijadficaaGreatDoor
