/- Of wear's Next and Oldest, and of the document's: contracts. -/
import Derived.Test.YtidbipbangifbaaGreatDoorZaz
import Derived.BigQuiet
namespace Go.Proofs.YtidbipbangifbaaGreatDoor
set_option maxRecDepth 100000
open Go.RowKit

theorem next_any (A : Option Addr) (n cap : Nat) (l : List Sc) (lim : Int) (w : World) (hS : Secs w Empty A n cap l) (hm : n ≤ 1048576) (r : Option Nat) (hr : best (opensB lim) Sc.er l n = r) :
    Calls Tryz.prog 165 #[.slice A n cap, .int .i64 lim] w fun e w' => e = .returned (.tuple #[placeV r, .bool r.isSome]) ∧ Below w.heap.size w w' := by
  have HS := Lib.hid hS
  have Hr := Lib.hid hr
  clear hS hr
  go_enter Tryz.func165, Tryz.ntmps165
  go_wp2_with fail
  refine (canOpen_any lim _).mono ?_
  rintro e1 w1 ⟨rfl, hb1, hk1⟩
  have HB := Lib.hid hb1
  have HK := Lib.hid hk1
  have HS1 := Lib.hid (HS.out.only (Only.of_below (S := Empty) hb1) (fun _ _ h => h))
  clear hb1 hk1
  go_wp2_with fail
  refine (leastI_any A n cap l lim w.heap.size w1 HS1.out HK.out hm r Hr.out).mono ?_
  rintro e2 w2 ⟨rfl, hb2⟩
  have HB2 := Lib.hid (HB.out.trans (hb2.mono HB.out.size))
  clear hb2
  unfold placeV
  go_wp2_with fail
  refine bodyPost_ret (v := .tuple #[placeV r, .bool r.isSome]) (by simp [results, Tryz.results165, go_sem, placeV]) rfl ?_
  exact ⟨rfl, HB2.out⟩

theorem oldest_any (A : Option Addr) (n cap : Nat) (l : List Sc) (w : World) (hS : Secs w Empty A n cap l) (hm : n ≤ 1048576) (r : Option Nat) (hr : best usedB Sc.q l n = r) :
    Calls Tryz.prog 168 #[.slice A n cap] w fun e w' => e = .returned (.tuple #[placeV r, .bool r.isSome]) ∧ Below w.heap.size w w' := by
  have HS := Lib.hid hS
  have Hr := Lib.hid hr
  clear hS hr
  go_enter Tryz.func168, Tryz.ntmps168
  go_wp2_with fail
  refine (leastU_any A n cap l w HS.out hm r Hr.out).mono ?_
  rintro e2 w2 ⟨rfl, hb2⟩
  have HB2 := Lib.hid hb2
  clear hb2
  unfold placeV
  go_wp2_with fail
  refine bodyPost_ret (v := .tuple #[placeV r, .bool r.isSome]) (by simp [results, Tryz.results168, go_sem, placeV]) rfl ?_
  exact ⟨rfl, HB2.out⟩

end Go.Proofs.YtidbipbangifbaaGreatDoor
