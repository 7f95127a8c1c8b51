/- SHA-256's rounds in memory. -/
import Derived.Test.YtpcjmicciccihaaDoorZab
import Derived.Test.YtpcjmicciccihaaDoorZac
import Derived.Test.YtpcjmicciccihaaDoorZad
import Derived.Deep.QuietTactic
import Derived.BigQuiet
import Derived.StillTailTactics
namespace Go.Proofs.YtpcjmicciccihaaDoor
set_option maxRecDepth 100000
open Go.RowKit

def wcells (v : W8) : Array Value := #[WV v.a, WV v.b, WV v.c, WV v.d, WV v.e, WV v.f, WV v.g, WV v.h]

set_option maxHeartbeats 2000000 in
theorem round_any (w : World) (g : Nat) (t : TypeId) (v : W8) (x : UInt32) (hb : Blk w g t (wcells v)) :
    Calls Tryd.prog 26 #[.pointer (some ⟨g, 0, none⟩), WV x] w fun e w' => e = .returned (.tuple #[]) ∧ Blk w' g t (wcells (roundF v x)) ∧ Only (· = g) w w' := by
  have h0 : w.cell? ⟨g, 0, none⟩ = some (WV v.a) := hb.cell 0
  have h1 : w.cell? ⟨g, 1, none⟩ = some (WV v.b) := hb.cell 1
  have h2 : w.cell? ⟨g, 2, none⟩ = some (WV v.c) := hb.cell 2
  have h4 : w.cell? ⟨g, 4, none⟩ = some (WV v.e) := hb.cell 4
  have h5 : w.cell? ⟨g, 5, none⟩ = some (WV v.f) := hb.cell 5
  have h6 : w.cell? ⟨g, 6, none⟩ = some (WV v.g) := hb.cell 6
  have h7 : w.cell? ⟨g, 7, none⟩ = some (WV v.h) := hb.cell 7
  have Hb := Lib.hid hb
  clear hb
  unfold WV at *
  go_enter Tryd.func26, Tryd.ntmps26
  go_wp2
  go_quiet (fail)
  rename Nat => q1
  go_wp2
  have h4' : (w.drewN q1).cell? ⟨g, 4, none⟩ = some (.int .u32 (v.e.toNat : Int)) := by simpa using h4
  have h5' : (w.drewN q1).cell? ⟨g, 5, none⟩ = some (.int .u32 (v.f.toNat : Int)) := by simpa using h5
  have h6' : (w.drewN q1).cell? ⟨g, 6, none⟩ = some (.int .u32 (v.g.toNat : Int)) := by simpa using h6
  have h7' : (w.drewN q1).cell? ⟨g, 7, none⟩ = some (.int .u32 (v.h.toNat : Int)) := by simpa using h7
  obtain ⟨w1, hw1⟩ : ∃ w1, w1 = w.drewN q1 := ⟨_, rfl⟩
  rw [← hw1] at h4' h5' h6' h7' ⊢
  go_quiet (fail)
  rename Nat => q2
  go_wp2_with fail
  refine (turns_any v.e 6 11 25 _ _ _ rfl rfl rfl (by omega) (by omega) (by omega) (by omega) (by omega) (by omega) _).mono ?_
  rintro e w2 ⟨rfl, rfl⟩
  unfold WV
  go_wp2_with fail
  refine (turns_any v.a 2 13 22 _ _ _ rfl rfl rfl (by omega) (by omega) (by omega) (by omega) (by omega) (by omega) _).mono ?_
  rintro e w2 ⟨rfl, rfl⟩
  unfold WV
  go_wp2
  rw [t1_int, t2_int]
  obtain ⟨T1, hT1⟩ : ∃ T1, T1 = t1F v x := ⟨_, rfl⟩
  obtain ⟨T2, hT2⟩ : ∃ T2, T2 = t2F v := ⟨_, rfl⟩
  rw [← hT1, ← hT2]
  go_still_tail 6, (by kernel_rfl)
  change wpList _ _ _ _ _ (w.drewN (q1 + q2)).drew
  have hb2 : Blk (w.drewN (q1 + q2)).drew g t (wcells v) := (Hb.out.drewN _).drew
  have ho2 : Only (· = g) w (w.drewN (q1 + q2)).drew := ((Only.refl _ _).drewN _).drew
  generalize (w.drewN (q1 + q2)).drew = w2 at hb2 ho2 ⊢
  have Hb2 := Lib.hid hb2
  have Ho2 := Lib.hid ho2
  clear hb2 ho2
  refine wpList_copy_only rfl (.tmp 72) (.tmp 75) 41 41 rfl 40 Tryd.underlying41 (by kernel_rfl) (some ⟨g, 1, none⟩) (some ⟨g, 0, none⟩) 7 7 8 8 rfl rfl g 1 (wcells v).toList t Hb2.out [WV v.a, WV v.b, WV v.c, WV v.d, WV v.e, WV v.f, WV v.g] rfl ?c1 ?c2 ?c3 ?_
  case c1 =>
    intro _
    refine ⟨rfl, ⟨g, 0, none⟩, rfl, fun j u hj => ?_⟩
    have hj7 : j < 7 := by
      have := (List.getElem?_eq_some_iff.1 hj).1
      simpa using this
    rw [add_off, Hb2.out.cell, Nat.zero_add, ← hj]
    rcases j with _ | _ | _ | _ | _ | _ | _ | j <;> first | rfl | omega
  case c2 => simp [wcells]
  case c3 =>
    intro u hu
    simp only [List.mem_cons, List.not_mem_nil, or_false] at hu
    rcases hu with rfl | rfl | rfl | rfl | rfl | rfl | rfl <;> rfl
  intro w3 hb3 ho3
  have hb3' : Blk w3 g t #[WV v.a, WV v.a, WV v.b, WV v.c, WV v.d, WV v.e, WV v.f, WV v.g] := hb3.out
  have k4 : w3.cell? ⟨g, 4, none⟩ = some (.int .u32 (v.d.toNat : Int)) := hb3'.cell 4
  have k0 : w3.cell? ⟨g, 0, none⟩ = some (.int .u32 (v.a.toNat : Int)) := hb3'.cell 0
  have f4 := hb3'.frozen 4
  have f0 := hb3'.frozen 0
  have ho4 := Lib.hid (Ho2.out.trans ho3)
  have Hb3 := Lib.hid hb3'
  clear hb3 hb3' ho3 Ho2 Hb2 Hb h0 h1 h2 h4 h5 h6 h7 h4' h5' h6' h7' hw1
  go_wp2
  go_still_tail 8, (by kernel_rfl)
  go_wp2
  go_end0
  refine ⟨rfl, ?_, ?_⟩
  · rw [add_int, add_int]
    exact (Hb3.out.drew.set_ 4 (WV (v.d + t1F v x))).set_ 0 (WV (t1F v x + t2F v))
  · exact (ho4.out.drew.setCell (.inl rfl) _).setCell (.inl rfl) _
end Go.Proofs.YtpcjmicciccihaaDoor
