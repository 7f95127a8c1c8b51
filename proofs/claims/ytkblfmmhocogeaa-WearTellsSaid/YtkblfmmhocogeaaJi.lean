/- The walk over the document's Oldest. -/
import Derived.Test.YtkblfmmhocogeaaJg
import Derived.Deep.QuietTactic
import Derived.BigQuiet
namespace Go.Proofs.Ytkblfmmhocogeaa
open Go.RowKit

set_option maxHeartbeats 4000000 in
set_option maxRecDepth 4000 in
theorem refOldest_any (A : Option Addr) (n cap : Nat) (l : List Sc) (w : World) (hS : Secs w Empty A n cap l) (hm : n ≤ 1048576) (r : Option Nat) (hr : best usedB Sc.q l n = r) :
    Calls Try.prog 11 #[.slice A n cap] w fun e w' => e = .returned (.tuple #[placeV r, .bool r.isSome]) ∧ Below w.heap.size w w' := by
  have HS := Lib.hid hS
  have Hr := Lib.hid hr
  have hcap := hS.2.1
  have hcap2 : cap ≤ 9223372036854775807 := by have := hS.2.2.1; unfold maxLen at this; omega
  clear hS hr
  go_enter Try.func11, Try.ntmps11
  go_wp2_with fail
  go_loopw [4, 9] (fun v6 v wr => ∃ (i : Nat) (o : Option Nat), i ≤ n ∧ v6 = .int .i64 (idxV o) ∧ v = .int .i64 (i : Int) ∧ Hid (best usedB Sc.q l i = o) ∧ Hid (Only Empty w wr)) (fun _ v _ => n - (intOf v).toNat)
  case atStart => exact ⟨0, none, Nat.zero_le _, rfl, rfl, Lib.hid rfl, Lib.hid (Only.refl _ _)⟩
  case round =>
    obtain ⟨i, o, hi, rfl, rfl, Ho, HB⟩ := hrel
    by_cases hlt : i < n
    · obtain ⟨b, f0, rfl, hb, -, hcl⟩ := HS.out.2.2.2 (by omega)
      obtain ⟨f, hf⟩ : ∃ f, l[i]? = some f := ⟨_, List.getElem?_eq_getElem (by have := HS.out.1; omega)⟩
      have hll := HS.out.1
      have hc := hcl i f hf
      have hbest : best usedB Sc.q l (i + 1) = stepB usedB Sc.q l o i := by show stepB _ _ _ (best _ _ _ _) _ = _; rw [Ho.out]
      have hlo := best_lt Ho.out (by omega)
      obtain ⟨st, q, er⟩ := f
      have d0 : wr.cell? ⟨b, f0 + i * 3, none⟩ = some (.int .i64 st) := (HB.out.cell (p := ⟨b, f0 + i * 3 + 0, none⟩) hb (fun h => h)).trans (hc 0 (by omega))
      have d1 : wr.cell? ⟨b, f0 + i * 3 + 1, none⟩ = some (.int .u32 q) := (HB.out.cell (p := ⟨b, f0 + i * 3 + 1, none⟩) hb (fun h => h)).trans (hc 1 (by omega))
      have d2 : wr.cell? ⟨b, f0 + i * 3 + 2, none⟩ = some (.int .i64 er) := (HB.out.cell (p := ⟨b, f0 + i * 3 + 2, none⟩) hb (fun h => h)).trans (hc 2 (by omega))
      have HO1 := Lib.hid (HB.out.alloc (.cells #[.int .i64 st, .int .u32 q, .int .i64 er] 33))
      have fin : ∀ nq, Only Empty w ((wr.alloc (.cells #[.int .i64 st, .int .u32 q, .int .i64 er] 33)).drewN nq) := fun nq => HO1.out.drewN nq
      have Hfin := Lib.hid fin
      clear fin
      by_cases hu : st = 2
      · subst hu
        have hmay : usedB ⟨2, q, er⟩ = true := rfl
        rcases o with _ | p
        · rw [stepB_first hf hmay] at hbest
          have Hbest := Lib.hid hbest
          have hix : idxV none = -1 := rfl
          rw [hix]
          clear hc hcl hf hbest hlo hll hmay hix
          go_wp2_with fail
          go_quiet (fail)
          go_wp2
          go_roundw
          case rel => exact ⟨i + 1, some i, by omega, rfl, by go_num, Hbest, Lib.hid (Hfin.out _)⟩
          case measure => simp [intOf]; omega
        · obtain ⟨t, hp, ht⟩ : ∃ t, p < i ∧ l[p]? = some t := by
            rcases hlo with h | ⟨p', t, h, h1, h2⟩
            · cases h
            · cases h
              exact ⟨t, h1, h2⟩
          have hc2 := hcl p t ht
          obtain ⟨st2, q2, er2⟩ := t
          have e1 : (wr.alloc (.cells #[.int .i64 2, .int .u32 q, .int .i64 er] 33)).cell? ⟨b, f0 + p * 3 + 1, none⟩ = some (.int .u32 q2) := (HO1.out.cell (p := ⟨b, f0 + p * 3 + 1, none⟩) hb (fun h => h)).trans (hc2 1 (by omega))
          have hpn : (p : Int) < (n : Int) := by omega
          have hp0 : (0 : Int) ≤ (p : Int) := by omega
          have hp1 : ¬ (p : Int) < (0 : Int) := by omega
          have hd : decide ((p : Int) < (0 : Int)) = false := decide_eq_false hp1
          have hix : idxV (some p) = (p : Int) := rfl
          rw [hix]
          by_cases hk : q < q2
          · rw [stepB_less hf hmay ht hk] at hbest
            have Hbest := Lib.hid hbest
            clear hc hcl hf hbest hlo hll hmay hix ht hc2
            go_wp2_with fail
            go_quiet (fail)
            go_wp2
            go_roundw
            case rel => exact ⟨i + 1, some i, by omega, rfl, by go_num, Hbest, Lib.hid (Hfin.out _)⟩
            case measure => simp [intOf]; omega
          · rw [stepB_more hf hmay ht hk] at hbest
            have Hbest := Lib.hid hbest
            clear hc hcl hf hbest hlo hll hmay hix ht hc2
            go_wp2_with fail
            go_quiet (fail)
            go_wp2
            go_roundw
            case rel => exact ⟨i + 1, some p, by omega, rfl, by go_num, Hbest, Lib.hid (Hfin.out _)⟩
            case measure => simp [intOf]; omega
      · have hmay : usedB ⟨st, q, er⟩ = false := by unfold usedB; simpa using hu
        have q2 : (st == 2) = false := by simpa using hu
        rw [stepB_no hf hmay] at hbest
        have Hbest := Lib.hid hbest
        clear hc hcl hf hbest hlo hll hmay hu
        go_wp2_with fail
        go_quiet (fail)
        go_wp2
        go_roundw
        case rel => exact ⟨i + 1, o, by omega, rfl, by go_num, Hbest, Lib.hid (Hfin.out _)⟩
        case measure => simp [intOf]; omega
    · obtain rfl : i = n := by omega
      have Hr2 := Ho.out.symm.trans Hr.out
      subst Hr2
      have hfin := HB.out.below (Nat.le_refl _) (fun _ _ h => h)
      have HF := Lib.hid hfin
      clear hfin
      cases o with
      | none =>
        have hix : idxV none = -1 := rfl
        rw [hix]
        go_wp2_with fail
        refine bodyPost_ret (v := .tuple #[placeV none, .bool false]) (by simp [results, Try.results11, go_sem, placeV]) rfl ?_
        exact ⟨rfl, HF.out⟩
      | some p =>
        have hix : idxV (some p) = (p : Int) := rfl
        rw [hix]
        have hp0 : (0 : Int) ≤ (p : Int) := by omega
        have hp1 : ¬ (p : Int) < (0 : Int) := by omega
        go_wp2_with fail
        refine bodyPost_ret (v := .tuple #[placeV (some p), .bool true]) (by simp [results, Try.results11, go_sem, placeV]) rfl ?_
        exact ⟨rfl, HF.out⟩

end Go.Proofs.Ytkblfmmhocogeaa
