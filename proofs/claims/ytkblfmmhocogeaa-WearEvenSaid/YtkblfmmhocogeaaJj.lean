/- The laws' sectors that are right, and the calls whose answers are fixed. -/
import Derived.Test.YtkblfmmhocogeaaJe
import Derived.Test.YtkblfmmhocogeaaJf
import Derived.Test.YtkblfmmhocogeaaJh
import Derived.Test.YtkblfmmhocogeaaJk
namespace Go.Proofs.Ytkblfmmhocogeaa
open Go.RowKit

def erOk (s : Sc) : Bool := decide (0 ≤ s.er) && decide (s.er ≤ 1048576)
def rightB (l : List Sc) : Bool := l.all erOk && decide (l.length ≤ 100)
theorem rightB_spec {l : List Sc} (h : rightB l = true) : (∀ s ∈ l, 0 ≤ s.er ∧ s.er ≤ 1048576) ∧ l.length ≤ 100 := by
  unfold rightB at h
  rw [Bool.and_eq_true, List.all_eq_true, decide_eq_true_eq] at h
  refine ⟨fun s hs => ?_, h.2⟩
  have := h.1 s hs
  unfold erOk at this
  simpa using this

set_option maxHeartbeats 1000000 in
theorem right7_any (A : Option Addr) (n cap : Nat) (l : List Sc) (w : World) (hS : Secs w Empty A n cap l) :
    Calls Try.prog 7 #[.slice A n cap] w fun e w' => e = .returned (.bool (rightB l)) ∧ Below w.heap.size w w' := by
  have HS := Lib.hid hS
  have hcap := hS.2.1
  have hcap2 : cap ≤ 9223372036854775807 := by have := hS.2.2.1; unfold maxLen at this; omega
  clear hS
  go_enter Try.func7, Try.ntmps7
  go_wp2_with fail
  go_loopw [7] (fun v wr => ∃ i : Nat, i ≤ n ∧ v = .int .i64 (i : Int) ∧ Hid (∀ s ∈ l.take i, erOk s = true) ∧ Hid (Only Empty w wr)) (fun v _ => n - (intOf v).toNat)
  case atStart => exact ⟨0, Nat.zero_le _, rfl, Lib.hid (fun s hs => by simp at hs), Lib.hid (Only.refl _ _)⟩
  case round =>
    obtain ⟨i, hi, rfl, Ha, HB⟩ := hrel
    by_cases hlt : i < n
    · obtain ⟨b, f0, rfl, hb, -, hcl⟩ := HS.out.2.2.2 (by omega)
      obtain ⟨f, hf⟩ : ∃ f, l[i]? = some f := ⟨_, List.getElem?_eq_getElem (by have := HS.out.1; omega)⟩
      have hc := hcl i f hf
      have htake := take_one l i f hf
      have hmem := List.mem_of_getElem? hf
      obtain ⟨st, q, er⟩ := f
      have d0 : wr.cell? ⟨b, f0 + i * 3, none⟩ = some (.int .i64 st) := (HB.out.cell (p := ⟨b, f0 + i * 3 + 0, none⟩) hb (fun h => h)).trans (hc 0 (by omega))
      have d1 : wr.cell? ⟨b, f0 + i * 3 + 1, none⟩ = some (.int .u32 q) := (HB.out.cell (p := ⟨b, f0 + i * 3 + 1, none⟩) hb (fun h => h)).trans (hc 1 (by omega))
      have d2 : wr.cell? ⟨b, f0 + i * 3 + 2, none⟩ = some (.int .i64 er) := (HB.out.cell (p := ⟨b, f0 + i * 3 + 2, none⟩) hb (fun h => h)).trans (hc 2 (by omega))
      have HO1 := Lib.hid (HB.out.alloc (.cells #[.int .i64 st, .int .u32 q, .int .i64 er] 33))
      have Htake := Lib.hid htake
      have Hmem := Lib.hid hmem
      clear hc hcl hf htake hmem
      by_cases h1 : er < 0
      · have hno : rightB l = false := by
          rw [Bool.eq_false_iff]
          intro h
          have := (rightB_spec h).1 _ Hmem.out
          simp only at this
          omega
        have Hno := Lib.hid hno
        clear hno
        go_wp2_with fail
        go_ret
        exact ⟨retB Hno.out.symm, HO1.out.below (Nat.le_refl _) (fun _ _ h => h)⟩
      · by_cases h2 : er > 1048576
        · have hno : rightB l = false := by
            rw [Bool.eq_false_iff]
            intro h
            have := (rightB_spec h).1 _ Hmem.out
            simp only at this
            omega
          have Hno := Lib.hid hno
          clear hno
          go_wp2_with fail
          go_ret
          exact ⟨retB Hno.out.symm, HO1.out.below (Nat.le_refl _) (fun _ _ h => h)⟩
        · have Ha2 : Hid (∀ s ∈ l.take (i + 1), erOk s = true) := Lib.hid (by
            rw [Htake.out]
            intro s hs
            rcases List.mem_append.1 hs with hs | hs
            · exact Ha.out s hs
            · rw [List.mem_singleton] at hs
              rw [hs]
              unfold erOk
              simp
              omega)
          go_wp2_with fail
          go_roundw
          case rel => exact ⟨i + 1, by omega, by go_num, Ha2, HO1⟩
          case measure => simp [intOf]; omega
    · obtain rfl : i = n := by omega
      rw [List.take_of_length_le (by rw [HS.out.1]; omega)] at Ha
      have hr : rightB l = decide ((i : Int) ≤ 100) := by
        unfold rightB
        rw [List.all_eq_true.2 Ha.out, Bool.true_and, HS.out.1]
        by_cases h : i ≤ 100
        · rw [decide_eq_true h, decide_eq_true (by omega)]
        · rw [decide_eq_false h, decide_eq_false (by omega)]
      have Hr := Lib.hid hr
      clear hr
      go_wp2_with fail
      go_ret
      exact ⟨retB Hr.out.symm, HB.out.below (Nat.le_refl _) (fun _ _ h => h)⟩

def fixedL : List Sc := [⟨2, 5, 0⟩, ⟨1, 0, 3⟩, ⟨0, 0, 2⟩, ⟨2, 4, 0⟩]

set_option maxHeartbeats 1000000 in
theorem fixed7_any (w : World) : Calls Try.prog 6 #[] w fun e w' => e = .returned (.bool true) ∧ Below w.heap.size w w' := by
  go_enter Try.func6, Try.ntmps6
  go_wp2_with fail
  refine (next_any none 0 0 [] 9 _ (Secs.nil_ _ _ _ _ (by simp [maxLen])) (by omega) none rfl).mono ?_
  rintro e1 w1 ⟨rfl, hb1⟩
  have HB1 := Lib.hid hb1
  clear hb1
  unfold placeV
  go_wp2_with fail
  have hk : Blk (w1.alloc (.cells #[.int .i64 2, .int .u32 5, .int .i64 0, .int .i64 1, .int .u32 0, .int .i64 3, .int .i64 0, .int .u32 0, .int .i64 2, .int .i64 2, .int .u32 4, .int .i64 0] 33)) w1.heap.size 33 (fixedL.flatMap Sc.cells).toArray := Blk.new w1 33 _
  have hS := Secs.of_blk (S := Empty) (n := 4) (cap := 4) (l := fixedL) hk rfl (by omega) (by simp [maxLen]) (fun j _ => by simp) (fun h => h)
  have HS := Lib.hid hS
  have HB2 := Lib.hid (HB1.out.alloc HB1.out.size (.cells #[.int .i64 2, .int .u32 5, .int .i64 0, .int .i64 1, .int .u32 0, .int .i64 3, .int .i64 0, .int .u32 0, .int .i64 2, .int .i64 2, .int .u32 4, .int .i64 0] 33))
  clear hk hS
  refine (next_any _ 4 4 fixedL 9 _ HS.out (by omega) (some 2) (by decide)).mono ?_
  rintro e2 w2 ⟨rfl, hb2⟩
  have HS2 := Lib.hid (HS.out.only (Only.of_below (S := Empty) hb2) (fun _ _ h => h))
  have HB3 := Lib.hid (HB2.out.trans (hb2.mono HB2.out.size))
  clear hb2
  unfold placeV
  go_wp2_with fail
  refine (oldest_any _ 4 4 fixedL _ HS2.out (by omega) (some 3) (by decide)).mono ?_
  rintro e3 w3 ⟨rfl, hb3⟩
  have HS3 := Lib.hid (HS2.out.only (Only.of_below (S := Empty) hb3) (fun _ _ h => h))
  have HB4 := Lib.hid (HB3.out.trans (hb3.mono HB3.out.size))
  clear hb3
  unfold placeV
  have N4 : Hid (Calls Try.prog 12 #[.slice (some ⟨w1.heap.size, 0, none⟩) 4 4, .int .i64 3] w3 fun e w' => e = .returned (.int .i64 1) ∧ Below w3.heap.size w3 w') := Lib.hid (free_any _ 4 4 fixedL 3 w3 HS3.out (by omega))
  go_wp2_with fail
  refine N4.out.mono ?_
  rintro e4 w4 ⟨rfl, hb4⟩
  have HS4 := Lib.hid (HS3.out.only (Only.of_below (S := Empty) hb4) (fun _ _ h => h))
  have HB5 := Lib.hid (HB4.out.trans (hb4.mono HB4.out.size))
  have N5 : Hid (Calls Try.prog 14 #[.slice (some ⟨w1.heap.size, 0, none⟩) 4 4] w4 fun e w' => e = .returned (.int .i64 3) ∧ Below w4.heap.size w4 w') := Lib.hid (spread_any _ 4 4 fixedL w4 HS4.out (by omega) (by decide))
  clear hb4
  go_wp2_with fail
  refine N5.out.mono ?_
  rintro e5 w5 ⟨rfl, hb5⟩
  have HB6 := Lib.hid (HB5.out.trans (hb5.mono HB5.out.size))
  clear hb5
  go_wp2_with fail
  go_ret
  exact ⟨rfl, HB6.out⟩

end Go.Proofs.Ytkblfmmhocogeaa
