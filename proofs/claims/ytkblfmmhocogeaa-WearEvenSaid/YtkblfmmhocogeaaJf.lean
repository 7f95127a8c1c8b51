/- How many can be opened, how unevenly they are worn: as plain data, and the walks. -/
import Derived.Test.YtkblfmmhocogeaaJb
import Derived.BigRegion
namespace Go.Proofs.Ytkblfmmhocogeaa
open Go.RowKit

theorem countP_take_snoc (l : List Sc) (p : Sc → Bool) (i : Nat) (s : Sc) (h : l[i]? = some s) : (l.take (i + 1)).countP p = (l.take i).countP p + (if p s = true then 1 else 0) := by
  rw [take_one l i s h, List.countP_append, List.countP_singleton]

set_option maxHeartbeats 1000000 in
theorem free_any (A : Option Addr) (n cap : Nat) (l : List Sc) (lim : Int) (w : World) (hS : Secs w Empty A n cap l) (hm : n ≤ 1048576) :
    Calls Try.prog 12 #[.slice A n cap, .int .i64 lim] w fun e w' => e = .returned (.int .i64 ((l.countP (opensB lim) : Nat) : Int)) ∧ Below w.heap.size w w' := by
  have HS := Lib.hid hS
  have hcap := hS.2.1
  have hcap2 : cap ≤ 9223372036854775807 := by have := hS.2.2.1; unfold maxLen at this; omega
  clear hS
  go_enter Try.func12, Try.ntmps12
  go_wp2_with fail
  refine (canOpen_any lim _).mono ?_
  rintro e1 w1 ⟨rfl, hb1, hk1⟩
  have HB1 := Lib.hid (Only.of_below (S := Empty) hb1)
  have HK := Lib.hid hk1
  clear hb1 hk1
  go_wp2_with fail
  go_loopw [5, 13] (fun v5 v wr => ∃ i : Nat, i ≤ n ∧ v5 = .int .i64 (((l.take i).countP (opensB lim) : Nat) : Int) ∧ v = .int .i64 (i : Int) ∧ Hid (Only Empty w wr) ∧ Hid (Blk wr w.heap.size 3 #[.int .i64 lim])) (fun _ v _ => n - (intOf v).toNat)
  case atStart => exact ⟨0, Nat.zero_le _, by simp, rfl, HB1, HK⟩
  case round =>
    obtain ⟨i, hi, rfl, rfl, HB, HKr⟩ := hrel
    clear HB1 HK
    by_cases hlt : i < n
    · obtain ⟨b, f0, rfl, hb, -, hcl⟩ := HS.out.2.2.2 (by omega)
      obtain ⟨f, hf⟩ : ∃ f, l[i]? = some f := ⟨_, List.getElem?_eq_getElem (by have := HS.out.1; omega)⟩
      have hc := hcl i f hf
      have hcnt := countP_take_snoc l (opensB lim) i f hf
      have hle : (l.take i).countP (opensB lim) ≤ i := Nat.le_trans List.countP_le_length (by rw [List.length_take]; exact Nat.min_le_left _ _)
      obtain ⟨c, hcd⟩ : ∃ c, (l.take i).countP (opensB lim) = c := ⟨_, rfl⟩
      rw [hcd] at hcnt hle ⊢
      obtain ⟨st, q, er⟩ := f
      have d0 : wr.cell? ⟨b, f0 + i * 3, none⟩ = some (.int .i64 st) := (HB.out.cell (p := ⟨b, f0 + i * 3 + 0, none⟩) hb (fun h => h)).trans (hc 0 (by omega))
      have d1 : wr.cell? ⟨b, f0 + i * 3 + 1, none⟩ = some (.int .u32 q) := (HB.out.cell (p := ⟨b, f0 + i * 3 + 1, none⟩) hb (fun h => h)).trans (hc 1 (by omega))
      have d2 : wr.cell? ⟨b, f0 + i * 3 + 2, none⟩ = some (.int .i64 er) := (HB.out.cell (p := ⟨b, f0 + i * 3 + 2, none⟩) hb (fun h => h)).trans (hc 2 (by omega))
      have N1 := canOpen1_any st q er lim w.heap.size _ (HKr.out.alloc (.cells #[.int .i64 st, .int .u32 q, .int .i64 er] 33))
      have HO := Lib.hid (HB.out.alloc (.cells #[.int .i64 st, .int .u32 q, .int .i64 er] 33))
      have HK1 := Lib.hid (HKr.out.alloc (.cells #[.int .i64 st, .int .u32 q, .int .i64 er] 33))
      clear hc hcl hf hcd
      cases hmay : opensB lim ⟨st, q, er⟩ with
      | false =>
        rw [hmay] at N1 hcnt
        have N2 := Lib.hid N1
        have Hcnt := Lib.hid hcnt
        clear N1 hcnt hmay
        go_wp2_with fail
        refine N2.out.mono ?_
        rintro e2 w2 ⟨rfl, hb2⟩
        have HO2 := Lib.hid (HO.out.trans (Only.of_below hb2))
        have HK2 := Lib.hid (HK1.out.of (hb2.block w.heap.size HK1.out.lt))
        clear hb2
        go_wp2_with fail
        go_roundw
        case rel => exact ⟨i + 1, by omega, by rw [Hcnt.out]; rfl, by go_num, HO2, HK2⟩
        case measure => simp [intOf]; omega
      | true =>
        rw [hmay] at N1 hcnt
        have N2 := Lib.hid N1
        have Hcnt := Lib.hid hcnt
        clear N1 hcnt hmay
        go_wp2_with fail
        refine N2.out.mono ?_
        rintro e2 w2 ⟨rfl, hb2⟩
        have HO2 := Lib.hid (HO.out.trans (Only.of_below hb2))
        have HK2 := Lib.hid (HK1.out.of (hb2.block w.heap.size HK1.out.lt))
        clear hb2
        go_wp2_with fail
        go_roundw
        case rel => exact ⟨i + 1, by omega, by rw [Hcnt.out, if_pos trivial]; go_num, by go_num, HO2, HK2⟩
        case measure => simp [intOf]; omega
    · obtain rfl : i = n := by omega
      have ht : l.take i = l := List.take_of_length_le (by rw [HS.out.1]; omega)
      rw [ht]
      go_wp2_with fail
      go_ret
      exact ⟨rfl, HB.out.below (Nat.le_refl _) (fun _ _ h => h)⟩

set_option maxHeartbeats 1000000 in
theorem refFree_any (A : Option Addr) (n cap : Nat) (l : List Sc) (lim : Int) (w : World) (hS : Secs w Empty A n cap l) (hm : n ≤ 1048576) :
    Calls Try.prog 13 #[.slice A n cap, .int .i64 lim] w fun e w' => e = .returned (.int .i64 ((l.countP (opensB lim) : Nat) : Int)) ∧ Below w.heap.size w w' := by
  have HS := Lib.hid hS
  have hcap := hS.2.1
  have hcap2 : cap ≤ 9223372036854775807 := by have := hS.2.2.1; unfold maxLen at this; omega
  clear hS
  go_enter Try.func13, Try.ntmps13
  go_wp2_with fail
  go_loopw [5, 10] (fun v5 v wr => ∃ i : Nat, i ≤ n ∧ v5 = .int .i64 (((l.take i).countP (opensB lim) : Nat) : Int) ∧ v = .int .i64 (i : Int) ∧ Hid (Only Empty w wr)) (fun _ v _ => n - (intOf v).toNat)
  case atStart => exact ⟨0, Nat.zero_le _, by simp, rfl, Lib.hid (Only.refl _ _)⟩
  case round =>
    obtain ⟨i, hi, rfl, rfl, HB⟩ := hrel
    by_cases hlt : i < n
    · obtain ⟨b, f0, rfl, hb, -, hcl⟩ := HS.out.2.2.2 (by omega)
      obtain ⟨f, hf⟩ : ∃ f, l[i]? = some f := ⟨_, List.getElem?_eq_getElem (by have := HS.out.1; omega)⟩
      have hc := hcl i f hf
      have hcnt := countP_take_snoc l (opensB lim) i f hf
      have hle : (l.take i).countP (opensB lim) ≤ i := Nat.le_trans List.countP_le_length (by rw [List.length_take]; exact Nat.min_le_left _ _)
      obtain ⟨c, hcd⟩ : ∃ c, (l.take i).countP (opensB lim) = c := ⟨_, rfl⟩
      rw [hcd] at hcnt hle ⊢
      obtain ⟨st, q, er⟩ := f
      have d0 : wr.cell? ⟨b, f0 + i * 3, none⟩ = some (.int .i64 st) := (HB.out.cell (p := ⟨b, f0 + i * 3 + 0, none⟩) hb (fun h => h)).trans (hc 0 (by omega))
      have d1 : wr.cell? ⟨b, f0 + i * 3 + 1, none⟩ = some (.int .u32 q) := (HB.out.cell (p := ⟨b, f0 + i * 3 + 1, none⟩) hb (fun h => h)).trans (hc 1 (by omega))
      have d2 : wr.cell? ⟨b, f0 + i * 3 + 2, none⟩ = some (.int .i64 er) := (HB.out.cell (p := ⟨b, f0 + i * 3 + 2, none⟩) hb (fun h => h)).trans (hc 2 (by omega))
      have N1 := opens_any st q er lim (wr.alloc (.cells #[.int .i64 st, .int .u32 q, .int .i64 er] 33))
      have HO := Lib.hid (HB.out.alloc (.cells #[.int .i64 st, .int .u32 q, .int .i64 er] 33))
      clear hc hcl hf hcd
      cases hmay : opensB lim ⟨st, q, er⟩ with
      | false =>
        rw [hmay] at N1 hcnt
        have N2 := Lib.hid N1
        have Hcnt := Lib.hid hcnt
        clear N1 hcnt hmay
        go_wp2_with fail
        refine N2.out.mono ?_
        rintro e2 w2 ⟨rfl, hb2⟩
        have HO2 := Lib.hid (HO.out.trans (Only.of_below hb2))
        clear hb2
        go_wp2_with fail
        go_roundw
        case rel => exact ⟨i + 1, by omega, by rw [Hcnt.out]; rfl, by go_num, HO2⟩
        case measure => simp [intOf]; omega
      | true =>
        rw [hmay] at N1 hcnt
        have N2 := Lib.hid N1
        have Hcnt := Lib.hid hcnt
        clear N1 hcnt hmay
        go_wp2_with fail
        refine N2.out.mono ?_
        rintro e2 w2 ⟨rfl, hb2⟩
        have HO2 := Lib.hid (HO.out.trans (Only.of_below hb2))
        clear hb2
        go_wp2_with fail
        go_roundw
        case rel => exact ⟨i + 1, by omega, by rw [Hcnt.out, if_pos trivial]; go_num, by go_num, HO2⟩
        case measure => simp [intOf]; omega
    · obtain rfl : i = n := by omega
      have ht : l.take i = l := List.take_of_length_le (by rw [HS.out.1]; omega)
      rw [ht]
      go_wp2_with fail
      go_ret
      exact ⟨rfl, HB.out.below (Nat.le_refl _) (fun _ _ h => h)⟩

end Go.Proofs.Ytkblfmmhocogeaa
