/- How unevenly sectors are worn: as plain data, and the walks. -/
import Derived.Test.YtkblfmmhocogeaaJb
import Derived.BigRegion
namespace Go.Proofs.Ytkblfmmhocogeaa
open Go.RowKit

def loF (a : Int) (l : List Sc) : Int := l.foldl (fun m s => min m s.er) a
def hiF (a : Int) (l : List Sc) : Int := l.foldl (fun m s => max m s.er) a
def spreadF (l : List Sc) : Int := match l with
  | [] => 0
  | f :: r => hiF f.er (f :: r) - loF f.er (f :: r)
theorem loF_snoc (a : Int) (l : List Sc) (s : Sc) : loF a (l ++ [s]) = min (loF a l) s.er := by simp [loF, List.foldl_append]
theorem hiF_snoc (a : Int) (l : List Sc) (s : Sc) : hiF a (l ++ [s]) = max (hiF a l) s.er := by simp [hiF, List.foldl_append]
theorem loF_in (B : Int) : ∀ (l : List Sc) (a : Int), (0 ≤ a ∧ a ≤ B) → (∀ s ∈ l, 0 ≤ s.er ∧ s.er ≤ B) → 0 ≤ loF a l ∧ loF a l ≤ B
  | [], a, h, _ => h
  | s :: l, a, h, hl => loF_in B l (min a s.er) (by have := hl s (by simp); omega) (fun t ht => hl t (by simp [ht]))
theorem hiF_in (B : Int) : ∀ (l : List Sc) (a : Int), (0 ≤ a ∧ a ≤ B) → (∀ s ∈ l, 0 ≤ s.er ∧ s.er ≤ B) → 0 ≤ hiF a l ∧ hiF a l ≤ B
  | [], a, h, _ => h
  | s :: l, a, h, hl => hiF_in B l (max a s.er) (by have := hl s (by simp); omega) (fun t ht => hl t (by simp [ht]))

set_option maxHeartbeats 1000000 in
theorem spread_any (A : Option Addr) (n cap : Nat) (l : List Sc) (w : World) (hS : Secs w Empty A n cap l) (hm : n ≤ 1048576) (hB : ∀ s ∈ l, 0 ≤ s.er ∧ s.er ≤ 16777216) :
    Calls Try.prog 14 #[.slice A n cap] w fun e w' => e = .returned (.int .i64 (spreadF l)) ∧ Below w.heap.size w w' := by
  have HS := Lib.hid hS
  have HBd := Lib.hid hB
  have hcap := hS.2.1
  have hcap2 : cap ≤ 9223372036854775807 := by have := hS.2.2.1; unfold maxLen at this; omega
  have hlen := hS.1
  clear hS hB
  rcases Nat.eq_zero_or_pos n with h0 | h0
  · subst h0
    obtain rfl := List.eq_nil_of_length_eq_zero hlen
    go_enter Try.func14, Try.ntmps14
    go_wp2
    go_ret
    exact ⟨rfl, Below.refl _ _⟩
  · obtain ⟨b, f0, rfl, hb, -, hcl⟩ := HS.out.2.2.2 h0
    obtain ⟨f, r, rfl⟩ : ∃ f r, l = f :: r := by
      cases l with
      | nil => simp at hlen; omega
      | cons f r => exact ⟨f, r, rfl⟩
    have Hcl := Lib.hid hcl
    have hf0 := hcl 0 f rfl
    obtain ⟨fst, fq, fer⟩ := f
    have c2 : w.cell? ⟨b, f0 + 2, none⟩ = some (.int .i64 fer) := by
      have := hf0 2 (by omega)
      rw [Nat.zero_mul, Nat.add_zero] at this
      exact this
    have hq0 : (0 : Int) < (n : Int) := by omega
    have hne : ((n : Int) == 0) = false := by rw [beq_eq_false_iff_ne]; omega
    have hbe : 0 ≤ fer ∧ fer ≤ 16777216 := HBd.out ⟨fst, fq, fer⟩ (by simp)
    have Hlen := Lib.hid hlen
    obtain ⟨ls, hls⟩ : ∃ ls, ls = (⟨fst, fq, fer⟩ : Sc) :: r := ⟨_, rfl⟩
    have hres : spreadF ((⟨fst, fq, fer⟩ : Sc) :: r) = hiF fer ls - loF fer ls := by rw [hls]; rfl
    rw [hres]
    rw [← hls] at HS HBd Hcl Hlen
    clear hcl hf0 hlen hls hres
    go_enter Try.func14, Try.ntmps14
    go_wp2_with fail
    go_region
    go_wp2_with fail
    clear c2 hq0 hne
    go_loopw [3, 4, 20] (fun v3 v4 v wr => ∃ i : Nat, i ≤ n ∧ v3 = .int .i64 (loF fer (ls.take i)) ∧ v4 = .int .i64 (hiF fer (ls.take i)) ∧ v = .int .i64 (i : Int) ∧ Hid (Only Empty w wr)) (fun _ _ v _ => n - (intOf v).toNat)
    case atStart => exact ⟨0, Nat.zero_le _, rfl, rfl, rfl, Lib.hid (Only.refl _ _).drew⟩
    case round =>
      obtain ⟨i, hi, rfl, rfl, rfl, HB⟩ := hrel
      have hbd : ∀ s ∈ ls.take i, 0 ≤ s.er ∧ s.er ≤ 16777216 := fun s hs => HBd.out s (List.mem_of_mem_take hs)
      have hlo := loF_in 16777216 (ls.take i) fer hbe hbd
      have hhi := hiF_in 16777216 (ls.take i) fer hbe hbd
      by_cases hlt : i < n
      · obtain ⟨f, hf⟩ : ∃ f, ls[i]? = some f := ⟨_, List.getElem?_eq_getElem (by have := Hlen.out; omega)⟩
        have hc := Hcl.out i f hf
        have hl1 : loF fer (ls.take (i + 1)) = min (loF fer (ls.take i)) f.er := by rw [take_one ls i f hf, loF_snoc]
        have hh1 : hiF fer (ls.take (i + 1)) = max (hiF fer (ls.take i)) f.er := by rw [take_one ls i f hf, hiF_snoc]
        have hbf := HBd.out f (List.mem_of_getElem? hf)
        obtain ⟨st, q, er⟩ := f
        obtain ⟨lo, hlod⟩ : ∃ lo, loF fer (ls.take i) = lo := ⟨_, rfl⟩
        obtain ⟨hi', hhid⟩ : ∃ hi', hiF fer (ls.take i) = hi' := ⟨_, rfl⟩
        rw [hlod] at hl1 hlo ⊢
        rw [hhid] at hh1 hhi ⊢
        simp only at hl1 hh1 hbf
        have Hl1 := Lib.hid hl1
        have Hh1 := Lib.hid hh1
        have d0 : wr.cell? ⟨b, f0 + i * 3, none⟩ = some (.int .i64 st) := (HB.out.cell (p := ⟨b, f0 + i * 3 + 0, none⟩) hb (fun h => h)).trans (hc 0 (by omega))
        have d1 : wr.cell? ⟨b, f0 + i * 3 + 1, none⟩ = some (.int .u32 q) := (HB.out.cell (p := ⟨b, f0 + i * 3 + 1, none⟩) hb (fun h => h)).trans (hc 1 (by omega))
        have d2 : wr.cell? ⟨b, f0 + i * 3 + 2, none⟩ = some (.int .i64 er) := (HB.out.cell (p := ⟨b, f0 + i * 3 + 2, none⟩) hb (fun h => h)).trans (hc 2 (by omega))
        have HO := Lib.hid ((HB.out.alloc (.cells #[.int .i64 st, .int .u32 q, .int .i64 er] 33)).drew)
        clear hc hf hlod hhid hl1 hh1 hbd
        go_wp2_with fail
        go_region
        have e1 : (if er < lo then er else lo) = loF fer (ls.take (i + 1)) := by
          rw [Hl1.out]
          split <;> omega
        have e2 : (if hi' < er then er else hi') = hiF fer (ls.take (i + 1)) := by
          rw [Hh1.out]
          split <;> omega
        rw [e1, e2]
        clear e1 e2
        go_wp2
        go_roundw
        case rel => exact ⟨i + 1, by omega, rfl, rfl, by go_num, HO⟩
        case measure => simp [intOf]; omega
      · obtain rfl : i = n := by omega
        have ht : ls.take i = ls := List.take_of_length_le (by rw [Hlen.out]; omega)
        rw [ht] at hlo hhi ⊢
        clear ht hbd
        obtain ⟨lo, hlod⟩ : ∃ lo, loF fer ls = lo := ⟨_, rfl⟩
        obtain ⟨hi', hhid⟩ : ∃ hi', hiF fer ls = hi' := ⟨_, rfl⟩
        rw [hlod] at hlo ⊢
        rw [hhid] at hhi ⊢
        have Hlod := Lib.hid hlod
        have Hhid := Lib.hid hhid
        clear hlod hhid
        go_wp2_with fail
        go_ret
        exact ⟨by rw [Hlod.out, Hhid.out]; rfl, HB.out.below (Nat.le_refl _) (fun _ _ h => h)⟩

set_option maxHeartbeats 1000000 in
theorem refSpread_any (A : Option Addr) (n cap : Nat) (l : List Sc) (w : World) (hS : Secs w Empty A n cap l) (hm : n ≤ 1048576) (hB : ∀ s ∈ l, 0 ≤ s.er ∧ s.er ≤ 16777216) :
    Calls Try.prog 15 #[.slice A n cap] w fun e w' => e = .returned (.int .i64 (spreadF l)) ∧ Below w.heap.size w w' := by
  have HS := Lib.hid hS
  have HBd := Lib.hid hB
  have hcap := hS.2.1
  have hcap2 : cap ≤ 9223372036854775807 := by have := hS.2.2.1; unfold maxLen at this; omega
  have hlen := hS.1
  clear hS hB
  rcases Nat.eq_zero_or_pos n with h0 | h0
  · subst h0
    obtain rfl := List.eq_nil_of_length_eq_zero hlen
    go_enter Try.func15, Try.ntmps15
    go_wp2
    go_ret
    exact ⟨rfl, Below.refl _ _⟩
  · obtain ⟨b, f0, rfl, hb, -, hcl⟩ := HS.out.2.2.2 h0
    obtain ⟨f, r, rfl⟩ : ∃ f r, l = f :: r := by
      cases l with
      | nil => simp at hlen; omega
      | cons f r => exact ⟨f, r, rfl⟩
    have Hcl := Lib.hid hcl
    have hf0 := hcl 0 f rfl
    obtain ⟨fst, fq, fer⟩ := f
    have c2 : w.cell? ⟨b, f0 + 2, none⟩ = some (.int .i64 fer) := by
      have := hf0 2 (by omega)
      rw [Nat.zero_mul, Nat.add_zero] at this
      exact this
    have hq0 : (0 : Int) < (n : Int) := by omega
    have hne : ((n : Int) == 0) = false := by rw [beq_eq_false_iff_ne]; omega
    have hbe : 0 ≤ fer ∧ fer ≤ 16777216 := HBd.out ⟨fst, fq, fer⟩ (by simp)
    have Hlen := Lib.hid hlen
    obtain ⟨ls, hls⟩ : ∃ ls, ls = (⟨fst, fq, fer⟩ : Sc) :: r := ⟨_, rfl⟩
    have hres : spreadF ((⟨fst, fq, fer⟩ : Sc) :: r) = hiF fer ls - loF fer ls := by rw [hls]; rfl
    rw [hres]
    rw [← hls] at HS HBd Hcl Hlen
    clear hcl hf0 hlen hls hres
    go_enter Try.func15, Try.ntmps15
    go_wp2_with fail
    go_region
    go_wp2_with fail
    clear c2 hq0 hne
    go_loopw [3, 4, 20] (fun v3 v4 v wr => ∃ i : Nat, i ≤ n ∧ v3 = .int .i64 (loF fer (ls.take i)) ∧ v4 = .int .i64 (hiF fer (ls.take i)) ∧ v = .int .i64 (i : Int) ∧ Hid (Only Empty w wr)) (fun _ _ v _ => n - (intOf v).toNat)
    case atStart => exact ⟨0, Nat.zero_le _, rfl, rfl, rfl, Lib.hid (Only.refl _ _).drew⟩
    case round =>
      obtain ⟨i, hi, rfl, rfl, rfl, HB⟩ := hrel
      have hbd : ∀ s ∈ ls.take i, 0 ≤ s.er ∧ s.er ≤ 16777216 := fun s hs => HBd.out s (List.mem_of_mem_take hs)
      have hlo := loF_in 16777216 (ls.take i) fer hbe hbd
      have hhi := hiF_in 16777216 (ls.take i) fer hbe hbd
      by_cases hlt : i < n
      · obtain ⟨f, hf⟩ : ∃ f, ls[i]? = some f := ⟨_, List.getElem?_eq_getElem (by have := Hlen.out; omega)⟩
        have hc := Hcl.out i f hf
        have hl1 : loF fer (ls.take (i + 1)) = min (loF fer (ls.take i)) f.er := by rw [take_one ls i f hf, loF_snoc]
        have hh1 : hiF fer (ls.take (i + 1)) = max (hiF fer (ls.take i)) f.er := by rw [take_one ls i f hf, hiF_snoc]
        have hbf := HBd.out f (List.mem_of_getElem? hf)
        obtain ⟨st, q, er⟩ := f
        obtain ⟨lo, hlod⟩ : ∃ lo, loF fer (ls.take i) = lo := ⟨_, rfl⟩
        obtain ⟨hi', hhid⟩ : ∃ hi', hiF fer (ls.take i) = hi' := ⟨_, rfl⟩
        rw [hlod] at hl1 hlo ⊢
        rw [hhid] at hh1 hhi ⊢
        simp only at hl1 hh1 hbf
        have Hl1 := Lib.hid hl1
        have Hh1 := Lib.hid hh1
        have d0 : wr.cell? ⟨b, f0 + i * 3, none⟩ = some (.int .i64 st) := (HB.out.cell (p := ⟨b, f0 + i * 3 + 0, none⟩) hb (fun h => h)).trans (hc 0 (by omega))
        have d1 : wr.cell? ⟨b, f0 + i * 3 + 1, none⟩ = some (.int .u32 q) := (HB.out.cell (p := ⟨b, f0 + i * 3 + 1, none⟩) hb (fun h => h)).trans (hc 1 (by omega))
        have d2 : wr.cell? ⟨b, f0 + i * 3 + 2, none⟩ = some (.int .i64 er) := (HB.out.cell (p := ⟨b, f0 + i * 3 + 2, none⟩) hb (fun h => h)).trans (hc 2 (by omega))
        have HO := Lib.hid ((HB.out.alloc (.cells #[.int .i64 st, .int .u32 q, .int .i64 er] 33)))
        clear hc hf hlod hhid hl1 hh1 hbd
        go_wp2_with fail
        have e1 : (if er < lo then er else lo) = loF fer (ls.take (i + 1)) := by
          rw [Hl1.out]
          split <;> omega
        have e2 : (if hi' < er then er else hi') = hiF fer (ls.take (i + 1)) := by
          rw [Hh1.out]
          split <;> omega
        rw [e1, e2]
        clear e1 e2
        go_roundw
        case rel => exact ⟨i + 1, by omega, rfl, rfl, by go_num, HO⟩
        case measure => simp [intOf]; omega
      · obtain rfl : i = n := by omega
        have ht : ls.take i = ls := List.take_of_length_le (by rw [Hlen.out]; omega)
        rw [ht] at hlo hhi ⊢
        clear ht hbd
        obtain ⟨lo, hlod⟩ : ∃ lo, loF fer ls = lo := ⟨_, rfl⟩
        obtain ⟨hi', hhid⟩ : ∃ hi', hiF fer ls = hi' := ⟨_, rfl⟩
        rw [hlod] at hlo ⊢
        rw [hhid] at hhi ⊢
        have Hlod := Lib.hid hlod
        have Hhid := Lib.hid hhid
        clear hlod hhid
        go_wp2_with fail
        go_ret
        exact ⟨by rw [Hlod.out, Hhid.out]; rfl, HB.out.below (Nat.le_refl _) (fun _ _ h => h)⟩

end Go.Proofs.Ytkblfmmhocogeaa
