/- The walk over pool.mayStand. -/
import Derived.Test.YtinkjeifkjfkgaaVf
import Derived.Deep.RegionHeld3
namespace Go.Proofs.Ytinkjeifkjfkgaa
set_option maxRecDepth 100000
open Go.RowKit

theorem eq_zero (c : Cst) (W : World) : (binOp .eql 41 (.agg #[.int .i64 c.tag, .int .i64 c.a, .int .i64 c.b, .int .i64 c.n, .string (strB c.s)]) (.agg #[.int .i64 0, .int .i64 0, .int .i64 0, .int .i64 0, .string ⟨#[]⟩])).run Try.prog W = .ok (.bool (decide (c = zeroC))) W := eq_const c zeroC W
theorem eq_noFrm (f : Frm) (W : World) : (binOp .eql 59 (.agg #[.bool f.text, .int .i64 f.num, .int .i64 f.a, .int .i64 f.b]) (.agg #[.bool false, .int .i64 0, .int .i64 0, .int .i64 0])).run Try.prog W = .ok (.bool (decide (f = noFrm))) W := eq_form f noFrm W

/-- The first place, or a long's second one. -/
theorem mayStand_empty (A : Option Addr) (n cap k : Nat) (l : List Cst) (w : World) (hP : PoolSl w A n cap l) (hn : n ≤ 1000000) (hk : k < n) (hz : k = 0 ∨ (l[k - 1]?.map (·.tag)) = some 5) :
    Calls Try.prog 24 #[.slice A n cap, .int .i64 (k : Int)] w fun e w' => e = .returned (.bool (mayF l k)) ∧ Below w.heap.size w w' := by
  obtain ⟨b, o, c, rfl, hc, hb, h0, h1, h2, h3, h4⟩ := pool_at hP hk
  have HE : Hid (mayF l k = decide (c = zeroC)) := Lib.hid (by unfold mayF; rw [hc]; simp only; rw [if_pos hz])
  have HQ := eq_zero c
  obtain ⟨B, hB⟩ : ∃ B, decide (c = zeroC) = B := ⟨_, rfl⟩
  rw [hB] at HE
  simp only [hB] at HQ
  clear hB
  by_cases h00 : k = 0
  · subst h00
    rw [Nat.zero_mul, Nat.add_zero] at h0 h1 h2 h3 h4
    clear hP hc hz
    go_enter Try.func24, Try.ntmps24
    go_wp2
    go_ret
    exact ⟨by rw [HE.out]; rfl, (Below.refl _ _).alloc (Nat.le_refl _) _⟩
  · obtain ⟨b', o', d, hA, hd, hb', g0, -⟩ := pool_at hP (show k - 1 < n by omega)
    obtain ⟨rfl, rfl⟩ : b = b' ∧ o = o' := by simpa using hA
    have hd5 : d.tag = 5 := by
      rcases hz with hz | hz
      · exact absurd hz h00
      · rw [hd] at hz
        simpa using hz
    rw [hd5] at g0
    have hke : (((k - 1 : Nat)) : Int) = (k : Int) - 1 := by omega
    have hk0 : ((k : Int) == 0) = false := by simpa using h00
    have hkt : ((k : Int) - 1).toNat = k - 1 := by omega
    clear hP hc hz hA hd hd5
    go_enter Try.func24, Try.ntmps24
    go_wp2
    go_ret
    exact ⟨by rw [HE.out]; rfl, (Below.refl _ _).alloc (Nat.le_refl _) _⟩

/-- Any other place. -/
theorem mayStand_no (A : Option Addr) (n cap k : Nat) (l : List Cst) (w : World) (hP : PoolSl w A n cap l) (hn : n ≤ 1000000) (hk : k < n) (h00 : k ≠ 0) (d : Cst) (hd : l[k - 1]? = some d) (hd5 : d.tag ≠ 5) (c : Cst) (hc : l[k]? = some c) (hf : formF c.tag = noFrm) :
    Calls Try.prog 24 #[.slice A n cap, .int .i64 (k : Int)] w fun e w' => e = .returned (.bool (mayF l k)) ∧ Below w.heap.size w w' := by
  obtain ⟨b, o, c', rfl, hc', hb, h0, h1, h2, h3, h4⟩ := pool_at hP hk
  obtain rfl : c = c' := by rw [hc] at hc'; exact Option.some.inj hc'
  obtain ⟨b', o', d', hA, hd', hb', g0, -⟩ := pool_at hP (show k - 1 < n by omega)
  obtain rfl : d = d' := by rw [hd] at hd'; exact Option.some.inj hd'
  obtain ⟨rfl, rfl⟩ : b = b' ∧ o = o' := by simpa using hA
  have HE : Hid (mayF l k = false) := Lib.hid (by
    unfold mayF
    rw [hc]
    simp only
    rw [if_neg (by rw [hd]; rintro (h | h); exact h00 h; exact hd5 (by simpa using h)), if_pos (.inl hf)])
  have hk0 : ((k : Int) == 0) = false := by simpa using h00
  have hkt : ((k : Int) - 1).toNat = k - 1 := by omega
  have hq5 : (d.tag == 5) = false := by simpa using hd5
  have CF : Hid (∀ W, Calls Try.prog 31 #[.int .i64 c.tag] W fun e w' => e = .returned noFrm.v ∧ Below W.heap.size W w') := Lib.hid (fun W => by
    have := formOf_any c.tag W
    rwa [hf] at this)
  clear hP hc hc' hA hd hd' hd5 hf
  go_enter Try.func24, Try.ntmps24
  go_wp2_with fail
  refine (CF.out _).mono ?_
  rintro e w1 ⟨rfl, hb1⟩
  simp only [noFrm, Frm.v]
  have Hb1 := Lib.hid (((Below.refl w.heap.size w).alloc (Nat.le_refl _) (.cells c.cells.toArray 41)).trans (hb1.mono (by simp)))
  clear hb1
  go_wp2
  go_quiet (fail)
  go_wp2
  go_ret
  exact ⟨by rw [HE.out]; rfl, (Hb1.out.alloc Hb1.out.size _).drewN _⟩

end Go.Proofs.Ytinkjeifkjfkgaa
