/- The walk over pool.Check. -/
import Derived.Test.YtinkjeifkjfkgaaVh
namespace Go.Proofs.Ytinkjeifkjfkgaa
set_option maxRecDepth 100000
open Go.RowKit

theorem mayStand_any (A : Option Addr) (n cap k : Nat) (l : List Cst) (w : World) (hP : PoolSl w A n cap l) (hn : n ≤ 1000000) (hok : ∀ c ∈ l, c.ok) (hk : k < n) :
    Calls Try.prog 24 #[.slice A n cap, .int .i64 (k : Int)] w fun e w' => e = .returned (.bool (mayF l k)) ∧ Below w.heap.size w w' := by
  have hl := hP.1
  by_cases hz : k = 0 ∨ (l[k - 1]?.map (·.tag)) = some 5
  · exact mayStand_empty A n cap k l w hP hn hk hz
  · have h0 : k ≠ 0 := fun h => hz (.inl h)
    have hd : l[k - 1]? = some l[k - 1] := List.getElem?_eq_getElem (by omega)
    have hc : l[k]? = some l[k] := List.getElem?_eq_getElem (by omega)
    have hd5 : l[k - 1].tag ≠ 5 := fun h => hz (.inr (by rw [hd]; simp [h]))
    by_cases hf : formF l[k].tag = noFrm
    · exact mayStand_no A n cap k l w hP hn hk h0 _ hd hd5 _ hc hf
    · exact mayStand_form A n cap k l w hP hn hok hk h0 _ hd hd5 _ hc hf

/-- Check's error. -/
noncomputable def checkC (l : List Cst) : Int := if checkF l = true then 0 else 8
theorem checkF_len {l : List Cst} (h : ¬ (1 ≤ l.length ∧ l.length ≤ 1024)) : checkF l = false := by
  unfold checkF
  rw [decide_eq_false h]
  rfl
theorem checkF_at {l : List Cst} (k : Nat) (hk : k < l.length) (h : mayF l k = false) : checkF l = false := by
  unfold checkF
  rw [Bool.and_assoc, Bool.and_eq_false_iff]
  right
  rw [Bool.and_eq_false_iff]
  left
  rw [← Bool.not_eq_true, List.all_eq_true]
  intro hA
  have := hA k (List.mem_range.mpr hk)
  rw [h] at this
  cases this

theorem check_any (A : Option Addr) (n cap : Nat) (l : List Cst) (w : World) (hP : PoolSl w A n cap l) (hn : n ≤ 1000000) (hok : ∀ c ∈ l, c.ok) :
    Calls Try.prog 10 #[.slice A n cap] w fun e w' => e = .returned (.int .i64 (checkC l)) ∧ Below w.heap.size w w' := by
  have CI : Hid (Calls Try.prog 23 #[.int .i64 (n : Int)] w fun e w' => e = .returned (.bool (decide (1 ≤ (n : Int) ∧ (n : Int) ≤ 1024))) ∧ w = w') := Lib.hid (isCount_any n w)
  have hl := hP.1
  by_cases hlen : 1 ≤ n ∧ n ≤ 1024
  · rw [decide_eq_true (by omega)] at CI
    have HP := Lib.hid hP
    have HOK := Lib.hid hok
    have Hl := Lib.hid hl
    have CM : Hid (∀ k W, k < n → Below w.heap.size w W → Calls Try.prog 24 #[.slice A n cap, .int .i64 (k : Int)] W fun e w' => e = .returned (.bool (mayF l k)) ∧ Below W.heap.size W w') :=
      Lib.hid (fun k W hk hb => mayStand_any A n cap k l W (hP.below hb) hn hok hk)
    have HEall : Hid ((∀ k, k < n → mayF l k = true) → checkF l = (lastTag l != 5)) := Lib.hid (fun h => by
      unfold checkF
      rw [decide_eq_true (by omega), List.all_eq_true.mpr (fun k hk => h k (by rw [List.mem_range] at hk; omega))]
      rfl)
    clear hP hok hl
    go_enter Try.func10, Try.ntmps10
    go_wp2_with fail
    refine CI.out.mono ?_
    rintro e w1 ⟨rfl, rfl⟩
    go_wp2
    go_loopw [2, 10] (fun a b wr => ∃ k : Nat, k ≤ n ∧ a = .int .i64 0 ∧ b = .int .i64 (k : Int) ∧ Hid (∀ j, j < k → mayF l j = true) ∧ Hid (Below w.heap.size w wr)) (fun _ b _ => n - (intOf b).toNat)
    case atStart => exact ⟨0, Nat.zero_le _, rfl, rfl, Lib.hid (fun j hj => by omega), Lib.hid (Below.refl _ _)⟩
    case round =>
      obtain ⟨k, hk, rfl, rfl, HA, HB⟩ := hrel
      by_cases hlt : k < n
      · cases hm : mayF l k with
        | true =>
          have HA2 : Hid (∀ j, j < k + 1 → mayF l j = true) := Lib.hid (fun j hj => by
            by_cases h : j = k
            · rw [h]; exact hm
            · exact HA.out j (by omega))
          have C := Lib.hid (CM.out k wr hlt HB.out)
          rw [hm] at C
          clear hm
          go_wp2_with fail
          refine C.out.mono ?_
          rintro e w2 ⟨rfl, hb2⟩
          have HB2 := Lib.hid (HB.out.trans (hb2.mono HB.out.size))
          clear hb2
          go_wp2
          go_roundw
          case rel => exact ⟨k + 1, by omega, rfl, by go_num, HA2, HB2⟩
          case measure => simp [intOf]; omega
        | false =>
          have HE : Hid (checkC l = 8) := Lib.hid (by unfold checkC; rw [checkF_at k (by rw [Hl.out]; exact hlt) hm]; rfl)
          have C := Lib.hid (CM.out k wr hlt HB.out)
          rw [hm] at C
          clear hm
          go_wp2_with fail
          refine C.out.mono ?_
          rintro e w2 ⟨rfl, hb2⟩
          have HB2 := Lib.hid (HB.out.trans (hb2.mono HB.out.size))
          clear hb2
          go_wp2
          go_ret
          exact ⟨by rw [HE.out]; rfl, HB2.out⟩
      · obtain rfl : k = n := by omega
        have hce : checkF l = (lastTag l != 5) := HEall.out HA.out
        obtain ⟨b, o, c, rfl, hc, hb, h0, -⟩ := pool_at (HP.out.below HB.out) (show k - 1 < k by omega)
        have hlast : lastTag l = c.tag := by
          have := lastTag_at l (by rw [Hl.out]; omega)
          rw [Hl.out, hc] at this
          simpa using this.symm
        have HE : Hid (checkC l = if c.tag == 5 then 8 else 0) := Lib.hid (by
          unfold checkC
          rw [hce, hlast]
          by_cases h : c.tag = 5 <;> simp [h])
        have hkt : ((k : Int) - 1).toNat = k - 1 := by omega
        obtain ⟨T, hT⟩ : ∃ T, (c.tag == 5) = T := ⟨_, rfl⟩
        rw [hT] at HE
        clear hce hlast hc
        cases T with
        | true =>
          go_wp2
          go_ret
          exact ⟨by rw [HE.out]; rfl, HB.out⟩
        | false =>
          go_wp2
          go_ret
          exact ⟨by rw [HE.out]; rfl, HB.out⟩
  · rw [decide_eq_false (by omega)] at CI
    have HE : Hid (checkC l = 8) := Lib.hid (by unfold checkC; rw [checkF_len (by omega)]; rfl)
    clear hP hok hl hlen
    go_enter Try.func10, Try.ntmps10
    go_wp2_with fail
    refine CI.out.mono ?_
    rintro e w1 ⟨rfl, rfl⟩
    go_wp2
    go_ret
    exact ⟨by rw [HE.out]; rfl, Below.refl _ _⟩

end Go.Proofs.Ytinkjeifkjfkgaa
