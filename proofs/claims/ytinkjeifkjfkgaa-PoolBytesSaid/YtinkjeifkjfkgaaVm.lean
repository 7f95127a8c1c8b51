/- The walks over the law's fixed and few (layer 11); pools that come in. -/
import Derived.Test.YtinkjeifkjfkgaaVl
import Derived.Test.YtinkjeifkjfkgaaVc
import Derived.Test.YtinkjeifkjfkgaaOp
namespace Go.Proofs.Ytinkjeifkjfkgaa
set_option maxRecDepth 100000
open Go.ChangeShapes Go.WideShapes Go.ChangeAt Go.RowKit Go.Joins

/-! ### few -/
def fewF (l : List Cst) : Bool := l.all (fun c => decide (c.s.length ≤ 2000)) && (decide (l.length ≤ 60) || (decide (1024 < l.length) && decide (l.length < 1029)))
theorem fewF_s {l : List Cst} (h : fewF l = true) : ∀ c ∈ l, c.s.length ≤ 2000 := fun c hc => by
  unfold fewF at h
  rw [Bool.and_eq_true] at h
  have := List.all_eq_true.mp h.1 c hc
  simpa using this
theorem fewF_len {l : List Cst} (h : fewF l = true) : l.length < 1029 := by
  unfold fewF at h
  rw [Bool.and_eq_true] at h
  have := h.2
  simp at this
  omega

theorem few11_any (A : Option Addr) (n cap : Nat) (l : List Cst) (w : World) (hP : PoolSl w A n cap l) (hok : ∀ c ∈ l, c.ok) :
    Calls Try.prog 7 #[.slice A n cap] w fun e w' => e = .returned (.bool (fewF l)) ∧ Below w.heap.size w w' := by
  have HP := Lib.hid hP
  have HOK := Lib.hid hok
  have hl := hP.1
  have hcm : n ≤ 9223372036854775807 := by have h1 := hP.2.1; have h2 := hP.2.2.1; unfold maxLen at h2; omega
  have Hl := Lib.hid hl
  clear hP hok hl
  go_enter Try.func7, Try.ntmps7
  go_wp2
  go_loopw [7] (fun a wr => ∃ k : Nat, k ≤ n ∧ a = .int .i64 (k : Int) ∧ Hid (Below w.heap.size w wr) ∧ Hid ((l.take k).all (fun c => decide (c.s.length ≤ 2000)) = true)) (fun a _ => n - (intOf a).toNat)
  case atStart => exact ⟨0, Nat.zero_le _, rfl, Lib.hid (Below.refl _ _), Lib.hid rfl⟩
  case round =>
    obtain ⟨k, hk, rfl, HB, HA⟩ := hrel
    by_cases hlt : k < n
    · obtain ⟨b, o, c, rfl, hc, hb, h0, h1, h2, h3, h4⟩ := pool_at (HP.out.below HB.out) hlt
      have hsz : (strB c.s).size = c.s.length := strB_size _
      have hcs := (HOK.out c (List.mem_of_getElem? hc)).s
      obtain ⟨m, hm⟩ : ∃ m, c.s.length = m := ⟨_, rfl⟩
      rw [hm] at hsz hcs
      have HB2 : Hid (Below w.heap.size w (wr.alloc (.cells c.cells.toArray 41))) := Lib.hid (HB.out.alloc HB.out.size _)
      by_cases hle : m ≤ 2000
      · have HA2 : Hid ((l.take (k + 1)).all (fun c => decide (c.s.length ≤ 2000)) = true) := Lib.hid (by rw [take_one l k c hc, List.all_append, HA.out]; simp; omega)
        have hq : decide ((2000 : Int) < (m : Int)) = false := decide_eq_false (by omega)
        clear hm hc hle
        go_wp2
        go_roundw
        case rel => exact ⟨k + 1, by omega, by go_num, HB2, HA2⟩
        case measure => simp [intOf]; omega
      · have HE : Hid (fewF l = false) := Lib.hid (by
          unfold fewF
          rw [Bool.and_eq_false_iff]
          left
          rw [← Bool.not_eq_true, List.all_eq_true]
          intro h
          have := h c (List.mem_of_getElem? hc)
          simp at this
          omega)
        have hq : decide ((2000 : Int) < (m : Int)) = true := decide_eq_true (by omega)
        clear hm hc hle
        go_wp2
        go_ret
        exact ⟨by rw [HE.out]; rfl, HB2.out⟩
    · obtain rfl : k = n := by omega
      have HE : Hid (fewF l = (decide (k ≤ 60) || (decide (1024 < k) && decide (k < 1029)))) := Lib.hid (by
        unfold fewF
        have := HA.out
        rw [← Hl.out, List.take_length] at this
        rw [this, Hl.out]
        rfl)
      by_cases h1 : k ≤ 60
      · have d1 : decide ((k : Int) ≤ 60) = true := decide_eq_true (by omega)
        have HF : Hid (fewF l = true) := Lib.hid (by rw [HE.out, decide_eq_true h1]; rfl)
        clear h1
        go_wp2
        go_ret
        exact ⟨by rw [HF.out]; rfl, HB.out⟩
      · have d1 : decide ((k : Int) ≤ 60) = false := decide_eq_false (by omega)
        by_cases h2 : 1024 < k
        · have d2 : decide ((1024 : Int) < (k : Int)) = true := decide_eq_true (by omega)
          have HF : Hid (fewF l = decide ((k : Int) < 1029)) := Lib.hid (by
            rw [HE.out, decide_eq_false h1, decide_eq_true h2, Bool.false_or, Bool.true_and]
            simp; omega)
          clear h1 h2
          go_wp2
          go_ret
          exact ⟨by rw [HF.out]; rfl, HB.out⟩
        · have d2 : decide ((1024 : Int) < (k : Int)) = false := decide_eq_false (by omega)
          have HF : Hid (fewF l = false) := Lib.hid (by rw [HE.out, decide_eq_false h1, decide_eq_false h2]; rfl)
          clear h1 h2
          go_wp2
          go_ret
          exact ⟨by rw [HF.out]; rfl, HB.out⟩

end Go.Proofs.Ytinkjeifkjfkgaa
