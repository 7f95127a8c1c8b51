/- Records as plain data, and the walks over what tells of a header alone: changes, mayBe, headOf, size, Size, and the document's Right and Size. -/
import Derived.Test.YtidbipbangifbaaGreatDoorZaj
import Derived.Test.YtidbipbangifbaaGreatDoorZab
import Derived.Test.YtidbipbangifbaaGreatDoorZae
import Derived.Lib.SlBytesConst
import Derived.Deep.QuietTactic
import Derived.BigQuiet
import Derived.RegionTactic
import Derived.ChangeAlike
namespace Go.Proofs.YtidbipbangifbaaGreatDoor
set_option maxRecDepth 100000
open Go.RowKit

/-- May a change have such a key and count? -/
def chB (key count : Int) : Bool := decide (1 ≤ key ∧ key ≤ 64 ∧ count = 0)
/-- May a record be? Of key and blob their lengths. -/
def mayB (kind txn key blob count : Int) : Bool :=
  decide (txn ≠ 0 ∧ ((kind = 1 ∧ 1 ≤ key ∧ key ≤ 64 ∧ count = 0 ∧ blob ≤ 4096) ∨ (kind = 2 ∧ 1 ≤ key ∧ key ≤ 64 ∧ count = 0 ∧ blob = 0) ∨ (kind = 3 ∧ key = 0 ∧ blob = 0 ∧ 0 ≤ count ∧ count ≤ 16)))

theorem mayB_iff {kind txn key blob count : Int} : mayB kind txn key blob count = true ↔
    (txn ≠ 0 ∧ ((kind = 1 ∧ 1 ≤ key ∧ key ≤ 64 ∧ count = 0 ∧ blob ≤ 4096) ∨ (kind = 2 ∧ 1 ≤ key ∧ key ≤ 64 ∧ count = 0 ∧ blob = 0) ∨ (kind = 3 ∧ key = 0 ∧ blob = 0 ∧ 0 ≤ count ∧ count ≤ 16))) := by
  unfold mayB
  exact decide_eq_true_iff
theorem chB_iff {key count : Int} : chB key count = true ↔ (1 ≤ key ∧ key ≤ 64 ∧ count = 0) := by
  unfold chB
  exact decide_eq_true_iff

/-- A bool that a decision is. -/
theorem ret_b {a b : Bool} (h : a = true ↔ b = true) : Ending.returned (.bool a) = .returned (.bool b) := by
  rw [Bool.eq_iff_iff.2 h]

theorem changes_any (k t a b c : Int) (w : World) : Calls Tryz.prog 187 #[.agg #[.int .i64 k, .int .u32 t, .int .i64 a, .int .i64 b, .int .i64 c]] w fun e w' =>
    e = .returned (.bool (chB a c)) ∧ w' = w.alloc (.cells #[.int .i64 k, .int .u32 t, .int .i64 a, .int .i64 b, .int .i64 c] 215) := by
  have H := Lib.hid (@chB_iff a c)
  by_cases h1 : 1 ≤ a
  · by_cases h2 : a ≤ 64
    · go_enter Tryz.func187, Tryz.ntmps187
      go_wp2
      go_ret
      exact ⟨ret_b (by rw [H.out]; simp; omega), rfl⟩
    · go_enter Tryz.func187, Tryz.ntmps187
      go_wp2
      go_ret
      exact ⟨ret_b (by rw [H.out]; simp; omega), rfl⟩
  · go_enter Tryz.func187, Tryz.ntmps187
    go_wp2
    go_ret
    exact ⟨ret_b (by rw [H.out]; simp; omega), rfl⟩

set_option maxHeartbeats 1000000 in
theorem mayBe_any (k t a b c : Int) (w : World) : Calls Tryz.prog 163 #[.agg #[.int .i64 k, .int .u32 t, .int .i64 a, .int .i64 b, .int .i64 c]] w fun e w' =>
    e = .returned (.bool (mayB k t a b c)) ∧ Below w.heap.size w w' := by
  have H := Lib.hid (@mayB_iff k t a b c)
  have hbw := (Below.refl w.heap.size w).alloc (Nat.le_refl _) (.cells #[.int .i64 k, .int .u32 t, .int .i64 a, .int .i64 b, .int .i64 c] 215)
  have Hb := Lib.hid hbw
  have Hb2 := Lib.hid (hbw.alloc (by simp) (.cells #[.int .i64 k, .int .u32 t, .int .i64 a, .int .i64 b, .int .i64 c] 215))
  clear hbw
  by_cases ht : t = 0
  · subst ht
    go_enter Tryz.func163, Tryz.ntmps163
    go_wp2
    go_ret
    exact ⟨ret_b (by rw [H.out]; simp), Hb.out⟩
  · have ht2 : (t == 0) = false := by simpa using ht
    have Ht := Lib.hid ht
    clear ht
    by_cases hk1 : k = 1
    · subst hk1
      have Hc := Lib.hid (@chB_iff a c)
      cases hch : chB a c with
      | true =>
        go_enter Tryz.func163, Tryz.ntmps163
        go_wp2_with ((with_reducible refine (changes_any _ _ _ _ _ _).mono ?_); rintro e w' ⟨rfl, rfl⟩)
        go_ret
        exact ⟨ret_b (by rw [H.out]; have := Hc.out.1 hch; have := Ht.out; simp; omega), Hb2.out⟩
      | false =>
        go_enter Tryz.func163, Tryz.ntmps163
        go_wp2_with ((with_reducible refine (changes_any _ _ _ _ _ _).mono ?_); rintro e w' ⟨rfl, rfl⟩)
        go_ret
        have hn : ¬ (1 ≤ a ∧ a ≤ 64 ∧ c = 0) := fun h => (Bool.eq_false_iff.1 hch) (Hc.out.2 h)
        exact ⟨ret_b (by rw [H.out]; simp; omega), Hb2.out⟩
    · by_cases hk2 : k = 2
      · subst hk2
        clear hk1
        have Hc := Lib.hid (@chB_iff a c)
        cases hch : chB a c with
        | true =>
          go_enter Tryz.func163, Tryz.ntmps163
          go_wp2_with ((with_reducible refine (changes_any _ _ _ _ _ _).mono ?_); rintro e w' ⟨rfl, rfl⟩)
          go_ret
          exact ⟨ret_b (by rw [H.out]; have := Hc.out.1 hch; have := Ht.out; simp; omega), Hb2.out⟩
        | false =>
          go_enter Tryz.func163, Tryz.ntmps163
          go_wp2_with ((with_reducible refine (changes_any _ _ _ _ _ _).mono ?_); rintro e w' ⟨rfl, rfl⟩)
          go_ret
          have hn : ¬ (1 ≤ a ∧ a ≤ 64 ∧ c = 0) := fun h => (Bool.eq_false_iff.1 hch) (Hc.out.2 h)
          exact ⟨ret_b (by rw [H.out]; simp; omega), Hb2.out⟩
      · by_cases hk3 : k = 3
        · subst hk3
          clear hk1 hk2
          by_cases ha : a = 0
          · subst ha
            by_cases hb : b = 0
            · subst hb
              by_cases hc : 0 ≤ c
              · go_enter Tryz.func163, Tryz.ntmps163
                go_wp2
                go_ret
                exact ⟨ret_b (by rw [H.out]; have := Ht.out; simp; omega), Hb.out⟩
              · go_enter Tryz.func163, Tryz.ntmps163
                go_wp2
                go_ret
                exact ⟨ret_b (by rw [H.out]; simp; omega), Hb.out⟩
            · have hb2 : (b == 0) = false := by simpa using hb
              have HB := Lib.hid hb
              clear hb
              go_enter Tryz.func163, Tryz.ntmps163
              go_wp2
              go_ret
              exact ⟨ret_b (by rw [H.out]; have := HB.out; simp; omega), Hb.out⟩
          · have ha2 : (a == 0) = false := by simpa using ha
            have HA := Lib.hid ha
            clear ha
            go_enter Tryz.func163, Tryz.ntmps163
            go_wp2
            go_ret
            exact ⟨ret_b (by rw [H.out]; have := HA.out; simp; omega), Hb.out⟩
        · have q1 : (k == 1) = false := by simpa using hk1
          have q2 : (k == 2) = false := by simpa using hk2
          have q3 : (k == 3) = false := by simpa using hk3
          have HK := Lib.hid (And.intro hk1 (And.intro hk2 hk3))
          clear hk1 hk2 hk3
          go_enter Tryz.func163, Tryz.ntmps163
          go_wp2
          go_ret
          exact ⟨ret_b (by rw [H.out]; have := HK.out; simp; omega), Hb.out⟩

theorem headOf_any (k t c : Int) (s : ByteArray) (A : Option Addr) (n cap : Nat) (w : World) : Calls Tryz.prog 136 #[.agg #[.int .i64 k, .int .u32 t, .string s, .slice A n cap, .int .i64 c]] w fun e w' =>
    e = .returned (.agg #[.int .i64 k, .int .u32 t, .int .i64 (s.size : Int), .int .i64 (n : Int), .int .i64 c]) ∧ Below w.heap.size w w' := by
  go_enter Tryz.func136, Tryz.ntmps136
  go_wp2
  refine bodyPost_ret (v := .agg #[.int .i64 k, .int .u32 t, .int .i64 (s.size : Int), .int .i64 (n : Int), .int .i64 c]) (by simp [results, Tryz.results136, go_sem]) rfl ⟨rfl, ?_⟩
  exact ((Below.refl _ _).alloc (Nat.le_refl _) _).alloc (by simp) _

theorem hSize_any (k t c : Int) (a b : Nat) (w : World) (ha : a ≤ 1048576) (hb : b ≤ 1048576) : Calls Tryz.prog 137 #[.agg #[.int .i64 k, .int .u32 t, .int .i64 (a : Int), .int .i64 (b : Int), .int .i64 c]] w fun e w' =>
    e = .returned (.int .i64 (((a + b + 16 : Nat)) : Int)) ∧ Below w.heap.size w w' := by
  go_enter Tryz.func137, Tryz.ntmps137
  go_wp2
  go_ret
  exact ⟨congrArg (fun v : Int => Ending.returned (Value.int .i64 v)) (by omega), (Below.refl _ _).alloc (Nat.le_refl _) _⟩

theorem rcSize_any (k t c : Int) (s : ByteArray) (A : Option Addr) (n cap : Nat) (w : World) (hs : s.size ≤ 1048576) (hn : n ≤ 1048576) : Calls Tryz.prog 110 #[.agg #[.int .i64 k, .int .u32 t, .string s, .slice A n cap, .int .i64 c]] w fun e w' =>
    e = .returned (.int .i64 (((s.size + n + 16 : Nat)) : Int)) ∧ Below w.heap.size w w' := by
  go_enter Tryz.func110, Tryz.ntmps110
  go_wp2_with fail
  have hb0 := (Below.refl w.heap.size w).alloc (Nat.le_refl _) (.cells #[.int .i64 k, .int .u32 t, .string s, .slice A n cap, .int .i64 c] 172)
  refine (headOf_any k t c s A n cap _).mono ?_
  rintro e1 w1 ⟨rfl, hb1⟩
  have Hb1 := Lib.hid (hb0.trans (hb1.mono hb0.size))
  clear hb0 hb1
  go_wp2_with fail
  refine (hSize_any k t c s.size n _ hs hn).mono ?_
  rintro e1 w2 ⟨rfl, hb2⟩
  have Hb2 := Lib.hid (Hb1.out.trans (hb2.mono Hb1.out.size))
  clear hb2
  go_wp2
  go_ret
  exact ⟨rfl, Hb2.out⟩


end Go.Proofs.YtidbipbangifbaaGreatDoor

/- The walks over the document's Right and Same. -/
namespace Go.Proofs.YtidbipbangifbaaGreatDoor
set_option maxRecDepth 100000
open Go.RowKit

theorem str_list (s : ByteArray) : s.toList = s.data.toList := by
  have e : s = strB s.data.toList := by
    apply ByteArray.ext
    simp [strB]
  have h := strB_toList s.data.toList
  rw [← e] at h
  exact h
theorem str_empty (s : ByteArray) (h : s.size = 0) : s = strB [] := by
  apply ByteArray.ext
  have : s.data.size = 0 := h
  rw [Array.eq_empty_of_size_eq_zero this]
  rfl


end Go.Proofs.YtidbipbangifbaaGreatDoor
