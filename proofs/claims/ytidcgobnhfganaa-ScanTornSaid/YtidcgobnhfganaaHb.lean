/- The walks over the document's Right and Same. -/
import Derived.Test.YtidcgobnhfganaaHa
namespace Go.Proofs.Ytidcgobnhfganaa
open Go.RowKit

theorem str_list (s : ByteArray) : s.toList = s.data.toList := by
  have e : s = strB s.data.toList := by
    apply ByteArray.ext
    simp [strB]
  have h := strB_toList s.data.toList
  rw [← e] at h
  exact h
theorem str_empty (s : ByteArray) (h : s.size = 0) : s = strB [] := by
  apply ByteArray.ext
  have : s.data.size = 0 := h
  rw [Array.eq_empty_of_size_eq_zero this]
  rfl

set_option maxHeartbeats 1000000 in
theorem right_any (k t c : Int) (s : ByteArray) (A : Option Addr) (n cap : Nat) (w : World) (h0 : 0 ≤ t) : Calls Try.prog 6 #[.agg #[.int .i64 k, .int .u32 t, .string s, .slice A n cap, .int .i64 c]] w fun e w' =>
    e = .returned (.bool (mayB k t (s.size : Int) (n : Int) c)) ∧ Below w.heap.size w w' := by
  have H := Lib.hid (@mayB_iff k t (s.size : Int) (n : Int) c)
  have Hb := Lib.hid ((Below.refl w.heap.size w).alloc (Nat.le_refl _) (.cells #[.int .i64 k, .int .u32 t, .string s, .slice A n cap, .int .i64 c] 28))
  by_cases ht : t < 1
  · have ht0 : t = 0 := by omega
    subst ht0
    clear ht
    go_enter Try.func6, Try.ntmps6
    go_wp2
    go_ret
    exact ⟨ret_b (by rw [H.out]; simp), Hb.out⟩
  · have Ht := Lib.hid ht
    have ht2 : decide (t < 1) = false := by simpa using ht
    clear ht h0
    by_cases hk1 : k = 1
    · subst hk1
      by_cases h1 : 1 ≤ s.size
      · by_cases h2 : s.size ≤ 64
        · by_cases h3 : n ≤ 4096
          · go_enter Try.func6, Try.ntmps6
            go_wp2
            go_ret
            exact ⟨ret_b (by rw [H.out]; have := Ht.out; simp; omega), Hb.out⟩
          · go_enter Try.func6, Try.ntmps6
            go_wp2
            go_ret
            exact ⟨ret_b (by rw [H.out]; simp; omega), Hb.out⟩
        · go_enter Try.func6, Try.ntmps6
          go_wp2
          go_ret
          exact ⟨ret_b (by rw [H.out]; simp; omega), Hb.out⟩
      · go_enter Try.func6, Try.ntmps6
        go_wp2
        go_ret
        exact ⟨ret_b (by rw [H.out]; simp; omega), Hb.out⟩
    · by_cases hk2 : k = 2
      · subst hk2
        clear hk1
        by_cases h1 : 1 ≤ s.size
        · by_cases h2 : s.size ≤ 64
          · by_cases h3 : n = 0
            · have h4 : ((n : Int) == 0) = true := by simpa using h3
              have H3 := Lib.hid h3
              clear h3
              go_enter Try.func6, Try.ntmps6
              go_wp2
              go_ret
              exact ⟨ret_b (by rw [H.out]; have := Ht.out; have := H3.out; simp; omega), Hb.out⟩
            · have h4 : ((n : Int) == 0) = false := by simpa using h3
              have H3 := Lib.hid h3
              clear h3
              go_enter Try.func6, Try.ntmps6
              go_wp2
              go_ret
              exact ⟨ret_b (by rw [H.out]; have := H3.out; simp; omega), Hb.out⟩
          · go_enter Try.func6, Try.ntmps6
            go_wp2
            go_ret
            exact ⟨ret_b (by rw [H.out]; simp; omega), Hb.out⟩
        · go_enter Try.func6, Try.ntmps6
          go_wp2
          go_ret
          exact ⟨ret_b (by rw [H.out]; simp; omega), Hb.out⟩
      · by_cases hk3 : k = 3
        · subst hk3
          clear hk1 hk2
          by_cases h1 : s.size = 0
          · have hs : s.toList = [] := by rw [str_empty s h1, strB_toList]
            have H1 := Lib.hid h1
            clear h1
            by_cases hb : n = 0
            · have hb4 : ((n : Int) == 0) = true := by simpa using hb
              have HB := Lib.hid hb
              clear hb
              by_cases hc : 0 ≤ c
              · go_enter Try.func6, Try.ntmps6
                go_wp2
                go_ret
                exact ⟨ret_b (by rw [H.out, show (s.size : Int) = 0 by have := H1.out; omega]; have := Ht.out; have := HB.out; simp; omega), Hb.out⟩
              · go_enter Try.func6, Try.ntmps6
                go_wp2
                go_ret
                exact ⟨ret_b (by rw [H.out]; simp; omega), Hb.out⟩
            · have hb2 : ((n : Int) == 0) = false := by simpa using hb
              have HB := Lib.hid hb
              clear hb
              go_enter Try.func6, Try.ntmps6
              go_wp2
              go_ret
              exact ⟨ret_b (by rw [H.out]; have := HB.out; simp; omega), Hb.out⟩
          · have H1 := Lib.hid h1
            have hs : s.toList.isEmpty = false := by
              rw [List.isEmpty_eq_false_iff]
              intro e
              apply h1
              have h9 : s.data.toList = [] := (str_list s).symm.trans e
              have h8 := congrArg List.length h9
              rw [Array.length_toList] at h8
              exact h8
            have hs3 : ¬ s.toList = [] := by
              intro e
              rw [e] at hs
              cases hs
            clear h1
            go_enter Try.func6, Try.ntmps6
            go_wp2
            go_ret
            exact ⟨ret_b (by have h := H1.out; have h2 : (s.size : Int) ≠ 0 := by omega
                             rw [H.out]; generalize (s.size : Int) = z at h2 ⊢; simp; omega), Hb.out⟩
        · have q1 : (k == 1) = false := by simpa using hk1
          have q2 : (k == 2) = false := by simpa using hk2
          have q3 : (k == 3) = false := by simpa using hk3
          have HK := Lib.hid (And.intro hk1 (And.intro hk2 hk3))
          clear hk1 hk2 hk3
          go_enter Try.func6, Try.ntmps6
          go_wp2
          go_ret
          exact ⟨ret_b (by rw [H.out]; generalize (s.size : Int) = z; have := HK.out; simp; omega), Hb.out⟩

theorem same_yes (k t c : Int) (s : ByteArray) (A B : Option Addr) (n m cap cap2 : Nat) (xs : List UInt8) (w : World) (hA : ByteSl w Empty A n cap xs) (hB : ByteSl w Empty B m cap2 xs) :
    Calls Try.prog 18 #[.agg #[.int .i64 k, .int .u32 t, .string s, .slice A n cap, .int .i64 c], .agg #[.int .i64 k, .int .u32 t, .string s, .slice B m cap2, .int .i64 c]] w fun e w' =>
    e = .returned (.bool true) ∧ Below w.heap.size w w' := by
  have HA := Lib.hid hA
  have HB := Lib.hid hB
  clear hA hB
  go_enter Try.func18, Try.ntmps18
  have hO := Lib.hid (((Only.refl Empty w).alloc (.cells #[.int .i64 k, .int .u32 t, .string s, .slice A n cap, .int .i64 c] 28)).alloc (.cells #[.int .i64 k, .int .u32 t, .string s, .slice B m cap2, .int .i64 c] 28))
  have hcA := conv_bytes (HA.out.only hO.out (fun _ _ h => h))
  have hcB := conv_bytes (HB.out.only hO.out (fun _ _ h => h))
  go_wp2
  go_ret
  exact ⟨rfl, ((Below.refl _ _).alloc (Nat.le_refl _) _).alloc (by simp) _⟩

end Go.Proofs.Ytidcgobnhfganaa
