/- The walks over pool.formOf, part, isText, mayStand, Check. -/
import Derived.Test.YtinkjeifkjfkgaaVb
import Derived.Test.YtinkjeifkjfkgaaVd
import Derived.Test.YtinkjeifkjfkgaaUf
import Derived.Laws.StructEq
namespace Go.Proofs.Ytinkjeifkjfkgaa
set_option maxRecDepth 100000
open Go.RowKit

theorem formOf_any (t : Int) (w : World) : Calls Try.prog 31 #[.int .i64 t] w fun e w' => e = .returned (formF t).v ∧ Below w.heap.size w w' := by
  rcases tag_ways t with rfl | rfl | rfl | rfl | rfl | rfl | rfl | rfl | h
  iterate 8
    · go_enter Try.func31, Try.ntmps31
      go_wp2
      refine bodyPost_ret (v := (formF _).v) (by simp [results, Try.results31, go_sem, Frm.v, formF]) rfl ⟨rfl, ((Below.refl _ _).alloc (Nat.le_refl _) _).alloc (by simp) _⟩
  · have HE := Lib.hid (formF_no h)
    obtain ⟨h1, h3, h5, h7, h8, h9, h10, h12⟩ := h
    have d1 : (t == 1) = false := by simpa using h1
    have d3 : (t == 3) = false := by simpa using h3
    have d5 : (t == 5) = false := by simpa using h5
    have d7 : (t == 7) = false := by simpa using h7
    have d8 : (t == 8) = false := by simpa using h8
    have d9 : (t == 9) = false := by simpa using h9
    have d10 : (t == 10) = false := by simpa using h10
    have d12 : (t == 12) = false := by simpa using h12
    clear h1 h3 h5 h7 h8 h9 h10 h12
    go_enter Try.func31, Try.ntmps31
    go_wp2
    refine bodyPost_ret (v := noFrm.v) (by simp [results, Try.results31, go_sem, Frm.v, noFrm]) rfl ⟨by rw [HE.out], ((Below.refl _ _).alloc (Nat.le_refl _) _).alloc (by simp) _⟩

theorem form_ways (t : Int) : formF t = ⟨true, 0, 0, 0⟩ ∨ formF t = ⟨false, 8, 0, 0⟩ ∨ formF t = ⟨false, 4, 0, 0⟩ ∨ formF t = ⟨false, 0, 7, 12⟩ ∨ formF t = ⟨false, 0, 1, 1⟩ ∨ formF t = ⟨false, 0, 1, 0⟩ ∨ formF t = ⟨false, 0, 0, 0⟩ := by
  unfold formF noFrm
  repeat' split
  all_goals simp

set_option maxHeartbeats 1000000 in
theorem part_any (f : Frm) (hf : f = ⟨true, 0, 0, 0⟩ ∨ f = ⟨false, 8, 0, 0⟩ ∨ f = ⟨false, 4, 0, 0⟩ ∨ f = ⟨false, 0, 7, 12⟩ ∨ f = ⟨false, 0, 1, 1⟩ ∨ f = ⟨false, 0, 1, 0⟩ ∨ f = ⟨false, 0, 0, 0⟩) (c : Cst) (w : World) : Calls Try.prog 33 #[f.v, c.v] w fun e w' => e = .returned (partF f c).v ∧ Below w.heap.size w w' := by
  have HU := u64_wrap c.n
  have CS : Hid (∀ (n : Nat) W, 1 ≤ n → n ≤ 8 → Calls Try.prog 42 #[.int .u64 (bits64 c.n : Int), .int .i64 (n : Int)] W fun e w' => e = .returned (.int .i64 (sgn (bits64 c.n) n)) ∧ W = w') :=
    Lib.hid (fun n W h1 h2 => sign_yes (bits64 c.n) n W (u64_le _) h1 h2)
  rcases hf with rfl | rfl | rfl | rfl | rfl | rfl | rfl
  · have HE : Hid ((partF ⟨true, 0, 0, 0⟩ c).v = .agg #[.int .i64 c.tag, .int .i64 0, .int .i64 0, .int .i64 0, .string (strB c.s)]) := Lib.hid rfl
    simp only [Frm.v, Cst.v]
    rw [Cst.v] at HE
    go_enter Try.func33, Try.ntmps33
    go_wp2
    refine bodyPost_ret (v := .agg #[.int .i64 c.tag, .int .i64 0, .int .i64 0, .int .i64 0, .string (strB c.s)]) (by simp [results, Try.results33, go_sem, strB]) rfl ⟨by rw [HE.out], ((((Below.refl _ _).alloc (Nat.le_refl _) _).alloc (by simp) _).alloc (by simp; try omega) _).alloc (by simp; try omega) _⟩
  · have HE : Hid ((partF ⟨false, 8, 0, 0⟩ c).v = .agg #[.int .i64 c.tag, .int .i64 0, .int .i64 0, .int .i64 (sgn (bits64 c.n) 8), .string (strB [])]) := Lib.hid rfl
    simp only [Frm.v, Cst.v]
    rw [Cst.v] at HE
    go_enter Try.func33, Try.ntmps33
    go_wp2_with fail
    refine (CS.out 8 _ (by omega) (by omega)).mono ?_
    rintro e w1 ⟨rfl, rfl⟩
    go_wp2
    refine bodyPost_ret (v := .agg #[.int .i64 c.tag, .int .i64 0, .int .i64 0, .int .i64 (sgn (bits64 c.n) 8), .string (strB [])]) (by simp [results, Try.results33, go_sem, strB]) rfl ⟨by rw [HE.out], ((((Below.refl _ _).alloc (Nat.le_refl _) _).alloc (by simp) _).alloc (by simp; try omega) _).alloc (by simp; try omega) _⟩
  · have HE : Hid ((partF ⟨false, 4, 0, 0⟩ c).v = .agg #[.int .i64 c.tag, .int .i64 0, .int .i64 0, .int .i64 (sgn (bits64 c.n) 4), .string (strB [])]) := Lib.hid rfl
    simp only [Frm.v, Cst.v]
    rw [Cst.v] at HE
    go_enter Try.func33, Try.ntmps33
    go_wp2_with fail
    refine (CS.out 4 _ (by omega) (by omega)).mono ?_
    rintro e w1 ⟨rfl, rfl⟩
    go_wp2
    refine bodyPost_ret (v := .agg #[.int .i64 c.tag, .int .i64 0, .int .i64 0, .int .i64 (sgn (bits64 c.n) 4), .string (strB [])]) (by simp [results, Try.results33, go_sem, strB]) rfl ⟨by rw [HE.out], ((((Below.refl _ _).alloc (Nat.le_refl _) _).alloc (by simp) _).alloc (by simp; try omega) _).alloc (by simp; try omega) _⟩
  · have HE : Hid ((partF ⟨false, 0, 7, 12⟩ c).v = .agg #[.int .i64 c.tag, .int .i64 c.a, .int .i64 c.b, .int .i64 0, .string (strB [])]) := Lib.hid rfl
    simp only [Frm.v, Cst.v]
    rw [Cst.v] at HE
    go_enter Try.func33, Try.ntmps33
    go_wp2
    refine bodyPost_ret (v := .agg #[.int .i64 c.tag, .int .i64 c.a, .int .i64 c.b, .int .i64 0, .string (strB [])]) (by simp [results, Try.results33, go_sem, strB]) rfl ⟨by rw [HE.out], ((((Below.refl _ _).alloc (Nat.le_refl _) _).alloc (by simp) _).alloc (by simp; try omega) _).alloc (by simp; try omega) _⟩
  · have HE : Hid ((partF ⟨false, 0, 1, 1⟩ c).v = .agg #[.int .i64 c.tag, .int .i64 c.a, .int .i64 c.b, .int .i64 0, .string (strB [])]) := Lib.hid rfl
    simp only [Frm.v, Cst.v]
    rw [Cst.v] at HE
    go_enter Try.func33, Try.ntmps33
    go_wp2
    refine bodyPost_ret (v := .agg #[.int .i64 c.tag, .int .i64 c.a, .int .i64 c.b, .int .i64 0, .string (strB [])]) (by simp [results, Try.results33, go_sem, strB]) rfl ⟨by rw [HE.out], ((((Below.refl _ _).alloc (Nat.le_refl _) _).alloc (by simp) _).alloc (by simp; try omega) _).alloc (by simp; try omega) _⟩
  · have HE : Hid ((partF ⟨false, 0, 1, 0⟩ c).v = .agg #[.int .i64 c.tag, .int .i64 c.a, .int .i64 0, .int .i64 0, .string (strB [])]) := Lib.hid rfl
    simp only [Frm.v, Cst.v]
    rw [Cst.v] at HE
    go_enter Try.func33, Try.ntmps33
    go_wp2
    refine bodyPost_ret (v := .agg #[.int .i64 c.tag, .int .i64 c.a, .int .i64 0, .int .i64 0, .string (strB [])]) (by simp [results, Try.results33, go_sem, strB]) rfl ⟨by rw [HE.out], ((((Below.refl _ _).alloc (Nat.le_refl _) _).alloc (by simp) _).alloc (by simp; try omega) _).alloc (by simp; try omega) _⟩
  · have HE : Hid ((partF ⟨false, 0, 0, 0⟩ c).v = .agg #[.int .i64 c.tag, .int .i64 0, .int .i64 0, .int .i64 0, .string (strB [])]) := Lib.hid rfl
    simp only [Frm.v, Cst.v]
    rw [Cst.v] at HE
    go_enter Try.func33, Try.ntmps33
    go_wp2
    refine bodyPost_ret (v := .agg #[.int .i64 c.tag, .int .i64 0, .int .i64 0, .int .i64 0, .string (strB [])]) (by simp [results, Try.results33, go_sem, strB]) rfl ⟨by rw [HE.out], ((((Below.refl _ _).alloc (Nat.le_refl _) _).alloc (by simp) _).alloc (by simp; try omega) _).alloc (by simp; try omega) _⟩

end Go.Proofs.Ytinkjeifkjfkgaa
