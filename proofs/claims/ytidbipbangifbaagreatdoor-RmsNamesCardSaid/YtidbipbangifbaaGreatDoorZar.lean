/- The walks over the reader's methods: number, head, bytes. -/
import Derived.Test.YtidbipbangifbaaGreatDoorZal
import Derived.Test.YtidbipbangifbaaGreatDoorZaq
namespace Go.Proofs.YtidbipbangifbaaGreatDoor
set_option maxRecDepth 100000
open Go.RowKit

/-- A reader that stands at a place of its bytes. -/
def Rd (w : World) (g : Nat) (A : Option Addr) (n cap a : Nat) : Prop := Blk w g 238 #[.slice A n cap, .int .i64 (a : Int)]

set_option maxHeartbeats 1000000 in
theorem number_any (g : Nat) (A : Option Addr) (n cap a k : Nat) (xs : List UInt8) (w : World) (hR : Rd w g A n cap a) (hB : ByteSl w Empty A n cap xs) (h1 : 1 ≤ k) (h2 : k ≤ 8) (hm : n ≤ 1048576) (ha : a + k ≤ n) :
    Calls Tryz.prog 159 #[.pointer (some ⟨g, 0, none⟩), .int .i64 (k : Int)] w fun e w' => e = .returned (.int .u64 (getV ((xs.drop a).take k) : Int)) ∧ Rd w' g A n cap (a + k) ∧ Only (· = g) w w' := by
  unfold Rd at hR
  have hlt := hR.lt
  have hget := fun m => get_yes A n cap a k xs (w.drewN m) (hB.only ((Only.refl Empty w).drewN m) (fun _ _ h => h)) h1 h2 hm ha
  have Hget := Lib.hid hget
  have c0 := hR.cell 0
  have c1 := hR.cell 1
  have f1 := hR.frozen 1
  simp at c0 c1
  have HR := Lib.hid hR
  obtain ⟨v, hv⟩ : ∃ v, v = getV ((xs.drop a).take k) := ⟨_, rfl⟩
  rw [← hv] at Hget ⊢
  clear hget hR hB hv
  go_enter Tryz.func159, Tryz.ntmps159
  go_wp2
  go_quiet ((go_at_call 151; exact Calls.quiet_of_same ((Hget.out _).mono fun _ _ ⟨h1, h2⟩ => ⟨h1, h2.symm⟩)))
  go_wp2
  go_ret
  have e : (#[.slice A n cap, .int .i64 (a : Int)] : Array Value).setIfInBounds 1 (.int .i64 ((a : Int) + (k : Int))) = #[.slice A n cap, .int .i64 ((a + k : Nat) : Int)] := by simp
  have h := (HR.out.drewN nq).set_ 1 (.int .i64 ((a : Int) + (k : Int)))
  rw [e] at h
  exact ⟨rfl, h, ((Only.refl (· = g) w).drewN nq).setCell (p := ⟨g, 1, none⟩) (Or.inl rfl) _⟩

/-- What a header's bytes tell, number by number. -/
def nK (xs : List UInt8) : Nat := getV ((xs.drop 0).take 1)
def nT (xs : List UInt8) : Nat := getV ((xs.drop 1).take 4)
def nA (xs : List UInt8) : Nat := getV ((xs.drop 5).take 1)
def nB (xs : List UInt8) : Nat := getV ((xs.drop 6).take 2)
def nC (xs : List UInt8) : Nat := getV ((xs.drop 8).take 1)
def nS (xs : List UInt8) : Nat := getV ((xs.drop 9).take 2)
theorem getV_le (xs : List UInt8) (k m : Nat) (h : xs.length ≤ k) (hm : 256 ^ k = m + 1) : getV xs ≤ m := by
  have h1 := getV_lt xs
  have h2 : 256 ^ xs.length ≤ 256 ^ k := Nat.pow_le_pow_right (by decide) h
  omega
theorem nK_le (xs : List UInt8) : nK xs ≤ 255 := getV_le _ 1 _ (by simp; omega) rfl
theorem nT_le (xs : List UInt8) : nT xs ≤ 4294967295 := getV_le _ 4 _ (by simp; omega) rfl
theorem nA_le (xs : List UInt8) : nA xs ≤ 255 := getV_le _ 1 _ (by simp; omega) rfl
theorem nB_le (xs : List UInt8) : nB xs ≤ 65535 := getV_le _ 2 _ (by simp; omega) rfl
theorem nC_le (xs : List UInt8) : nC xs ≤ 255 := getV_le _ 1 _ (by simp; omega) rfl
theorem nS_le (xs : List UInt8) : nS xs ≤ 65535 := getV_le _ 2 _ (by simp; omega) rfl

/-- What a reader's header is worth. -/
def headV (xs : List UInt8) : Value := .agg #[.int .i64 (nK xs : Int), .int .u32 (nT xs : Int), .int .i64 (nA xs : Int), .int .i64 (nB xs : Int), .int .i64 (nC xs : Int)]

set_option maxHeartbeats 2000000 in
theorem head_any (g : Nat) (A : Option Addr) (n cap : Nat) (xs : List UInt8) (w : World) (hR : Rd w g A n cap 0) (hBy : ByteSl w (· = g) A n cap xs) (hm : n ≤ 1048576) (ha : 9 ≤ n) :
    Calls Tryz.prog 184 #[.pointer (some ⟨g, 0, none⟩)] w fun e w' => e = .returned (headV xs) ∧ Rd w' g A n cap 9 ∧ Only (· = g) w w' := by
  unfold headV
  have hlt : g < w.heap.size := hR.lt
  obtain ⟨v1, e1, b1⟩ : ∃ v, v = nK xs ∧ v ≤ 255 := ⟨_, rfl, nK_le xs⟩
  obtain ⟨v2, e2, b2⟩ : ∃ v, v = nT xs ∧ v ≤ 4294967295 := ⟨_, rfl, nT_le xs⟩
  obtain ⟨v3, e3, b3⟩ : ∃ v, v = nA xs ∧ v ≤ 255 := ⟨_, rfl, nA_le xs⟩
  obtain ⟨v4, e4, b4⟩ : ∃ v, v = nB xs ∧ v ≤ 65535 := ⟨_, rfl, nB_le xs⟩
  obtain ⟨v5, e5, b5⟩ : ∃ v, v = nC xs ∧ v ≤ 255 := ⟨_, rfl, nC_le xs⟩
  rw [← e1, ← e2, ← e3, ← e4, ← e5]
  have N1 : Hid (∀ W, Rd W g A n cap 0 → ByteSl W (· = g) A n cap xs → Calls Tryz.prog 159 #[.pointer (some ⟨g, 0, none⟩), .int .i64 1] W fun e W' => e = .returned (.int .u64 (v1 : Int)) ∧ Rd W' g A n cap 1 ∧ Only (· = g) W W') := Lib.hid fun W hR hB => by
    rw [e1]; exact number_any g A n cap 0 1 xs W hR (hB.mono (fun _ _ h => h.elim)) (by omega) (by omega) hm (by omega)
  have N2 : Hid (∀ W, Rd W g A n cap 1 → ByteSl W (· = g) A n cap xs → Calls Tryz.prog 159 #[.pointer (some ⟨g, 0, none⟩), .int .i64 4] W fun e W' => e = .returned (.int .u64 (v2 : Int)) ∧ Rd W' g A n cap 5 ∧ Only (· = g) W W') := Lib.hid fun W hR hB => by
    rw [e2]; exact number_any g A n cap 1 4 xs W hR (hB.mono (fun _ _ h => h.elim)) (by omega) (by omega) hm (by omega)
  have N3 : Hid (∀ W, Rd W g A n cap 5 → ByteSl W (· = g) A n cap xs → Calls Tryz.prog 159 #[.pointer (some ⟨g, 0, none⟩), .int .i64 1] W fun e W' => e = .returned (.int .u64 (v3 : Int)) ∧ Rd W' g A n cap 6 ∧ Only (· = g) W W') := Lib.hid fun W hR hB => by
    rw [e3]; exact number_any g A n cap 5 1 xs W hR (hB.mono (fun _ _ h => h.elim)) (by omega) (by omega) hm (by omega)
  have N4 : Hid (∀ W, Rd W g A n cap 6 → ByteSl W (· = g) A n cap xs → Calls Tryz.prog 159 #[.pointer (some ⟨g, 0, none⟩), .int .i64 2] W fun e W' => e = .returned (.int .u64 (v4 : Int)) ∧ Rd W' g A n cap 8 ∧ Only (· = g) W W') := Lib.hid fun W hR hB => by
    rw [e4]; exact number_any g A n cap 6 2 xs W hR (hB.mono (fun _ _ h => h.elim)) (by omega) (by omega) hm (by omega)
  have N5 : Hid (∀ W, Rd W g A n cap 8 → ByteSl W (· = g) A n cap xs → Calls Tryz.prog 159 #[.pointer (some ⟨g, 0, none⟩), .int .i64 1] W fun e W' => e = .returned (.int .u64 (v5 : Int)) ∧ Rd W' g A n cap 9 ∧ Only (· = g) W W') := Lib.hid fun W hR hB => by
    rw [e5]; exact number_any g A n cap 8 1 xs W hR (hB.mono (fun _ _ h => h.elim)) (by omega) (by omega) hm (by omega)
  have HR := Lib.hid hR
  have HBy := Lib.hid hBy
  clear e1 e2 e3 e4 e5 hR hBy
  obtain ⟨z, hz⟩ : ∃ z : Array Value, z = #[.int .i64 0, .int .u32 0, .int .i64 0, .int .i64 0, .int .i64 0] := ⟨_, rfl⟩
  have HO0 := Lib.hid (((Only.refl (· = g) w).alloc (.cells #[.int .i64 0, .int .u32 0, .int .i64 0, .int .i64 0, .int .i64 0] 215)).alloc (.cells #[.int .i64 0, .int .u32 0, .int .i64 0, .int .i64 0, .int .i64 0] 215))
  have HR0 := Lib.hid (show Rd _ g A n cap 0 from (HR.out.alloc (.cells #[.int .i64 0, .int .u32 0, .int .i64 0, .int .i64 0, .int .i64 0] 215)).alloc (.cells #[.int .i64 0, .int .u32 0, .int .i64 0, .int .i64 0, .int .i64 0] 215))
  have HB0 := Lib.hid (HBy.out.only HO0.out (fun _ _ h => h))
  clear hz z
  go_enter Tryz.func184, Tryz.ntmps184
  go_wp2_with fail
  refine (N1.out _ HR0.out HB0.out).mono ?_
  rintro x1 w1 ⟨rfl, hR1, hO1⟩
  have hk1 : Blk w1 (w.heap.size + 1) 215 #[.int .i64 0, .int .u32 0, .int .i64 0, .int .i64 0, .int .i64 0] := hO1.blk (by have h := Blk.new (w.alloc (.cells #[.int .i64 0, .int .u32 0, .int .i64 0, .int .i64 0, .int .i64 0] 215)) 215 #[.int .i64 0, .int .u32 0, .int .i64 0, .int .i64 0, .int .i64 0]; simpa using h) (by omega)
  have hj1 : Blk w1 w.heap.size 215 #[.int .i64 0, .int .u32 0, .int .i64 0, .int .i64 0, .int .i64 0] := hO1.blk ((Blk.new w 215 #[.int .i64 0, .int .u32 0, .int .i64 0, .int .i64 0, .int .i64 0]).alloc _) (by omega)
  have O1 := Lib.hid (HO0.out.trans hO1)
  have c1 := hk1.cell 0
  have f1 := hk1.frozen 0
  simp at c1
  have K1 := Lib.hid (show Blk (w1.setCell ⟨w.heap.size + 1, 0, none⟩ (.int .i64 (v1 : Int))) (w.heap.size + 1) 215 #[.int .i64 (v1 : Int), .int .u32 0, .int .i64 0, .int .i64 0, .int .i64 0] from hk1.set_ 0 (.int .i64 (v1 : Int)))
  have J1 := Lib.hid (show Blk (w1.setCell ⟨w.heap.size + 1, 0, none⟩ (.int .i64 (v1 : Int))) w.heap.size 215 #[.int .i64 0, .int .u32 0, .int .i64 0, .int .i64 0, .int .i64 0] from hj1.far (p := ⟨w.heap.size + 1, 0, none⟩) (by simp) _)
  have R1 := Lib.hid (show Rd (w1.setCell ⟨w.heap.size + 1, 0, none⟩ (.int .i64 (v1 : Int))) g A n cap 1 from Blk.far hR1 (p := ⟨w.heap.size + 1, 0, none⟩) (by simp; omega) _)
  have P1 := Lib.hid (O1.out.setCell (p := ⟨w.heap.size + 1, 0, none⟩) (Or.inr (by simp)) (.int .i64 (v1 : Int)))
  clear hk1 hj1 hR1 hO1
  go_wp2_with fail
  refine (N2.out _ R1.out (HBy.out.only P1.out (fun _ _ h => h))).mono ?_
  rintro x1 w2 ⟨rfl, hR2, hO2⟩
  have hk2 := hO2.blk K1.out (by omega)
  have hj2 := hO2.blk J1.out (by omega)
  have O2 := Lib.hid (P1.out.trans hO2)
  clear c1 f1
  have c2 := hk2.cell 1
  have f2 := hk2.frozen 1
  simp at c2
  have K2 := Lib.hid (show Blk (w2.setCell ⟨w.heap.size + 1, 1, none⟩ (.int .u32 (v2 : Int))) (w.heap.size + 1) 215 #[.int .i64 (v1 : Int), .int .u32 (v2 : Int), .int .i64 0, .int .i64 0, .int .i64 0] from hk2.set_ 1 (.int .u32 (v2 : Int)))
  have J2 := Lib.hid (show Blk (w2.setCell ⟨w.heap.size + 1, 1, none⟩ (.int .u32 (v2 : Int))) w.heap.size 215 #[.int .i64 0, .int .u32 0, .int .i64 0, .int .i64 0, .int .i64 0] from hj2.far (p := ⟨w.heap.size + 1, 1, none⟩) (by simp) _)
  have R2 := Lib.hid (show Rd (w2.setCell ⟨w.heap.size + 1, 1, none⟩ (.int .u32 (v2 : Int))) g A n cap 5 from Blk.far hR2 (p := ⟨w.heap.size + 1, 1, none⟩) (by simp; omega) _)
  have P2 := Lib.hid (O2.out.setCell (p := ⟨w.heap.size + 1, 1, none⟩) (Or.inr (by simp)) (.int .u32 (v2 : Int)))
  clear hk2 hj2 hR2 hO2
  go_wp2_with fail
  refine (N3.out _ R2.out (HBy.out.only P2.out (fun _ _ h => h))).mono ?_
  rintro x1 w3 ⟨rfl, hR3, hO3⟩
  have hk3 := hO3.blk K2.out (by omega)
  have hj3 := hO3.blk J2.out (by omega)
  have O3 := Lib.hid (P2.out.trans hO3)
  clear c2 f2
  have c3 := hk3.cell 2
  have f3 := hk3.frozen 2
  simp at c3
  have K3 := Lib.hid (show Blk (w3.setCell ⟨w.heap.size + 1, 2, none⟩ (.int .i64 (v3 : Int))) (w.heap.size + 1) 215 #[.int .i64 (v1 : Int), .int .u32 (v2 : Int), .int .i64 (v3 : Int), .int .i64 0, .int .i64 0] from hk3.set_ 2 (.int .i64 (v3 : Int)))
  have J3 := Lib.hid (show Blk (w3.setCell ⟨w.heap.size + 1, 2, none⟩ (.int .i64 (v3 : Int))) w.heap.size 215 #[.int .i64 0, .int .u32 0, .int .i64 0, .int .i64 0, .int .i64 0] from hj3.far (p := ⟨w.heap.size + 1, 2, none⟩) (by simp) _)
  have R3 := Lib.hid (show Rd (w3.setCell ⟨w.heap.size + 1, 2, none⟩ (.int .i64 (v3 : Int))) g A n cap 6 from Blk.far hR3 (p := ⟨w.heap.size + 1, 2, none⟩) (by simp; omega) _)
  have P3 := Lib.hid (O3.out.setCell (p := ⟨w.heap.size + 1, 2, none⟩) (Or.inr (by simp)) (.int .i64 (v3 : Int)))
  clear hk3 hj3 hR3 hO3
  go_wp2_with fail
  refine (N4.out _ R3.out (HBy.out.only P3.out (fun _ _ h => h))).mono ?_
  rintro x1 w4 ⟨rfl, hR4, hO4⟩
  have hk4 := hO4.blk K3.out (by omega)
  have hj4 := hO4.blk J3.out (by omega)
  have O4 := Lib.hid (P3.out.trans hO4)
  clear c3 f3
  have c4 := hk4.cell 3
  have f4 := hk4.frozen 3
  simp at c4
  have K4 := Lib.hid (show Blk (w4.setCell ⟨w.heap.size + 1, 3, none⟩ (.int .i64 (v4 : Int))) (w.heap.size + 1) 215 #[.int .i64 (v1 : Int), .int .u32 (v2 : Int), .int .i64 (v3 : Int), .int .i64 (v4 : Int), .int .i64 0] from hk4.set_ 3 (.int .i64 (v4 : Int)))
  have J4 := Lib.hid (show Blk (w4.setCell ⟨w.heap.size + 1, 3, none⟩ (.int .i64 (v4 : Int))) w.heap.size 215 #[.int .i64 0, .int .u32 0, .int .i64 0, .int .i64 0, .int .i64 0] from hj4.far (p := ⟨w.heap.size + 1, 3, none⟩) (by simp) _)
  have R4 := Lib.hid (show Rd (w4.setCell ⟨w.heap.size + 1, 3, none⟩ (.int .i64 (v4 : Int))) g A n cap 8 from Blk.far hR4 (p := ⟨w.heap.size + 1, 3, none⟩) (by simp; omega) _)
  have P4 := Lib.hid (O4.out.setCell (p := ⟨w.heap.size + 1, 3, none⟩) (Or.inr (by simp)) (.int .i64 (v4 : Int)))
  clear hk4 hj4 hR4 hO4
  go_wp2_with fail
  refine (N5.out _ R4.out (HBy.out.only P4.out (fun _ _ h => h))).mono ?_
  rintro x1 w5 ⟨rfl, hR5, hO5⟩
  have hk5 := hO5.blk K4.out (by omega)
  have hj5 := hO5.blk J4.out (by omega)
  have O5 := Lib.hid (P4.out.trans hO5)
  clear c4 f4
  have c50 := hk5.cell 0
  have j50 := hj5.cell 0
  have g50 := hj5.frozen 0
  have c51 := hk5.cell 1
  have j51 := hj5.cell 1
  have g51 := hj5.frozen 1
  have c52 := hk5.cell 2
  have j52 := hj5.cell 2
  have g52 := hj5.frozen 2
  have c53 := hk5.cell 3
  have j53 := hj5.cell 3
  have g53 := hj5.frozen 3
  have c54 := hk5.cell 4
  have j54 := hj5.cell 4
  have g54 := hj5.frozen 4
  have f5 := hk5.frozen 4
  simp at c50 j50 c51 j51 c52 j52 c53 j53 c54 j54
  have K5 := Lib.hid (show Blk (w5.setCell ⟨w.heap.size + 1, 4, none⟩ (.int .i64 (v5 : Int))) (w.heap.size + 1) 215 #[.int .i64 (v1 : Int), .int .u32 (v2 : Int), .int .i64 (v3 : Int), .int .i64 (v4 : Int), .int .i64 (v5 : Int)] from hk5.set_ 4 (.int .i64 (v5 : Int)))
  have J5 := Lib.hid (show Blk (w5.setCell ⟨w.heap.size + 1, 4, none⟩ (.int .i64 (v5 : Int))) w.heap.size 215 #[.int .i64 0, .int .u32 0, .int .i64 0, .int .i64 0, .int .i64 0] from hj5.far (p := ⟨w.heap.size + 1, 4, none⟩) (by simp) _)
  have R5 := Lib.hid (show Rd (w5.setCell ⟨w.heap.size + 1, 4, none⟩ (.int .i64 (v5 : Int))) g A n cap 9 from Blk.far hR5 (p := ⟨w.heap.size + 1, 4, none⟩) (by simp; omega) _)
  have P5 := Lib.hid (O5.out.setCell (p := ⟨w.heap.size + 1, 4, none⟩) (Or.inr (by simp)) (.int .i64 (v5 : Int)))
  clear hk5 hj5 hR5 hO5
  go_wp2_with fail
  refine bodyPost_ret (v := .agg #[.int .i64 (v1 : Int), .int .u32 (v2 : Int), .int .i64 (v3 : Int), .int .i64 (v4 : Int), .int .i64 (v5 : Int)]) (by simp [results, Tryz.results184, go_sem, j50, j51, j52, j53, j54]) rfl ⟨rfl, ?_, ?_⟩
  · have r := R5.out
    unfold Rd at r ⊢
    exact ((((r.far (p := ⟨w.heap.size, 0, none⟩) (by simp; omega) _).far (p := ⟨w.heap.size, 1, none⟩) (by simp; omega) _).far (p := ⟨w.heap.size, 2, none⟩) (by simp; omega) _).far (p := ⟨w.heap.size, 3, none⟩) (by simp; omega) _).far (p := ⟨w.heap.size, 4, none⟩) (by simp; omega) _
  · exact ((((P5.out.setCell (p := ⟨w.heap.size, 0, none⟩) (Or.inr (by simp)) _).setCell (p := ⟨w.heap.size, 1, none⟩) (Or.inr (by simp)) _).setCell (p := ⟨w.heap.size, 2, none⟩) (Or.inr (by simp)) _).setCell (p := ⟨w.heap.size, 3, none⟩) (Or.inr (by simp)) _).setCell (p := ⟨w.heap.size, 4, none⟩) (Or.inr (by simp)) _

/-- A row of no bytes at all. -/
theorem own_nil (w : World) (base : Nat) : w.ownsRow base 5 1 (.slice none 0 0) 0 (([] : List UInt8).map B8) := ⟨rfl, Or.inl ⟨rfl, rfl⟩⟩

theorem ByteSl.drop_ {w : World} {S : Nat → Prop} {ad : Addr} {n cap : Nat} {xs : List UInt8} (h : ByteSl w S (some ad) n cap xs) (a k : Nat) (hk : a + k ≤ n) : ByteSl w S (some (ad.add a)) k (cap - a) ((xs.drop a).take k) := by
  refine ⟨by rw [List.length_take, List.length_drop, h.1]; omega, by have := h.2.1; omega, by have := h.2.2.1; omega, fun h0 => ?_⟩
  obtain ⟨ad', e, hb, hs, hc⟩ := h.2.2.2 (by omega)
  cases e
  refine ⟨_, rfl, by rw [addr_add_block]; exact hb, by rw [addr_add_block]; exact hs, fun j x hx => ?_⟩
  rw [List.getElem?_take] at hx
  by_cases hj : j < k
  · rw [if_pos hj, List.getElem?_drop] at hx
    rw [add_add]
    exact hc (a + j) x hx
  · rw [if_neg hj] at hx
    cases hx

set_option maxHeartbeats 1000000 in
theorem rbytes_any (g : Nat) (ad : Addr) (n cap a k : Nat) (xs : List UInt8) (w : World) (hR : Rd w g (some ad) n cap a) (hB : ByteSl w (· = g) (some ad) n cap xs) (hm : n ≤ 1048576) (ha : a + k < n) :
    Calls Tryz.prog 186 #[.pointer (some ⟨g, 0, none⟩), .int .i64 (k : Int)] w fun e w' => Ret8 w.heap.size k ((xs.drop a).take k) e w' ∧ Rd w' g (some ad) n cap (a + k) ∧ Only (· = g) w w' := by
  unfold Rd at hR
  have hlt := hR.lt
  have c0 := hR.cell 0
  have c1 := hR.cell 1
  have f1 := hR.frozen 1
  simp at c0 c1
  have hcap := hB.2.1
  have hcap2 := hB.2.2.1
  unfold maxLen at hcap2
  have HR := Lib.hid hR
  have HB := Lib.hid hB
  clear hR hB
  go_enter Tryz.func186, Tryz.ntmps186
  go_wp2
  have q1 : ((a : Int)) ≤ (a : Int) + (k : Int) := by omega
  have q2 : ((a : Int) + (k : Int)) ≤ (cap : Int) := by omega
  have q3 : (0 : Int) ≤ (a : Int) := by omega
  have q4 : ((a : Int) + (k : Int)) ≤ (n : Int) := by omega
  have e : (#[.slice (some ad) n cap, .int .i64 (a : Int)] : Array Value).setIfInBounds 1 (.int .i64 ((a : Int) + (k : Int))) = #[.slice (some ad) n cap, .int .i64 ((a : Int) + (k : Int))] := by simp
  have hk := HR.out.set_ 1 (.int .i64 ((a : Int) + (k : Int)))
  rw [e] at hk
  have d0 := hk.cell 0
  have d1 := hk.cell 1
  simp at d0 d1
  generalize hw2 : w.setCell ⟨g, 1, none⟩ (.int .i64 ((a : Int) + (k : Int))) = w2 at hk d0 d1 ⊢
  clear c0 c1 f1 e hk
  have hca : ¬ cap = a := by omega
  have hta : ((a : Int) + (k : Int)).toNat = a + k := by omega
  have HR2 : Hid (Rd w2 g (some ad) n cap (a + k)) := Lib.hid (by
    have h := HR.out.set_ 1 (.int .i64 ((a : Int) + (k : Int)))
    rw [hw2] at h
    unfold Rd
    simpa using h)
  have HO2 : Hid (Only (· = g) w w2) := Lib.hid (by rw [← hw2]; exact (Only.refl (· = g) w).setCell (p := ⟨g, 1, none⟩) (Or.inl rfl) _)
  have HB2 := Lib.hid ((HB.out.only HO2.out (fun _ _ h => h)).drop_ a k (by omega))
  have Hbase : Hid (w.heap.size ≤ w2.drew.heap.size) := Lib.hid HO2.out.size
  have HB3 : Hid (ByteSl w2.drew (· = g) (some (ad.add a)) k (cap - a) ((xs.drop a).take k)) := Lib.hid (HB2.out.only ((Only.refl (· = g) w2).drew) (fun _ _ h => h))
  have Hk : Hid (0 + k ≤ 16777216) := Lib.hid (by omega)
  clear hw2 hcap2 hm ha
  have hs0 : w2.drew.cell? ⟨g, 0, none⟩ = some (.slice (some ad) n cap) ∧ w2.drew.cell? ⟨g, 1, none⟩ = some (.int .i64 ((a : Int) + (k : Int))) := ⟨d0, d1⟩
  have HN : Hid (some (ad.add a) = none → k = 0 ∧ cap - a = 0) := Lib.hid (fun h => by cases h)
  have HG : Hid (∀ W, w2.drew.grownBy W (Value.ownBlock (.slice none 0 0)) → Only Empty w2.drew W) := Lib.hid (fun W h => Only.of_grown (S := Empty) h (fun q hq => by simp [Value.ownBlock] at hq))
  have HS : Hid (∀ W, Only Empty w2.drew W → W.cell? ⟨g, 0, none⟩ = some (.slice (some ad) n cap) ∧ W.cell? ⟨g, 1, none⟩ = some (.int .i64 ((a : Int) + (k : Int)))) := Lib.hid (fun W h =>
    ⟨(h.cell (p := ⟨g, 0, none⟩) (cell_lt hs0.1) (fun h => h)).trans hs0.1, (h.cell (p := ⟨g, 1, none⟩) (cell_lt hs0.2) (fun h => h)).trans hs0.2⟩)
  go_region_held3 (fun W => W.cell? ⟨g, 0, none⟩ = some (.slice (some ad) n cap) ∧ W.cell? ⟨g, 1, none⟩ = some (.int .i64 ((a : Int) + (k : Int)))) (first | exact hs0 | exact hs5)
    ((refine step_append_bytes rfl (.const (.slice none 0 0)) (.tmp 27) rfl w.heap.size (.slice none 0 0) rfl 0 [] (own_nil _ _) (some (ad.add a)) k (cap - a) ((xs.drop a).take k) (· = g) rfl HB3.out HN.out Hk.out Hbase.out ?_; intro v5 w5 hown5 hg5 hnn5; have hg6 := HG.out w5 hg5; have hs5 := HS.out w5 hg6))
  go_wp2
  go_ret
  refine ⟨⟨_, rfl, ?_⟩, hg6.blk ?_ (fun h => h), HO2.out.trans ?_⟩
  · rw [Nat.zero_add, List.nil_append] at hown5
    exact hown5
  · exact HR2.out.drew
  · exact (Only.refl (· = g) w2).drew.trans (hg6.mono (fun _ _ h => h.elim))

end Go.Proofs.YtidbipbangifbaaGreatDoor

/- The walk over the reader's record. -/
namespace Go.Proofs.YtidbipbangifbaaGreatDoor
set_option maxRecDepth 100000
open Go.RowKit

/-- A record as a value, whose blob is a row made since base. -/
def RecIs (base : Nat) (k t c : Int) (key blob : List UInt8) (v : Value) (w : World) : Prop :=
  ∃ A n cap, v = .agg #[.int .i64 k, .int .u32 t, .string (strB key), .slice A n cap, .int .i64 c] ∧ blob.length = n ∧ w.ownsRow base 5 1 (.slice A n cap) n (blob.map B8)
def RetRec (base : Nat) (k t c : Int) (key blob : List UInt8) (e : Ending) (w : World) : Prop := ∃ v, e = .returned v ∧ RecIs base k t c key blob v w

theorem ret8_slice {base k : Nat} {zs : List UInt8} {e : Ending} {w : World} (h : Ret8 base k zs e w) : ∃ A cap, e = .returned (.slice A k cap) ∧ w.ownsRow base 5 1 (.slice A k cap) k (zs.map B8) ∧ ByteSl w Empty A k cap zs := by
  obtain ⟨u, rfl, ho⟩ := h
  obtain ⟨A, cap, rfl, hb, -⟩ := ByteSl.of_own (S := Empty) ho (fun _ _ _ h => h)
  exact ⟨A, cap, rfl, ho, hb⟩

set_option maxHeartbeats 2000000 in
theorem record_any (g : Nat) (ad : Addr) (n cap : Nat) (k t c : Int) (a b : Nat) (xs : List UInt8) (w : World) (hR : Rd w g (some ad) n cap 11) (hB : ByteSl w (· = g) (some ad) n cap xs) (hm : n ≤ 1048576) (ha : 11 + a + b < n) :
    Calls Tryz.prog 161 #[.pointer (some ⟨g, 0, none⟩), .agg #[.int .i64 k, .int .u32 t, .int .i64 (a : Int), .int .i64 (b : Int), .int .i64 c]] w fun e w' =>
      RetRec w.heap.size k t c ((xs.drop 11).take a) ((xs.drop (11 + a)).take b) e w' ∧ Only (· = g) w w' := by
  have hlt : g < w.heap.size := hR.lt
  have HR := Lib.hid hR
  have HBy := Lib.hid hB
  have N1 : Hid (∀ W, Rd W g (some ad) n cap 11 → ByteSl W (· = g) (some ad) n cap xs → Calls Tryz.prog 186 #[.pointer (some ⟨g, 0, none⟩), .int .i64 (a : Int)] W fun e W' => Ret8 W.heap.size a ((xs.drop 11).take a) e W' ∧ Rd W' g (some ad) n cap (11 + a) ∧ Only (· = g) W W') := Lib.hid fun W hR hB =>
    rbytes_any g ad n cap 11 a xs W hR hB hm (by omega)
  have N2 : Hid (∀ W, Rd W g (some ad) n cap (11 + a) → ByteSl W (· = g) (some ad) n cap xs → Calls Tryz.prog 186 #[.pointer (some ⟨g, 0, none⟩), .int .i64 (b : Int)] W fun e W' => Ret8 W.heap.size b ((xs.drop (11 + a)).take b) e W' ∧ Rd W' g (some ad) n cap (11 + a + b) ∧ Only (· = g) W W') := Lib.hid fun W hR hB =>
    rbytes_any g ad n cap (11 + a) b xs W hR hB hm (by omega)
  have hO0 := ((Only.refl (· = g) w).alloc (.cells #[.int .i64 k, .int .u32 t, .int .i64 (a : Int), .int .i64 (b : Int), .int .i64 c] 215)).alloc (.cells #[.int .i64 0, .int .u32 0, .string ⟨#[]⟩, .slice none 0 0, .int .i64 0] 172)
  have hR0 : Rd _ g (some ad) n cap 11 := (HR.out.alloc (.cells #[.int .i64 k, .int .u32 t, .int .i64 (a : Int), .int .i64 (b : Int), .int .i64 c] 215)).alloc (.cells #[.int .i64 0, .int .u32 0, .string ⟨#[]⟩, .slice none 0 0, .int .i64 0] 172)
  have HO0 := Lib.hid hO0
  have HR0 := Lib.hid hR0
  have HB0 := Lib.hid (HBy.out.only HO0.out (fun _ _ h => h))
  have hlen : ((xs.drop 11).take a).length = a := by have := hB.1; simp; omega
  have hlen2 : ((xs.drop (11 + a)).take b).length = b := by have := hB.1; simp; omega
  have Hlen := Lib.hid hlen
  have Hlen2 := Lib.hid hlen2
  clear hR hB hO0 hR0 hlen hlen2
  go_enter Tryz.func161, Tryz.ntmps161
  go_wp2_with fail
  refine (N1.out _ HR0.out HB0.out).mono ?_
  rintro x1 w1 ⟨h8, hR1, hO1⟩
  obtain ⟨A1, cap1, rfl, hown1, hBk⟩ := ret8_slice h8
  have hcv := conv_bytes hBk
  have hbox : Blk w1 w.heap.size 215 #[.int .i64 k, .int .u32 t, .int .i64 (a : Int), .int .i64 (b : Int), .int .i64 c] := hO1.blk ((Blk.new w 215 #[.int .i64 k, .int .u32 t, .int .i64 (a : Int), .int .i64 (b : Int), .int .i64 c]).alloc _) (by omega)
  have hres : Blk w1 (w.heap.size + 1) 172 #[.int .i64 0, .int .u32 0, .string ⟨#[]⟩, .slice none 0 0, .int .i64 0] := hO1.blk (by have h := Blk.new (w.alloc (.cells #[.int .i64 k, .int .u32 t, .int .i64 (a : Int), .int .i64 (b : Int), .int .i64 c] 215)) 172 #[.int .i64 0, .int .u32 0, .string ⟨#[]⟩, .slice none 0 0, .int .i64 0]; simpa using h) (by omega)
  have Hbox := Lib.hid hbox
  have Hres := Lib.hid hres
  have HR1 := Lib.hid hR1
  have HO1 := Lib.hid (HO0.out.trans hO1)
  have HB1 := Lib.hid (HBy.out.only HO1.out (fun _ _ h => h))
  clear hbox hres hR1 hO1 h8 hown1 hBk
  go_wp2_with fail
  clear hcv
  have HS : Hid (∀ W, Only (fun q => q = g ∨ q = w.heap.size + 1) w1 W → W.cell? ⟨w.heap.size, 0, none⟩ = some (.int .i64 k) ∧ W.cell? ⟨w.heap.size, 1, none⟩ = some (.int .u32 t) ∧ W.cell? ⟨w.heap.size, 3, none⟩ = some (.int .i64 (b : Int)) ∧ W.cell? ⟨w.heap.size, 4, none⟩ = some (.int .i64 c)) := Lib.hid (fun W h => by
    have hb := h.blk Hbox.out (by omega)
    exact ⟨hb.cell 0, hb.cell 1, hb.cell 3, hb.cell 4⟩)
  have hD : Only (fun q => q = g ∨ q = w.heap.size + 1) w1 w1.drew := (Only.refl _ _).drew
  have hs1 := HS.out _ hD
  have HRd : Hid (Rd w1.drew g (some ad) n cap (11 + a)) := Lib.hid (Blk.drew HR1.out)
  have HBd : Hid (ByteSl w1.drew (· = g) (some ad) n cap xs) := Lib.hid (HB1.out.only ((Only.refl (· = g) w1).drew) (fun _ _ h => h))
  have HRes : Hid (∀ W, Only (· = g) w1.drew W → Blk W (w.heap.size + 1) 172 #[.int .i64 0, .int .u32 0, .string ⟨#[]⟩, .slice none 0 0, .int .i64 0]) := Lib.hid (fun W h => h.blk Hres.out.drew (by omega))
  have HD := Lib.hid hD
  clear hD
  go_region_held3 (fun W => W.cell? ⟨w.heap.size, 0, none⟩ = some (.int .i64 k) ∧ W.cell? ⟨w.heap.size, 1, none⟩ = some (.int .u32 t) ∧ W.cell? ⟨w.heap.size, 3, none⟩ = some (.int .i64 (b : Int)) ∧ W.cell? ⟨w.heap.size, 4, none⟩ = some (.int .i64 c)) (first | with_reducible exact hs1 | with_reducible exact hs10 | ((with_reducible refine HS.out _ ?_); exact (((((hT10.setCell (p := ⟨w.heap.size + 1, 0, none⟩) (Or.inl (Or.inr rfl)) _).setCell (p := ⟨w.heap.size + 1, 1, none⟩) (Or.inl (Or.inr rfl)) _).setCell (p := ⟨w.heap.size + 1, 2, none⟩) (Or.inl (Or.inr rfl)) _).setCell (p := ⟨w.heap.size + 1, 3, none⟩) (Or.inl (Or.inr rfl)) _).setCell (p := ⟨w.heap.size + 1, 4, none⟩) (Or.inl (Or.inr rfl)) _)))
    ((go_at_call 186; (with_reducible refine (N2.out _ HRd.out HBd.out).mono ?_); rintro e10 w10 ⟨h10, hR10, hO10⟩; obtain ⟨A2, cap2, rfl, hown2, hB2⟩ := ret8_slice h10; have hT10 := HD.out.trans (hO10.mono (fun _ _ h => Or.inl h)); have hs10 := HS.out _ hT10; have hr10 := HRes.out _ hO10; have c0 := hr10.cell 0; have c1 := hr10.cell 1; have c2 := hr10.cell 2; have c3 := hr10.cell 3; have c4 := hr10.cell 4; have f0 := hr10.frozen 0; have f1 := hr10.frozen 1; have f2 := hr10.frozen 2; have f3 := hr10.frozen 3; have f4 := hr10.frozen 4; simp at c0 c1 c2 c3 c4))
  go_wp2
  have hz1 : w.heap.size + 1 < w1.heap.size := Hres.out.lt
  have hT : Only (· = w.heap.size + 1) w10 (((((w10.setCell ⟨w.heap.size + 1, 0, none⟩ (.int .i64 k)).setCell ⟨w.heap.size + 1, 1, none⟩ (.int .u32 t)).setCell ⟨w.heap.size + 1, 2, none⟩ (.string (strB ((xs.drop 11).take a)))).setCell ⟨w.heap.size + 1, 3, none⟩ (.slice A2 b cap2)).setCell ⟨w.heap.size + 1, 4, none⟩ (.int .i64 c)) :=
    (((((Only.refl (· = w.heap.size + 1) w10).setCell (p := ⟨w.heap.size + 1, 0, none⟩) (Or.inl rfl) _).setCell (p := ⟨w.heap.size + 1, 1, none⟩) (Or.inl rfl) _).setCell (p := ⟨w.heap.size + 1, 2, none⟩) (Or.inl rfl) _).setCell (p := ⟨w.heap.size + 1, 3, none⟩) (Or.inl rfl) _).setCell (p := ⟨w.heap.size + 1, 4, none⟩) (Or.inl rfl) _
  refine bodyPost_ret (v := .agg #[.int .i64 k, .int .u32 t, .string (strB ((xs.drop 11).take a)), .slice A2 b cap2, .int .i64 c]) (by simp [results, Tryz.results161, go_sem, c0, c1, c2, c3, c4]) rfl ⟨?_, ?_⟩
  · have h1 : w1.drew.heap.size = w1.heap.size := rfl
    exact ⟨_, rfl, A2, b, cap2, rfl, Hlen2.out, own_base (own_only hown2 hT (fun q h2 _ => by omega)) (by omega)⟩
  · refine (HO1.out.drew.trans hO10).trans' hT (fun q h1 h2 => ?_)
    omega

end Go.Proofs.YtidbipbangifbaaGreatDoor

/- A record's bytes as plain data; the walks over head.bytes and rec.Bytes. -/
namespace Go.Proofs.YtidbipbangifbaaGreatDoor
set_option maxRecDepth 100000
open Go.RowKit

/-- The nine bytes of a header that its sum is of. -/
def nineB (k t a b c : Nat) : List UInt8 := putL k 1 ++ putL t 4 ++ putL a 1 ++ putL b 2 ++ putL c 1
def headR (k t a b c : Nat) : List UInt8 := nineB k t a b c ++ putL (crc16 (nineB k t a b c)).toNat 2
/-- All that a record's sum of 32 bits is of. -/
def bodyR (k t c : Nat) (key blob : List UInt8) : List UInt8 := headR k t key.length blob.length c ++ key ++ blob
/-- A record's bytes but the last one. -/
def recB (k t c : Nat) (key blob : List UInt8) : List UInt8 := bodyR k t c key blob ++ putL (crc32 (bodyR k t c key blob)).toNat 4
theorem nineB_len (k t a b c : Nat) : (nineB k t a b c).length = 9 := by simp [nineB, putL_len]
theorem headR_len (k t a b c : Nat) : (headR k t a b c).length = 11 := by simp [headR, nineB_len, putL_len]
theorem bodyR_len (k t c : Nat) (key blob : List UInt8) : (bodyR k t c key blob).length = 11 + key.length + blob.length := by simp only [bodyR, List.length_append, headR_len]
theorem recB_len (k t c : Nat) (key blob : List UInt8) : (recB k t c key blob).length = 15 + key.length + blob.length := by simp only [recB, List.length_append, bodyR_len, putL_len]; omega

/-- A call's world: what was there is as it was; one block of its own is known whole. -/
structure Acc (w0 : World) (g : Nat) (t : TypeId) (cs : Array Value) (W : World) : Prop where
  below : Below w0.heap.size w0 W
  blk : Blk W g t cs
theorem Acc.next {w0 : World} {g : Nat} {t : TypeId} {cs : Array Value} {W W' : World} (h : Acc w0 g t cs W) (k : Below W.heap.size W W') : Acc w0 g t cs W' :=
  ⟨h.below.trans (k.mono h.below.size), h.blk.of (k.block g h.blk.lt)⟩
theorem Acc.alloc {w0 : World} {g : Nat} {t : TypeId} {cs : Array Value} {W : World} (h : Acc w0 g t cs W) (o : Obj) : Acc w0 g t cs (W.alloc o) :=
  ⟨h.below.alloc h.below.size o, h.blk.alloc o⟩

/-- Bytes that a call has made so far, in a row made since base. -/
structure Got (base : Nat) (W : World) (A : Option Addr) (n cap : Nat) (xs : List UInt8) : Prop where
  own : W.ownsRow base 5 1 (.slice A n cap) n (xs.map B8)
  bytes : ByteSl W Empty A n cap xs
  isNil : A = none → n = 0 ∧ cap = 0
theorem Got.of_own {base : Nat} {W : World} {n : Nat} {xs : List UInt8} {u : Value} (h : W.ownsRow base 5 1 u n (xs.map B8)) : ∃ A cap, u = .slice A n cap ∧ Got base W A n cap xs := by
  obtain ⟨A, cap, rfl, hb, -⟩ := ByteSl.of_own (S := Empty) h (fun _ _ _ h => h)
  refine ⟨A, cap, rfl, h, hb, fun e => ?_⟩
  subst e
  rcases h.2 with ⟨e, h0⟩ | ⟨g, c, cur, e, _⟩
  · cases e
    exact ⟨rfl, rfl⟩
  · cases e
theorem Got.nil_ (base : Nat) (W : World) : Got base W none 0 0 [] := ⟨own_nil _ _, ByteSl.nil_ _ _ _ _ (by simp [maxLen]), fun _ => ⟨rfl, rfl⟩⟩
theorem Got.next {base : Nat} {W W' : World} {A : Option Addr} {n cap : Nat} {xs : List UInt8} (h : Got base W A n cap xs) (k : Below W.heap.size W W') : Got base W' A n cap xs :=
  ⟨own_only h.own (Only.of_below (S := Empty) k) (fun _ _ _ h => h), h.bytes.only (Only.of_below (S := Empty) k) (fun _ _ h => h), h.isNil⟩
theorem Got.alloc {base : Nat} {W : World} {A : Option Addr} {n cap : Nat} {xs : List UInt8} (h : Got base W A n cap xs) (o : Obj) : Got base (W.alloc o) A n cap xs :=
  h.next ((Below.refl _ _).alloc (Nat.le_refl _) o)
theorem Got.lower {base base' : Nat} {W : World} {A : Option Addr} {n cap : Nat} {xs : List UInt8} (h : Got base W A n cap xs) (k : base' ≤ base) : Got base' W A n cap xs := ⟨own_base h.own k, h.bytes, h.isNil⟩

theorem put_step {w0 : World} {base g : Nat} {t : TypeId} {cs : Array Value} (A : Option Addr) (m cap : Nat) (xs : List UInt8) (v n : Nat) (W : World) (hC : Acc w0 g t cs W) (hG : Got base W A m cap xs) (hbase : base ≤ W.heap.size) (hv : v ≤ 18446744073709551615) (h1 : 1 ≤ n) (h2 : n ≤ 8) (hm : m ≤ 1048576) :
    Calls Tryz.prog 48 #[.slice A m cap, .int .u64 (v : Int), .int .i64 (n : Int)] W fun e W' => (∃ A' cap', e = .returned (.slice A' (m + n) cap') ∧ Got base W' A' (m + n) cap' (xs ++ putL v n)) ∧ Acc w0 g t cs W' :=
  (put_yes A m cap xs v n W hG.bytes hv h1 h2 hm).mono fun e W' ⟨⟨u, he, ho⟩, hb⟩ => by
    obtain ⟨A', cap', rfl, hg⟩ := Got.of_own (own_base ho hbase)
    exact ⟨⟨A', cap', he, hg⟩, hC.next hb⟩
theorem refPut_step {w0 : World} {base g : Nat} {t : TypeId} {cs : Array Value} (A : Option Addr) (m cap : Nat) (xs : List UInt8) (v n : Nat) (W : World) (hC : Acc w0 g t cs W) (hG : Got base W A m cap xs) (hbase : base ≤ W.heap.size) (hv : v ≤ 18446744073709551615) (h1 : 1 ≤ n) (h2 : n ≤ 8) (hm : m ≤ 1048576) :
    Calls Tryz.prog 72 #[.slice A m cap, .int .u64 (v : Int), .int .i64 (n : Int)] W fun e W' => (∃ A' cap', e = .returned (.slice A' (m + n) cap') ∧ Got base W' A' (m + n) cap' (xs ++ putL v n)) ∧ Acc w0 g t cs W' :=
  (refPut_yes A m cap xs v n W hG.bytes hG.isNil hv h1 h2 hm).mono fun e W' ⟨⟨u, he, ho⟩, hb⟩ => by
    obtain ⟨A', cap', rfl, hg⟩ := Got.of_own (own_base ho hbase)
    exact ⟨⟨A', cap', he, hg⟩, hC.next hb⟩

set_option maxHeartbeats 2000000 in
theorem hBytes_any (k t a b c : Nat) (w : World) (hk : k ≤ 255) (ht : t ≤ 4294967295) (ha : a ≤ 255) (hb : b ≤ 65535) (hc : c ≤ 255) :
    Calls Tryz.prog 164 #[.agg #[.int .i64 (k : Int), .int .u32 (t : Int), .int .i64 (a : Int), .int .i64 (b : Int), .int .i64 (c : Int)]] w fun e w' => Ret8 w.heap.size 11 (headR k t a b c) e w' ∧ Below w.heap.size w w' := by
  have C0 : Hid (Acc w w.heap.size 215 #[.int .i64 (k : Int), .int .u32 (t : Int), .int .i64 (a : Int), .int .i64 (b : Int), .int .i64 (c : Int)] (w.alloc (.cells #[.int .i64 (k : Int), .int .u32 (t : Int), .int .i64 (a : Int), .int .i64 (b : Int), .int .i64 (c : Int)] 215))) := Lib.hid ⟨(Below.refl w.heap.size w).alloc (Nat.le_refl _) _, Blk.new w 215 _⟩
  go_enter Tryz.func164, Tryz.ntmps164
  go_wp2_with fail
  refine (put_step none 0 0 [] k 1 _ C0.out (Got.nil_ w.heap.size _) C0.out.below.size (by omega) (by omega) (by omega) (by omega)).mono ?_
  rintro e1 w1 ⟨⟨A1, c1, rfl, hG1⟩, hC1⟩
  have G1 := Lib.hid hG1
  have C1 := Lib.hid hC1
  have z1 := hC1.blk.cell 1
  simp at z1
  clear hG1 hC1
  go_wp2_with fail
  clear z1
  refine (put_step A1 1 c1 ([] ++ putL k 1) t 4 _ C1.out G1.out C1.out.below.size (by omega) (by omega) (by omega) (by omega)).mono ?_
  rintro e1 w2 ⟨⟨A2, c2, rfl, hG2⟩, hC2⟩
  have G2 := Lib.hid hG2
  have C2 := Lib.hid hC2
  have z2 := hC2.blk.cell 2
  simp at z2
  clear hG2 hC2
  go_wp2_with fail
  clear z2
  refine (put_step A2 5 c2 ([] ++ putL k 1 ++ putL t 4) a 1 _ C2.out G2.out C2.out.below.size (by omega) (by omega) (by omega) (by omega)).mono ?_
  rintro e1 w3 ⟨⟨A3, c3, rfl, hG3⟩, hC3⟩
  have G3 := Lib.hid hG3
  have C3 := Lib.hid hC3
  have z3 := hC3.blk.cell 3
  simp at z3
  clear hG3 hC3
  go_wp2_with fail
  clear z3
  refine (put_step A3 6 c3 ([] ++ putL k 1 ++ putL t 4 ++ putL a 1) b 2 _ C3.out G3.out C3.out.below.size (by omega) (by omega) (by omega) (by omega)).mono ?_
  rintro e1 w4 ⟨⟨A4, c4, rfl, hG4⟩, hC4⟩
  have G4 := Lib.hid hG4
  have C4 := Lib.hid hC4
  have z4 := hC4.blk.cell 4
  simp at z4
  clear hG4 hC4
  go_wp2_with fail
  clear z4
  refine (put_step A4 8 c4 ([] ++ putL k 1 ++ putL t 4 ++ putL a 1 ++ putL b 2) c 1 _ C4.out G4.out C4.out.below.size (by omega) (by omega) (by omega) (by omega)).mono ?_
  rintro e1 w5 ⟨⟨A5, c5, rfl, hG5⟩, hC5⟩
  have hG6 : Got w.heap.size w5 A5 9 c5 (nineB k t a b c) := hG5
  have G5 := Lib.hid hG6
  have C5 := Lib.hid hC5
  clear hG5 hC5 hG6
  go_wp2_with fail
  refine (sum16_any A5 9 c5 (nineB k t a b c) _ G5.out.bytes).mono ?_
  rintro e1 w6 ⟨rfl, hb6⟩
  have G6 := Lib.hid (G5.out.next hb6)
  have C6 := Lib.hid (C5.out.next hb6)
  clear hb6
  unfold V16
  have hv := (crc16 (nineB k t a b c)).isLt
  obtain ⟨v, hve⟩ : ∃ v, v = (crc16 (nineB k t a b c)).toNat := ⟨_, rfl⟩
  rw [← hve] at hv ⊢
  have hv2 : v ≤ 65535 := by omega
  have Hve := Lib.hid hve
  clear hv hve
  go_wp2_with fail
  refine (put_step A5 9 c5 (nineB k t a b c) v 2 _ C6.out G6.out C6.out.below.size (by omega) (by omega) (by omega) (by omega)).mono ?_
  rintro e1 w7 ⟨⟨A7, c7, rfl, hG7⟩, hC7⟩
  have G7 := Lib.hid hG7
  have C7 := Lib.hid hC7
  clear hG7 hC7
  go_wp2
  go_ret
  refine ⟨⟨_, rfl, ?_⟩, C7.out.below⟩
  have h := G7.out.own
  rw [Hve.out] at h
  exact h

end Go.Proofs.YtidbipbangifbaaGreatDoor

/- The walks over rec.Bytes: refused, and made. -/
namespace Go.Proofs.YtidbipbangifbaaGreatDoor
set_option maxRecDepth 100000
open Go.RowKit

set_option maxHeartbeats 1000000 in
theorem rcBytes_no (k t c : Int) (s : ByteArray) (A : Option Addr) (n cap : Nat) (w : World) (hno : mayB k t (s.size : Int) (n : Int) c = false) :
    Calls Tryz.prog 132 #[.agg #[.int .i64 k, .int .u32 t, .string s, .slice A n cap, .int .i64 c]] w fun e w' => e = .returned (.tuple #[.slice none 0 0, .int .i64 8]) ∧ Below w.heap.size w w' := by
  have Hno := Lib.hid hno
  clear hno
  go_enter Tryz.func132, Tryz.ntmps132
  go_wp2_with fail
  have hb0 := (Below.refl w.heap.size w).alloc (Nat.le_refl _) (.cells #[.int .i64 k, .int .u32 t, .string s, .slice A n cap, .int .i64 c] 172)
  refine (headOf_any k t c s A n cap _).mono ?_
  rintro e1 w1 ⟨rfl, hb1⟩
  have Hb1 := Lib.hid (hb0.trans (hb1.mono hb0.size))
  clear hb0 hb1
  go_wp2_with fail
  have hb2 := Hb1.out.alloc Hb1.out.size (.cells #[.int .i64 k, .int .u32 t, .int .i64 (s.size : Int), .int .i64 (n : Int), .int .i64 c] 215)
  refine (mayBe_any k t (s.size : Int) (n : Int) c _).mono ?_
  rw [Hno.out]
  rintro e1 w2 ⟨rfl, hb3⟩
  have Hb3 := Lib.hid (hb2.trans (hb3.mono hb2.size))
  clear hb2 hb3
  go_wp2
  go_ret2
  exact ⟨rfl, Hb3.out⟩

set_option maxHeartbeats 2000000 in
theorem rcBytes_yes (k t c : Nat) (s : ByteArray) (A : Option Addr) (n cap : Nat) (xs : List UInt8) (w : World) (hyes : mayB (k : Int) (t : Int) (s.size : Int) (n : Int) (c : Int) = true) (ht : t ≤ 4294967295) (hB : ByteSl w Empty A n cap xs) (hA : A = none → n = 0 ∧ cap = 0) :
    Calls Tryz.prog 132 #[.agg #[.int .i64 (k : Int), .int .u32 (t : Int), .string s, .slice A n cap, .int .i64 (c : Int)]] w fun e w' =>
      (∃ A' cap', e = .returned (.tuple #[.slice A' (15 + s.size + n) cap', .int .i64 0]) ∧ Got w.heap.size w' A' (15 + s.size + n) cap' (recB k t c s.data.toList xs)) ∧ Below w.heap.size w w' := by
  have hy := mayB_iff.1 hyes
  have hk : k ≤ 255 := by omega
  have ha : s.size ≤ 64 := by omega
  have hb : n ≤ 4096 := by omega
  have hc : c ≤ 16 := by omega
  have Hyes := Lib.hid hyes
  have HB := Lib.hid hB
  have HA := Lib.hid hA
  clear hyes hB hA hy
  have C0 : Hid (Acc w w.heap.size 172 #[.int .i64 (k : Int), .int .u32 (t : Int), .string s, .slice A n cap, .int .i64 (c : Int)] (w.alloc (.cells #[.int .i64 (k : Int), .int .u32 (t : Int), .string s, .slice A n cap, .int .i64 (c : Int)] 172))) := Lib.hid ⟨(Below.refl w.heap.size w).alloc (Nat.le_refl _) _, Blk.new w 172 _⟩
  go_enter Tryz.func132, Tryz.ntmps132
  go_wp2_with fail
  refine (headOf_any k t c s A n cap _).mono ?_
  rintro e1 w1 ⟨rfl, hb1⟩
  have C1 := Lib.hid (C0.out.next hb1)
  clear hb1
  go_wp2_with fail
  have C2 := Lib.hid (C1.out.alloc (.cells #[.int .i64 (k : Int), .int .u32 (t : Int), .int .i64 (s.size : Int), .int .i64 (n : Int), .int .i64 (c : Int)] 215))
  have hk2 := Blk.new w1 215 #[.int .i64 (k : Int), .int .u32 (t : Int), .int .i64 (s.size : Int), .int .i64 (n : Int), .int .i64 (c : Int)]
  refine (mayBe_any k t (s.size : Int) (n : Int) c _).mono ?_
  rw [Hyes.out]
  rintro e1 w2 ⟨rfl, hb3⟩
  have C3 := Lib.hid (C2.out.next hb3)
  have K3 := Lib.hid (hk2.of (hb3.block w1.heap.size (by simp)))
  clear hb3 hk2
  go_wp2_with fail
  have HS : Hid (∀ W, Only (fun q => w2.heap.size ≤ q) w2 W → W.cell? ⟨w1.heap.size, 0, none⟩ = some (.int .i64 (k : Int)) ∧ W.cell? ⟨w1.heap.size, 1, none⟩ = some (.int .u32 (t : Int)) ∧ W.cell? ⟨w1.heap.size, 2, none⟩ = some (.int .i64 (s.size : Int)) ∧ W.cell? ⟨w1.heap.size, 3, none⟩ = some (.int .i64 (n : Int)) ∧ W.cell? ⟨w1.heap.size, 4, none⟩ = some (.int .i64 (c : Int)) ∧ W.cell? ⟨w.heap.size, 2, none⟩ = some (.string s)) := Lib.hid (fun W h => by
    have hk4 := h.blk K3.out (by have := K3.out.lt; omega)
    have hk1 := h.blk C3.out.blk (by have := C3.out.blk.lt; omega)
    exact ⟨hk4.cell 0, hk4.cell 1, hk4.cell 2, hk4.cell 3, hk4.cell 4, hk1.cell 2⟩)
  have hD : Only (fun q => w2.heap.size ≤ q) w2 w2.drew := (Only.refl _ _).drew
  have hs1 := HS.out _ hD
  have HD := Lib.hid hD
  have N1 : Hid (∀ W, W.heap.size = w2.heap.size → Calls Tryz.prog 164 #[.agg #[.int .i64 (k : Int), .int .u32 (t : Int), .int .i64 (s.size : Int), .int .i64 (n : Int), .int .i64 (c : Int)]] W fun e W' => (∃ A' cap', e = .returned (.slice A' 11 cap') ∧ W'.ownsRow w2.heap.size 5 1 (.slice A' 11 cap') 11 ((headR k t s.size n c).map B8)) ∧ Only (fun q => w2.heap.size ≤ q) W W' ∧ w2.heap.size ≤ W'.heap.size) := Lib.hid (fun W hW =>
    (hBytes_any k t s.size n c W hk ht (by omega) (by omega) (by omega)).mono fun e W' ⟨⟨u, he, ho⟩, hb⟩ => by
      rw [hW] at ho
      obtain ⟨A', cap', rfl, -, -⟩ := ByteSl.of_own (S := Empty) ho (fun _ _ _ h => h)
      exact ⟨⟨A', cap', he, ho⟩, Only.of_below hb, by have := hb.size; omega⟩)
  have Hsz : Hid (11 + s.size ≤ 16777216) := Lib.hid (by omega)
  have Hd2 : Hid (w2.drew.heap.size = w2.heap.size) := Lib.hid rfl
  clear hD
  go_region_held3 (fun W => W.cell? ⟨w1.heap.size, 0, none⟩ = some (.int .i64 (k : Int)) ∧ W.cell? ⟨w1.heap.size, 1, none⟩ = some (.int .u32 (t : Int)) ∧ W.cell? ⟨w1.heap.size, 2, none⟩ = some (.int .i64 (s.size : Int)) ∧ W.cell? ⟨w1.heap.size, 3, none⟩ = some (.int .i64 (n : Int)) ∧ W.cell? ⟨w1.heap.size, 4, none⟩ = some (.int .i64 (c : Int)) ∧ W.cell? ⟨w.heap.size, 2, none⟩ = some (.string s)) (first | with_reducible exact hs1 | with_reducible exact hs10 | with_reducible exact hs11)
    (first | ((go_at_call 164; (with_reducible refine (N1.out _ Hd2.out).mono ?_); rintro e10 w10 ⟨⟨A10, c10, rfl, hown10⟩, hO10, hz10⟩; have hT10 := HD.out.trans hO10; have hs10 := HS.out _ hT10)) | ((refine step_append_str rfl (.tmp 12) (.tmp 14) rfl w2.heap.size (.slice A10 11 c10) rfl 11 (headR k t s.size n c) hown10 s rfl Hsz.out hz10 ?_; intro v11 w11 hown11 hg11 hnn11; have hO11 := Only.of_grown (S := fun q => w2.heap.size ≤ q) hg11 (fun q hq _ => (hown10.lt q hq).1); have hs11 := HS.out _ (hT10.trans hO11))))
  have hT11 := hT10.trans hO11
  have hC11 : Acc w w.heap.size 172 #[.int .i64 (k : Int), .int .u32 (t : Int), .string s, .slice A n cap, .int .i64 (c : Int)] w11 :=
    ⟨C3.out.below.trans (hT11.below (B := w.heap.size) C3.out.below.size (fun q h1 h2 => by have := C3.out.below.size; omega)), hT11.blk C3.out.blk (by have := C3.out.blk.lt; omega)⟩
  have C11 := Lib.hid hC11
  have O11 := Lib.hid (own_base hown11 C3.out.below.size)
  have B11 := Lib.hid (HB.out.only (Only.of_below (S := Empty) hC11.below) (fun _ _ h => h))
  have z11 := hC11.blk.cell 3
  simp at z11
  clear hT11 hC11 hown11 hg11 hnn11 hO11 hs11 hs10 hT10 hO10 hz10 hown10 hs1
  go_wp2_with (at_builtin; refine wpList_append_bytes rfl (.tmp 16) (.tmp 18) rfl w.heap.size _ rfl (11 + s.size) (headR k t s.size n c ++ s.data.toList) O11.out A n cap xs Empty rfl B11.out HA.out (by omega) C11.out.below.size ?_)
  intro v12 w12 hown12 hg12 hnn12
  have hown13 : w12.ownsRow w.heap.size 5 1 v12 (11 + s.size + n) ((headR k t s.size n c ++ s.data.toList ++ xs).map B8) := by
    rw [List.map_append, List.map_append, List.append_assoc]
    exact hown12
  obtain ⟨A12, c12, rfl, hG12⟩ := Got.of_own hown13
  have hlt := O11.out.lt
  have hb12 : Below w.heap.size w w12 := below_grown C11.out.below C11.out.below.size hg12 (fun q hq => (hlt q hq).1)
  have hlen : s.data.toList.length = s.size := Array.length_toList
  have hxl : xs.length = n := HB.out.1
  have hbody : headR k t s.size n c ++ s.data.toList ++ xs = bodyR k t c s.data.toList xs := by unfold bodyR; rw [hlen, hxl]
  rw [hbody] at hG12
  have G12 := Lib.hid hG12
  have C12 := Lib.hid hb12
  clear hown12 hown13 hG12 hg12 hnn12 hlt hb12 hlen hxl hbody z11
  go_wp2_with fail
  refine (sum32_any A12 (11 + s.size + n) c12 (bodyR k t c s.data.toList xs) _ G12.out.bytes).mono ?_
  rintro e1 w13 ⟨rfl, hb13⟩
  have G13 := Lib.hid (G12.out.next hb13)
  have C13 := Lib.hid (C12.out.trans (hb13.mono C12.out.size))
  clear hb13
  unfold V32
  have hv := (crc32 (bodyR k t c s.data.toList xs)).isLt
  obtain ⟨v, hve⟩ : ∃ v, v = (crc32 (bodyR k t c s.data.toList xs)).toNat := ⟨_, rfl⟩
  rw [← hve] at hv ⊢
  have hv2 : v ≤ 4294967295 := by omega
  have Hve := Lib.hid hve
  clear hv hve
  go_wp2_with fail
  refine (put_yes A12 (11 + s.size + n) c12 (bodyR k t c s.data.toList xs) v 4 _ G13.out.bytes (by omega) (by omega) (by omega) (by omega)).mono ?_
  rintro e1 w14 ⟨⟨u, rfl, hown14⟩, hb14⟩
  have h14 := own_base hown14 C13.out.size
  rw [Hve.out, show 11 + s.size + n + 4 = 15 + s.size + n by omega] at h14
  obtain ⟨A14, c14, rfl, hG14⟩ := Got.of_own (base := w.heap.size) (xs := recB k t c s.data.toList xs) h14
  have G14 := Lib.hid hG14
  have C14 := Lib.hid (C13.out.trans (hb14.mono C13.out.size))
  clear hown14 hb14 h14 hG14
  go_wp2
  go_ret2
  exact ⟨⟨_, _, rfl, G14.out⟩, C14.out⟩

end Go.Proofs.YtidbipbangifbaaGreatDoor

/- What a record's bytes tell, as plain functions; the walks over rec.parseHead. -/
namespace Go.Proofs.YtidbipbangifbaaGreatDoor
set_option maxRecDepth 100000
open Go.RowKit

/-- A header's error, of any bytes. -/
def hdE (xs : List UInt8) : Int :=
  if xs[0]?.getD 255 = 255 then 11 else if xs.length < 11 then 6 else if nS xs ≠ (crc16 (xs.take 9)).toNat then 7 else if mayB (nK xs) (nT xs) (nA xs) (nB xs) (nC xs) = true then 0 else 8
/-- A header of zeros. -/
def zeroH : Value := .agg #[.int .i64 0, .int .u32 0, .int .i64 0, .int .i64 0, .int .i64 0]
def HeadOk (xs : List UInt8) (w w' : World) (e : Ending) : Prop := e = .returned (.tuple #[if hdE xs = 0 then headV xs else zeroH, .int .i64 (hdE xs)]) ∧ Below w.heap.size w w'

theorem u8_dec (x : UInt8) (y : UInt8) (z : Int) (h : (y.toNat : Int) = z) : ((x.toNat : Int) == z) = decide (x = y) := by
  rw [← h]
  by_cases hx : x = y
  · subst hx
    simp
  · rw [decide_eq_false hx, beq_eq_false_iff_ne]
    intro e
    apply hx
    apply UInt8.toNat_inj.1
    omega

theorem parseHead_none (A : Option Addr) (cap : Nat) (w : World) : Calls Tryz.prog 158 #[.slice A 0 cap] w fun e w' => HeadOk [] w w' e := by
  have hc : Hid (hdE [] = 11) := Lib.hid (by unfold hdE; rw [if_pos (by rfl)])
  go_enter Tryz.func158, Tryz.ntmps158
  go_wp2
  refine bodyPost_ret (v := .tuple #[zeroH, .int .i64 11]) (by simp [results, Tryz.results158, go_sem, zeroH]) rfl ⟨?_, (Below.refl _ _).alloc (Nat.le_refl _) _⟩
  rw [hc.out]
  rfl

set_option maxHeartbeats 1000000 in
theorem parseHead_blank (ad : Addr) (n cap : Nat) (xs : List UInt8) (w : World) (hB : ByteSl w Empty (some ad) n cap xs) (hn : 0 < n) (h0 : xs[0]? = some 255) :
    Calls Tryz.prog 158 #[.slice (some ad) n cap] w fun e w' => HeadOk xs w w' e := by
  have hc : Hid (hdE xs = 11) := Lib.hid (by unfold hdE; rw [if_pos (by rw [h0]; rfl)])
  obtain ⟨ad', e, hbl, -, hcell⟩ := hB.2.2.2 hn
  cases e
  obtain ⟨b, o, sp⟩ := ad
  have k0 : w.cell? ⟨b, o, sp⟩ = some (.int .u8 255) := hcell 0 255 h0
  have hbl : b < w.heap.size := hbl
  have q0 : ((n : Int) == 0) = false := by simp; omega
  clear hcell hB h0
  go_enter Tryz.func158, Tryz.ntmps158
  go_wp2
  refine bodyPost_ret (v := .tuple #[zeroH, .int .i64 11]) (by simp [results, Tryz.results158, go_sem, zeroH]) rfl ⟨?_, (Below.refl _ _).alloc (Nat.le_refl _) _⟩
  rw [hc.out]
  rfl

set_option maxHeartbeats 1000000 in
theorem parseHead_short (ad : Addr) (n cap : Nat) (xs : List UInt8) (x : UInt8) (w : World) (hB : ByteSl w Empty (some ad) n cap xs) (hn : 0 < n) (h11 : n < 11) (h0 : xs[0]? = some x) (hx : x ≠ 255) :
    Calls Tryz.prog 158 #[.slice (some ad) n cap] w fun e w' => HeadOk xs w w' e := by
  have hc : Hid (hdE xs = 6) := Lib.hid (by unfold hdE; rw [if_neg (by rw [h0]; exact hx), if_pos (by have := hB.1; omega)])
  obtain ⟨ad', e, hbl, -, hcell⟩ := hB.2.2.2 hn
  cases e
  obtain ⟨b, o, sp⟩ := ad
  have k0 : w.cell? ⟨b, o, sp⟩ = some (.int .u8 (x.toNat : Int)) := hcell 0 x h0
  have hbl : b < w.heap.size := hbl
  have q0 : ((n : Int) == 0) = false := by simp; omega
  have q1 := u8_dec x 255 255 rfl
  rw [decide_eq_false hx] at q1
  clear hcell hB h0 hx
  go_enter Tryz.func158, Tryz.ntmps158
  go_wp2
  refine bodyPost_ret (v := .tuple #[zeroH, .int .i64 6]) (by simp [results, Tryz.results158, go_sem, zeroH]) rfl ⟨?_, (Below.refl _ _).alloc (Nat.le_refl _) _⟩
  rw [hc.out]
  rfl

theorem ByteSl.mono_of {w : World} {S T : Nat → Prop} {b o : Nat} {sp : Option Nat} {n cap : Nat} {xs : List UInt8} (h : ByteSl w S (some ⟨b, o, sp⟩) n cap xs) (hT : ¬ T b) : ByteSl w T (some ⟨b, o, sp⟩) n cap xs :=
  ⟨h.1, h.2.1, h.2.2.1, fun hn => by
    obtain ⟨ad, e, hb, hs, hc⟩ := h.2.2.2 hn
    cases e
    exact ⟨_, rfl, hb, hT, hc⟩⟩

set_option maxHeartbeats 2000000 in
theorem parseHead_sum (b o : Nat) (sp : Option Nat) (n cap : Nat) (xs : List UInt8) (x : UInt8) (w : World) (hB : ByteSl w Empty (some ⟨b, o, sp⟩) n cap xs) (h11 : 11 ≤ n) (hm : n ≤ 1048576) (h0 : xs[0]? = some x) (hx : x ≠ 255)
    (hne : nS xs ≠ (crc16 (xs.take 9)).toNat) :
    Calls Tryz.prog 158 #[.slice (some ⟨b, o, sp⟩) n cap] w fun e w' => HeadOk xs w w' e := by
  have hc : Hid (hdE xs = 7) := Lib.hid (by unfold hdE; rw [if_neg (by rw [h0]; exact hx), if_neg (by have := hB.1; omega), if_pos hne])
  obtain ⟨ad', e, hbl, -, hcell⟩ := hB.2.2.2 (by omega)
  cases e
  have k0 : w.cell? ⟨b, o, sp⟩ = some (.int .u8 (x.toNat : Int)) := hcell 0 x h0
  have hbl : b < w.heap.size := hbl
  have hcap := hB.2.1
  have hcap2 : cap ≤ 9223372036854775807 := by have := hB.2.2.1; unfold maxLen at this; omega
  have q0 : ((n : Int) == 0) = false := by simp; omega
  have q1 := u8_dec x 255 255 rfl
  rw [decide_eq_false hx] at q1
  have HB := Lib.hid hB
  have Hne := Lib.hid hne
  clear hne
  have hO0 := ((Only.refl Empty w).alloc (.cells #[.int .i64 0, .int .u32 0, .int .i64 0, .int .i64 0, .int .i64 0] 215)).alloc (.cells #[.slice (some ⟨b, o, sp⟩) n cap, .int .i64 0] 238)
  have HR0 := Lib.hid (show Rd ((w.alloc (.cells #[.int .i64 0, .int .u32 0, .int .i64 0, .int .i64 0, .int .i64 0] 215)).alloc (.cells #[.slice (some ⟨b, o, sp⟩) n cap, .int .i64 0] 238)) (w.heap.size + 1) (some ⟨b, o, sp⟩) n cap 0 from (by
    have h := Blk.new (w.alloc (.cells #[.int .i64 0, .int .u32 0, .int .i64 0, .int .i64 0, .int .i64 0] 215)) 238 #[.slice (some ⟨b, o, sp⟩) n cap, .int .i64 0]
    unfold Rd
    simpa using h))
  have HO0 := Lib.hid hO0
  have HB0 := Lib.hid (show ByteSl _ (· = w.heap.size + 1) (some ⟨b, o, sp⟩) n cap xs from (HB.out.only HO0.out (fun _ _ h => h)).mono_of (by show ¬ b = w.heap.size + 1; omega))
  clear hcell hB h0 hx hO0
  go_enter Tryz.func158, Tryz.ntmps158
  go_wp2_with fail
  clear k0
  refine (head_any (w.heap.size + 1) _ n cap xs _ HR0.out HB0.out hm (by omega)).mono ?_
  rintro e1 w1 ⟨rfl, hR1, hO1⟩
  unfold headV
  have HR1 := Lib.hid hR1
  have HO1 := Lib.hid (HO0.out.trans' hO1 (fun q h1 h2 => by omega))
  have HB1 := Lib.hid (HB0.out.only hO1 (fun _ _ h => h))
  have hz1 : w.heap.size + 1 < w1.heap.size := hR1.lt
  have hj1 : Blk w1 w.heap.size 215 #[.int .i64 0, .int .u32 0, .int .i64 0, .int .i64 0, .int .i64 0] := hO1.blk ((Blk.new w 215 #[.int .i64 0, .int .u32 0, .int .i64 0, .int .i64 0, .int .i64 0]).alloc _) (by omega)
  have HJ1 := Lib.hid hj1
  clear hR1 hO1 hj1
  obtain ⟨v1, e1, b1⟩ : ∃ v, v = nK xs ∧ v ≤ 255 := ⟨_, rfl, nK_le xs⟩
  obtain ⟨v2, e2, b2⟩ : ∃ v, v = nT xs ∧ v ≤ 4294967295 := ⟨_, rfl, nT_le xs⟩
  obtain ⟨v3, e3, b3⟩ : ∃ v, v = nA xs ∧ v ≤ 255 := ⟨_, rfl, nA_le xs⟩
  obtain ⟨v4, e4, b4⟩ : ∃ v, v = nB xs ∧ v ≤ 65535 := ⟨_, rfl, nB_le xs⟩
  obtain ⟨v5, e5, b5⟩ : ∃ v, v = nC xs ∧ v ≤ 255 := ⟨_, rfl, nC_le xs⟩
  obtain ⟨v6, e6, b6⟩ : ∃ v, v = nS xs ∧ v ≤ 65535 := ⟨_, rfl, nS_le xs⟩
  obtain ⟨v7, e7, b7⟩ : ∃ v, v = (crc16 (xs.take 9)).toNat ∧ v ≤ 65535 := ⟨_, rfl, by have := (crc16 (xs.take 9)).isLt; omega⟩
  rw [← e1, ← e2, ← e3, ← e4, ← e5]
  have E1 := Lib.hid (And.intro e1 (And.intro e2 (And.intro e3 (And.intro e4 e5))))
  have N6 : Hid (∀ W, Rd W (w.heap.size + 1) (some ⟨b, o, sp⟩) n cap 9 → ByteSl W (· = w.heap.size + 1) (some ⟨b, o, sp⟩) n cap xs → Calls Tryz.prog 159 #[.pointer (some ⟨w.heap.size + 1, 0, none⟩), .int .i64 2] W fun e W' => e = .returned (.int .u64 (v6 : Int)) ∧ Rd W' (w.heap.size + 1) (some ⟨b, o, sp⟩) n cap 11 ∧ Only (· = w.heap.size + 1) W W') := Lib.hid fun W hR hB => by
    rw [e6]; exact number_any (w.heap.size + 1) _ n cap 9 2 xs W hR (hB.mono (fun _ _ h => h.elim)) (by omega) (by omega) hm (by omega)
  have N7 : Hid (∀ W, ByteSl W (· = w.heap.size + 1) (some ⟨b, o, sp⟩) n cap xs → Calls Tryz.prog 153 #[.slice (some ⟨b, o, sp⟩) 9 cap] W fun e W' => e = .returned (.int .u16 (v7 : Int)) ∧ Below W.heap.size W W') := Lib.hid fun W hB => by
    rw [e7]; exact sum16_any _ 9 cap (xs.take 9) W ((hB.mono (fun _ _ h => h.elim)).take_ 9 (by omega))
  have hne1 : ((v6 : Int) == (v7 : Int)) = false := by
    rw [beq_eq_false_iff_ne, e6, e7]
    intro e
    exact Hne.out (by omega)
  have hne2 : ((v6 : Int) != (v7 : Int)) = true := by simp only [bne, hne1]; rfl
  clear e1 e2 e3 e4 e5 e6 e7
  go_wp2_with fail
  have HR2 := Lib.hid (show Rd (w1.alloc (.cells #[.int .i64 (v1 : Int), .int .u32 (v2 : Int), .int .i64 (v3 : Int), .int .i64 (v4 : Int), .int .i64 (v5 : Int)] 215)).drew (w.heap.size + 1) (some ⟨b, o, sp⟩) n cap 9 from (HR1.out.alloc _).drew)
  have HO2 := Lib.hid (HO1.out.trans (((Only.refl Empty w1).alloc (.cells #[.int .i64 (v1 : Int), .int .u32 (v2 : Int), .int .i64 (v3 : Int), .int .i64 (v4 : Int), .int .i64 (v5 : Int)] 215)).drew))
  have HB2 := Lib.hid (show ByteSl (w1.alloc (.cells #[.int .i64 (v1 : Int), .int .u32 (v2 : Int), .int .i64 (v3 : Int), .int .i64 (v4 : Int), .int .i64 (v5 : Int)] 215)).drew (· = w.heap.size + 1) _ n cap xs from HB1.out.only (((Only.refl Empty w1).alloc (.cells #[.int .i64 (v1 : Int), .int .u32 (v2 : Int), .int .i64 (v3 : Int), .int .i64 (v4 : Int), .int .i64 (v5 : Int)] 215)).drew) (fun _ _ h => h.elim))
  have HJ2 := Lib.hid ((HJ1.out.alloc (.cells #[.int .i64 (v1 : Int), .int .u32 (v2 : Int), .int .i64 (v3 : Int), .int .i64 (v4 : Int), .int .i64 (v5 : Int)] 215)).drew)
  have HK2 := Lib.hid ((Blk.new w1 215 #[.int .i64 (v1 : Int), .int .u32 (v2 : Int), .int .i64 (v3 : Int), .int .i64 (v4 : Int), .int .i64 (v5 : Int)]).drew)
  have q9 : (9 : Int) ≤ (cap : Int) := by omega
  have q8 : (9 : Int) ≤ (n : Int) := by omega
  have hwv : IntKind.u16.wrap (v6 : Int) = (v6 : Int) := by rw [IntKind.wrap_u16]; omega
  have hT : True := trivial
  go_region_held3 (fun _ => True) (exact hT)
    (first | ((go_at_call 159; (with_reducible refine (N6.out _ HR2.out HB2.out).mono ?_); rintro e10 w10 ⟨rfl, hR10, hO10⟩; have HB10 := Lib.hid (HB2.out.only hO10 (fun _ _ h => h)))) | ((go_at_call 153; (with_reducible refine (N7.out _ HB10.out).mono ?_); rintro e11 w11 ⟨rfl, hb11⟩)))
  have hz2 : w.heap.size + 1 < w10.heap.size := hR10.lt
  have hw11 := HO2.out.trans' (hO10.trans (Only.of_below hb11)) (fun q h1 h2 => by omega)
  have hj11 := (hO10.blk HJ2.out (by omega)).of (hb11.block w.heap.size (by omega))
  have hk10 := hO10.blk HK2.out (by omega)
  have hk11 := hk10.of (hb11.block w1.heap.size hk10.lt)
  have HW11 := Lib.hid (show Below w.heap.size w w11 from hw11.below (Nat.le_refl _) (fun _ _ h => h))
  have j0 := hj11.cell 0
  have j1 := hj11.cell 1
  have j2 := hj11.cell 2
  have j3 := hj11.cell 3
  have j4 := hj11.cell 4
  have g0 := hj11.frozen 0
  have g1 := hj11.frozen 1
  have g2 := hj11.frozen 2
  have g3 := hj11.frozen 3
  have g4 := hj11.frozen 4
  have y0 := hk11.cell 0
  have y1 := hk11.cell 1
  have y2 := hk11.cell 2
  have y3 := hk11.cell 3
  have y4 := hk11.cell 4
  simp at j0 j1 j2 j3 j4 y0 y1 y2 y3 y4
  have HJ11 := Lib.hid hj11
  clear hR10 hO10 hb11 hw11 hk10 hk11 hj11
  go_wp2
  refine bodyPost_ret (v := .tuple #[zeroH, .int .i64 7]) (by simp [results, Tryz.results158, go_sem, zeroH, j0, j1, j2, j3, j4]) rfl ⟨?_, ?_⟩
  · rw [hc.out]
    rfl
  · exact ((((HW11.out.setCell (by simp) _).setCell (by simp) _).setCell (by simp) _).setCell (by simp) _).setCell (by simp) _


set_option maxHeartbeats 2000000 in
theorem parseHead_form (b o : Nat) (sp : Option Nat) (n cap : Nat) (xs : List UInt8) (x : UInt8) (w : World) (hB : ByteSl w Empty (some ⟨b, o, sp⟩) n cap xs) (h11 : 11 ≤ n) (hm : n ≤ 1048576) (h0 : xs[0]? = some x) (hx : x ≠ 255)
    (heq : nS xs = (crc16 (xs.take 9)).toNat) (hmay : mayB (nK xs : Int) (nT xs : Int) (nA xs : Int) (nB xs : Int) (nC xs : Int) = false) :
    Calls Tryz.prog 158 #[.slice (some ⟨b, o, sp⟩) n cap] w fun e w' => HeadOk xs w w' e := by
  have hc : Hid (hdE xs = 8) := Lib.hid (by unfold hdE; rw [if_neg (by rw [h0]; exact hx), if_neg (by have := hB.1; omega), if_neg (by simp [heq]), if_neg (by rw [hmay]; decide)])
  obtain ⟨ad', e, hbl, -, hcell⟩ := hB.2.2.2 (by omega)
  cases e
  have k0 : w.cell? ⟨b, o, sp⟩ = some (.int .u8 (x.toNat : Int)) := hcell 0 x h0
  have hbl : b < w.heap.size := hbl
  have hcap := hB.2.1
  have hcap2 : cap ≤ 9223372036854775807 := by have := hB.2.2.1; unfold maxLen at this; omega
  have q0 : ((n : Int) == 0) = false := by simp; omega
  have q1 := u8_dec x 255 255 rfl
  rw [decide_eq_false hx] at q1
  have HB := Lib.hid hB
  have Heq := Lib.hid heq
  have Hmay := Lib.hid hmay
  clear heq hmay
  have hO0 := ((Only.refl Empty w).alloc (.cells #[.int .i64 0, .int .u32 0, .int .i64 0, .int .i64 0, .int .i64 0] 215)).alloc (.cells #[.slice (some ⟨b, o, sp⟩) n cap, .int .i64 0] 238)
  have HR0 := Lib.hid (show Rd ((w.alloc (.cells #[.int .i64 0, .int .u32 0, .int .i64 0, .int .i64 0, .int .i64 0] 215)).alloc (.cells #[.slice (some ⟨b, o, sp⟩) n cap, .int .i64 0] 238)) (w.heap.size + 1) (some ⟨b, o, sp⟩) n cap 0 from (by
    have h := Blk.new (w.alloc (.cells #[.int .i64 0, .int .u32 0, .int .i64 0, .int .i64 0, .int .i64 0] 215)) 238 #[.slice (some ⟨b, o, sp⟩) n cap, .int .i64 0]
    unfold Rd
    simpa using h))
  have HO0 := Lib.hid hO0
  have HB0 := Lib.hid (show ByteSl _ (· = w.heap.size + 1) (some ⟨b, o, sp⟩) n cap xs from (HB.out.only HO0.out (fun _ _ h => h)).mono_of (by show ¬ b = w.heap.size + 1; omega))
  clear hcell hB h0 hx hO0
  go_enter Tryz.func158, Tryz.ntmps158
  go_wp2_with fail
  clear k0
  refine (head_any (w.heap.size + 1) _ n cap xs _ HR0.out HB0.out hm (by omega)).mono ?_
  rintro e1 w1 ⟨rfl, hR1, hO1⟩
  unfold headV
  have HR1 := Lib.hid hR1
  have HO1 := Lib.hid (HO0.out.trans' hO1 (fun q h1 h2 => by omega))
  have HB1 := Lib.hid (HB0.out.only hO1 (fun _ _ h => h))
  have hz1 : w.heap.size + 1 < w1.heap.size := hR1.lt
  have hj1 : Blk w1 w.heap.size 215 #[.int .i64 0, .int .u32 0, .int .i64 0, .int .i64 0, .int .i64 0] := hO1.blk ((Blk.new w 215 #[.int .i64 0, .int .u32 0, .int .i64 0, .int .i64 0, .int .i64 0]).alloc _) (by omega)
  have HJ1 := Lib.hid hj1
  clear hR1 hO1 hj1
  obtain ⟨v1, e1, b1⟩ : ∃ v, v = nK xs ∧ v ≤ 255 := ⟨_, rfl, nK_le xs⟩
  obtain ⟨v2, e2, b2⟩ : ∃ v, v = nT xs ∧ v ≤ 4294967295 := ⟨_, rfl, nT_le xs⟩
  obtain ⟨v3, e3, b3⟩ : ∃ v, v = nA xs ∧ v ≤ 255 := ⟨_, rfl, nA_le xs⟩
  obtain ⟨v4, e4, b4⟩ : ∃ v, v = nB xs ∧ v ≤ 65535 := ⟨_, rfl, nB_le xs⟩
  obtain ⟨v5, e5, b5⟩ : ∃ v, v = nC xs ∧ v ≤ 255 := ⟨_, rfl, nC_le xs⟩
  obtain ⟨v6, e6, b6⟩ : ∃ v, v = nS xs ∧ v ≤ 65535 := ⟨_, rfl, nS_le xs⟩
  obtain ⟨v7, e7, b7⟩ : ∃ v, v = (crc16 (xs.take 9)).toNat ∧ v ≤ 65535 := ⟨_, rfl, by have := (crc16 (xs.take 9)).isLt; omega⟩
  rw [← e1, ← e2, ← e3, ← e4, ← e5]
  have E1 := Lib.hid (And.intro e1 (And.intro e2 (And.intro e3 (And.intro e4 e5))))
  have N6 : Hid (∀ W, Rd W (w.heap.size + 1) (some ⟨b, o, sp⟩) n cap 9 → ByteSl W (· = w.heap.size + 1) (some ⟨b, o, sp⟩) n cap xs → Calls Tryz.prog 159 #[.pointer (some ⟨w.heap.size + 1, 0, none⟩), .int .i64 2] W fun e W' => e = .returned (.int .u64 (v6 : Int)) ∧ Rd W' (w.heap.size + 1) (some ⟨b, o, sp⟩) n cap 11 ∧ Only (· = w.heap.size + 1) W W') := Lib.hid fun W hR hB => by
    rw [e6]; exact number_any (w.heap.size + 1) _ n cap 9 2 xs W hR (hB.mono (fun _ _ h => h.elim)) (by omega) (by omega) hm (by omega)
  have N7 : Hid (∀ W, ByteSl W (· = w.heap.size + 1) (some ⟨b, o, sp⟩) n cap xs → Calls Tryz.prog 153 #[.slice (some ⟨b, o, sp⟩) 9 cap] W fun e W' => e = .returned (.int .u16 (v7 : Int)) ∧ Below W.heap.size W W') := Lib.hid fun W hB => by
    rw [e7]; exact sum16_any _ 9 cap (xs.take 9) W ((hB.mono (fun _ _ h => h.elim)).take_ 9 (by omega))
  have he : v6 = v7 := by rw [e6, e7]; exact Heq.out
  rw [← e1, ← e2, ← e3, ← e4, ← e5] at Hmay
  subst he
  clear e1 e2 e3 e4 e5 e6 e7
  go_wp2_with fail
  have HR2 := Lib.hid (show Rd (w1.alloc (.cells #[.int .i64 (v1 : Int), .int .u32 (v2 : Int), .int .i64 (v3 : Int), .int .i64 (v4 : Int), .int .i64 (v5 : Int)] 215)).drew (w.heap.size + 1) (some ⟨b, o, sp⟩) n cap 9 from (HR1.out.alloc _).drew)
  have HO2 := Lib.hid (HO1.out.trans (((Only.refl Empty w1).alloc (.cells #[.int .i64 (v1 : Int), .int .u32 (v2 : Int), .int .i64 (v3 : Int), .int .i64 (v4 : Int), .int .i64 (v5 : Int)] 215)).drew))
  have HB2 := Lib.hid (show ByteSl (w1.alloc (.cells #[.int .i64 (v1 : Int), .int .u32 (v2 : Int), .int .i64 (v3 : Int), .int .i64 (v4 : Int), .int .i64 (v5 : Int)] 215)).drew (· = w.heap.size + 1) _ n cap xs from HB1.out.only (((Only.refl Empty w1).alloc (.cells #[.int .i64 (v1 : Int), .int .u32 (v2 : Int), .int .i64 (v3 : Int), .int .i64 (v4 : Int), .int .i64 (v5 : Int)] 215)).drew) (fun _ _ h => h.elim))
  have HJ2 := Lib.hid ((HJ1.out.alloc (.cells #[.int .i64 (v1 : Int), .int .u32 (v2 : Int), .int .i64 (v3 : Int), .int .i64 (v4 : Int), .int .i64 (v5 : Int)] 215)).drew)
  have HK2 := Lib.hid ((Blk.new w1 215 #[.int .i64 (v1 : Int), .int .u32 (v2 : Int), .int .i64 (v3 : Int), .int .i64 (v4 : Int), .int .i64 (v5 : Int)]).drew)
  have q9 : (9 : Int) ≤ (cap : Int) := by omega
  have q8 : (9 : Int) ≤ (n : Int) := by omega
  have hwv : IntKind.u16.wrap (v6 : Int) = (v6 : Int) := by rw [IntKind.wrap_u16]; omega
  have hT : True := trivial
  go_region_held3 (fun _ => True) (exact hT)
    (first | ((go_at_call 159; (with_reducible refine (N6.out _ HR2.out HB2.out).mono ?_); rintro e10 w10 ⟨rfl, hR10, hO10⟩; have HB10 := Lib.hid (HB2.out.only hO10 (fun _ _ h => h)))) | ((go_at_call 153; (with_reducible refine (N7.out _ HB10.out).mono ?_); rintro e11 w11 ⟨rfl, hb11⟩)))
  have hz2 : w.heap.size + 1 < w10.heap.size := hR10.lt
  have hw11 := HO2.out.trans' (hO10.trans (Only.of_below hb11)) (fun q h1 h2 => by omega)
  have hj11 := (hO10.blk HJ2.out (by omega)).of (hb11.block w.heap.size (by omega))
  have hk10 := hO10.blk HK2.out (by omega)
  have hk11 := hk10.of (hb11.block w1.heap.size hk10.lt)
  have HW11 := Lib.hid (show Below w.heap.size w w11 from hw11.below (Nat.le_refl _) (fun _ _ h => h))
  have j0 := hj11.cell 0
  have j1 := hj11.cell 1
  have j2 := hj11.cell 2
  have j3 := hj11.cell 3
  have j4 := hj11.cell 4
  have g0 := hj11.frozen 0
  have g1 := hj11.frozen 1
  have g2 := hj11.frozen 2
  have g3 := hj11.frozen 3
  have g4 := hj11.frozen 4
  have y0 := hk11.cell 0
  have y1 := hk11.cell 1
  have y2 := hk11.cell 2
  have y3 := hk11.cell 3
  have y4 := hk11.cell 4
  simp at j0 j1 j2 j3 j4 y0 y1 y2 y3 y4
  have HJ11 := Lib.hid hj11
  have hk12 := hk11
  clear hR10 hO10 hb11 hw11 hk10 hk11 hj11
  clear j0 j1 j2 j3 j4 g0 g1 g2 g3 g4
  have HK11 := Lib.hid hk12
  clear hk12
  go_wp2_with fail
  refine (mayBe_any (v1 : Int) (v2 : Int) (v3 : Int) (v4 : Int) (v5 : Int) _).mono ?_
  rw [Hmay.out]
  rintro e12 w12 ⟨rfl, hb12⟩
  have hj12 := HJ11.out.of (hb12.block w.heap.size HJ11.out.lt)
  have hk13 := HK11.out.of (hb12.block w1.heap.size HK11.out.lt)
  have HW12 := Lib.hid (HW11.out.trans (hb12.mono HW11.out.size))
  clear y0 y1 y2 y3 y4
  have j0 := hj12.cell 0
  have j1 := hj12.cell 1
  have j2 := hj12.cell 2
  have j3 := hj12.cell 3
  have j4 := hj12.cell 4
  have g0 := hj12.frozen 0
  have g1 := hj12.frozen 1
  have g2 := hj12.frozen 2
  have g3 := hj12.frozen 3
  have g4 := hj12.frozen 4
  have y0 := hk13.cell 0
  have y1 := hk13.cell 1
  have y2 := hk13.cell 2
  have y3 := hk13.cell 3
  have y4 := hk13.cell 4
  simp at j0 j1 j2 j3 j4 y0 y1 y2 y3 y4
  clear hb12 hj12 hk13
  go_wp2
  refine bodyPost_ret (v := .tuple #[zeroH, .int .i64 8]) (by simp [results, Tryz.results158, go_sem, zeroH, j0, j1, j2, j3, j4]) rfl ⟨?_, ?_⟩
  · rw [hc.out]
    rfl
  · exact ((((HW12.out.setCell (by simp) _).setCell (by simp) _).setCell (by simp) _).setCell (by simp) _).setCell (by simp) _

set_option maxHeartbeats 2000000 in
theorem parseHead_yes (b o : Nat) (sp : Option Nat) (n cap : Nat) (xs : List UInt8) (x : UInt8) (w : World) (hB : ByteSl w Empty (some ⟨b, o, sp⟩) n cap xs) (h11 : 11 ≤ n) (hm : n ≤ 1048576) (h0 : xs[0]? = some x) (hx : x ≠ 255)
    (heq : nS xs = (crc16 (xs.take 9)).toNat) (hmay : mayB (nK xs : Int) (nT xs : Int) (nA xs : Int) (nB xs : Int) (nC xs : Int) = true) :
    Calls Tryz.prog 158 #[.slice (some ⟨b, o, sp⟩) n cap] w fun e w' => HeadOk xs w w' e := by
  have hc : Hid (hdE xs = 0) := Lib.hid (by unfold hdE; rw [if_neg (by rw [h0]; exact hx), if_neg (by have := hB.1; omega), if_neg (by simp [heq]), if_pos hmay])
  obtain ⟨ad', e, hbl, -, hcell⟩ := hB.2.2.2 (by omega)
  cases e
  have k0 : w.cell? ⟨b, o, sp⟩ = some (.int .u8 (x.toNat : Int)) := hcell 0 x h0
  have hbl : b < w.heap.size := hbl
  have hcap := hB.2.1
  have hcap2 : cap ≤ 9223372036854775807 := by have := hB.2.2.1; unfold maxLen at this; omega
  have q0 : ((n : Int) == 0) = false := by simp; omega
  have q1 := u8_dec x 255 255 rfl
  rw [decide_eq_false hx] at q1
  have HB := Lib.hid hB
  have Heq := Lib.hid heq
  have Hmay := Lib.hid hmay
  clear heq hmay
  have hO0 := ((Only.refl Empty w).alloc (.cells #[.int .i64 0, .int .u32 0, .int .i64 0, .int .i64 0, .int .i64 0] 215)).alloc (.cells #[.slice (some ⟨b, o, sp⟩) n cap, .int .i64 0] 238)
  have HR0 := Lib.hid (show Rd ((w.alloc (.cells #[.int .i64 0, .int .u32 0, .int .i64 0, .int .i64 0, .int .i64 0] 215)).alloc (.cells #[.slice (some ⟨b, o, sp⟩) n cap, .int .i64 0] 238)) (w.heap.size + 1) (some ⟨b, o, sp⟩) n cap 0 from (by
    have h := Blk.new (w.alloc (.cells #[.int .i64 0, .int .u32 0, .int .i64 0, .int .i64 0, .int .i64 0] 215)) 238 #[.slice (some ⟨b, o, sp⟩) n cap, .int .i64 0]
    unfold Rd
    simpa using h))
  have HO0 := Lib.hid hO0
  have HB0 := Lib.hid (show ByteSl _ (· = w.heap.size + 1) (some ⟨b, o, sp⟩) n cap xs from (HB.out.only HO0.out (fun _ _ h => h)).mono_of (by show ¬ b = w.heap.size + 1; omega))
  clear hcell hB h0 hx hO0
  go_enter Tryz.func158, Tryz.ntmps158
  go_wp2_with fail
  clear k0
  refine (head_any (w.heap.size + 1) _ n cap xs _ HR0.out HB0.out hm (by omega)).mono ?_
  rintro e1 w1 ⟨rfl, hR1, hO1⟩
  unfold headV
  have HR1 := Lib.hid hR1
  have HO1 := Lib.hid (HO0.out.trans' hO1 (fun q h1 h2 => by omega))
  have HB1 := Lib.hid (HB0.out.only hO1 (fun _ _ h => h))
  have hz1 : w.heap.size + 1 < w1.heap.size := hR1.lt
  have hj1 : Blk w1 w.heap.size 215 #[.int .i64 0, .int .u32 0, .int .i64 0, .int .i64 0, .int .i64 0] := hO1.blk ((Blk.new w 215 #[.int .i64 0, .int .u32 0, .int .i64 0, .int .i64 0, .int .i64 0]).alloc _) (by omega)
  have HJ1 := Lib.hid hj1
  clear hR1 hO1 hj1
  obtain ⟨v1, e1, b1⟩ : ∃ v, v = nK xs ∧ v ≤ 255 := ⟨_, rfl, nK_le xs⟩
  obtain ⟨v2, e2, b2⟩ : ∃ v, v = nT xs ∧ v ≤ 4294967295 := ⟨_, rfl, nT_le xs⟩
  obtain ⟨v3, e3, b3⟩ : ∃ v, v = nA xs ∧ v ≤ 255 := ⟨_, rfl, nA_le xs⟩
  obtain ⟨v4, e4, b4⟩ : ∃ v, v = nB xs ∧ v ≤ 65535 := ⟨_, rfl, nB_le xs⟩
  obtain ⟨v5, e5, b5⟩ : ∃ v, v = nC xs ∧ v ≤ 255 := ⟨_, rfl, nC_le xs⟩
  obtain ⟨v6, e6, b6⟩ : ∃ v, v = nS xs ∧ v ≤ 65535 := ⟨_, rfl, nS_le xs⟩
  obtain ⟨v7, e7, b7⟩ : ∃ v, v = (crc16 (xs.take 9)).toNat ∧ v ≤ 65535 := ⟨_, rfl, by have := (crc16 (xs.take 9)).isLt; omega⟩
  rw [← e1, ← e2, ← e3, ← e4, ← e5]
  have E1 := Lib.hid (And.intro e1 (And.intro e2 (And.intro e3 (And.intro e4 e5))))
  have N6 : Hid (∀ W, Rd W (w.heap.size + 1) (some ⟨b, o, sp⟩) n cap 9 → ByteSl W (· = w.heap.size + 1) (some ⟨b, o, sp⟩) n cap xs → Calls Tryz.prog 159 #[.pointer (some ⟨w.heap.size + 1, 0, none⟩), .int .i64 2] W fun e W' => e = .returned (.int .u64 (v6 : Int)) ∧ Rd W' (w.heap.size + 1) (some ⟨b, o, sp⟩) n cap 11 ∧ Only (· = w.heap.size + 1) W W') := Lib.hid fun W hR hB => by
    rw [e6]; exact number_any (w.heap.size + 1) _ n cap 9 2 xs W hR (hB.mono (fun _ _ h => h.elim)) (by omega) (by omega) hm (by omega)
  have N7 : Hid (∀ W, ByteSl W (· = w.heap.size + 1) (some ⟨b, o, sp⟩) n cap xs → Calls Tryz.prog 153 #[.slice (some ⟨b, o, sp⟩) 9 cap] W fun e W' => e = .returned (.int .u16 (v7 : Int)) ∧ Below W.heap.size W W') := Lib.hid fun W hB => by
    rw [e7]; exact sum16_any _ 9 cap (xs.take 9) W ((hB.mono (fun _ _ h => h.elim)).take_ 9 (by omega))
  have he : v6 = v7 := by rw [e6, e7]; exact Heq.out
  rw [← e1, ← e2, ← e3, ← e4, ← e5] at Hmay
  subst he
  clear e1 e2 e3 e4 e5 e6 e7
  go_wp2_with fail
  have HR2 := Lib.hid (show Rd (w1.alloc (.cells #[.int .i64 (v1 : Int), .int .u32 (v2 : Int), .int .i64 (v3 : Int), .int .i64 (v4 : Int), .int .i64 (v5 : Int)] 215)).drew (w.heap.size + 1) (some ⟨b, o, sp⟩) n cap 9 from (HR1.out.alloc _).drew)
  have HO2 := Lib.hid (HO1.out.trans (((Only.refl Empty w1).alloc (.cells #[.int .i64 (v1 : Int), .int .u32 (v2 : Int), .int .i64 (v3 : Int), .int .i64 (v4 : Int), .int .i64 (v5 : Int)] 215)).drew))
  have HB2 := Lib.hid (show ByteSl (w1.alloc (.cells #[.int .i64 (v1 : Int), .int .u32 (v2 : Int), .int .i64 (v3 : Int), .int .i64 (v4 : Int), .int .i64 (v5 : Int)] 215)).drew (· = w.heap.size + 1) _ n cap xs from HB1.out.only (((Only.refl Empty w1).alloc (.cells #[.int .i64 (v1 : Int), .int .u32 (v2 : Int), .int .i64 (v3 : Int), .int .i64 (v4 : Int), .int .i64 (v5 : Int)] 215)).drew) (fun _ _ h => h.elim))
  have HJ2 := Lib.hid ((HJ1.out.alloc (.cells #[.int .i64 (v1 : Int), .int .u32 (v2 : Int), .int .i64 (v3 : Int), .int .i64 (v4 : Int), .int .i64 (v5 : Int)] 215)).drew)
  have HK2 := Lib.hid ((Blk.new w1 215 #[.int .i64 (v1 : Int), .int .u32 (v2 : Int), .int .i64 (v3 : Int), .int .i64 (v4 : Int), .int .i64 (v5 : Int)]).drew)
  have q9 : (9 : Int) ≤ (cap : Int) := by omega
  have q8 : (9 : Int) ≤ (n : Int) := by omega
  have hwv : IntKind.u16.wrap (v6 : Int) = (v6 : Int) := by rw [IntKind.wrap_u16]; omega
  have hT : True := trivial
  go_region_held3 (fun _ => True) (exact hT)
    (first | ((go_at_call 159; (with_reducible refine (N6.out _ HR2.out HB2.out).mono ?_); rintro e10 w10 ⟨rfl, hR10, hO10⟩; have HB10 := Lib.hid (HB2.out.only hO10 (fun _ _ h => h)))) | ((go_at_call 153; (with_reducible refine (N7.out _ HB10.out).mono ?_); rintro e11 w11 ⟨rfl, hb11⟩)))
  have hz2 : w.heap.size + 1 < w10.heap.size := hR10.lt
  have hw11 := HO2.out.trans' (hO10.trans (Only.of_below hb11)) (fun q h1 h2 => by omega)
  have hj11 := (hO10.blk HJ2.out (by omega)).of (hb11.block w.heap.size (by omega))
  have hk10 := hO10.blk HK2.out (by omega)
  have hk11 := hk10.of (hb11.block w1.heap.size hk10.lt)
  have HW11 := Lib.hid (show Below w.heap.size w w11 from hw11.below (Nat.le_refl _) (fun _ _ h => h))
  have j0 := hj11.cell 0
  have j1 := hj11.cell 1
  have j2 := hj11.cell 2
  have j3 := hj11.cell 3
  have j4 := hj11.cell 4
  have g0 := hj11.frozen 0
  have g1 := hj11.frozen 1
  have g2 := hj11.frozen 2
  have g3 := hj11.frozen 3
  have g4 := hj11.frozen 4
  have y0 := hk11.cell 0
  have y1 := hk11.cell 1
  have y2 := hk11.cell 2
  have y3 := hk11.cell 3
  have y4 := hk11.cell 4
  simp at j0 j1 j2 j3 j4 y0 y1 y2 y3 y4
  have HJ11 := Lib.hid hj11
  have hk12 := hk11
  clear hR10 hO10 hb11 hw11 hk10 hk11 hj11
  clear j0 j1 j2 j3 j4 g0 g1 g2 g3 g4
  have HK11 := Lib.hid hk12
  clear hk12
  go_wp2_with fail
  refine (mayBe_any (v1 : Int) (v2 : Int) (v3 : Int) (v4 : Int) (v5 : Int) _).mono ?_
  rw [Hmay.out]
  rintro e12 w12 ⟨rfl, hb12⟩
  have hj12 := HJ11.out.of (hb12.block w.heap.size HJ11.out.lt)
  have hk13 := HK11.out.of (hb12.block w1.heap.size HK11.out.lt)
  have HW12 := Lib.hid (HW11.out.trans (hb12.mono HW11.out.size))
  clear y0 y1 y2 y3 y4
  have j0 := hj12.cell 0
  have j1 := hj12.cell 1
  have j2 := hj12.cell 2
  have j3 := hj12.cell 3
  have j4 := hj12.cell 4
  have g0 := hj12.frozen 0
  have g1 := hj12.frozen 1
  have g2 := hj12.frozen 2
  have g3 := hj12.frozen 3
  have g4 := hj12.frozen 4
  have y0 := hk13.cell 0
  have y1 := hk13.cell 1
  have y2 := hk13.cell 2
  have y3 := hk13.cell 3
  have y4 := hk13.cell 4
  simp at j0 j1 j2 j3 j4 y0 y1 y2 y3 y4
  clear hb12 hj12 hk13
  go_wp2
  refine bodyPost_ret (v := .tuple #[.agg #[.int .i64 (v1 : Int), .int .u32 (v2 : Int), .int .i64 (v3 : Int), .int .i64 (v4 : Int), .int .i64 (v5 : Int)], .int .i64 0]) (by simp [results, Tryz.results158, go_sem, zeroH, j0, j1, j2, j3, j4]) rfl ⟨?_, ?_⟩
  · rw [hc.out]
    rw [if_pos rfl, headV, ← E1.out.1, ← E1.out.2.1, ← E1.out.2.2.1, ← E1.out.2.2.2.1, ← E1.out.2.2.2.2]
  · exact ((((HW12.out.setCell (by simp) _).setCell (by simp) _).setCell (by simp) _).setCell (by simp) _).setCell (by simp) _

/-- parseHead as one answer. -/
theorem parseHead_any (A : Option Addr) (n cap : Nat) (xs : List UInt8) (w : World) (hB : ByteSl w Empty A n cap xs) (hm : n ≤ 1048576) :
    Calls Tryz.prog 158 #[.slice A n cap] w fun e w' => HeadOk xs w w' e := by
  rcases Nat.eq_zero_or_pos n with hn | hn
  · subst hn
    obtain rfl : xs = [] := List.eq_nil_of_length_eq_zero hB.1
    exact parseHead_none A cap w
  · obtain ⟨⟨b, o, sp⟩, rfl, -, -, -⟩ := hB.2.2.2 hn
    obtain ⟨x, hx0⟩ : ∃ x, xs[0]? = some x := ⟨_, List.getElem?_eq_getElem (by have := hB.1; omega)⟩
    by_cases hx : x = 255
    · subst hx
      exact parseHead_blank _ n cap xs w hB hn hx0
    · by_cases h11 : n < 11
      · exact parseHead_short _ n cap xs x w hB hn h11 hx0 hx
      · by_cases hs : nS xs = (crc16 (xs.take 9)).toNat
        · cases hmay : mayB (nK xs : Int) (nT xs : Int) (nA xs : Int) (nB xs : Int) (nC xs : Int) with
          | true => exact parseHead_yes b o sp n cap xs x w hB (by omega) hm hx0 hx hs hmay
          | false => exact parseHead_form b o sp n cap xs x w hB (by omega) hm hx0 hx hs hmay
        · exact parseHead_sum b o sp n cap xs x w hB (by omega) hm hx0 hx hs

end Go.Proofs.YtidbipbangifbaaGreatDoor
