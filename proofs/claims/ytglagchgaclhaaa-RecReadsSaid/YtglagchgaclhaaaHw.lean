/- The walks over the document's Parse behind a header whose sum is right. -/
import Derived.Test.YtglagchgaclhaaaHv
import Derived.Deep.DeepCutAuto
import Derived.BigRegion
import Derived.Test.YtglagchgaclhaaaHx
namespace Go.Proofs.Ytglagchgaclhaaa
open Go.RowKit

/-- What the document's Parse has of a header: a record of its own, whose key and blob are as long. -/
def Mid (w0 : World) (v1 v2 v3 v4 v5 : Nat) (s13 : Value) (wx : World) : Prop :=
  ∃ (g : Nat) (s : ByteArray) (A : Option Addr), s13 = .pointer (some ⟨g, 0, none⟩) ∧ s.size = v3 ∧ Blk wx g 25 #[.int .i64 (v1 : Int), .int .u32 (v2 : Int), .string s, .slice A v4 v4, .int .i64 (v5 : Int)] ∧ Only Empty w0 wx ∧ w0.heap.size ≤ g

theorem alloc_size (w : World) (o : Obj) : (w.alloc o).heap.size = w.heap.size + 1 := by simp
theorem blk_at2 (w0 : World) (o1 o2 : Obj) (t : TypeId) (cs : Array Value) : Blk (((w0.alloc o1).alloc o2).alloc (.cells cs t)).drew (w0.heap.size + 1 + 1) t cs := by
  have h := Blk.new ((w0.alloc o1).alloc o2) t cs
  simp only [alloc_size] at h
  exact h.drew
theorem blk_at1 (w0 : World) (o1 o3 : Obj) (t : TypeId) (cs : Array Value) : Blk (((w0.alloc o1).alloc (.cells cs t)).alloc o3).drew (w0.heap.size + 1) t cs := by
  have h := Blk.new (w0.alloc o1) t cs
  simp only [alloc_size] at h
  exact (h.alloc o3).drew
theorem blk_at0 (w0 : World) (o2 o3 : Obj) (t : TypeId) (cs : Array Value) : Blk (((w0.alloc (.cells cs t)).alloc o2).alloc o3).drew w0.heap.size t cs :=
  (((Blk.new w0 t cs).alloc o2).alloc o3).drew

theorem mid_2 {w0 : World} {v1 v2 v3 v4 v5 : Nat} {o1 o2 : Obj} {s : ByteArray} {A : Option Addr} (h : s.size = v3) : Mid w0 v1 v2 v3 v4 v5 (.pointer (some ⟨w0.heap.size + 1 + 1, 0, none⟩)) (((w0.alloc o1).alloc o2).alloc (.cells #[.int .i64 (v1 : Int), .int .u32 (v2 : Int), .string s, .slice A v4 v4, .int .i64 (v5 : Int)] 25)).drew :=
  ⟨_, s, A, rfl, h, blk_at2 _ _ _ _ _, ((((Only.refl Empty w0).alloc _).alloc _).alloc _).drew, by omega⟩
theorem mid_1 {w0 : World} {v1 v2 v3 v4 v5 : Nat} {o1 o2 : Obj} {s : ByteArray} {A : Option Addr} (h : s.size = v3) : Mid w0 v1 v2 v3 v4 v5 (.pointer (some ⟨w0.heap.size + 1, 0, none⟩)) (((w0.alloc o1).alloc (.cells #[.int .i64 (v1 : Int), .int .u32 (v2 : Int), .string s, .slice A v4 v4, .int .i64 (v5 : Int)] 25)).alloc o2).drew :=
  ⟨_, s, A, rfl, h, blk_at1 _ _ _ _ _, ((((Only.refl Empty w0).alloc _).alloc _).alloc _).drew, by omega⟩
theorem mid_0 {w0 : World} {v1 v2 v3 v4 v5 : Nat} {o1 o2 : Obj} {s : ByteArray} {A : Option Addr} (h : s.size = v3) : Mid w0 v1 v2 v3 v4 v5 (.pointer (some ⟨w0.heap.size, 0, none⟩)) (((w0.alloc (.cells #[.int .i64 (v1 : Int), .int .u32 (v2 : Int), .string s, .slice A v4 v4, .int .i64 (v5 : Int)] 25)).alloc o1).alloc o2).drew :=
  ⟨_, s, A, rfl, h, blk_at0 _ _ _ _ _, ((((Only.refl Empty w0).alloc _).alloc _).alloc _).drew, by omega⟩

theorem conv_row {w : World} {g a : Nat} {Z : List UInt8} (h : w.heap[g]? = some (.cells (cellsB Z) 5 (0, 0))) (hl : Z.length = a) (ha : a ≤ maxLen) :
    (convert 23 9 (.slice (some ⟨g, 0, none⟩) a a)).run Try.prog w = .ok (.string (strB Z)) w := by
  have hb : Blk w g 5 (cellsB Z) := h
  refine conv_bytes (S := Empty) ⟨hl, Nat.le_refl _, ha, fun _ => ⟨_, rfl, hb.lt, fun h => h, fun j x hx => ?_⟩⟩
  have e : (⟨g, 0, none⟩ : Addr).add j = ⟨g, j, none⟩ := by unfold Addr.add; split <;> simp_all
  rw [e, hb.cell, cellsB_get, hx]
  rfl

set_option maxRecDepth 100000 in
set_option maxHeartbeats 4000000 in
theorem refParse_long (b o : Nat) (sp : Option Nat) (n cap : Nat) (xs : List UInt8) (x : UInt8) (w : World) (hB : ByteSl w Empty (some ⟨b, o, sp⟩) n cap xs) (h11 : 11 ≤ n) (hm : n ≤ 1048576) (h0 : xs[0]? = some x) (hx : x ≠ 255)
    (heq : nS xs = (crc16 (xs.take 9)).toNat) :
    Calls Try.prog 14 #[.slice (some ⟨b, o, sp⟩) n cap] w fun e w' => ParseOk xs w w' e := by
  obtain ⟨ad', e, hbl, -, hcell⟩ := hB.2.2.2 (by omega)
  cases e
  have hxl := hB.1
  obtain ⟨z5, hz5⟩ : ∃ z, xs[5]? = some z := ⟨_, List.getElem?_eq_getElem (by omega)⟩
  obtain ⟨z8, hz8⟩ : ∃ z, xs[8]? = some z := ⟨_, List.getElem?_eq_getElem (by omega)⟩
  have k0 : w.cell? ⟨b, o, sp⟩ = some (.int .u8 (x.toNat : Int)) := hcell 0 x h0
  have k5 : w.cell? ⟨b, o + 5, none⟩ = some (.int .u8 (z5.toNat : Int)) := hcell 5 z5 hz5
  have k8 : w.cell? ⟨b, o + 8, none⟩ = some (.int .u8 (z8.toNat : Int)) := hcell 8 z8 hz8
  have hbl : b < w.heap.size := hbl
  have hcap := hB.2.1
  have hcap2 : cap ≤ 9223372036854775807 := by have := hB.2.2.1; unfold maxLen at this; omega
  have q0 : ((n : Int) == 0) = false := by simp; omega
  have q1 := u8_dec x 255 255 rfl
  rw [decide_eq_false hx] at q1
  have one : ∀ (i : Nat) (z : UInt8), xs[i]? = some z → getV ((xs.drop i).take 1) = z.toNat := fun i z hz => by
    have hl : i < xs.length := (List.getElem?_eq_some_iff.1 hz).1
    rw [List.drop_eq_getElem_cons hl, (List.getElem?_eq_some_iff.1 hz).2]
    simp [getV]
  obtain ⟨v1, e1, b1, d1⟩ : ∃ v, v = nK xs ∧ v ≤ 255 ∧ v = x.toNat := ⟨_, rfl, nK_le xs, one 0 x h0⟩
  obtain ⟨v2, e2, b2⟩ : ∃ v, v = nT xs ∧ v ≤ 4294967295 := ⟨_, rfl, nT_le xs⟩
  obtain ⟨v3, e3, b3, d3⟩ : ∃ v, v = nA xs ∧ v ≤ 255 ∧ v = z5.toNat := ⟨_, rfl, nA_le xs, one 5 z5 hz5⟩
  obtain ⟨v4, e4, b4⟩ : ∃ v, v = nB xs ∧ v ≤ 65535 := ⟨_, rfl, nB_le xs⟩
  obtain ⟨v5, e5, b5, d5⟩ : ∃ v, v = nC xs ∧ v ≤ 255 ∧ v = z8.toNat := ⟨_, rfl, nC_le xs, one 8 z8 hz8⟩
  obtain ⟨v6, e6, b6⟩ : ∃ v, v = nS xs ∧ v ≤ 65535 := ⟨_, rfl, nS_le xs⟩
  rw [← d1] at k0 q1
  rw [← d3] at k5
  rw [← d5] at k8
  have hO0 := (Only.refl Empty w).alloc (.cells #[.int .i64 0, .int .u32 0, .string ⟨#[]⟩, .slice none 0 0, .int .i64 0] 25)
  have hB1 := hB.only hO0 (fun _ _ h => h)
  have N6 := refGet_yes (some ⟨b, o, sp⟩) n cap 9 2 xs _ hB1 (by omega) (by omega) hm (by omega)
  have N7 := refSum16_any (some ⟨b, o, sp⟩) 9 cap (xs.take 9) _ (hB1.take_ 9 (by omega))
  have N8 := refGet_yes (some ⟨b, o, sp⟩) n cap 1 4 xs _ hB1 (by omega) (by omega) hm (by omega)
  have N9 := refGet_yes (some ⟨b, o, sp⟩) n cap 6 2 xs _ hB1 (by omega) (by omega) hm (by omega)
  unfold V16 at N7
  rw [show getV ((xs.drop 9).take 2) = v6 from e6.symm] at N6
  rw [show (crc16 (xs.take 9)).toNat = v6 from heq.symm.trans e6.symm] at N7
  rw [show getV ((xs.drop 1).take 4) = v2 from e2.symm] at N8
  rw [show getV ((xs.drop 6).take 2) = v4 from e4.symm] at N9
  have N6 := Lib.hid N6
  have N7 := Lib.hid N7
  have N8 := Lib.hid N8
  have N9 := Lib.hid N9
  have K0 := Lib.hid k0
  have K8 := Lib.hid k8
  have E1 := Lib.hid (And.intro e1 (And.intro e2 (And.intro e3 (And.intro e4 e5))))
  have HB := Lib.hid hB
  have Hx := Lib.hid hx
  have H0 := Lib.hid h0
  have Heq := Lib.hid heq
  clear hcell hB h0 hx hO0 hB1 e1 e2 e3 e4 e5 e6 d1 d3 d5 heq hz5 hz8 one k8 hxl
  go_enter Try.func14, Try.ntmps14
  go_wp2_with fail
  refine N6.out.mono ?_
  rintro e1 w1 ⟨rfl, rfl⟩
  go_wp2_with fail
  refine N7.out.mono ?_
  rintro e1 w1 ⟨rfl, rfl⟩
  go_wp2_with fail
  refine N8.out.mono ?_
  rintro e1 w1 ⟨rfl, rfl⟩
  go_wp2_with fail
  refine N9.out.mono ?_
  rintro e1 w1 ⟨rfl, rfl⟩
  go_upto_region 11 with fail
  clear k0 k5
  have HO0 := Lib.hid ((Only.refl Empty w).alloc (.cells #[.int .i64 0, .int .u32 0, .string ⟨#[]⟩, .slice none 0 0, .int .i64 0] 25))
  have Hj0 := Lib.hid (Blk.new w 25 #[.int .i64 0, .int .u32 0, .string ⟨#[]⟩, .slice none 0 0, .int .i64 0])
  obtain ⟨w0, hw0⟩ : ∃ w0, w0 = w.alloc (.cells #[.int .i64 0, .int .u32 0, .string ⟨#[]⟩, .slice none 0 0, .int .i64 0] 25) := ⟨_, rfl⟩
  rw [← hw0] at HO0 Hj0 ⊢
  clear hw0
  go_cut [13] (fun s13 wx => Mid w0 v1 v2 v3 v4 v5 s13 wx)
  case first =>
    obtain ⟨Z3, hZ3⟩ : ∃ Z, Z = List.replicate v3 (0 : UInt8) := ⟨_, rfl⟩
    obtain ⟨Z4, hZ4⟩ : ∃ Z, Z = List.replicate v4 (0 : UInt8) := ⟨_, rfl⟩
    have hmk3 := fun W => run_make_cap v3 v3 (Nat.le_refl _) (by omega) W
    have hmk4 := fun W => run_make_cap v4 v4 (Nat.le_refl _) (by omega) W
    rw [← hZ3] at hmk3
    rw [← hZ4] at hmk4
    have hl3 : Z3.length = v3 := by rw [hZ3]; simp
    have HCV : Hid (∀ W g, W.heap[g]? = some (.cells (cellsB Z3) 5 (0, 0)) → (convert 23 9 (.slice (some ⟨g, 0, none⟩) v3 v3)).run Try.prog W = .ok (.string (strB Z3)) W) := Lib.hid (fun W g h => conv_row h hl3 (by unfold maxLen; omega))
    have HL3 : Hid ((strB Z3).size = v3) := Lib.hid (by rw [← hl3]; simp [strB, ByteArray.size])
    clear hZ3 hZ4 hl3
    have cv0 : (convert 23 9 (.slice (some ⟨w0.heap.size, 0, none⟩) v3 v3)).run Try.prog (w0.alloc (.cells (cellsB Z3) 5)).drew = .ok (.string (strB Z3)) (w0.alloc (.cells (cellsB Z3) 5)).drew := HCV.out _ _ (by have h : Blk (w0.alloc (.cells (cellsB Z3) 5)) (w0).heap.size 5 (cellsB Z3) := Blk.new w0 5 (cellsB Z3); (try simp only [alloc_size] at h); exact h)
    have cv1 : (convert 23 9 (.slice (some ⟨w0.heap.size, 0, none⟩) v3 v3)).run Try.prog ((w0.alloc (.cells (cellsB Z3) 5)).alloc (.cells (cellsB Z4) 5)).drew = .ok (.string (strB Z3)) ((w0.alloc (.cells (cellsB Z3) 5)).alloc (.cells (cellsB Z4) 5)).drew := HCV.out _ _ (by have h : Blk ((w0.alloc (.cells (cellsB Z3) 5)).alloc (.cells (cellsB Z4) 5)) (w0).heap.size 5 (cellsB Z3) := (Blk.new w0 5 (cellsB Z3)).alloc (.cells (cellsB Z4) 5); (try simp only [alloc_size] at h); exact h)
    have cv2 : (convert 23 9 (.slice (some ⟨w0.heap.size, 0, none⟩) v3 v3)).run Try.prog ((w0.alloc (.cells (cellsB Z3) 5)).alloc (.cells #[.int .i64 0, .int .u32 0, .string ⟨#[]⟩, .slice none 0 0, .int .i64 0] 25)).drew = .ok (.string (strB Z3)) ((w0.alloc (.cells (cellsB Z3) 5)).alloc (.cells #[.int .i64 0, .int .u32 0, .string ⟨#[]⟩, .slice none 0 0, .int .i64 0] 25)).drew := HCV.out _ _ (by have h : Blk ((w0.alloc (.cells (cellsB Z3) 5)).alloc (.cells #[.int .i64 0, .int .u32 0, .string ⟨#[]⟩, .slice none 0 0, .int .i64 0] 25)) (w0).heap.size 5 (cellsB Z3) := (Blk.new w0 5 (cellsB Z3)).alloc (.cells #[.int .i64 0, .int .u32 0, .string ⟨#[]⟩, .slice none 0 0, .int .i64 0] 25); (try simp only [alloc_size] at h); exact h)
    have cv3 : (convert 23 9 (.slice (some ⟨w0.heap.size + 1, 0, none⟩) v3 v3)).run Try.prog ((w0.alloc (.cells (cellsB Z4) 5)).alloc (.cells (cellsB Z3) 5)).drew = .ok (.string (strB Z3)) ((w0.alloc (.cells (cellsB Z4) 5)).alloc (.cells (cellsB Z3) 5)).drew := HCV.out _ _ (by have h : Blk ((w0.alloc (.cells (cellsB Z4) 5)).alloc (.cells (cellsB Z3) 5)) ((w0.alloc (.cells (cellsB Z4) 5))).heap.size 5 (cellsB Z3) := Blk.new (w0.alloc (.cells (cellsB Z4) 5)) 5 (cellsB Z3); (try simp only [alloc_size] at h); exact h)
    have cv4 : (convert 23 9 (.slice (some ⟨w0.heap.size + 1, 0, none⟩) v3 v3)).run Try.prog ((w0.alloc (.cells #[.int .i64 0, .int .u32 0, .string ⟨#[]⟩, .slice none 0 0, .int .i64 0] 25)).alloc (.cells (cellsB Z3) 5)).drew = .ok (.string (strB Z3)) ((w0.alloc (.cells #[.int .i64 0, .int .u32 0, .string ⟨#[]⟩, .slice none 0 0, .int .i64 0] 25)).alloc (.cells (cellsB Z3) 5)).drew := HCV.out _ _ (by have h : Blk ((w0.alloc (.cells #[.int .i64 0, .int .u32 0, .string ⟨#[]⟩, .slice none 0 0, .int .i64 0] 25)).alloc (.cells (cellsB Z3) 5)) ((w0.alloc (.cells #[.int .i64 0, .int .u32 0, .string ⟨#[]⟩, .slice none 0 0, .int .i64 0] 25))).heap.size 5 (cellsB Z3) := Blk.new (w0.alloc (.cells #[.int .i64 0, .int .u32 0, .string ⟨#[]⟩, .slice none 0 0, .int .i64 0] 25)) 5 (cellsB Z3); (try simp only [alloc_size] at h); exact h)
    have cv5 : (convert 23 9 (.slice (some ⟨w0.heap.size, 0, none⟩) v3 v3)).run Try.prog (((w0.alloc (.cells (cellsB Z3) 5)).alloc (.cells (cellsB Z4) 5)).alloc (.cells #[.int .i64 0, .int .u32 0, .string ⟨#[]⟩, .slice none 0 0, .int .i64 0] 25)).drew = .ok (.string (strB Z3)) (((w0.alloc (.cells (cellsB Z3) 5)).alloc (.cells (cellsB Z4) 5)).alloc (.cells #[.int .i64 0, .int .u32 0, .string ⟨#[]⟩, .slice none 0 0, .int .i64 0] 25)).drew := HCV.out _ _ (by have h : Blk (((w0.alloc (.cells (cellsB Z3) 5)).alloc (.cells (cellsB Z4) 5)).alloc (.cells #[.int .i64 0, .int .u32 0, .string ⟨#[]⟩, .slice none 0 0, .int .i64 0] 25)) (w0).heap.size 5 (cellsB Z3) := ((Blk.new w0 5 (cellsB Z3)).alloc (.cells (cellsB Z4) 5)).alloc (.cells #[.int .i64 0, .int .u32 0, .string ⟨#[]⟩, .slice none 0 0, .int .i64 0] 25); (try simp only [alloc_size] at h); exact h)
    have cv6 : (convert 23 9 (.slice (some ⟨w0.heap.size, 0, none⟩) v3 v3)).run Try.prog (((w0.alloc (.cells (cellsB Z3) 5)).alloc (.cells #[.int .i64 0, .int .u32 0, .string ⟨#[]⟩, .slice none 0 0, .int .i64 0] 25)).alloc (.cells (cellsB Z4) 5)).drew = .ok (.string (strB Z3)) (((w0.alloc (.cells (cellsB Z3) 5)).alloc (.cells #[.int .i64 0, .int .u32 0, .string ⟨#[]⟩, .slice none 0 0, .int .i64 0] 25)).alloc (.cells (cellsB Z4) 5)).drew := HCV.out _ _ (by have h : Blk (((w0.alloc (.cells (cellsB Z3) 5)).alloc (.cells #[.int .i64 0, .int .u32 0, .string ⟨#[]⟩, .slice none 0 0, .int .i64 0] 25)).alloc (.cells (cellsB Z4) 5)) (w0).heap.size 5 (cellsB Z3) := ((Blk.new w0 5 (cellsB Z3)).alloc (.cells #[.int .i64 0, .int .u32 0, .string ⟨#[]⟩, .slice none 0 0, .int .i64 0] 25)).alloc (.cells (cellsB Z4) 5); (try simp only [alloc_size] at h); exact h)
    have cv7 : (convert 23 9 (.slice (some ⟨w0.heap.size + 1, 0, none⟩) v3 v3)).run Try.prog (((w0.alloc (.cells (cellsB Z4) 5)).alloc (.cells (cellsB Z3) 5)).alloc (.cells #[.int .i64 0, .int .u32 0, .string ⟨#[]⟩, .slice none 0 0, .int .i64 0] 25)).drew = .ok (.string (strB Z3)) (((w0.alloc (.cells (cellsB Z4) 5)).alloc (.cells (cellsB Z3) 5)).alloc (.cells #[.int .i64 0, .int .u32 0, .string ⟨#[]⟩, .slice none 0 0, .int .i64 0] 25)).drew := HCV.out _ _ (by have h : Blk (((w0.alloc (.cells (cellsB Z4) 5)).alloc (.cells (cellsB Z3) 5)).alloc (.cells #[.int .i64 0, .int .u32 0, .string ⟨#[]⟩, .slice none 0 0, .int .i64 0] 25)) ((w0.alloc (.cells (cellsB Z4) 5))).heap.size 5 (cellsB Z3) := (Blk.new (w0.alloc (.cells (cellsB Z4) 5)) 5 (cellsB Z3)).alloc (.cells #[.int .i64 0, .int .u32 0, .string ⟨#[]⟩, .slice none 0 0, .int .i64 0] 25); (try simp only [alloc_size] at h); exact h)
    have cv8 : (convert 23 9 (.slice (some ⟨w0.heap.size + 1 + 1, 0, none⟩) v3 v3)).run Try.prog (((w0.alloc (.cells (cellsB Z4) 5)).alloc (.cells #[.int .i64 0, .int .u32 0, .string ⟨#[]⟩, .slice none 0 0, .int .i64 0] 25)).alloc (.cells (cellsB Z3) 5)).drew = .ok (.string (strB Z3)) (((w0.alloc (.cells (cellsB Z4) 5)).alloc (.cells #[.int .i64 0, .int .u32 0, .string ⟨#[]⟩, .slice none 0 0, .int .i64 0] 25)).alloc (.cells (cellsB Z3) 5)).drew := HCV.out _ _ (by have h : Blk (((w0.alloc (.cells (cellsB Z4) 5)).alloc (.cells #[.int .i64 0, .int .u32 0, .string ⟨#[]⟩, .slice none 0 0, .int .i64 0] 25)).alloc (.cells (cellsB Z3) 5)) (((w0.alloc (.cells (cellsB Z4) 5)).alloc (.cells #[.int .i64 0, .int .u32 0, .string ⟨#[]⟩, .slice none 0 0, .int .i64 0] 25))).heap.size 5 (cellsB Z3) := Blk.new ((w0.alloc (.cells (cellsB Z4) 5)).alloc (.cells #[.int .i64 0, .int .u32 0, .string ⟨#[]⟩, .slice none 0 0, .int .i64 0] 25)) 5 (cellsB Z3); (try simp only [alloc_size] at h); exact h)
    have cv9 : (convert 23 9 (.slice (some ⟨w0.heap.size + 1, 0, none⟩) v3 v3)).run Try.prog (((w0.alloc (.cells #[.int .i64 0, .int .u32 0, .string ⟨#[]⟩, .slice none 0 0, .int .i64 0] 25)).alloc (.cells (cellsB Z3) 5)).alloc (.cells (cellsB Z4) 5)).drew = .ok (.string (strB Z3)) (((w0.alloc (.cells #[.int .i64 0, .int .u32 0, .string ⟨#[]⟩, .slice none 0 0, .int .i64 0] 25)).alloc (.cells (cellsB Z3) 5)).alloc (.cells (cellsB Z4) 5)).drew := HCV.out _ _ (by have h : Blk (((w0.alloc (.cells #[.int .i64 0, .int .u32 0, .string ⟨#[]⟩, .slice none 0 0, .int .i64 0] 25)).alloc (.cells (cellsB Z3) 5)).alloc (.cells (cellsB Z4) 5)) ((w0.alloc (.cells #[.int .i64 0, .int .u32 0, .string ⟨#[]⟩, .slice none 0 0, .int .i64 0] 25))).heap.size 5 (cellsB Z3) := (Blk.new (w0.alloc (.cells #[.int .i64 0, .int .u32 0, .string ⟨#[]⟩, .slice none 0 0, .int .i64 0] 25)) 5 (cellsB Z3)).alloc (.cells (cellsB Z4) 5); (try simp only [alloc_size] at h); exact h)
    have cv10 : (convert 23 9 (.slice (some ⟨w0.heap.size + 1 + 1, 0, none⟩) v3 v3)).run Try.prog (((w0.alloc (.cells #[.int .i64 0, .int .u32 0, .string ⟨#[]⟩, .slice none 0 0, .int .i64 0] 25)).alloc (.cells (cellsB Z4) 5)).alloc (.cells (cellsB Z3) 5)).drew = .ok (.string (strB Z3)) (((w0.alloc (.cells #[.int .i64 0, .int .u32 0, .string ⟨#[]⟩, .slice none 0 0, .int .i64 0] 25)).alloc (.cells (cellsB Z4) 5)).alloc (.cells (cellsB Z3) 5)).drew := HCV.out _ _ (by have h : Blk (((w0.alloc (.cells #[.int .i64 0, .int .u32 0, .string ⟨#[]⟩, .slice none 0 0, .int .i64 0] 25)).alloc (.cells (cellsB Z4) 5)).alloc (.cells (cellsB Z3) 5)) (((w0.alloc (.cells #[.int .i64 0, .int .u32 0, .string ⟨#[]⟩, .slice none 0 0, .int .i64 0] 25)).alloc (.cells (cellsB Z4) 5))).heap.size 5 (cellsB Z3) := Blk.new ((w0.alloc (.cells #[.int .i64 0, .int .u32 0, .string ⟨#[]⟩, .slice none 0 0, .int .i64 0] 25)).alloc (.cells (cellsB Z4) 5)) 5 (cellsB Z3); (try simp only [alloc_size] at h); exact h)
    have HI : Hid (∀ W, Only Empty w0 W → W.cell? ⟨b, o, sp⟩ = some (.int .u8 (v1 : Int)) ∧ W.cell? ⟨b, o + 8, none⟩ = some (.int .u8 (v5 : Int))) := Lib.hid (fun W h => ⟨((HO0.out.trans h).cell (p := ⟨b, o, sp⟩) hbl (fun h => h)).trans K0.out, ((HO0.out.trans h).cell (p := ⟨b, o + 8, none⟩) hbl (fun h => h)).trans K8.out⟩)
    have hs0 := HI.out _ (Only.refl Empty w0)
    have hs1 := HI.out _ (Only.refl Empty w0).drew
    have hwt : IntKind.u32.wrap (v2 : Int) = (v2 : Int) := by rw [IntKind.wrap_u32]; omega
    have hwb : IntKind.i64.wrap (v4 : Int) = (v4 : Int) := IntWalk.i64_in _ (by omega)
    have p8 : (8 : Int) < (n : Int) := by omega
    have p0 : (0 : Int) < (n : Int) := by omega
    have hb0 : b < w0.heap.size := by have := HO0.out.size; omega
    have hn0 : ¬ b = w0.heap.size := by omega
    have hn1 : ¬ b = w0.heap.size + 1 := by omega
    have hn2 : ¬ b = w0.heap.size + 1 + 1 := by omega
    obtain ⟨m0, m8⟩ := hs0
    have u1 : ∀ o1, Only Empty w0 (w0.alloc o1) := fun o1 => (Only.refl Empty w0).alloc o1
    have u2 : ∀ o1 o2, Only Empty w0 ((w0.alloc o1).alloc o2) := fun o1 o2 => (u1 o1).alloc o2
    have u3 : ∀ o1 o2 o3, Only Empty w0 (((w0.alloc o1).alloc o2).alloc o3) := fun o1 o2 o3 => (u2 o1 o2).alloc o3
    have m01 := fun o1 => (HI.out _ (u1 o1)).1
    have m02 := fun o1 o2 => (HI.out _ (u2 o1 o2)).1
    have m03 := fun o1 o2 o3 => (HI.out _ (u3 o1 o2 o3)).1
    have m81 := fun o1 => (HI.out _ (u1 o1)).2
    have m82 := fun o1 o2 => (HI.out _ (u2 o1 o2)).2
    have m83 := fun o1 o2 o3 => (HI.out _ (u3 o1 o2 o3)).2
    clear u1 u2 u3
    clear HI HCV hs1 N6 N7 N8 N9 K0 K8 E1 HB Hx H0 Heq q0 q1 Hj0 HO0
    go_big_region
    clear cv0 cv1 cv2 cv3 cv4 cv5 cv6 cv7 cv8 cv9 cv10
    all_goals
      go_wp2_with fail
      go_meet
      first | with_reducible exact mid_2 HL3.out | with_reducible exact mid_1 HL3.out | with_reducible exact mid_0 HL3.out
  case rest =>
    obtain ⟨g, s, A, rfl, hs, hk, hO, hg⟩ := hcut
    have HO1 := Lib.hid (HO0.out.trans hO)
    have HJ1 := Lib.hid (hO.blk Hj0.out (fun h => h))
    have HK1 := Lib.hid hk
    have hgw : w.heap.size < g := by have := Hj0.out.lt; omega
    have N10 : Hid (∀ W, Calls Try.prog 8 #[.agg #[.int .i64 (v1 : Int), .int .u32 (v2 : Int), .string s, .slice A v4 v4, .int .i64 (v5 : Int)]] W fun e W' => e = .returned (.bool (mayB (v1 : Int) (v2 : Int) (v3 : Int) (v4 : Int) (v5 : Int))) ∧ Below W.heap.size W W') := Lib.hid (fun W => by
      have h := right_any (v1 : Int) (v2 : Int) (v5 : Int) s A v4 v4 W (by omega)
      rw [hs] at h
      exact h)
    have Hs := Lib.hid hs
    have Hg := Lib.hid hg
    clear hs hO hk hg N6 N7 N8 N9
    have y0 := HK1.out.cell 0
    have y1 := HK1.out.cell 1
    have y2 := HK1.out.cell 2
    have y3 := HK1.out.cell 3
    have y4 := HK1.out.cell 4
    simp at y0 y1 y2 y3 y4
    go_wp2_with fail
    clear y0 y1 y2 y3 y4
    refine (N10.out _).mono ?_
    rintro e2 w2 ⟨rfl, hb2⟩
    have HJ2 := Lib.hid (HJ1.out.of (hb2.block w.heap.size HJ1.out.lt))
    have HK2 := Lib.hid (HK1.out.of (hb2.block g HK1.out.lt))
    have HO2 := Lib.hid (HO1.out.trans (Only.of_below hb2))
    clear hb2
    cases hmay : mayB (v1 : Int) (v2 : Int) (v3 : Int) (v4 : Int) (v5 : Int) with
    | false =>
      have HC : Hid (∀ w', Below w.heap.size w w' → ParseOk xs w w' (zeroA 0 8)) := Lib.hid (fun w' hb => zero_ok (s := 0) (out_head (by
        unfold hdE
        rw [if_neg (by rw [H0.out]; exact Hx.out), if_neg (by have := HB.out.1; omega), if_neg (by simp [Heq.out]), ← E1.out.1, ← E1.out.2.1, ← E1.out.2.2.1, ← E1.out.2.2.2.1, ← E1.out.2.2.2.2, hmay]
        decide) (by decide)) hb)
      clear hmay
      have j0 := HJ2.out.cell 0
      have j1 := HJ2.out.cell 1
      have j2 := HJ2.out.cell 2
      have j3 := HJ2.out.cell 3
      have j4 := HJ2.out.cell 4
      have f0 := HJ2.out.frozen 0
      have f1 := HJ2.out.frozen 1
      have f2 := HJ2.out.frozen 2
      have f3 := HJ2.out.frozen 3
      have f4 := HJ2.out.frozen 4
      simp at j0 j1 j2 j3 j4
      go_wp2
      refine bodyPost_ret (v := .tuple #[.agg #[.int .i64 0, .int .u32 0, .string ⟨#[]⟩, .slice none 0 0, .int .i64 0], .int .i64 0, .bool false, .int .i64 8]) (by simp [results, Try.results14, go_sem, j0, j1, j2, j3, j4]) rfl (HC.out _ ?_)
      exact ((((((HO2.out.below (Nat.le_refl _) (fun _ _ h => h))).setCell (by simp) _).setCell (by simp) _).setCell (by simp) _).setCell (by simp) _).setCell (by simp) _
    | true =>
      have Hmay := Lib.hid hmay
      have hf := mayB_iff.1 hmay
      have hv3 : v3 ≤ 64 := by omega
      have hv4 : v4 ≤ 4096 := by omega
      have hd : hdE xs = 0 := by
        unfold hdE
        rw [if_neg (by rw [H0.out]; exact Hx.out), if_neg (by have := HB.out.1; omega), if_neg (by simp [Heq.out]), ← E1.out.1, ← E1.out.2.1, ← E1.out.2.2.1, ← E1.out.2.2.2.1, ← E1.out.2.2.2.2, hmay]
        rfl
      have Hd := Lib.hid hd
      clear hmay hf hd
      obtain ⟨sm, hsm⟩ : ∃ sm, sm = v3 + v4 + 11 := ⟨_, rfl⟩
      have Hsm := Lib.hid hsm
      have Hsz : Hid (szOf xs = sm + 5) := Lib.hid (by unfold szOf; rw [← E1.out.2.2.1, ← E1.out.2.2.2.1]; omega)
      have N11 : Hid (∀ W, Calls Try.prog 12 #[.agg #[.int .i64 (v1 : Int), .int .u32 (v2 : Int), .string s, .slice A v4 v4, .int .i64 (v5 : Int)]] W fun e W' => e = .returned (.int .i64 ((sm : Int) + 5)) ∧ Below W.heap.size W W') := Lib.hid (fun W => (refSize_any (v1 : Int) (v2 : Int) (v5 : Int) s A v4 v4 W (by rw [Hs.out]; omega) (by omega)).mono fun e W' ⟨he, hb⟩ => ⟨by rw [he, Hs.out, show ((v3 + v4 + 16 : Nat) : Int) = (sm : Int) + 5 by omega], hb⟩)
      clear hsm
      have y0 := HK2.out.cell 0
      have y1 := HK2.out.cell 1
      have y2 := HK2.out.cell 2
      have y3 := HK2.out.cell 3
      have y4 := HK2.out.cell 4
      simp at y0 y1 y2 y3 y4
      go_wp2_with fail
      clear y0 y1 y2 y3 y4
      refine (N11.out _).mono ?_
      rintro e3 w3 ⟨rfl, hb3⟩
      have HJ3 := Lib.hid (HJ2.out.of (hb3.block w.heap.size HJ2.out.lt))
      have HK3 := Lib.hid (HK2.out.of (hb3.block g HK2.out.lt))
      have HO3 := Lib.hid (HO2.out.trans (Only.of_below hb3))
      clear hb3
      by_cases hlt : n < sm + 5
      · have HC : Hid (∀ w', Below w.heap.size w w' → ParseOk xs w w' (zeroA 0 6)) := Lib.hid (fun w' hb => by
          have hp : pE xs = 6 := by unfold pE; rw [if_pos Hd.out, if_pos (by rw [HB.out.1, Hsz.out]; exact hlt)]
          have ho : out xs = ⟨0, 0, [], [], 0, 0, false, 6⟩ := by
            unfold out
            rw [hp]
            rfl
          exact zero_ok (s := 0) ho hb)
        have hq : decide ((n : Int) < (sm : Int) + 5) = true := by simp; omega
        clear hlt
        have j0 := HJ3.out.cell 0
        have j1 := HJ3.out.cell 1
        have j2 := HJ3.out.cell 2
        have j3 := HJ3.out.cell 3
        have j4 := HJ3.out.cell 4
        have f0 := HJ3.out.frozen 0
        have f1 := HJ3.out.frozen 1
        have f2 := HJ3.out.frozen 2
        have f3 := HJ3.out.frozen 3
        have f4 := HJ3.out.frozen 4
        simp at j0 j1 j2 j3 j4
        go_wp2
        refine bodyPost_ret (v := .tuple #[.agg #[.int .i64 0, .int .u32 0, .string ⟨#[]⟩, .slice none 0 0, .int .i64 0], .int .i64 0, .bool false, .int .i64 6]) (by simp [results, Try.results14, go_sem, j0, j1, j2, j3, j4]) rfl (HC.out _ ?_)
        exact ((((((HO3.out.below (Nat.le_refl _) (fun _ _ h => h))).setCell (by simp) _).setCell (by simp) _).setCell (by simp) _).setCell (by simp) _).setCell (by simp) _
      · have hq : decide ((n : Int) < (sm : Int) + 5) = false := by simp; omega
        have hge : sm + 5 ≤ n := by omega
        clear hlt
        obtain ⟨key, hkey⟩ : ∃ key, key = (xs.drop 11).take v3 := ⟨_, rfl⟩
        obtain ⟨blob, hblob⟩ : ∃ blob, blob = (xs.drop (11 + v3)).take v4 := ⟨_, rfl⟩
        have hxl := HB.out.1
        have BK : Hid (ByteSl w Empty (some ⟨b, o + 11, none⟩) v3 (cap - 11) key) := Lib.hid (by
          have h := HB.out.drop_ 11 v3 (by have := Hsm.out; omega)
          rw [hkey]
          exact h)
        have BB : Hid (ByteSl w Empty (some ((⟨b, o, sp⟩ : Addr).add (11 + v3))) v4 (cap - (11 + v3)) blob) := Lib.hid (by
          have h := HB.out.drop_ (11 + v3) v4 (by have := Hsm.out; omega)
          rw [hblob]
          exact h)
        have Hkey := Lib.hid hkey
        have Hblob := Lib.hid hblob
        clear hkey hblob hxl
        have hcv := conv_bytes (BK.out.only HO3.out (fun _ _ h => h))
        have y2 := HK3.out.cell 2
        have x2 := HK3.out.frozen 2
        simp at y2
        have c11 : ¬ cap = 11 := by have := Hsm.out; omega
        have cvk : ¬ cap = 11 + v3 := by have := Hsm.out; omega
        have r1 : (11 : Int) ≤ (11 : Int) + (v3 : Int) := by omega
        have r2 : (11 : Int) + (v3 : Int) ≤ (cap : Int) := by have := Hsm.out; omega
        have r3 : (11 : Int) + (v3 : Int) ≤ (n : Int) := by have := Hsm.out; omega
        have r4 : ((11 : Int) + (v3 : Int)).toNat = 11 + v3 := by omega
        have r5 : (sm : Int) + 5 - 5 = (sm : Int) := by omega
        have r6 : (11 : Int) + (v3 : Int) ≤ (sm : Int) := by have := Hsm.out; omega
        have r7 : sm ≤ cap := by omega
        have r8 : sm - (11 + v3) = v4 := by have := Hsm.out; omega
        have W4s : (w3.setCell ⟨g, 2, none⟩ (.string (strB key))).heap.size = w3.heap.size := by simp [World.setCell]
        have hgw3 : g < w3.heap.size := HK3.out.lt
        have o4 := own_made (w3.setCell ⟨g, 2, none⟩ (.string (strB key))) w3.heap.size (by rw [W4s]; exact Nat.le_refl _)
        rw [W4s] at o4
        have O4 := Lib.hid o4
        have T4 := Lib.hid (HO3.out.setCell (p := ⟨g, 2, none⟩) (Or.inr (Nat.le_of_lt hgw)) (.string (strB key)))
        have B4 := Lib.hid (BB.out.only (T4.out.alloc (.cells #[] 5)) (fun _ _ h => h))
        have K4 := Lib.hid ((show Blk _ g 25 #[.int .i64 (v1 : Int), .int .u32 (v2 : Int), .string (strB key), .slice A v4 v4, .int .i64 (v5 : Int)] from HK3.out.set_ 2 (.string (strB key))).alloc (.cells #[] 5))
        have J4 := Lib.hid ((HJ3.out.far (p := ⟨g, 2, none⟩) (by show w.heap.size ≠ g; omega) (.string (strB key))).alloc (.cells #[] 5))
        have L4 : Hid (w3.heap.size ≤ ((w3.setCell ⟨g, 2, none⟩ (.string (strB key))).alloc (.cells #[] 5)).heap.size) := Lib.hid (by simp [World.setCell])
        clear o4 W4s
        go_wp2_with (at_builtin; refine wpList_append_bytes rfl (.tmp 89) (.tmp 95) rfl w3.heap.size (.slice (some ⟨w3.heap.size, 0, none⟩) 0 0) rfl 0 [] O4.out (some ((⟨b, o, sp⟩ : Addr).add (11 + v3))) v4 (cap - (11 + v3)) blob Empty rfl B4.out (fun h => by cases h) (by omega) L4.out ?_)
        intro v5' w5 hown5 hg5 _
        have hown6 : w5.ownsRow w3.heap.size 5 1 v5' v4 (blob.map B8) := by simpa using hown5
        have hT5 : Only (fun q => w3.heap.size ≤ q) ((w3.setCell ⟨g, 2, none⟩ (.string (strB key))).alloc (.cells #[] 5)) w5 := Only.of_grown hg5 (fun q hq _ => (O4.out.lt q hq).1)
        obtain ⟨A5, c5, rfl, hG5⟩ := Got.of_own hown6
        have G5 := Lib.hid hG5
        have K5 := Lib.hid (hT5.blk K4.out (by omega))
        have J5 := Lib.hid (hT5.blk J4.out (by omega))
        have T5 := Lib.hid ((T4.out.alloc (.cells #[] 5)).trans' hT5 (fun q h1 h2 => by omega))
        clear hown5 hown6 hg5 hT5 hG5 hcv y2 x2 r1 r2 r3 r4 r6 r7 r8 c11 cvk
        have y3 := K5.out.cell 3
        have x3 := K5.out.frozen 3
        simp at y3
        go_wp2_with fail
        clear y3 x3
        have K6 := Lib.hid (show Blk (w5.setCell ⟨g, 3, none⟩ (.slice A5 v4 c5)) g 25 #[.int .i64 (v1 : Int), .int .u32 (v2 : Int), .string (strB key), .slice A5 v4 c5, .int .i64 (v5 : Int)] from K5.out.set_ 3 (.slice A5 v4 c5))
        have J6 := Lib.hid (J5.out.far (p := ⟨g, 3, none⟩) (by show w.heap.size ≠ g; omega) (.slice A5 v4 c5))
        have T6 := Lib.hid (T5.out.setCell (p := ⟨g, 3, none⟩) (Or.inr (Nat.le_of_lt hgw)) (.slice A5 v4 c5))
        have G6 : Hid (Got w3.heap.size (w5.setCell ⟨g, 3, none⟩ (.slice A5 v4 c5)) A5 v4 c5 blob) := Lib.hid (by
          have h1 : Only (· = g) w5 (w5.setCell ⟨g, 3, none⟩ (.slice A5 v4 c5)) := (Only.refl (· = g) w5).setCell (p := ⟨g, 3, none⟩) (Or.inl rfl) _
          obtain ⟨A', c', e, hg⟩ := Got.of_own (own_only G5.out.own h1 (fun q h2 h3 => by omega))
          cases e
          exact hg)
        obtain ⟨w6, hw6⟩ : ∃ w6, w6 = w5.setCell ⟨g, 3, none⟩ (.slice A5 v4 c5) := ⟨_, rfl⟩
        rw [← hw6] at K6 J6 T6 G6 ⊢
        clear hw6
        have hkl : (strB key).size = v3 := by have := BK.out.1; rw [← this]; exact (show (key.toArray).size = key.length by simp)
        have P1 : Hid (∀ W, Only Empty w6 W → Calls Try.prog 10 #[.agg #[.int .i64 (v1 : Int), .int .u32 (v2 : Int), .string (strB key), .slice A5 v4 c5, .int .i64 (v5 : Int)]] W fun e W' => (∃ u, e = .returned u ∧ (convert 23 9 u).run Try.prog W' = .ok (.string (strB (recB v1 v2 v5 key blob))) W') ∧ Only Empty w6 W') := Lib.hid (fun W hW =>
          (r5Bytes_yes v1 v2 v5 (strB key) A5 v4 c5 blob W (by rw [hkl]; exact Hmay.out) b2 (G6.out.bytes.only hW (fun _ _ h => h)) G6.out.isNil).mono fun e W' ⟨⟨A', cap', he, hg⟩, hb⟩ => by
            refine ⟨⟨_, he, ?_⟩, hW.trans (Only.of_below hb)⟩
            have h := conv_bytes hg.bytes
            rw [show (strB key).data.toList = key by simp [strB]] at h
            exact h)
        have HI : Hid (∀ W, Only Empty w6 W → W.cell? ⟨g, 0, none⟩ = some (.int .i64 (v1 : Int)) ∧ W.cell? ⟨g, 1, none⟩ = some (.int .u32 (v2 : Int)) ∧ W.cell? ⟨g, 2, none⟩ = some (.string (strB key)) ∧ W.cell? ⟨g, 3, none⟩ = some (.slice A5 v4 c5) ∧ W.cell? ⟨g, 4, none⟩ = some (.int .i64 (v5 : Int)) ∧ (convert 23 9 (.slice (some ⟨b, o, sp⟩) (sm + 4) cap)).run Try.prog W = .ok (.string (strB (xs.take (sm + 4)))) W) := Lib.hid (fun W hW => by
          have hk := hW.blk K6.out (fun h => h)
          exact ⟨hk.cell 0, hk.cell 1, hk.cell 2, hk.cell 3, hk.cell 4, conv_bytes ((HB.out.only (T6.out.trans hW) (fun _ _ h => h)).take_ (sm + 4) (by omega))⟩)
        have hO0 : Only Empty w6 w6 := Only.refl _ _
        have hO1 : Only Empty w6 w6.drew := hO0.drew
        have hs0 := HI.out _ hO0
        have hs1 := HI.out _ hO1
        have hw1 : IntKind.i64.wrap ((sm : Int) + 4) = (sm : Int) + 4 := by rw [IntKind.wrap_i64]; omega
        have r1 : (sm : Int) + 5 - 1 = (sm : Int) + 4 := by omega
        have r2 : (sm : Int) + 4 ≤ (cap : Int) := by omega
        have r3 : (sm : Int) + 4 ≤ (n : Int) := by omega
        have r4 : ((sm : Int) + 4).toNat = sm + 4 := by omega
        have r6 : (0 : Int) ≤ (sm : Int) + 4 := by omega
        have Hiff : Hid (recB v1 v2 v5 key blob = xs.take (sm + 4) ↔ sumOk xs = true) := Lib.hid (by
          have h := rec_iff xs (by have := HB.out.1; have := Hsm.out; have := E1.out.2.2.1; have := E1.out.2.2.2.1; omega) Heq.out
          rw [← E1.out.1, ← E1.out.2.1, ← E1.out.2.2.1, ← E1.out.2.2.2.1, ← E1.out.2.2.2.2, ← Hkey.out, ← Hblob.out, show v3 + v4 + 15 = sm + 4 by have := Hsm.out; omega] at h
          exact h)
        clear hkl
        cases hsum : sumOk xs with
        | false =>
          have hne : ¬ recB v1 v2 v5 key blob = xs.take (sm + 4) := fun e => by
            have := Hiff.out.1 e
            rw [hsum] at this
            cases this
          have hsn : ((strB (recB v1 v2 v5 key blob)).toList == (strB (xs.take (sm + 4))).toList) = false := by
            rw [strB_toList, strB_toList, beq_eq_false_iff_ne]
            exact hne
          have Hsum := Lib.hid hsum
          clear hne hsum
          go_region_held (fun W => W.cell? ⟨g, 0, none⟩ = some (.int .i64 (v1 : Int)) ∧ W.cell? ⟨g, 1, none⟩ = some (.int .u32 (v2 : Int)) ∧ W.cell? ⟨g, 2, none⟩ = some (.string (strB key)) ∧ W.cell? ⟨g, 3, none⟩ = some (.slice A5 v4 c5) ∧ W.cell? ⟨g, 4, none⟩ = some (.int .i64 (v5 : Int)) ∧ (convert 23 9 (.slice (some ⟨b, o, sp⟩) (sm + 4) cap)).run Try.prog W = .ok (.string (strB (xs.take (sm + 4)))) W) (first | with_reducible exact hs0 | with_reducible exact hs1 | with_reducible exact hs10)
            (first | ((go_at_call 10; (with_reducible refine (P1.out _ hO1).mono ?_); rintro e10 w10 ⟨⟨u10, rfl, hc10⟩, hO10⟩; have hs10 := HI.out _ hO10)))
          have hj10 := hO10.blk J6.out (fun h => h)
          have T10 := Lib.hid (T6.out.trans hO10)
          have HC : Hid (∀ w', Below w.heap.size w w' → ParseOk xs w w' (zeroA ((sm : Int) + 5) 0)) := Lib.hid (fun w' hb => by
            have hp : pE xs = 0 := by unfold pE; rw [if_pos Hd.out, if_neg (by rw [HB.out.1, Hsz.out]; omega)]
            have ho : out xs = ⟨0, 0, [], [], 0, sm + 5, false, 0⟩ := by
              unfold out
              rw [hp, Hsum.out, Hsz.out]
              rfl
            exact zero_ok (s := sm + 5) ho hb)
          have j0 := hj10.cell 0
          have j1 := hj10.cell 1
          have j2 := hj10.cell 2
          have j3 := hj10.cell 3
          have j4 := hj10.cell 4
          have f0 := hj10.frozen 0
          have f1 := hj10.frozen 1
          have f2 := hj10.frozen 2
          have f3 := hj10.frozen 3
          have f4 := hj10.frozen 4
          simp at j0 j1 j2 j3 j4
          clear hs0 hs1 hs10 hc10 hsn hw1 r1 r2 r3 r4 r5 r6 hj10 hO0 hO1
          go_wp2
          refine bodyPost_ret (v := .tuple #[.agg #[.int .i64 0, .int .u32 0, .string ⟨#[]⟩, .slice none 0 0, .int .i64 0], .int .i64 ((sm : Int) + 5), .bool false, .int .i64 0]) (by simp [results, Try.results14, go_sem, j0, j1, j2, j3, j4]) rfl (HC.out _ ?_)
          exact ((((((T10.out.below (Nat.le_refl _) (fun _ _ h => h))).setCell (by simp) _).setCell (by simp) _).setCell (by simp) _).setCell (by simp) _).setCell (by simp) _
        | true =>
          have heqb := Hiff.out.2 hsum
          rw [heqb] at P1
          obtain ⟨z, hz⟩ : ∃ z, xs[sm + 4]? = some z := ⟨_, List.getElem?_eq_getElem (by have := HB.out.1; omega)⟩
          have HOut : Hid (out xs = ⟨v1, v2, key, blob, v5, sm + 5, decide (z = 0), 0⟩) := Lib.hid (by
            have hp : pE xs = 0 := by unfold pE; rw [if_pos Hd.out, if_neg (by rw [HB.out.1, Hsz.out]; omega)]
            have hz2 : xs[nA xs + nB xs + 15]? = some z := by rw [← E1.out.2.2.1, ← E1.out.2.2.2.1, ← hz]; congr 1; have := Hsm.out; omega
            unfold out
            rw [if_pos hp, if_pos hsum, hz2, ← E1.out.1, ← E1.out.2.1, ← E1.out.2.2.1, ← E1.out.2.2.2.1, ← E1.out.2.2.2.2, Hsz.out, ← Hkey.out, ← Hblob.out]
            rfl)
          have Hz := Lib.hid hz
          clear heqb hsum hz
          go_region_held (fun W => W.cell? ⟨g, 0, none⟩ = some (.int .i64 (v1 : Int)) ∧ W.cell? ⟨g, 1, none⟩ = some (.int .u32 (v2 : Int)) ∧ W.cell? ⟨g, 2, none⟩ = some (.string (strB key)) ∧ W.cell? ⟨g, 3, none⟩ = some (.slice A5 v4 c5) ∧ W.cell? ⟨g, 4, none⟩ = some (.int .i64 (v5 : Int)) ∧ (convert 23 9 (.slice (some ⟨b, o, sp⟩) (sm + 4) cap)).run Try.prog W = .ok (.string (strB (xs.take (sm + 4)))) W) (first | with_reducible exact hs0 | with_reducible exact hs1 | with_reducible exact hs10)
            (first | ((go_at_call 10; (with_reducible refine (P1.out _ hO1).mono ?_); rintro e10 w10 ⟨⟨u10, rfl, hc10⟩, hO10⟩; have hs10 := HI.out _ hO10)))
          have hj10 := hO10.blk J6.out (fun h => h)
          have hk10 := hO10.blk K6.out (fun h => h)
          have T10 := Lib.hid (T6.out.trans hO10)
          have haddr : (⟨b, o, sp⟩ : Addr).add (sm + 4) = ⟨b, o + (sm + 4), none⟩ := by unfold Addr.add; rw [if_neg (by omega)]
          have kz : w10.cell? ⟨b, o + (sm + 4), none⟩ = some (.int .u8 (z.toNat : Int)) := by
            rw [← haddr]
            obtain ⟨ad', e, _, _, hc⟩ := (HB.out.only T10.out (fun _ _ h => h)).2.2.2 (by omega)
            cases e
            exact hc _ _ Hz.out
          have hzb := u8_dec z 0 0 rfl
          have j0 := hj10.cell 0
          have j1 := hj10.cell 1
          have j2 := hj10.cell 2
          have j3 := hj10.cell 3
          have j4 := hj10.cell 4
          have f0 := hj10.frozen 0
          have f1 := hj10.frozen 1
          have f2 := hj10.frozen 2
          have f3 := hj10.frozen 3
          have f4 := hj10.frozen 4
          have y0 := hk10.cell 0
          have y1 := hk10.cell 1
          have y2 := hk10.cell 2
          have y3 := hk10.cell 3
          have y4 := hk10.cell 4
          simp at j0 j1 j2 j3 j4 y0 y1 y2 y3 y4
          have O10 := Lib.hid (own_only G6.out.own hO10 (fun _ _ _ h => h))
          have r9 : (sm : Int) + 4 < (n : Int) := by omega
          have hgn : ¬ g = w.heap.size := by omega
          have hnb : ¬ b = w.heap.size := by omega
          clear hs0 hs1 hs10 hc10 hj10 hk10 hO0 hO1 r2 r3
          go_wp2_with fail
          go_big_region
          all_goals
            go_wp2
            have hS : Only (· = w.heap.size) w10 (((((w10.setCell ⟨w.heap.size, 0, none⟩ (.int .i64 (v1 : Int))).setCell ⟨w.heap.size, 1, none⟩ (.int .u32 (v2 : Int))).setCell ⟨w.heap.size, 2, none⟩ (.string (strB key))).setCell ⟨w.heap.size, 3, none⟩ (.slice A5 v4 c5)).setCell ⟨w.heap.size, 4, none⟩ (.int .i64 (v5 : Int))).drew :=
              ((((((Only.refl (· = w.heap.size) w10).setCell (p := ⟨w.heap.size, 0, none⟩) (Or.inl rfl) _).setCell (p := ⟨w.heap.size, 1, none⟩) (Or.inl rfl) _).setCell (p := ⟨w.heap.size, 2, none⟩) (Or.inl rfl) _).setCell (p := ⟨w.heap.size, 3, none⟩) (Or.inl rfl) _).setCell (p := ⟨w.heap.size, 4, none⟩) (Or.inl rfl) _).drew
            refine bodyPost_ret (v := .tuple #[.agg #[.int .i64 (v1 : Int), .int .u32 (v2 : Int), .string (strB key), .slice A5 v4 c5, .int .i64 (v5 : Int)], .int .i64 ((sm : Int) + 5), .bool (decide (z = 0)), .int .i64 0]) (by simp [results, Try.results14, go_sem, j0, j1, j2, j3, j4]) rfl ⟨⟨A5, v4, c5, ?_, ?_⟩, ?_⟩
            · rw [HOut.out]
              rfl
            · rw [HOut.out]
              obtain ⟨A', c', e, hg⟩ := Got.of_own (own_base (own_only O10.out hS (fun q h1 h2 => by omega)) (show w.heap.size ≤ w3.heap.size by omega))
              cases e
              exact hg
            · exact (T10.out.trans' hS (fun q h1 h2 => by omega)).below (Nat.le_refl _) (fun _ _ h => h)

/-- The document's Parse as one answer. -/
theorem refParse_any (A : Option Addr) (n cap : Nat) (xs : List UInt8) (w : World) (hB : ByteSl w Empty A n cap xs) (hm : n ≤ 1048576) :
    Calls Try.prog 14 #[.slice A n cap] w fun e w' => ParseOk xs w w' e := by
  rcases Nat.eq_zero_or_pos n with hn | hn
  · subst hn
    obtain rfl : xs = [] := List.eq_nil_of_length_eq_zero hB.1
    exact refParse_none A cap w
  · obtain ⟨⟨b, o, sp⟩, rfl, -, -, -⟩ := hB.2.2.2 hn
    obtain ⟨x, hx0⟩ : ∃ x, xs[0]? = some x := ⟨_, List.getElem?_eq_getElem (by have := hB.1; omega)⟩
    by_cases hx : x = 255
    · subst hx
      exact refParse_blank _ n cap xs w hB hn hx0
    · by_cases h11 : n < 11
      · exact refParse_short _ n cap xs x w hB hn h11 hx0 hx
      · by_cases hs : nS xs = (crc16 (xs.take 9)).toNat
        · exact refParse_long b o sp n cap xs x w hB (by omega) hm hx0 hx hs
        · exact refParse_sum b o sp n cap xs x w hB (by omega) hm hx0 hx hs

end Go.Proofs.Ytglagchgaclhaaa
