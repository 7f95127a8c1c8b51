/- What a record's bytes tell, as plain functions; the walks over rec.parseHead. -/
import Derived.Test.YtnhfmcijadficaaGreatDoorZan
namespace Go.Proofs.YtnhfmcijadficaaGreatDoor
set_option maxRecDepth 100000
open Go.RowKit

/-- A header's error, of any bytes. -/
def hdE (xs : List UInt8) : Int :=
  if xs[0]?.getD 255 = 255 then 11 else if xs.length < 11 then 6 else if nS xs ≠ (crc16 (xs.take 9)).toNat then 7 else if mayB (nK xs) (nT xs) (nA xs) (nB xs) (nC xs) = true then 0 else 8
/-- A header of zeros. -/
def zeroH : Value := .agg #[.int .i64 0, .int .u32 0, .int .i64 0, .int .i64 0, .int .i64 0]
def HeadOk (xs : List UInt8) (w w' : World) (e : Ending) : Prop := e = .returned (.tuple #[if hdE xs = 0 then headV xs else zeroH, .int .i64 (hdE xs)]) ∧ Below w.heap.size w w'

theorem u8_dec (x : UInt8) (y : UInt8) (z : Int) (h : (y.toNat : Int) = z) : ((x.toNat : Int) == z) = decide (x = y) := by
  rw [← h]
  by_cases hx : x = y
  · subst hx
    simp
  · rw [decide_eq_false hx, beq_eq_false_iff_ne]
    intro e
    apply hx
    apply UInt8.toNat_inj.1
    omega

theorem parseHead_none (A : Option Addr) (cap : Nat) (w : World) : Calls Tryz.prog 174 #[.slice A 0 cap] w fun e w' => HeadOk [] w w' e := by
  have hc : Hid (hdE [] = 11) := Lib.hid (by unfold hdE; rw [if_pos (by rfl)])
  go_enter Tryz.func174, Tryz.ntmps174
  go_wp2
  refine bodyPost_ret (v := .tuple #[zeroH, .int .i64 11]) (by simp [results, Tryz.results174, go_sem, zeroH]) rfl ⟨?_, (Below.refl _ _).alloc (Nat.le_refl _) _⟩
  rw [hc.out]
  rfl

set_option maxHeartbeats 1000000 in
theorem parseHead_blank (ad : Addr) (n cap : Nat) (xs : List UInt8) (w : World) (hB : ByteSl w Empty (some ad) n cap xs) (hn : 0 < n) (h0 : xs[0]? = some 255) :
    Calls Tryz.prog 174 #[.slice (some ad) n cap] w fun e w' => HeadOk xs w w' e := by
  have hc : Hid (hdE xs = 11) := Lib.hid (by unfold hdE; rw [if_pos (by rw [h0]; rfl)])
  obtain ⟨ad', e, hbl, -, hcell⟩ := hB.2.2.2 hn
  cases e
  obtain ⟨b, o, sp⟩ := ad
  have k0 : w.cell? ⟨b, o, sp⟩ = some (.int .u8 255) := hcell 0 255 h0
  have hbl : b < w.heap.size := hbl
  have q0 : ((n : Int) == 0) = false := by simp; omega
  clear hcell hB h0
  go_enter Tryz.func174, Tryz.ntmps174
  go_wp2
  refine bodyPost_ret (v := .tuple #[zeroH, .int .i64 11]) (by simp [results, Tryz.results174, go_sem, zeroH]) rfl ⟨?_, (Below.refl _ _).alloc (Nat.le_refl _) _⟩
  rw [hc.out]
  rfl

set_option maxHeartbeats 1000000 in
theorem parseHead_short (ad : Addr) (n cap : Nat) (xs : List UInt8) (x : UInt8) (w : World) (hB : ByteSl w Empty (some ad) n cap xs) (hn : 0 < n) (h11 : n < 11) (h0 : xs[0]? = some x) (hx : x ≠ 255) :
    Calls Tryz.prog 174 #[.slice (some ad) n cap] w fun e w' => HeadOk xs w w' e := by
  have hc : Hid (hdE xs = 6) := Lib.hid (by unfold hdE; rw [if_neg (by rw [h0]; exact hx), if_pos (by have := hB.1; omega)])
  obtain ⟨ad', e, hbl, -, hcell⟩ := hB.2.2.2 hn
  cases e
  obtain ⟨b, o, sp⟩ := ad
  have k0 : w.cell? ⟨b, o, sp⟩ = some (.int .u8 (x.toNat : Int)) := hcell 0 x h0
  have hbl : b < w.heap.size := hbl
  have q0 : ((n : Int) == 0) = false := by simp; omega
  have q1 := u8_dec x 255 255 rfl
  rw [decide_eq_false hx] at q1
  clear hcell hB h0 hx
  go_enter Tryz.func174, Tryz.ntmps174
  go_wp2
  refine bodyPost_ret (v := .tuple #[zeroH, .int .i64 6]) (by simp [results, Tryz.results174, go_sem, zeroH]) rfl ⟨?_, (Below.refl _ _).alloc (Nat.le_refl _) _⟩
  rw [hc.out]
  rfl

theorem ByteSl.mono_of {w : World} {S T : Nat → Prop} {b o : Nat} {sp : Option Nat} {n cap : Nat} {xs : List UInt8} (h : ByteSl w S (some ⟨b, o, sp⟩) n cap xs) (hT : ¬ T b) : ByteSl w T (some ⟨b, o, sp⟩) n cap xs :=
  ⟨h.1, h.2.1, h.2.2.1, fun hn => by
    obtain ⟨ad, e, hb, hs, hc⟩ := h.2.2.2 hn
    cases e
    exact ⟨_, rfl, hb, hT, hc⟩⟩

set_option maxHeartbeats 2000000 in
theorem parseHead_sum (b o : Nat) (sp : Option Nat) (n cap : Nat) (xs : List UInt8) (x : UInt8) (w : World) (hB : ByteSl w Empty (some ⟨b, o, sp⟩) n cap xs) (h11 : 11 ≤ n) (hm : n ≤ 1048576) (h0 : xs[0]? = some x) (hx : x ≠ 255)
    (hne : nS xs ≠ (crc16 (xs.take 9)).toNat) :
    Calls Tryz.prog 174 #[.slice (some ⟨b, o, sp⟩) n cap] w fun e w' => HeadOk xs w w' e := by
  have hc : Hid (hdE xs = 7) := Lib.hid (by unfold hdE; rw [if_neg (by rw [h0]; exact hx), if_neg (by have := hB.1; omega), if_pos hne])
  obtain ⟨ad', e, hbl, -, hcell⟩ := hB.2.2.2 (by omega)
  cases e
  have k0 : w.cell? ⟨b, o, sp⟩ = some (.int .u8 (x.toNat : Int)) := hcell 0 x h0
  have hbl : b < w.heap.size := hbl
  have hcap := hB.2.1
  have hcap2 : cap ≤ 9223372036854775807 := by have := hB.2.2.1; unfold maxLen at this; omega
  have q0 : ((n : Int) == 0) = false := by simp; omega
  have q1 := u8_dec x 255 255 rfl
  rw [decide_eq_false hx] at q1
  have HB := Lib.hid hB
  have Hne := Lib.hid hne
  clear hne
  have hO0 := ((Only.refl Empty w).alloc (.cells #[.int .i64 0, .int .u32 0, .int .i64 0, .int .i64 0, .int .i64 0] 199)).alloc (.cells #[.slice (some ⟨b, o, sp⟩) n cap, .int .i64 0] 254)
  have HR0 := Lib.hid (show Rd ((w.alloc (.cells #[.int .i64 0, .int .u32 0, .int .i64 0, .int .i64 0, .int .i64 0] 199)).alloc (.cells #[.slice (some ⟨b, o, sp⟩) n cap, .int .i64 0] 254)) (w.heap.size + 1) (some ⟨b, o, sp⟩) n cap 0 from (by
    have h := Blk.new (w.alloc (.cells #[.int .i64 0, .int .u32 0, .int .i64 0, .int .i64 0, .int .i64 0] 199)) 254 #[.slice (some ⟨b, o, sp⟩) n cap, .int .i64 0]
    unfold Rd
    simpa using h))
  have HO0 := Lib.hid hO0
  have HB0 := Lib.hid (show ByteSl _ (· = w.heap.size + 1) (some ⟨b, o, sp⟩) n cap xs from (HB.out.only HO0.out (fun _ _ h => h)).mono_of (by show ¬ b = w.heap.size + 1; omega))
  clear hcell hB h0 hx hO0
  go_enter Tryz.func174, Tryz.ntmps174
  go_wp2_with fail
  clear k0
  refine (head_any (w.heap.size + 1) _ n cap xs _ HR0.out HB0.out hm (by omega)).mono ?_
  rintro e1 w1 ⟨rfl, hR1, hO1⟩
  unfold headV
  have HR1 := Lib.hid hR1
  have HO1 := Lib.hid (HO0.out.trans' hO1 (fun q h1 h2 => by omega))
  have HB1 := Lib.hid (HB0.out.only hO1 (fun _ _ h => h))
  have hz1 : w.heap.size + 1 < w1.heap.size := hR1.lt
  have hj1 : Blk w1 w.heap.size 199 #[.int .i64 0, .int .u32 0, .int .i64 0, .int .i64 0, .int .i64 0] := hO1.blk ((Blk.new w 199 #[.int .i64 0, .int .u32 0, .int .i64 0, .int .i64 0, .int .i64 0]).alloc _) (by omega)
  have HJ1 := Lib.hid hj1
  clear hR1 hO1 hj1
  obtain ⟨v1, e1, b1⟩ : ∃ v, v = nK xs ∧ v ≤ 255 := ⟨_, rfl, nK_le xs⟩
  obtain ⟨v2, e2, b2⟩ : ∃ v, v = nT xs ∧ v ≤ 4294967295 := ⟨_, rfl, nT_le xs⟩
  obtain ⟨v3, e3, b3⟩ : ∃ v, v = nA xs ∧ v ≤ 255 := ⟨_, rfl, nA_le xs⟩
  obtain ⟨v4, e4, b4⟩ : ∃ v, v = nB xs ∧ v ≤ 65535 := ⟨_, rfl, nB_le xs⟩
  obtain ⟨v5, e5, b5⟩ : ∃ v, v = nC xs ∧ v ≤ 255 := ⟨_, rfl, nC_le xs⟩
  obtain ⟨v6, e6, b6⟩ : ∃ v, v = nS xs ∧ v ≤ 65535 := ⟨_, rfl, nS_le xs⟩
  obtain ⟨v7, e7, b7⟩ : ∃ v, v = (crc16 (xs.take 9)).toNat ∧ v ≤ 65535 := ⟨_, rfl, by have := (crc16 (xs.take 9)).isLt; omega⟩
  rw [← e1, ← e2, ← e3, ← e4, ← e5]
  have E1 := Lib.hid (And.intro e1 (And.intro e2 (And.intro e3 (And.intro e4 e5))))
  have N6 : Hid (∀ W, Rd W (w.heap.size + 1) (some ⟨b, o, sp⟩) n cap 9 → ByteSl W (· = w.heap.size + 1) (some ⟨b, o, sp⟩) n cap xs → Calls Tryz.prog 175 #[.pointer (some ⟨w.heap.size + 1, 0, none⟩), .int .i64 2] W fun e W' => e = .returned (.int .u64 (v6 : Int)) ∧ Rd W' (w.heap.size + 1) (some ⟨b, o, sp⟩) n cap 11 ∧ Only (· = w.heap.size + 1) W W') := Lib.hid fun W hR hB => by
    rw [e6]; exact number_any (w.heap.size + 1) _ n cap 9 2 xs W hR (hB.mono (fun _ _ h => h.elim)) (by omega) (by omega) hm (by omega)
  have N7 : Hid (∀ W, ByteSl W (· = w.heap.size + 1) (some ⟨b, o, sp⟩) n cap xs → Calls Tryz.prog 169 #[.slice (some ⟨b, o, sp⟩) 9 cap] W fun e W' => e = .returned (.int .u16 (v7 : Int)) ∧ Below W.heap.size W W') := Lib.hid fun W hB => by
    rw [e7]; exact sum16_any _ 9 cap (xs.take 9) W ((hB.mono (fun _ _ h => h.elim)).take_ 9 (by omega))
  have hne1 : ((v6 : Int) == (v7 : Int)) = false := by
    rw [beq_eq_false_iff_ne, e6, e7]
    intro e
    exact Hne.out (by omega)
  have hne2 : ((v6 : Int) != (v7 : Int)) = true := by simp only [bne, hne1]; rfl
  clear e1 e2 e3 e4 e5 e6 e7
  go_wp2_with fail
  have HR2 := Lib.hid (show Rd (w1.alloc (.cells #[.int .i64 (v1 : Int), .int .u32 (v2 : Int), .int .i64 (v3 : Int), .int .i64 (v4 : Int), .int .i64 (v5 : Int)] 199)).drew (w.heap.size + 1) (some ⟨b, o, sp⟩) n cap 9 from (HR1.out.alloc _).drew)
  have HO2 := Lib.hid (HO1.out.trans (((Only.refl Empty w1).alloc (.cells #[.int .i64 (v1 : Int), .int .u32 (v2 : Int), .int .i64 (v3 : Int), .int .i64 (v4 : Int), .int .i64 (v5 : Int)] 199)).drew))
  have HB2 := Lib.hid (show ByteSl (w1.alloc (.cells #[.int .i64 (v1 : Int), .int .u32 (v2 : Int), .int .i64 (v3 : Int), .int .i64 (v4 : Int), .int .i64 (v5 : Int)] 199)).drew (· = w.heap.size + 1) _ n cap xs from HB1.out.only (((Only.refl Empty w1).alloc (.cells #[.int .i64 (v1 : Int), .int .u32 (v2 : Int), .int .i64 (v3 : Int), .int .i64 (v4 : Int), .int .i64 (v5 : Int)] 199)).drew) (fun _ _ h => h.elim))
  have HJ2 := Lib.hid ((HJ1.out.alloc (.cells #[.int .i64 (v1 : Int), .int .u32 (v2 : Int), .int .i64 (v3 : Int), .int .i64 (v4 : Int), .int .i64 (v5 : Int)] 199)).drew)
  have HK2 := Lib.hid ((Blk.new w1 199 #[.int .i64 (v1 : Int), .int .u32 (v2 : Int), .int .i64 (v3 : Int), .int .i64 (v4 : Int), .int .i64 (v5 : Int)]).drew)
  have q9 : (9 : Int) ≤ (cap : Int) := by omega
  have q8 : (9 : Int) ≤ (n : Int) := by omega
  have hwv : IntKind.u16.wrap (v6 : Int) = (v6 : Int) := by rw [IntKind.wrap_u16]; omega
  have hT : True := trivial
  go_region_held3 (fun _ => True) (exact hT)
    (first | ((go_at_call 175; (with_reducible refine (N6.out _ HR2.out HB2.out).mono ?_); rintro e10 w10 ⟨rfl, hR10, hO10⟩; have HB10 := Lib.hid (HB2.out.only hO10 (fun _ _ h => h)))) | ((go_at_call 169; (with_reducible refine (N7.out _ HB10.out).mono ?_); rintro e11 w11 ⟨rfl, hb11⟩)))
  have hz2 : w.heap.size + 1 < w10.heap.size := hR10.lt
  have hw11 := HO2.out.trans' (hO10.trans (Only.of_below hb11)) (fun q h1 h2 => by omega)
  have hj11 := (hO10.blk HJ2.out (by omega)).of (hb11.block w.heap.size (by omega))
  have hk10 := hO10.blk HK2.out (by omega)
  have hk11 := hk10.of (hb11.block w1.heap.size hk10.lt)
  have HW11 := Lib.hid (show Below w.heap.size w w11 from hw11.below (Nat.le_refl _) (fun _ _ h => h))
  have j0 := hj11.cell 0
  have j1 := hj11.cell 1
  have j2 := hj11.cell 2
  have j3 := hj11.cell 3
  have j4 := hj11.cell 4
  have g0 := hj11.frozen 0
  have g1 := hj11.frozen 1
  have g2 := hj11.frozen 2
  have g3 := hj11.frozen 3
  have g4 := hj11.frozen 4
  have y0 := hk11.cell 0
  have y1 := hk11.cell 1
  have y2 := hk11.cell 2
  have y3 := hk11.cell 3
  have y4 := hk11.cell 4
  simp at j0 j1 j2 j3 j4 y0 y1 y2 y3 y4
  have HJ11 := Lib.hid hj11
  clear hR10 hO10 hb11 hw11 hk10 hk11 hj11
  go_wp2
  refine bodyPost_ret (v := .tuple #[zeroH, .int .i64 7]) (by simp [results, Tryz.results174, go_sem, zeroH, j0, j1, j2, j3, j4]) rfl ⟨?_, ?_⟩
  · rw [hc.out]
    rfl
  · exact ((((HW11.out.setCell (by simp) _).setCell (by simp) _).setCell (by simp) _).setCell (by simp) _).setCell (by simp) _


set_option maxHeartbeats 2000000 in
theorem parseHead_form (b o : Nat) (sp : Option Nat) (n cap : Nat) (xs : List UInt8) (x : UInt8) (w : World) (hB : ByteSl w Empty (some ⟨b, o, sp⟩) n cap xs) (h11 : 11 ≤ n) (hm : n ≤ 1048576) (h0 : xs[0]? = some x) (hx : x ≠ 255)
    (heq : nS xs = (crc16 (xs.take 9)).toNat) (hmay : mayB (nK xs : Int) (nT xs : Int) (nA xs : Int) (nB xs : Int) (nC xs : Int) = false) :
    Calls Tryz.prog 174 #[.slice (some ⟨b, o, sp⟩) n cap] w fun e w' => HeadOk xs w w' e := by
  have hc : Hid (hdE xs = 8) := Lib.hid (by unfold hdE; rw [if_neg (by rw [h0]; exact hx), if_neg (by have := hB.1; omega), if_neg (by simp [heq]), if_neg (by rw [hmay]; decide)])
  obtain ⟨ad', e, hbl, -, hcell⟩ := hB.2.2.2 (by omega)
  cases e
  have k0 : w.cell? ⟨b, o, sp⟩ = some (.int .u8 (x.toNat : Int)) := hcell 0 x h0
  have hbl : b < w.heap.size := hbl
  have hcap := hB.2.1
  have hcap2 : cap ≤ 9223372036854775807 := by have := hB.2.2.1; unfold maxLen at this; omega
  have q0 : ((n : Int) == 0) = false := by simp; omega
  have q1 := u8_dec x 255 255 rfl
  rw [decide_eq_false hx] at q1
  have HB := Lib.hid hB
  have Heq := Lib.hid heq
  have Hmay := Lib.hid hmay
  clear heq hmay
  have hO0 := ((Only.refl Empty w).alloc (.cells #[.int .i64 0, .int .u32 0, .int .i64 0, .int .i64 0, .int .i64 0] 199)).alloc (.cells #[.slice (some ⟨b, o, sp⟩) n cap, .int .i64 0] 254)
  have HR0 := Lib.hid (show Rd ((w.alloc (.cells #[.int .i64 0, .int .u32 0, .int .i64 0, .int .i64 0, .int .i64 0] 199)).alloc (.cells #[.slice (some ⟨b, o, sp⟩) n cap, .int .i64 0] 254)) (w.heap.size + 1) (some ⟨b, o, sp⟩) n cap 0 from (by
    have h := Blk.new (w.alloc (.cells #[.int .i64 0, .int .u32 0, .int .i64 0, .int .i64 0, .int .i64 0] 199)) 254 #[.slice (some ⟨b, o, sp⟩) n cap, .int .i64 0]
    unfold Rd
    simpa using h))
  have HO0 := Lib.hid hO0
  have HB0 := Lib.hid (show ByteSl _ (· = w.heap.size + 1) (some ⟨b, o, sp⟩) n cap xs from (HB.out.only HO0.out (fun _ _ h => h)).mono_of (by show ¬ b = w.heap.size + 1; omega))
  clear hcell hB h0 hx hO0
  go_enter Tryz.func174, Tryz.ntmps174
  go_wp2_with fail
  clear k0
  refine (head_any (w.heap.size + 1) _ n cap xs _ HR0.out HB0.out hm (by omega)).mono ?_
  rintro e1 w1 ⟨rfl, hR1, hO1⟩
  unfold headV
  have HR1 := Lib.hid hR1
  have HO1 := Lib.hid (HO0.out.trans' hO1 (fun q h1 h2 => by omega))
  have HB1 := Lib.hid (HB0.out.only hO1 (fun _ _ h => h))
  have hz1 : w.heap.size + 1 < w1.heap.size := hR1.lt
  have hj1 : Blk w1 w.heap.size 199 #[.int .i64 0, .int .u32 0, .int .i64 0, .int .i64 0, .int .i64 0] := hO1.blk ((Blk.new w 199 #[.int .i64 0, .int .u32 0, .int .i64 0, .int .i64 0, .int .i64 0]).alloc _) (by omega)
  have HJ1 := Lib.hid hj1
  clear hR1 hO1 hj1
  obtain ⟨v1, e1, b1⟩ : ∃ v, v = nK xs ∧ v ≤ 255 := ⟨_, rfl, nK_le xs⟩
  obtain ⟨v2, e2, b2⟩ : ∃ v, v = nT xs ∧ v ≤ 4294967295 := ⟨_, rfl, nT_le xs⟩
  obtain ⟨v3, e3, b3⟩ : ∃ v, v = nA xs ∧ v ≤ 255 := ⟨_, rfl, nA_le xs⟩
  obtain ⟨v4, e4, b4⟩ : ∃ v, v = nB xs ∧ v ≤ 65535 := ⟨_, rfl, nB_le xs⟩
  obtain ⟨v5, e5, b5⟩ : ∃ v, v = nC xs ∧ v ≤ 255 := ⟨_, rfl, nC_le xs⟩
  obtain ⟨v6, e6, b6⟩ : ∃ v, v = nS xs ∧ v ≤ 65535 := ⟨_, rfl, nS_le xs⟩
  obtain ⟨v7, e7, b7⟩ : ∃ v, v = (crc16 (xs.take 9)).toNat ∧ v ≤ 65535 := ⟨_, rfl, by have := (crc16 (xs.take 9)).isLt; omega⟩
  rw [← e1, ← e2, ← e3, ← e4, ← e5]
  have E1 := Lib.hid (And.intro e1 (And.intro e2 (And.intro e3 (And.intro e4 e5))))
  have N6 : Hid (∀ W, Rd W (w.heap.size + 1) (some ⟨b, o, sp⟩) n cap 9 → ByteSl W (· = w.heap.size + 1) (some ⟨b, o, sp⟩) n cap xs → Calls Tryz.prog 175 #[.pointer (some ⟨w.heap.size + 1, 0, none⟩), .int .i64 2] W fun e W' => e = .returned (.int .u64 (v6 : Int)) ∧ Rd W' (w.heap.size + 1) (some ⟨b, o, sp⟩) n cap 11 ∧ Only (· = w.heap.size + 1) W W') := Lib.hid fun W hR hB => by
    rw [e6]; exact number_any (w.heap.size + 1) _ n cap 9 2 xs W hR (hB.mono (fun _ _ h => h.elim)) (by omega) (by omega) hm (by omega)
  have N7 : Hid (∀ W, ByteSl W (· = w.heap.size + 1) (some ⟨b, o, sp⟩) n cap xs → Calls Tryz.prog 169 #[.slice (some ⟨b, o, sp⟩) 9 cap] W fun e W' => e = .returned (.int .u16 (v7 : Int)) ∧ Below W.heap.size W W') := Lib.hid fun W hB => by
    rw [e7]; exact sum16_any _ 9 cap (xs.take 9) W ((hB.mono (fun _ _ h => h.elim)).take_ 9 (by omega))
  have he : v6 = v7 := by rw [e6, e7]; exact Heq.out
  rw [← e1, ← e2, ← e3, ← e4, ← e5] at Hmay
  subst he
  clear e1 e2 e3 e4 e5 e6 e7
  go_wp2_with fail
  have HR2 := Lib.hid (show Rd (w1.alloc (.cells #[.int .i64 (v1 : Int), .int .u32 (v2 : Int), .int .i64 (v3 : Int), .int .i64 (v4 : Int), .int .i64 (v5 : Int)] 199)).drew (w.heap.size + 1) (some ⟨b, o, sp⟩) n cap 9 from (HR1.out.alloc _).drew)
  have HO2 := Lib.hid (HO1.out.trans (((Only.refl Empty w1).alloc (.cells #[.int .i64 (v1 : Int), .int .u32 (v2 : Int), .int .i64 (v3 : Int), .int .i64 (v4 : Int), .int .i64 (v5 : Int)] 199)).drew))
  have HB2 := Lib.hid (show ByteSl (w1.alloc (.cells #[.int .i64 (v1 : Int), .int .u32 (v2 : Int), .int .i64 (v3 : Int), .int .i64 (v4 : Int), .int .i64 (v5 : Int)] 199)).drew (· = w.heap.size + 1) _ n cap xs from HB1.out.only (((Only.refl Empty w1).alloc (.cells #[.int .i64 (v1 : Int), .int .u32 (v2 : Int), .int .i64 (v3 : Int), .int .i64 (v4 : Int), .int .i64 (v5 : Int)] 199)).drew) (fun _ _ h => h.elim))
  have HJ2 := Lib.hid ((HJ1.out.alloc (.cells #[.int .i64 (v1 : Int), .int .u32 (v2 : Int), .int .i64 (v3 : Int), .int .i64 (v4 : Int), .int .i64 (v5 : Int)] 199)).drew)
  have HK2 := Lib.hid ((Blk.new w1 199 #[.int .i64 (v1 : Int), .int .u32 (v2 : Int), .int .i64 (v3 : Int), .int .i64 (v4 : Int), .int .i64 (v5 : Int)]).drew)
  have q9 : (9 : Int) ≤ (cap : Int) := by omega
  have q8 : (9 : Int) ≤ (n : Int) := by omega
  have hwv : IntKind.u16.wrap (v6 : Int) = (v6 : Int) := by rw [IntKind.wrap_u16]; omega
  have hT : True := trivial
  go_region_held3 (fun _ => True) (exact hT)
    (first | ((go_at_call 175; (with_reducible refine (N6.out _ HR2.out HB2.out).mono ?_); rintro e10 w10 ⟨rfl, hR10, hO10⟩; have HB10 := Lib.hid (HB2.out.only hO10 (fun _ _ h => h)))) | ((go_at_call 169; (with_reducible refine (N7.out _ HB10.out).mono ?_); rintro e11 w11 ⟨rfl, hb11⟩)))
  have hz2 : w.heap.size + 1 < w10.heap.size := hR10.lt
  have hw11 := HO2.out.trans' (hO10.trans (Only.of_below hb11)) (fun q h1 h2 => by omega)
  have hj11 := (hO10.blk HJ2.out (by omega)).of (hb11.block w.heap.size (by omega))
  have hk10 := hO10.blk HK2.out (by omega)
  have hk11 := hk10.of (hb11.block w1.heap.size hk10.lt)
  have HW11 := Lib.hid (show Below w.heap.size w w11 from hw11.below (Nat.le_refl _) (fun _ _ h => h))
  have j0 := hj11.cell 0
  have j1 := hj11.cell 1
  have j2 := hj11.cell 2
  have j3 := hj11.cell 3
  have j4 := hj11.cell 4
  have g0 := hj11.frozen 0
  have g1 := hj11.frozen 1
  have g2 := hj11.frozen 2
  have g3 := hj11.frozen 3
  have g4 := hj11.frozen 4
  have y0 := hk11.cell 0
  have y1 := hk11.cell 1
  have y2 := hk11.cell 2
  have y3 := hk11.cell 3
  have y4 := hk11.cell 4
  simp at j0 j1 j2 j3 j4 y0 y1 y2 y3 y4
  have HJ11 := Lib.hid hj11
  have hk12 := hk11
  clear hR10 hO10 hb11 hw11 hk10 hk11 hj11
  clear j0 j1 j2 j3 j4 g0 g1 g2 g3 g4
  have HK11 := Lib.hid hk12
  clear hk12
  go_wp2_with fail
  refine (mayBe_any (v1 : Int) (v2 : Int) (v3 : Int) (v4 : Int) (v5 : Int) _).mono ?_
  rw [Hmay.out]
  rintro e12 w12 ⟨rfl, hb12⟩
  have hj12 := HJ11.out.of (hb12.block w.heap.size HJ11.out.lt)
  have hk13 := HK11.out.of (hb12.block w1.heap.size HK11.out.lt)
  have HW12 := Lib.hid (HW11.out.trans (hb12.mono HW11.out.size))
  clear y0 y1 y2 y3 y4
  have j0 := hj12.cell 0
  have j1 := hj12.cell 1
  have j2 := hj12.cell 2
  have j3 := hj12.cell 3
  have j4 := hj12.cell 4
  have g0 := hj12.frozen 0
  have g1 := hj12.frozen 1
  have g2 := hj12.frozen 2
  have g3 := hj12.frozen 3
  have g4 := hj12.frozen 4
  have y0 := hk13.cell 0
  have y1 := hk13.cell 1
  have y2 := hk13.cell 2
  have y3 := hk13.cell 3
  have y4 := hk13.cell 4
  simp at j0 j1 j2 j3 j4 y0 y1 y2 y3 y4
  clear hb12 hj12 hk13
  go_wp2
  refine bodyPost_ret (v := .tuple #[zeroH, .int .i64 8]) (by simp [results, Tryz.results174, go_sem, zeroH, j0, j1, j2, j3, j4]) rfl ⟨?_, ?_⟩
  · rw [hc.out]
    rfl
  · exact ((((HW12.out.setCell (by simp) _).setCell (by simp) _).setCell (by simp) _).setCell (by simp) _).setCell (by simp) _

set_option maxHeartbeats 2000000 in
theorem parseHead_yes (b o : Nat) (sp : Option Nat) (n cap : Nat) (xs : List UInt8) (x : UInt8) (w : World) (hB : ByteSl w Empty (some ⟨b, o, sp⟩) n cap xs) (h11 : 11 ≤ n) (hm : n ≤ 1048576) (h0 : xs[0]? = some x) (hx : x ≠ 255)
    (heq : nS xs = (crc16 (xs.take 9)).toNat) (hmay : mayB (nK xs : Int) (nT xs : Int) (nA xs : Int) (nB xs : Int) (nC xs : Int) = true) :
    Calls Tryz.prog 174 #[.slice (some ⟨b, o, sp⟩) n cap] w fun e w' => HeadOk xs w w' e := by
  have hc : Hid (hdE xs = 0) := Lib.hid (by unfold hdE; rw [if_neg (by rw [h0]; exact hx), if_neg (by have := hB.1; omega), if_neg (by simp [heq]), if_pos hmay])
  obtain ⟨ad', e, hbl, -, hcell⟩ := hB.2.2.2 (by omega)
  cases e
  have k0 : w.cell? ⟨b, o, sp⟩ = some (.int .u8 (x.toNat : Int)) := hcell 0 x h0
  have hbl : b < w.heap.size := hbl
  have hcap := hB.2.1
  have hcap2 : cap ≤ 9223372036854775807 := by have := hB.2.2.1; unfold maxLen at this; omega
  have q0 : ((n : Int) == 0) = false := by simp; omega
  have q1 := u8_dec x 255 255 rfl
  rw [decide_eq_false hx] at q1
  have HB := Lib.hid hB
  have Heq := Lib.hid heq
  have Hmay := Lib.hid hmay
  clear heq hmay
  have hO0 := ((Only.refl Empty w).alloc (.cells #[.int .i64 0, .int .u32 0, .int .i64 0, .int .i64 0, .int .i64 0] 199)).alloc (.cells #[.slice (some ⟨b, o, sp⟩) n cap, .int .i64 0] 254)
  have HR0 := Lib.hid (show Rd ((w.alloc (.cells #[.int .i64 0, .int .u32 0, .int .i64 0, .int .i64 0, .int .i64 0] 199)).alloc (.cells #[.slice (some ⟨b, o, sp⟩) n cap, .int .i64 0] 254)) (w.heap.size + 1) (some ⟨b, o, sp⟩) n cap 0 from (by
    have h := Blk.new (w.alloc (.cells #[.int .i64 0, .int .u32 0, .int .i64 0, .int .i64 0, .int .i64 0] 199)) 254 #[.slice (some ⟨b, o, sp⟩) n cap, .int .i64 0]
    unfold Rd
    simpa using h))
  have HO0 := Lib.hid hO0
  have HB0 := Lib.hid (show ByteSl _ (· = w.heap.size + 1) (some ⟨b, o, sp⟩) n cap xs from (HB.out.only HO0.out (fun _ _ h => h)).mono_of (by show ¬ b = w.heap.size + 1; omega))
  clear hcell hB h0 hx hO0
  go_enter Tryz.func174, Tryz.ntmps174
  go_wp2_with fail
  clear k0
  refine (head_any (w.heap.size + 1) _ n cap xs _ HR0.out HB0.out hm (by omega)).mono ?_
  rintro e1 w1 ⟨rfl, hR1, hO1⟩
  unfold headV
  have HR1 := Lib.hid hR1
  have HO1 := Lib.hid (HO0.out.trans' hO1 (fun q h1 h2 => by omega))
  have HB1 := Lib.hid (HB0.out.only hO1 (fun _ _ h => h))
  have hz1 : w.heap.size + 1 < w1.heap.size := hR1.lt
  have hj1 : Blk w1 w.heap.size 199 #[.int .i64 0, .int .u32 0, .int .i64 0, .int .i64 0, .int .i64 0] := hO1.blk ((Blk.new w 199 #[.int .i64 0, .int .u32 0, .int .i64 0, .int .i64 0, .int .i64 0]).alloc _) (by omega)
  have HJ1 := Lib.hid hj1
  clear hR1 hO1 hj1
  obtain ⟨v1, e1, b1⟩ : ∃ v, v = nK xs ∧ v ≤ 255 := ⟨_, rfl, nK_le xs⟩
  obtain ⟨v2, e2, b2⟩ : ∃ v, v = nT xs ∧ v ≤ 4294967295 := ⟨_, rfl, nT_le xs⟩
  obtain ⟨v3, e3, b3⟩ : ∃ v, v = nA xs ∧ v ≤ 255 := ⟨_, rfl, nA_le xs⟩
  obtain ⟨v4, e4, b4⟩ : ∃ v, v = nB xs ∧ v ≤ 65535 := ⟨_, rfl, nB_le xs⟩
  obtain ⟨v5, e5, b5⟩ : ∃ v, v = nC xs ∧ v ≤ 255 := ⟨_, rfl, nC_le xs⟩
  obtain ⟨v6, e6, b6⟩ : ∃ v, v = nS xs ∧ v ≤ 65535 := ⟨_, rfl, nS_le xs⟩
  obtain ⟨v7, e7, b7⟩ : ∃ v, v = (crc16 (xs.take 9)).toNat ∧ v ≤ 65535 := ⟨_, rfl, by have := (crc16 (xs.take 9)).isLt; omega⟩
  rw [← e1, ← e2, ← e3, ← e4, ← e5]
  have E1 := Lib.hid (And.intro e1 (And.intro e2 (And.intro e3 (And.intro e4 e5))))
  have N6 : Hid (∀ W, Rd W (w.heap.size + 1) (some ⟨b, o, sp⟩) n cap 9 → ByteSl W (· = w.heap.size + 1) (some ⟨b, o, sp⟩) n cap xs → Calls Tryz.prog 175 #[.pointer (some ⟨w.heap.size + 1, 0, none⟩), .int .i64 2] W fun e W' => e = .returned (.int .u64 (v6 : Int)) ∧ Rd W' (w.heap.size + 1) (some ⟨b, o, sp⟩) n cap 11 ∧ Only (· = w.heap.size + 1) W W') := Lib.hid fun W hR hB => by
    rw [e6]; exact number_any (w.heap.size + 1) _ n cap 9 2 xs W hR (hB.mono (fun _ _ h => h.elim)) (by omega) (by omega) hm (by omega)
  have N7 : Hid (∀ W, ByteSl W (· = w.heap.size + 1) (some ⟨b, o, sp⟩) n cap xs → Calls Tryz.prog 169 #[.slice (some ⟨b, o, sp⟩) 9 cap] W fun e W' => e = .returned (.int .u16 (v7 : Int)) ∧ Below W.heap.size W W') := Lib.hid fun W hB => by
    rw [e7]; exact sum16_any _ 9 cap (xs.take 9) W ((hB.mono (fun _ _ h => h.elim)).take_ 9 (by omega))
  have he : v6 = v7 := by rw [e6, e7]; exact Heq.out
  rw [← e1, ← e2, ← e3, ← e4, ← e5] at Hmay
  subst he
  clear e1 e2 e3 e4 e5 e6 e7
  go_wp2_with fail
  have HR2 := Lib.hid (show Rd (w1.alloc (.cells #[.int .i64 (v1 : Int), .int .u32 (v2 : Int), .int .i64 (v3 : Int), .int .i64 (v4 : Int), .int .i64 (v5 : Int)] 199)).drew (w.heap.size + 1) (some ⟨b, o, sp⟩) n cap 9 from (HR1.out.alloc _).drew)
  have HO2 := Lib.hid (HO1.out.trans (((Only.refl Empty w1).alloc (.cells #[.int .i64 (v1 : Int), .int .u32 (v2 : Int), .int .i64 (v3 : Int), .int .i64 (v4 : Int), .int .i64 (v5 : Int)] 199)).drew))
  have HB2 := Lib.hid (show ByteSl (w1.alloc (.cells #[.int .i64 (v1 : Int), .int .u32 (v2 : Int), .int .i64 (v3 : Int), .int .i64 (v4 : Int), .int .i64 (v5 : Int)] 199)).drew (· = w.heap.size + 1) _ n cap xs from HB1.out.only (((Only.refl Empty w1).alloc (.cells #[.int .i64 (v1 : Int), .int .u32 (v2 : Int), .int .i64 (v3 : Int), .int .i64 (v4 : Int), .int .i64 (v5 : Int)] 199)).drew) (fun _ _ h => h.elim))
  have HJ2 := Lib.hid ((HJ1.out.alloc (.cells #[.int .i64 (v1 : Int), .int .u32 (v2 : Int), .int .i64 (v3 : Int), .int .i64 (v4 : Int), .int .i64 (v5 : Int)] 199)).drew)
  have HK2 := Lib.hid ((Blk.new w1 199 #[.int .i64 (v1 : Int), .int .u32 (v2 : Int), .int .i64 (v3 : Int), .int .i64 (v4 : Int), .int .i64 (v5 : Int)]).drew)
  have q9 : (9 : Int) ≤ (cap : Int) := by omega
  have q8 : (9 : Int) ≤ (n : Int) := by omega
  have hwv : IntKind.u16.wrap (v6 : Int) = (v6 : Int) := by rw [IntKind.wrap_u16]; omega
  have hT : True := trivial
  go_region_held3 (fun _ => True) (exact hT)
    (first | ((go_at_call 175; (with_reducible refine (N6.out _ HR2.out HB2.out).mono ?_); rintro e10 w10 ⟨rfl, hR10, hO10⟩; have HB10 := Lib.hid (HB2.out.only hO10 (fun _ _ h => h)))) | ((go_at_call 169; (with_reducible refine (N7.out _ HB10.out).mono ?_); rintro e11 w11 ⟨rfl, hb11⟩)))
  have hz2 : w.heap.size + 1 < w10.heap.size := hR10.lt
  have hw11 := HO2.out.trans' (hO10.trans (Only.of_below hb11)) (fun q h1 h2 => by omega)
  have hj11 := (hO10.blk HJ2.out (by omega)).of (hb11.block w.heap.size (by omega))
  have hk10 := hO10.blk HK2.out (by omega)
  have hk11 := hk10.of (hb11.block w1.heap.size hk10.lt)
  have HW11 := Lib.hid (show Below w.heap.size w w11 from hw11.below (Nat.le_refl _) (fun _ _ h => h))
  have j0 := hj11.cell 0
  have j1 := hj11.cell 1
  have j2 := hj11.cell 2
  have j3 := hj11.cell 3
  have j4 := hj11.cell 4
  have g0 := hj11.frozen 0
  have g1 := hj11.frozen 1
  have g2 := hj11.frozen 2
  have g3 := hj11.frozen 3
  have g4 := hj11.frozen 4
  have y0 := hk11.cell 0
  have y1 := hk11.cell 1
  have y2 := hk11.cell 2
  have y3 := hk11.cell 3
  have y4 := hk11.cell 4
  simp at j0 j1 j2 j3 j4 y0 y1 y2 y3 y4
  have HJ11 := Lib.hid hj11
  have hk12 := hk11
  clear hR10 hO10 hb11 hw11 hk10 hk11 hj11
  clear j0 j1 j2 j3 j4 g0 g1 g2 g3 g4
  have HK11 := Lib.hid hk12
  clear hk12
  go_wp2_with fail
  refine (mayBe_any (v1 : Int) (v2 : Int) (v3 : Int) (v4 : Int) (v5 : Int) _).mono ?_
  rw [Hmay.out]
  rintro e12 w12 ⟨rfl, hb12⟩
  have hj12 := HJ11.out.of (hb12.block w.heap.size HJ11.out.lt)
  have hk13 := HK11.out.of (hb12.block w1.heap.size HK11.out.lt)
  have HW12 := Lib.hid (HW11.out.trans (hb12.mono HW11.out.size))
  clear y0 y1 y2 y3 y4
  have j0 := hj12.cell 0
  have j1 := hj12.cell 1
  have j2 := hj12.cell 2
  have j3 := hj12.cell 3
  have j4 := hj12.cell 4
  have g0 := hj12.frozen 0
  have g1 := hj12.frozen 1
  have g2 := hj12.frozen 2
  have g3 := hj12.frozen 3
  have g4 := hj12.frozen 4
  have y0 := hk13.cell 0
  have y1 := hk13.cell 1
  have y2 := hk13.cell 2
  have y3 := hk13.cell 3
  have y4 := hk13.cell 4
  simp at j0 j1 j2 j3 j4 y0 y1 y2 y3 y4
  clear hb12 hj12 hk13
  go_wp2
  refine bodyPost_ret (v := .tuple #[.agg #[.int .i64 (v1 : Int), .int .u32 (v2 : Int), .int .i64 (v3 : Int), .int .i64 (v4 : Int), .int .i64 (v5 : Int)], .int .i64 0]) (by simp [results, Tryz.results174, go_sem, zeroH, j0, j1, j2, j3, j4]) rfl ⟨?_, ?_⟩
  · rw [hc.out]
    rw [if_pos rfl, headV, ← E1.out.1, ← E1.out.2.1, ← E1.out.2.2.1, ← E1.out.2.2.2.1, ← E1.out.2.2.2.2]
  · exact ((((HW12.out.setCell (by simp) _).setCell (by simp) _).setCell (by simp) _).setCell (by simp) _).setCell (by simp) _

/-- parseHead as one answer. -/
theorem parseHead_any (A : Option Addr) (n cap : Nat) (xs : List UInt8) (w : World) (hB : ByteSl w Empty A n cap xs) (hm : n ≤ 1048576) :
    Calls Tryz.prog 174 #[.slice A n cap] w fun e w' => HeadOk xs w w' e := by
  rcases Nat.eq_zero_or_pos n with hn | hn
  · subst hn
    obtain rfl : xs = [] := List.eq_nil_of_length_eq_zero hB.1
    exact parseHead_none A cap w
  · obtain ⟨⟨b, o, sp⟩, rfl, -, -, -⟩ := hB.2.2.2 hn
    obtain ⟨x, hx0⟩ : ∃ x, xs[0]? = some x := ⟨_, List.getElem?_eq_getElem (by have := hB.1; omega)⟩
    by_cases hx : x = 255
    · subst hx
      exact parseHead_blank _ n cap xs w hB hn hx0
    · by_cases h11 : n < 11
      · exact parseHead_short _ n cap xs x w hB hn h11 hx0 hx
      · by_cases hs : nS xs = (crc16 (xs.take 9)).toNat
        · cases hmay : mayB (nK xs : Int) (nT xs : Int) (nA xs : Int) (nB xs : Int) (nC xs : Int) with
          | true => exact parseHead_yes b o sp n cap xs x w hB (by omega) hm hx0 hx hs hmay
          | false => exact parseHead_form b o sp n cap xs x w hB (by omega) hm hx0 hx hs hmay
        · exact parseHead_sum b o sp n cap xs x w hB (by omega) hm hx0 hx hs

end Go.Proofs.YtnhfmcijadficaaGreatDoor

/- What Parse answers of any bytes, as plain data; the walks over rec.Parse where a header is refused or the bytes end too early. -/
namespace Go.Proofs.YtnhfmcijadficaaGreatDoor
set_option maxRecDepth 100000
open Go.RowKit

/-- How many bytes the record has that a header tells. -/
def szOf (xs : List UInt8) : Nat := nA xs + nB xs + 16
/-- Parse's error. -/
def pE (xs : List UInt8) : Int := if hdE xs = 0 then (if xs.length < szOf xs then 6 else 0) else hdE xs
/-- Has the record its sum of 32 bits? -/
def sumOk (xs : List UInt8) : Bool := decide (getV ((xs.drop (nA xs + nB xs + 11)).take 4) = (crc32 (xs.take (nA xs + nB xs + 11))).toNat)
/-- All that Parse answers. -/
structure Out where
  k : Nat
  t : Nat
  key : List UInt8
  blob : List UInt8
  c : Nat
  size : Nat
  whole : Bool
  e : Int
def out (xs : List UInt8) : Out :=
  if pE xs = 0 then (if sumOk xs = true then ⟨nK xs, nT xs, (xs.drop 11).take (nA xs), (xs.drop (11 + nA xs)).take (nB xs), nC xs, szOf xs, decide (xs[nA xs + nB xs + 15]?.getD 1 = 0), 0⟩ else ⟨0, 0, [], [], 0, szOf xs, false, 0⟩)
  else ⟨0, 0, [], [], 0, 0, false, pE xs⟩
/-- Parse's answer: its record's blob is a row made since base. -/
def RecOk (xs : List UInt8) (w w' : World) (e : Ending) : Prop :=
  (∃ A n cap, e = .returned (.tuple #[.agg #[.int .i64 ((out xs).k : Int), .int .u32 ((out xs).t : Int), .string (strB (out xs).key), .slice A n cap, .int .i64 ((out xs).c : Int)], .int .i64 ((out xs).size : Int), .bool (out xs).whole, .int .i64 (out xs).e]) ∧
    Got w.heap.size w' A n cap (out xs).blob) ∧ Below w.heap.size w w'

/-- The empty record, with a size and an error. -/
def zeroA (s e : Int) : Ending := .returned (.tuple #[.agg #[.int .i64 0, .int .u32 0, .string ⟨#[]⟩, .slice none 0 0, .int .i64 0], .int .i64 s, .bool false, .int .i64 e])
theorem zero_ok {xs : List UInt8} {w w' : World} {s : Nat} {e : Int} (h : out xs = ⟨0, 0, [], [], 0, s, false, e⟩) (hb : Below w.heap.size w w') : RecOk xs w w' (zeroA (s : Int) e) := by
  refine ⟨⟨none, 0, 0, ?_, ?_⟩, hb⟩
  · rw [h]
    rfl
  · rw [h]
    exact Got.nil_ _ _

theorem head_facts {xs : List UInt8} (h : hdE xs = 0) : 11 ≤ xs.length ∧ hdE xs = 0 ∧ nS xs = (crc16 (xs.take 9)).toNat ∧ mayB (nK xs : Int) (nT xs : Int) (nA xs : Int) (nB xs : Int) (nC xs : Int) = true := by
  have h9 := h
  unfold hdE at h
  by_cases h1 : xs[0]?.getD 255 = 255
  · rw [if_pos h1] at h
    cases h
  · rw [if_neg h1] at h
    by_cases h2 : xs.length < 11
    · rw [if_pos h2] at h
      cases h
    · rw [if_neg h2] at h
      by_cases h3 : nS xs = (crc16 (xs.take 9)).toNat
      · rw [if_neg (by simp [h3])] at h
        cases h4 : mayB (nK xs : Int) (nT xs : Int) (nA xs : Int) (nB xs : Int) (nC xs : Int) with
        | true => exact ⟨by omega, h9, h3, rfl⟩
        | false =>
          rw [h4] at h
          simp at h
      · rw [if_pos h3] at h
        cases h

set_option maxHeartbeats 2000000 in
theorem rcParse_no (A : Option Addr) (n cap : Nat) (xs : List UInt8) (w : World) (hB : ByteSl w Empty A n cap xs) (hm : n ≤ 1048576) (h : hdE xs ≠ 0) :
    Calls Tryz.prog 142 #[.slice A n cap] w fun e w' => RecOk xs w w' e := by
  obtain ⟨er, her⟩ : ∃ er, er = hdE xs := ⟨_, rfl⟩
  have hne : (er == 0) = false := by rw [her]; simpa using h
  have hne2 : (er != 0) = true := by simp only [bne, hne]; rfl
  have HC : Hid (∀ w', Below w.heap.size w w' → RecOk xs w w' (zeroA 0 er)) := Lib.hid (fun w' hb => by
    have ho : out xs = ⟨0, 0, [], [], 0, 0, false, er⟩ := by
      unfold out pE
      rw [if_neg h, if_neg h, her]
    exact zero_ok (s := 0) ho hb)
  have hO0 := (Only.refl Empty w).alloc (.cells #[.int .i64 0, .int .u32 0, .string ⟨#[]⟩, .slice none 0 0, .int .i64 0] 161)
  have N1 : Hid (Calls Tryz.prog 174 #[.slice A n cap] (w.alloc (.cells #[.int .i64 0, .int .u32 0, .string ⟨#[]⟩, .slice none 0 0, .int .i64 0] 161)) fun e w' => e = .returned (.tuple #[zeroH, .int .i64 er]) ∧ Below (w.heap.size + 1) (w.alloc (.cells #[.int .i64 0, .int .u32 0, .string ⟨#[]⟩, .slice none 0 0, .int .i64 0] 161)) w') := Lib.hid
    ((parseHead_any A n cap xs _ (hB.only hO0 (fun _ _ h => h)) hm).mono fun e w' ⟨he, hb⟩ => by
      rw [if_neg h, ← her] at he
      exact ⟨he, hb.mono (by simp)⟩)
  unfold zeroH at N1
  clear h her hB hO0
  go_enter Tryz.func142, Tryz.ntmps142
  go_wp2_with fail
  refine N1.out.mono ?_
  rintro e1 w1 ⟨rfl, hb1⟩
  have hj1 := (Blk.new w 161 #[.int .i64 0, .int .u32 0, .string ⟨#[]⟩, .slice none 0 0, .int .i64 0]).of (hb1.block w.heap.size (by omega))
  have HW1 := Lib.hid (((Below.refl w.heap.size w).alloc (Nat.le_refl _) (.cells #[.int .i64 0, .int .u32 0, .string ⟨#[]⟩, .slice none 0 0, .int .i64 0] 161)).trans (hb1.mono (by omega)))
  have hz := hj1.lt
  have j0 := hj1.cell 0
  have j1 := hj1.cell 1
  have j2 := hj1.cell 2
  have j3 := hj1.cell 3
  have j4 := hj1.cell 4
  have g0 := hj1.frozen 0
  have g1 := hj1.frozen 1
  have g2 := hj1.frozen 2
  have g3 := hj1.frozen 3
  have g4 := hj1.frozen 4
  simp at j0 j1 j2 j3 j4
  clear hb1 hj1
  go_wp2
  refine bodyPost_ret (v := .tuple #[.agg #[.int .i64 0, .int .u32 0, .string ⟨#[]⟩, .slice none 0 0, .int .i64 0], .int .i64 0, .bool false, .int .i64 er]) (by simp [results, Tryz.results142, go_sem, j0, j1, j2, j3, j4, hz]) rfl (HC.out _ ?_)
  exact ((((((HW1.out.setCell (by simp) _).setCell (by simp) _).setCell (by simp) _).setCell (by simp) _).setCell (by simp) _).alloc (by simpa using HW1.out.size) _)

set_option maxHeartbeats 2000000 in
theorem rcParse_short (A : Option Addr) (n cap : Nat) (xs : List UInt8) (w : World) (hBy : ByteSl w Empty A n cap xs) (hm : n ≤ 1048576) (h : hdE xs = 0) (hs : xs.length < szOf xs) :
    Calls Tryz.prog 142 #[.slice A n cap] w fun e w' => RecOk xs w w' e := by
  have HC : Hid (∀ w', Below w.heap.size w w' → RecOk xs w w' (zeroA 0 6)) := Lib.hid (fun w' hb => by
    have hp : pE xs = 6 := by unfold pE; rw [if_pos h, if_pos hs]
    have ho : out xs = ⟨0, 0, [], [], 0, 0, false, 6⟩ := by
      unfold out
      rw [hp]
      rfl
    exact zero_ok (s := 0) ho hb)
  have hO0 := (Only.refl Empty w).alloc (.cells #[.int .i64 0, .int .u32 0, .string ⟨#[]⟩, .slice none 0 0, .int .i64 0] 161)
  obtain ⟨v1, e1⟩ : ∃ v, v = nK xs := ⟨_, rfl⟩
  obtain ⟨v2, e2⟩ : ∃ v, v = nT xs := ⟨_, rfl⟩
  obtain ⟨v3, e3, b3⟩ : ∃ v, v = nA xs ∧ v ≤ 255 := ⟨_, rfl, nA_le xs⟩
  obtain ⟨v4, e4, b4⟩ : ∃ v, v = nB xs ∧ v ≤ 65535 := ⟨_, rfl, nB_le xs⟩
  obtain ⟨v5, e5⟩ : ∃ v, v = nC xs := ⟨_, rfl⟩
  have hlt : n < v3 + v4 + 16 := by
    unfold szOf at hs
    rw [hBy.1, ← e3, ← e4] at hs
    exact hs
  have N1 : Hid (Calls Tryz.prog 174 #[.slice A n cap] (w.alloc (.cells #[.int .i64 0, .int .u32 0, .string ⟨#[]⟩, .slice none 0 0, .int .i64 0] 161)) fun e w' => e = .returned (.tuple #[.agg #[.int .i64 (v1 : Int), .int .u32 (v2 : Int), .int .i64 (v3 : Int), .int .i64 (v4 : Int), .int .i64 (v5 : Int)], .int .i64 0]) ∧ Below (w.heap.size + 1) (w.alloc (.cells #[.int .i64 0, .int .u32 0, .string ⟨#[]⟩, .slice none 0 0, .int .i64 0] 161)) w') := Lib.hid
    ((parseHead_any A n cap xs _ (hBy.only hO0 (fun _ _ h => h)) hm).mono fun e w' ⟨he, hb⟩ => by
      rw [if_pos h, h, headV, ← e1, ← e2, ← e3, ← e4, ← e5] at he
      exact ⟨he, hb.mono (by simp)⟩)
  clear h hs hBy hO0 e1 e2 e3 e4 e5
  go_enter Tryz.func142, Tryz.ntmps142
  go_wp2_with fail
  refine N1.out.mono ?_
  rintro e1 w1 ⟨rfl, hb1⟩
  have HJ1 := Lib.hid ((Blk.new w 161 #[.int .i64 0, .int .u32 0, .string ⟨#[]⟩, .slice none 0 0, .int .i64 0]).of (hb1.block w.heap.size (by omega)))
  have HW1 := Lib.hid (((Below.refl w.heap.size w).alloc (Nat.le_refl _) (.cells #[.int .i64 0, .int .u32 0, .string ⟨#[]⟩, .slice none 0 0, .int .i64 0] 161)).trans (hb1.mono (by omega)))
  clear hb1
  go_wp2_with fail
  refine (hSize_any (v1 : Int) (v2 : Int) (v5 : Int) v3 v4 _ (by omega) (by omega)).mono ?_
  rintro e1 w2 ⟨rfl, hb2⟩
  have hj1 := (HJ1.out.alloc (.cells #[.int .i64 (v1 : Int), .int .u32 (v2 : Int), .int .i64 (v3 : Int), .int .i64 (v4 : Int), .int .i64 (v5 : Int)] 199)).of (hb2.block w.heap.size (by have := HJ1.out.lt; simp; omega))
  have HW2 := Lib.hid ((HW1.out.alloc HW1.out.size (.cells #[.int .i64 (v1 : Int), .int .u32 (v2 : Int), .int .i64 (v3 : Int), .int .i64 (v4 : Int), .int .i64 (v5 : Int)] 199)).trans (hb2.mono (by have := HW1.out.size; simp; omega)))
  have hz := hj1.lt
  have j0 := hj1.cell 0
  have j1 := hj1.cell 1
  have j2 := hj1.cell 2
  have j3 := hj1.cell 3
  have j4 := hj1.cell 4
  have g0 := hj1.frozen 0
  have g1 := hj1.frozen 1
  have g2 := hj1.frozen 2
  have g3 := hj1.frozen 3
  have g4 := hj1.frozen 4
  simp at j0 j1 j2 j3 j4
  clear hb2 hj1
  obtain ⟨sz, hsz⟩ : ∃ sz, sz = v3 + v4 + 16 := ⟨_, rfl⟩
  rw [← hsz] at hlt ⊢
  have hd : decide ((n : Int) < (sz : Int)) = true := by simp; omega
  have Hsz := Lib.hid hsz
  clear hsz
  go_wp2
  refine bodyPost_ret (v := .tuple #[.agg #[.int .i64 0, .int .u32 0, .string ⟨#[]⟩, .slice none 0 0, .int .i64 0], .int .i64 0, .bool false, .int .i64 6]) (by simp [results, Tryz.results142, go_sem, j0, j1, j2, j3, j4, hz]) rfl (HC.out _ ?_)
  exact ((((HW2.out.setCell (by simp) _).setCell (by simp) _).setCell (by simp) _).setCell (by simp) _).setCell (by simp) _

end Go.Proofs.YtnhfmcijadficaaGreatDoor

/- Found records as plain data, and as they lie in memory: rows of them that a call has made, rows of them that are read. -/
namespace Go.Proofs.YtnhfmcijadficaaGreatDoor
set_option maxRecDepth 100000
open Go.RowKit

/-- A found record as plain data. -/
structure FD where
  pl : Int
  k : Int
  t : Nat
  key : List UInt8
  blob : List UInt8
  c : Int

/-- A found record as it lies in memory, and what its blob reads as. -/
structure Fd where
  pl : Int
  k : Int
  t : Nat
  s : ByteArray
  A : Option Addr
  n : Nat
  cap : Nat
  c : Int
  blob : List UInt8

def Fd.d (f : Fd) : FD := ⟨f.pl, f.k, f.t, f.s.data.toList, f.blob, f.c⟩
def Fd.cells (f : Fd) : List Value := [.int .i64 f.pl, .int .i64 f.k, .int .u32 (f.t : Int), .string f.s, .slice f.A f.n f.cap, .int .i64 f.c]

theorem cells_at : ∀ (l : List Fd) (i j : Nat) (f : Fd), l[i]? = some f → j < 6 → (l.flatMap Fd.cells)[i * 6 + j]? = f.cells[j]?
  | [], i, j, f, h, _ => by simp at h
  | g :: l, 0, j, f, h, hj => by
    simp only [List.getElem?_cons_zero, Option.some.injEq] at h
    subst h
    rw [List.flatMap_cons, List.getElem?_append_left (by show 0 * 6 + j < 6; omega), Nat.zero_mul, Nat.zero_add]
  | g :: l, i + 1, j, f, h, hj => by
    have h6 : g.cells.length = 6 := rfl
    rw [List.flatMap_cons, List.getElem?_append_right (by rw [h6]; omega), h6, show (i + 1) * 6 + j - 6 = i * 6 + j by omega]
    exact cells_at l i j f (by simpa using h) hj

theorem cells_len : ∀ l : List Fd, (l.flatMap Fd.cells).length = l.length * 6
  | [] => rfl
  | g :: l => by
    have h6 : g.cells.length = 6 := rfl
    rw [List.flatMap_cons, List.length_append, cells_len l, List.length_cons, h6]
    omega

/-- Each record's blob reads as its bytes, in a block that isn't in S. -/
def Blobs (w : World) (S : Nat → Prop) (l : List Fd) : Prop := ∀ f ∈ l, ByteSl w S f.A f.n f.cap f.blob ∧ (f.A = none → f.n = 0 ∧ f.cap = 0)

section
variable {w w' : World} {S T : Nat → Prop} {l : List Fd}
theorem Blobs.nil_ (w : World) (S : Nat → Prop) : Blobs w S [] := fun f h => by cases h
theorem Blobs.only (h : Blobs w S l) (k : Only T w w') (hT : ∀ i, i < w.heap.size → T i → S i) : Blobs w' S l := fun f hf => ⟨(h f hf).1.only k hT, (h f hf).2⟩
theorem Blobs.mono (h : Blobs w S l) (hT : ∀ i, i < w.heap.size → T i → S i) : Blobs w T l := fun f hf => ⟨(h f hf).1.mono hT, (h f hf).2⟩
theorem Blobs.snoc (h : Blobs w S l) {f : Fd} (hf : ByteSl w S f.A f.n f.cap f.blob) (hn : f.A = none → f.n = 0 ∧ f.cap = 0) : Blobs w S (l ++ [f]) := fun g hg => by
  rcases List.mem_append.1 hg with hg | hg
  · exact h g hg
  · rw [List.mem_singleton] at hg
    subst hg
    exact ⟨hf, hn⟩
end

/-- The slice value reads as these found records; it and their blobs lie in blocks that aren't in S. -/
def Founds (w : World) (S : Nat → Prop) (A : Option Addr) (n cap : Nat) (l : List Fd) : Prop :=
  l.length = n ∧ n ≤ cap ∧ cap ≤ maxLen ∧ (0 < n → ∃ b o, A = some ⟨b, o, none⟩ ∧ b < w.heap.size ∧ ¬ S b ∧ ∀ i f, l[i]? = some f → ∀ j, j < 6 → w.cell? ⟨b, o + i * 6 + j, none⟩ = f.cells[j]?) ∧ Blobs w S l

section
variable {w w' : World} {S T : Nat → Prop} {A : Option Addr} {n cap : Nat} {l : List Fd}
theorem Founds.only (h : Founds w S A n cap l) (k : Only T w w') (hT : ∀ i, i < w.heap.size → T i → S i) : Founds w' S A n cap l :=
  ⟨h.1, h.2.1, h.2.2.1, fun hn => by
    obtain ⟨b, o, e, hb, hs, hc⟩ := h.2.2.2.1 hn
    exact ⟨b, o, e, Nat.lt_of_lt_of_le hb k.size, hs, fun i f hf j hj => (k.cell (p := ⟨b, o + i * 6 + j, none⟩) hb (fun ht => hs (hT _ hb ht))).trans (hc i f hf j hj)⟩, h.2.2.2.2.only k hT⟩
theorem Founds.mono (h : Founds w S A n cap l) (hT : ∀ i, i < w.heap.size → T i → S i) : Founds w T A n cap l :=
  ⟨h.1, h.2.1, h.2.2.1, fun hn => by
    obtain ⟨b, o, e, hb, hs, hc⟩ := h.2.2.2.1 hn
    exact ⟨b, o, e, hb, fun ht => hs (hT _ hb ht), hc⟩, h.2.2.2.2.mono hT⟩

/-- What a call has made so far reads as what it laid. -/
theorem Founds.of_own {base : Nat} {v : Value} (h : w.ownsRow base 190 6 v l.length (l.flatMap Fd.cells)) (hb : Blobs w S l) (hS : ∀ k, base ≤ k → k < w.heap.size → v.ownBlock = some k → ¬ S k) :
    ∃ A cap, v = .slice A l.length cap ∧ Founds w S A l.length cap l := by
  rcases h.2 with ⟨rfl, h0⟩ | ⟨g, cap, cur, rfl, hg, hh, hnc, hm, hs, ht⟩
  · exact ⟨none, 0, by rw [h0], rfl, by omega, by simp [maxLen], fun hn => absurd hn (by omega), hb⟩
  · have hlt : g < w.heap.size := (Array.getElem?_eq_some_iff.1 hh).1
    refine ⟨_, cap, rfl, rfl, hnc, hm, fun _ => ⟨g, 0, rfl, hlt, hS g hg hlt rfl, fun i f hf j hj => ?_⟩, hb⟩
    have h6 : f.cells.length = 6 := rfl
    have hc := h.cells (g := g) rfl (i * 6 + j) (f.cells[j]'(by omega)) (by rw [cells_at l i j f hf hj]; exact List.getElem?_eq_getElem (by omega))
    have ha : (⟨g, 0, none⟩ : Addr).add (i * 6 + j) = ⟨g, 0 + i * 6 + j, none⟩ := by unfold Addr.add; split <;> simp_all
    rw [ha] at hc
    rw [hc]
    exact (List.getElem?_eq_getElem (by omega)).symm
end

theorem Tryz.infoFound : (Tryz.prog.info? 190).map (fun i => (i.zero, i.size, i.bytes)) = some (some (.agg #[.int .i64 0, .int .i64 0, .int .u32 0, .string ⟨#[]⟩, .slice none 0 0, .int .i64 0]), 6, 72) := by kernel_rfl

/-- append of one found record, which lies in a block of its own, onto a row of the call's own. -/
theorem wpList_append_found {ops : Array Oper} {rest : List Oper} {o : Oper} {a : Act} {w : World} {Q : Exit → Act → World → Prop} (hgd : o.guard = none) (s x : Operand)
    (hq : o.op = .call { callee := .builtin .append, args := #[s, x], argTypes := #[185, 185] })
    (base : Nat) (v : Value) (hs : a.eval s = v) (l : List Fd) (hown : w.ownsRow base 190 6 v l.length (l.flatMap Fd.cells)) (f : Fd) (g : Nat)
    (hx : a.eval x = .slice (some ⟨g, 0, none⟩) 1 1) (hg : Blk w g 190 f.cells.toArray) (hm : l.length + 1 ≤ 1048576) (hbase : base ≤ w.heap.size)
    (h : ∀ v' w', w'.ownsRow base 190 6 v' (l ++ [f]).length ((l ++ [f]).flatMap Fd.cells) → w.grownBy w' v.ownBlock → (v'.ownBlock = v.ownBlock ∨ v'.ownBlock = some w.heap.size) → wpList Tryz.prog ops Q rest (a.put o.dst v') w') : wpList Tryz.prog ops Q (o :: rest) a w := by
  obtain ⟨i0, hi, hz0, hz1, hz2⟩ := info_parts Tryz.infoFound
  refine wpList_append_own_at _ hgd s x 185 hq base 190 i0 _ 6 72 Tryz.underlying185 hi hz0 hz1 hz2 (by simp [Value.cells]) (by decide) v l.length (l.flatMap Fd.cells) hs hown ⟨g, 0, none⟩ 1 1 f.cells hx rfl ?_ ?_ (by unfold maxLen; omega) (by omega) hbase ?_
  · intro j y hj
    have ha : (⟨g, 0, none⟩ : Addr).add j = ⟨g, j, none⟩ := by unfold Addr.add; split <;> simp_all
    rw [ha, hg.cell]
    simpa using hj
  · intro y hy
    simp only [Fd.cells, List.mem_cons, List.not_mem_nil, or_false] at hy
    rcases hy with rfl | rfl | rfl | rfl | rfl | rfl <;> rfl
  · intro v' w' h1 h2 _ h4
    refine h v' w' ?_ h2 h4
    rw [List.length_append, List.flatMap_append]
    simpa using h1

/-- What was read of old records stays, and the new one is read, behind such an append. -/
theorem Blobs.append {w w' : World} {v v' : Value} {l : List Fd} {f : Fd} (h : Blobs w (fun q => v.ownBlock = some q) l) (hf : ByteSl w (fun q => v.ownBlock = some q) f.A f.n f.cap f.blob) (hn : f.A = none → f.n = 0 ∧ f.cap = 0)
    (hg : w.grownBy w' v.ownBlock) (hv : v'.ownBlock = v.ownBlock ∨ v'.ownBlock = some w.heap.size) : Blobs w' (fun q => v'.ownBlock = some q) (l ++ [f]) := by
  have h1 := h.snoc hf hn
  have h2 : Blobs w (fun q => v.ownBlock = some q ∨ v'.ownBlock = some q) (l ++ [f]) := h1.mono (fun i hi hT => by
    rcases hT with hT | hT
    · exact hT
    · rcases hv with e | e
      · rw [← e]; exact hT
      · rw [e] at hT
        cases hT
        omega)
  exact (h2.only (Only.of_grown (S := fun q => v.ownBlock = some q) hg (fun q e _ => e)) (fun i _ h => Or.inl h)).mono (fun i _ h => Or.inr h)

end Go.Proofs.YtnhfmcijadficaaGreatDoor
