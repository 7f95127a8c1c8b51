/- What a record's bytes tell, as plain functions; the walks over rec.parseHead. -/
import Derived.Test.YtidcgobnhfganaaHf
namespace Go.Proofs.Ytidcgobnhfganaa
open Go.RowKit

/-- A header's error, of any bytes. -/
def hdE (xs : List UInt8) : Int :=
  if xs[0]?.getD 255 = 255 then 11 else if xs.length < 11 then 6 else if nS xs ≠ (crc16 (xs.take 9)).toNat then 7 else if mayB (nK xs) (nT xs) (nA xs) (nB xs) (nC xs) = true then 0 else 8
/-- A header of zeros. -/
def zeroH : Value := .agg #[.int .i64 0, .int .u32 0, .int .i64 0, .int .i64 0, .int .i64 0]
def HeadOk (xs : List UInt8) (w w' : World) (e : Ending) : Prop := e = .returned (.tuple #[if hdE xs = 0 then headV xs else zeroH, .int .i64 (hdE xs)]) ∧ Below w.heap.size w w'

theorem u8_dec (x : UInt8) (y : UInt8) (z : Int) (h : (y.toNat : Int) = z) : ((x.toNat : Int) == z) = decide (x = y) := by
  rw [← h]
  by_cases hx : x = y
  · subst hx
    simp
  · rw [decide_eq_false hx, beq_eq_false_iff_ne]
    intro e
    apply hx
    apply UInt8.toNat_inj.1
    omega

theorem parseHead_none (A : Option Addr) (cap : Nat) (w : World) : Calls Try.prog 22 #[.slice A 0 cap] w fun e w' => HeadOk [] w w' e := by
  have hc : Hid (hdE [] = 11) := Lib.hid (by unfold hdE; rw [if_pos (by rfl)])
  go_enter Try.func22, Try.ntmps22
  go_wp2
  refine bodyPost_ret (v := .tuple #[zeroH, .int .i64 11]) (by simp [results, Try.results22, go_sem, zeroH]) rfl ⟨?_, (Below.refl _ _).alloc (Nat.le_refl _) _⟩
  rw [hc.out]
  rfl

set_option maxHeartbeats 1000000 in
theorem parseHead_blank (ad : Addr) (n cap : Nat) (xs : List UInt8) (w : World) (hB : ByteSl w Empty (some ad) n cap xs) (hn : 0 < n) (h0 : xs[0]? = some 255) :
    Calls Try.prog 22 #[.slice (some ad) n cap] w fun e w' => HeadOk xs w w' e := by
  have hc : Hid (hdE xs = 11) := Lib.hid (by unfold hdE; rw [if_pos (by rw [h0]; rfl)])
  obtain ⟨ad', e, hbl, -, hcell⟩ := hB.2.2.2 hn
  cases e
  obtain ⟨b, o, sp⟩ := ad
  have k0 : w.cell? ⟨b, o, sp⟩ = some (.int .u8 255) := hcell 0 255 h0
  have hbl : b < w.heap.size := hbl
  have q0 : ((n : Int) == 0) = false := by simp; omega
  clear hcell hB h0
  go_enter Try.func22, Try.ntmps22
  go_wp2
  refine bodyPost_ret (v := .tuple #[zeroH, .int .i64 11]) (by simp [results, Try.results22, go_sem, zeroH]) rfl ⟨?_, (Below.refl _ _).alloc (Nat.le_refl _) _⟩
  rw [hc.out]
  rfl

set_option maxHeartbeats 1000000 in
theorem parseHead_short (ad : Addr) (n cap : Nat) (xs : List UInt8) (x : UInt8) (w : World) (hB : ByteSl w Empty (some ad) n cap xs) (hn : 0 < n) (h11 : n < 11) (h0 : xs[0]? = some x) (hx : x ≠ 255) :
    Calls Try.prog 22 #[.slice (some ad) n cap] w fun e w' => HeadOk xs w w' e := by
  have hc : Hid (hdE xs = 6) := Lib.hid (by unfold hdE; rw [if_neg (by rw [h0]; exact hx), if_pos (by have := hB.1; omega)])
  obtain ⟨ad', e, hbl, -, hcell⟩ := hB.2.2.2 hn
  cases e
  obtain ⟨b, o, sp⟩ := ad
  have k0 : w.cell? ⟨b, o, sp⟩ = some (.int .u8 (x.toNat : Int)) := hcell 0 x h0
  have hbl : b < w.heap.size := hbl
  have q0 : ((n : Int) == 0) = false := by simp; omega
  have q1 := u8_dec x 255 255 rfl
  rw [decide_eq_false hx] at q1
  clear hcell hB h0 hx
  go_enter Try.func22, Try.ntmps22
  go_wp2
  refine bodyPost_ret (v := .tuple #[zeroH, .int .i64 6]) (by simp [results, Try.results22, go_sem, zeroH]) rfl ⟨?_, (Below.refl _ _).alloc (Nat.le_refl _) _⟩
  rw [hc.out]
  rfl

theorem ByteSl.mono_of {w : World} {S T : Nat → Prop} {b o : Nat} {sp : Option Nat} {n cap : Nat} {xs : List UInt8} (h : ByteSl w S (some ⟨b, o, sp⟩) n cap xs) (hT : ¬ T b) : ByteSl w T (some ⟨b, o, sp⟩) n cap xs :=
  ⟨h.1, h.2.1, h.2.2.1, fun hn => by
    obtain ⟨ad, e, hb, hs, hc⟩ := h.2.2.2 hn
    cases e
    exact ⟨_, rfl, hb, hT, hc⟩⟩

set_option maxHeartbeats 2000000 in
theorem parseHead_sum (b o : Nat) (sp : Option Nat) (n cap : Nat) (xs : List UInt8) (x : UInt8) (w : World) (hB : ByteSl w Empty (some ⟨b, o, sp⟩) n cap xs) (h11 : 11 ≤ n) (hm : n ≤ 1048576) (h0 : xs[0]? = some x) (hx : x ≠ 255)
    (hne : nS xs ≠ (crc16 (xs.take 9)).toNat) :
    Calls Try.prog 22 #[.slice (some ⟨b, o, sp⟩) n cap] w fun e w' => HeadOk xs w w' e := by
  have hc : Hid (hdE xs = 7) := Lib.hid (by unfold hdE; rw [if_neg (by rw [h0]; exact hx), if_neg (by have := hB.1; omega), if_pos hne])
  obtain ⟨ad', e, hbl, -, hcell⟩ := hB.2.2.2 (by omega)
  cases e
  have k0 : w.cell? ⟨b, o, sp⟩ = some (.int .u8 (x.toNat : Int)) := hcell 0 x h0
  have hbl : b < w.heap.size := hbl
  have hcap := hB.2.1
  have hcap2 : cap ≤ 9223372036854775807 := by have := hB.2.2.1; unfold maxLen at this; omega
  have q0 : ((n : Int) == 0) = false := by simp; omega
  have q1 := u8_dec x 255 255 rfl
  rw [decide_eq_false hx] at q1
  have HB := Lib.hid hB
  have Hne := Lib.hid hne
  clear hne
  have hO0 := ((Only.refl Empty w).alloc (.cells #[.int .i64 0, .int .u32 0, .int .i64 0, .int .i64 0, .int .i64 0] 61)).alloc (.cells #[.slice (some ⟨b, o, sp⟩) n cap, .int .i64 0] 66)
  have HR0 := Lib.hid (show Rd ((w.alloc (.cells #[.int .i64 0, .int .u32 0, .int .i64 0, .int .i64 0, .int .i64 0] 61)).alloc (.cells #[.slice (some ⟨b, o, sp⟩) n cap, .int .i64 0] 66)) (w.heap.size + 1) (some ⟨b, o, sp⟩) n cap 0 from (by
    have h := Blk.new (w.alloc (.cells #[.int .i64 0, .int .u32 0, .int .i64 0, .int .i64 0, .int .i64 0] 61)) 66 #[.slice (some ⟨b, o, sp⟩) n cap, .int .i64 0]
    unfold Rd
    simpa using h))
  have HO0 := Lib.hid hO0
  have HB0 := Lib.hid (show ByteSl _ (· = w.heap.size + 1) (some ⟨b, o, sp⟩) n cap xs from (HB.out.only HO0.out (fun _ _ h => h)).mono_of (by show ¬ b = w.heap.size + 1; omega))
  clear hcell hB h0 hx hO0
  go_enter Try.func22, Try.ntmps22
  go_wp2_with fail
  clear k0
  refine (head_any (w.heap.size + 1) _ n cap xs _ HR0.out HB0.out hm (by omega)).mono ?_
  rintro e1 w1 ⟨rfl, hR1, hO1⟩
  unfold headV
  have HR1 := Lib.hid hR1
  have HO1 := Lib.hid (HO0.out.trans' hO1 (fun q h1 h2 => by omega))
  have HB1 := Lib.hid (HB0.out.only hO1 (fun _ _ h => h))
  have hz1 : w.heap.size + 1 < w1.heap.size := hR1.lt
  have hj1 : Blk w1 w.heap.size 61 #[.int .i64 0, .int .u32 0, .int .i64 0, .int .i64 0, .int .i64 0] := hO1.blk ((Blk.new w 61 #[.int .i64 0, .int .u32 0, .int .i64 0, .int .i64 0, .int .i64 0]).alloc _) (by omega)
  have HJ1 := Lib.hid hj1
  clear hR1 hO1 hj1
  obtain ⟨v1, e1, b1⟩ : ∃ v, v = nK xs ∧ v ≤ 255 := ⟨_, rfl, nK_le xs⟩
  obtain ⟨v2, e2, b2⟩ : ∃ v, v = nT xs ∧ v ≤ 4294967295 := ⟨_, rfl, nT_le xs⟩
  obtain ⟨v3, e3, b3⟩ : ∃ v, v = nA xs ∧ v ≤ 255 := ⟨_, rfl, nA_le xs⟩
  obtain ⟨v4, e4, b4⟩ : ∃ v, v = nB xs ∧ v ≤ 65535 := ⟨_, rfl, nB_le xs⟩
  obtain ⟨v5, e5, b5⟩ : ∃ v, v = nC xs ∧ v ≤ 255 := ⟨_, rfl, nC_le xs⟩
  obtain ⟨v6, e6, b6⟩ : ∃ v, v = nS xs ∧ v ≤ 65535 := ⟨_, rfl, nS_le xs⟩
  obtain ⟨v7, e7, b7⟩ : ∃ v, v = (crc16 (xs.take 9)).toNat ∧ v ≤ 65535 := ⟨_, rfl, by have := (crc16 (xs.take 9)).isLt; omega⟩
  rw [← e1, ← e2, ← e3, ← e4, ← e5]
  have E1 := Lib.hid (And.intro e1 (And.intro e2 (And.intro e3 (And.intro e4 e5))))
  have N6 : Hid (∀ W, Rd W (w.heap.size + 1) (some ⟨b, o, sp⟩) n cap 9 → ByteSl W (· = w.heap.size + 1) (some ⟨b, o, sp⟩) n cap xs → Calls Try.prog 24 #[.pointer (some ⟨w.heap.size + 1, 0, none⟩), .int .i64 2] W fun e W' => e = .returned (.int .u64 (v6 : Int)) ∧ Rd W' (w.heap.size + 1) (some ⟨b, o, sp⟩) n cap 11 ∧ Only (· = w.heap.size + 1) W W') := Lib.hid fun W hR hB => by
    rw [e6]; exact number_any (w.heap.size + 1) _ n cap 9 2 xs W hR (hB.mono (fun _ _ h => h.elim)) (by omega) (by omega) hm (by omega)
  have N7 : Hid (∀ W, ByteSl W (· = w.heap.size + 1) (some ⟨b, o, sp⟩) n cap xs → Calls Try.prog 28 #[.slice (some ⟨b, o, sp⟩) 9 cap] W fun e W' => e = .returned (.int .u16 (v7 : Int)) ∧ Below W.heap.size W W') := Lib.hid fun W hB => by
    rw [e7]; exact sum16_any _ 9 cap (xs.take 9) W ((hB.mono (fun _ _ h => h.elim)).take_ 9 (by omega))
  have hne1 : ((v6 : Int) == (v7 : Int)) = false := by
    rw [beq_eq_false_iff_ne, e6, e7]
    intro e
    exact Hne.out (by omega)
  have hne2 : ((v6 : Int) != (v7 : Int)) = true := by simp only [bne, hne1]; rfl
  clear e1 e2 e3 e4 e5 e6 e7
  go_wp2_with fail
  have HR2 := Lib.hid (show Rd (w1.alloc (.cells #[.int .i64 (v1 : Int), .int .u32 (v2 : Int), .int .i64 (v3 : Int), .int .i64 (v4 : Int), .int .i64 (v5 : Int)] 61)).drew (w.heap.size + 1) (some ⟨b, o, sp⟩) n cap 9 from (HR1.out.alloc _).drew)
  have HO2 := Lib.hid (HO1.out.trans (((Only.refl Empty w1).alloc (.cells #[.int .i64 (v1 : Int), .int .u32 (v2 : Int), .int .i64 (v3 : Int), .int .i64 (v4 : Int), .int .i64 (v5 : Int)] 61)).drew))
  have HB2 := Lib.hid (show ByteSl (w1.alloc (.cells #[.int .i64 (v1 : Int), .int .u32 (v2 : Int), .int .i64 (v3 : Int), .int .i64 (v4 : Int), .int .i64 (v5 : Int)] 61)).drew (· = w.heap.size + 1) _ n cap xs from HB1.out.only (((Only.refl Empty w1).alloc (.cells #[.int .i64 (v1 : Int), .int .u32 (v2 : Int), .int .i64 (v3 : Int), .int .i64 (v4 : Int), .int .i64 (v5 : Int)] 61)).drew) (fun _ _ h => h.elim))
  have HJ2 := Lib.hid ((HJ1.out.alloc (.cells #[.int .i64 (v1 : Int), .int .u32 (v2 : Int), .int .i64 (v3 : Int), .int .i64 (v4 : Int), .int .i64 (v5 : Int)] 61)).drew)
  have HK2 := Lib.hid ((Blk.new w1 61 #[.int .i64 (v1 : Int), .int .u32 (v2 : Int), .int .i64 (v3 : Int), .int .i64 (v4 : Int), .int .i64 (v5 : Int)]).drew)
  have q9 : (9 : Int) ≤ (cap : Int) := by omega
  have q8 : (9 : Int) ≤ (n : Int) := by omega
  have hwv : IntKind.u16.wrap (v6 : Int) = (v6 : Int) := by rw [IntKind.wrap_u16]; omega
  have hT : True := trivial
  go_region_held3 (fun _ => True) (exact hT)
    (first | ((go_at_call 24; (with_reducible refine (N6.out _ HR2.out HB2.out).mono ?_); rintro e10 w10 ⟨rfl, hR10, hO10⟩; have HB10 := Lib.hid (HB2.out.only hO10 (fun _ _ h => h)))) | ((go_at_call 28; (with_reducible refine (N7.out _ HB10.out).mono ?_); rintro e11 w11 ⟨rfl, hb11⟩)))
  have hz2 : w.heap.size + 1 < w10.heap.size := hR10.lt
  have hw11 := HO2.out.trans' (hO10.trans (Only.of_below hb11)) (fun q h1 h2 => by omega)
  have hj11 := (hO10.blk HJ2.out (by omega)).of (hb11.block w.heap.size (by omega))
  have hk10 := hO10.blk HK2.out (by omega)
  have hk11 := hk10.of (hb11.block w1.heap.size hk10.lt)
  have HW11 := Lib.hid (show Below w.heap.size w w11 from hw11.below (Nat.le_refl _) (fun _ _ h => h))
  have j0 := hj11.cell 0
  have j1 := hj11.cell 1
  have j2 := hj11.cell 2
  have j3 := hj11.cell 3
  have j4 := hj11.cell 4
  have g0 := hj11.frozen 0
  have g1 := hj11.frozen 1
  have g2 := hj11.frozen 2
  have g3 := hj11.frozen 3
  have g4 := hj11.frozen 4
  have y0 := hk11.cell 0
  have y1 := hk11.cell 1
  have y2 := hk11.cell 2
  have y3 := hk11.cell 3
  have y4 := hk11.cell 4
  simp at j0 j1 j2 j3 j4 y0 y1 y2 y3 y4
  have HJ11 := Lib.hid hj11
  clear hR10 hO10 hb11 hw11 hk10 hk11 hj11
  go_wp2
  refine bodyPost_ret (v := .tuple #[zeroH, .int .i64 7]) (by simp [results, Try.results22, go_sem, zeroH, j0, j1, j2, j3, j4]) rfl ⟨?_, ?_⟩
  · rw [hc.out]
    rfl
  · exact ((((HW11.out.setCell (by simp) _).setCell (by simp) _).setCell (by simp) _).setCell (by simp) _).setCell (by simp) _


set_option maxHeartbeats 2000000 in
theorem parseHead_form (b o : Nat) (sp : Option Nat) (n cap : Nat) (xs : List UInt8) (x : UInt8) (w : World) (hB : ByteSl w Empty (some ⟨b, o, sp⟩) n cap xs) (h11 : 11 ≤ n) (hm : n ≤ 1048576) (h0 : xs[0]? = some x) (hx : x ≠ 255)
    (heq : nS xs = (crc16 (xs.take 9)).toNat) (hmay : mayB (nK xs : Int) (nT xs : Int) (nA xs : Int) (nB xs : Int) (nC xs : Int) = false) :
    Calls Try.prog 22 #[.slice (some ⟨b, o, sp⟩) n cap] w fun e w' => HeadOk xs w w' e := by
  have hc : Hid (hdE xs = 8) := Lib.hid (by unfold hdE; rw [if_neg (by rw [h0]; exact hx), if_neg (by have := hB.1; omega), if_neg (by simp [heq]), if_neg (by rw [hmay]; decide)])
  obtain ⟨ad', e, hbl, -, hcell⟩ := hB.2.2.2 (by omega)
  cases e
  have k0 : w.cell? ⟨b, o, sp⟩ = some (.int .u8 (x.toNat : Int)) := hcell 0 x h0
  have hbl : b < w.heap.size := hbl
  have hcap := hB.2.1
  have hcap2 : cap ≤ 9223372036854775807 := by have := hB.2.2.1; unfold maxLen at this; omega
  have q0 : ((n : Int) == 0) = false := by simp; omega
  have q1 := u8_dec x 255 255 rfl
  rw [decide_eq_false hx] at q1
  have HB := Lib.hid hB
  have Heq := Lib.hid heq
  have Hmay := Lib.hid hmay
  clear heq hmay
  have hO0 := ((Only.refl Empty w).alloc (.cells #[.int .i64 0, .int .u32 0, .int .i64 0, .int .i64 0, .int .i64 0] 61)).alloc (.cells #[.slice (some ⟨b, o, sp⟩) n cap, .int .i64 0] 66)
  have HR0 := Lib.hid (show Rd ((w.alloc (.cells #[.int .i64 0, .int .u32 0, .int .i64 0, .int .i64 0, .int .i64 0] 61)).alloc (.cells #[.slice (some ⟨b, o, sp⟩) n cap, .int .i64 0] 66)) (w.heap.size + 1) (some ⟨b, o, sp⟩) n cap 0 from (by
    have h := Blk.new (w.alloc (.cells #[.int .i64 0, .int .u32 0, .int .i64 0, .int .i64 0, .int .i64 0] 61)) 66 #[.slice (some ⟨b, o, sp⟩) n cap, .int .i64 0]
    unfold Rd
    simpa using h))
  have HO0 := Lib.hid hO0
  have HB0 := Lib.hid (show ByteSl _ (· = w.heap.size + 1) (some ⟨b, o, sp⟩) n cap xs from (HB.out.only HO0.out (fun _ _ h => h)).mono_of (by show ¬ b = w.heap.size + 1; omega))
  clear hcell hB h0 hx hO0
  go_enter Try.func22, Try.ntmps22
  go_wp2_with fail
  clear k0
  refine (head_any (w.heap.size + 1) _ n cap xs _ HR0.out HB0.out hm (by omega)).mono ?_
  rintro e1 w1 ⟨rfl, hR1, hO1⟩
  unfold headV
  have HR1 := Lib.hid hR1
  have HO1 := Lib.hid (HO0.out.trans' hO1 (fun q h1 h2 => by omega))
  have HB1 := Lib.hid (HB0.out.only hO1 (fun _ _ h => h))
  have hz1 : w.heap.size + 1 < w1.heap.size := hR1.lt
  have hj1 : Blk w1 w.heap.size 61 #[.int .i64 0, .int .u32 0, .int .i64 0, .int .i64 0, .int .i64 0] := hO1.blk ((Blk.new w 61 #[.int .i64 0, .int .u32 0, .int .i64 0, .int .i64 0, .int .i64 0]).alloc _) (by omega)
  have HJ1 := Lib.hid hj1
  clear hR1 hO1 hj1
  obtain ⟨v1, e1, b1⟩ : ∃ v, v = nK xs ∧ v ≤ 255 := ⟨_, rfl, nK_le xs⟩
  obtain ⟨v2, e2, b2⟩ : ∃ v, v = nT xs ∧ v ≤ 4294967295 := ⟨_, rfl, nT_le xs⟩
  obtain ⟨v3, e3, b3⟩ : ∃ v, v = nA xs ∧ v ≤ 255 := ⟨_, rfl, nA_le xs⟩
  obtain ⟨v4, e4, b4⟩ : ∃ v, v = nB xs ∧ v ≤ 65535 := ⟨_, rfl, nB_le xs⟩
  obtain ⟨v5, e5, b5⟩ : ∃ v, v = nC xs ∧ v ≤ 255 := ⟨_, rfl, nC_le xs⟩
  obtain ⟨v6, e6, b6⟩ : ∃ v, v = nS xs ∧ v ≤ 65535 := ⟨_, rfl, nS_le xs⟩
  obtain ⟨v7, e7, b7⟩ : ∃ v, v = (crc16 (xs.take 9)).toNat ∧ v ≤ 65535 := ⟨_, rfl, by have := (crc16 (xs.take 9)).isLt; omega⟩
  rw [← e1, ← e2, ← e3, ← e4, ← e5]
  have E1 := Lib.hid (And.intro e1 (And.intro e2 (And.intro e3 (And.intro e4 e5))))
  have N6 : Hid (∀ W, Rd W (w.heap.size + 1) (some ⟨b, o, sp⟩) n cap 9 → ByteSl W (· = w.heap.size + 1) (some ⟨b, o, sp⟩) n cap xs → Calls Try.prog 24 #[.pointer (some ⟨w.heap.size + 1, 0, none⟩), .int .i64 2] W fun e W' => e = .returned (.int .u64 (v6 : Int)) ∧ Rd W' (w.heap.size + 1) (some ⟨b, o, sp⟩) n cap 11 ∧ Only (· = w.heap.size + 1) W W') := Lib.hid fun W hR hB => by
    rw [e6]; exact number_any (w.heap.size + 1) _ n cap 9 2 xs W hR (hB.mono (fun _ _ h => h.elim)) (by omega) (by omega) hm (by omega)
  have N7 : Hid (∀ W, ByteSl W (· = w.heap.size + 1) (some ⟨b, o, sp⟩) n cap xs → Calls Try.prog 28 #[.slice (some ⟨b, o, sp⟩) 9 cap] W fun e W' => e = .returned (.int .u16 (v7 : Int)) ∧ Below W.heap.size W W') := Lib.hid fun W hB => by
    rw [e7]; exact sum16_any _ 9 cap (xs.take 9) W ((hB.mono (fun _ _ h => h.elim)).take_ 9 (by omega))
  have he : v6 = v7 := by rw [e6, e7]; exact Heq.out
  rw [← e1, ← e2, ← e3, ← e4, ← e5] at Hmay
  subst he
  clear e1 e2 e3 e4 e5 e6 e7
  go_wp2_with fail
  have HR2 := Lib.hid (show Rd (w1.alloc (.cells #[.int .i64 (v1 : Int), .int .u32 (v2 : Int), .int .i64 (v3 : Int), .int .i64 (v4 : Int), .int .i64 (v5 : Int)] 61)).drew (w.heap.size + 1) (some ⟨b, o, sp⟩) n cap 9 from (HR1.out.alloc _).drew)
  have HO2 := Lib.hid (HO1.out.trans (((Only.refl Empty w1).alloc (.cells #[.int .i64 (v1 : Int), .int .u32 (v2 : Int), .int .i64 (v3 : Int), .int .i64 (v4 : Int), .int .i64 (v5 : Int)] 61)).drew))
  have HB2 := Lib.hid (show ByteSl (w1.alloc (.cells #[.int .i64 (v1 : Int), .int .u32 (v2 : Int), .int .i64 (v3 : Int), .int .i64 (v4 : Int), .int .i64 (v5 : Int)] 61)).drew (· = w.heap.size + 1) _ n cap xs from HB1.out.only (((Only.refl Empty w1).alloc (.cells #[.int .i64 (v1 : Int), .int .u32 (v2 : Int), .int .i64 (v3 : Int), .int .i64 (v4 : Int), .int .i64 (v5 : Int)] 61)).drew) (fun _ _ h => h.elim))
  have HJ2 := Lib.hid ((HJ1.out.alloc (.cells #[.int .i64 (v1 : Int), .int .u32 (v2 : Int), .int .i64 (v3 : Int), .int .i64 (v4 : Int), .int .i64 (v5 : Int)] 61)).drew)
  have HK2 := Lib.hid ((Blk.new w1 61 #[.int .i64 (v1 : Int), .int .u32 (v2 : Int), .int .i64 (v3 : Int), .int .i64 (v4 : Int), .int .i64 (v5 : Int)]).drew)
  have q9 : (9 : Int) ≤ (cap : Int) := by omega
  have q8 : (9 : Int) ≤ (n : Int) := by omega
  have hwv : IntKind.u16.wrap (v6 : Int) = (v6 : Int) := by rw [IntKind.wrap_u16]; omega
  have hT : True := trivial
  go_region_held3 (fun _ => True) (exact hT)
    (first | ((go_at_call 24; (with_reducible refine (N6.out _ HR2.out HB2.out).mono ?_); rintro e10 w10 ⟨rfl, hR10, hO10⟩; have HB10 := Lib.hid (HB2.out.only hO10 (fun _ _ h => h)))) | ((go_at_call 28; (with_reducible refine (N7.out _ HB10.out).mono ?_); rintro e11 w11 ⟨rfl, hb11⟩)))
  have hz2 : w.heap.size + 1 < w10.heap.size := hR10.lt
  have hw11 := HO2.out.trans' (hO10.trans (Only.of_below hb11)) (fun q h1 h2 => by omega)
  have hj11 := (hO10.blk HJ2.out (by omega)).of (hb11.block w.heap.size (by omega))
  have hk10 := hO10.blk HK2.out (by omega)
  have hk11 := hk10.of (hb11.block w1.heap.size hk10.lt)
  have HW11 := Lib.hid (show Below w.heap.size w w11 from hw11.below (Nat.le_refl _) (fun _ _ h => h))
  have j0 := hj11.cell 0
  have j1 := hj11.cell 1
  have j2 := hj11.cell 2
  have j3 := hj11.cell 3
  have j4 := hj11.cell 4
  have g0 := hj11.frozen 0
  have g1 := hj11.frozen 1
  have g2 := hj11.frozen 2
  have g3 := hj11.frozen 3
  have g4 := hj11.frozen 4
  have y0 := hk11.cell 0
  have y1 := hk11.cell 1
  have y2 := hk11.cell 2
  have y3 := hk11.cell 3
  have y4 := hk11.cell 4
  simp at j0 j1 j2 j3 j4 y0 y1 y2 y3 y4
  have HJ11 := Lib.hid hj11
  have hk12 := hk11
  clear hR10 hO10 hb11 hw11 hk10 hk11 hj11
  clear j0 j1 j2 j3 j4 g0 g1 g2 g3 g4
  have HK11 := Lib.hid hk12
  clear hk12
  go_wp2_with fail
  refine (mayBe_any (v1 : Int) (v2 : Int) (v3 : Int) (v4 : Int) (v5 : Int) _).mono ?_
  rw [Hmay.out]
  rintro e12 w12 ⟨rfl, hb12⟩
  have hj12 := HJ11.out.of (hb12.block w.heap.size HJ11.out.lt)
  have hk13 := HK11.out.of (hb12.block w1.heap.size HK11.out.lt)
  have HW12 := Lib.hid (HW11.out.trans (hb12.mono HW11.out.size))
  clear y0 y1 y2 y3 y4
  have j0 := hj12.cell 0
  have j1 := hj12.cell 1
  have j2 := hj12.cell 2
  have j3 := hj12.cell 3
  have j4 := hj12.cell 4
  have g0 := hj12.frozen 0
  have g1 := hj12.frozen 1
  have g2 := hj12.frozen 2
  have g3 := hj12.frozen 3
  have g4 := hj12.frozen 4
  have y0 := hk13.cell 0
  have y1 := hk13.cell 1
  have y2 := hk13.cell 2
  have y3 := hk13.cell 3
  have y4 := hk13.cell 4
  simp at j0 j1 j2 j3 j4 y0 y1 y2 y3 y4
  clear hb12 hj12 hk13
  go_wp2
  refine bodyPost_ret (v := .tuple #[zeroH, .int .i64 8]) (by simp [results, Try.results22, go_sem, zeroH, j0, j1, j2, j3, j4]) rfl ⟨?_, ?_⟩
  · rw [hc.out]
    rfl
  · exact ((((HW12.out.setCell (by simp) _).setCell (by simp) _).setCell (by simp) _).setCell (by simp) _).setCell (by simp) _

set_option maxHeartbeats 2000000 in
theorem parseHead_yes (b o : Nat) (sp : Option Nat) (n cap : Nat) (xs : List UInt8) (x : UInt8) (w : World) (hB : ByteSl w Empty (some ⟨b, o, sp⟩) n cap xs) (h11 : 11 ≤ n) (hm : n ≤ 1048576) (h0 : xs[0]? = some x) (hx : x ≠ 255)
    (heq : nS xs = (crc16 (xs.take 9)).toNat) (hmay : mayB (nK xs : Int) (nT xs : Int) (nA xs : Int) (nB xs : Int) (nC xs : Int) = true) :
    Calls Try.prog 22 #[.slice (some ⟨b, o, sp⟩) n cap] w fun e w' => HeadOk xs w w' e := by
  have hc : Hid (hdE xs = 0) := Lib.hid (by unfold hdE; rw [if_neg (by rw [h0]; exact hx), if_neg (by have := hB.1; omega), if_neg (by simp [heq]), if_pos hmay])
  obtain ⟨ad', e, hbl, -, hcell⟩ := hB.2.2.2 (by omega)
  cases e
  have k0 : w.cell? ⟨b, o, sp⟩ = some (.int .u8 (x.toNat : Int)) := hcell 0 x h0
  have hbl : b < w.heap.size := hbl
  have hcap := hB.2.1
  have hcap2 : cap ≤ 9223372036854775807 := by have := hB.2.2.1; unfold maxLen at this; omega
  have q0 : ((n : Int) == 0) = false := by simp; omega
  have q1 := u8_dec x 255 255 rfl
  rw [decide_eq_false hx] at q1
  have HB := Lib.hid hB
  have Heq := Lib.hid heq
  have Hmay := Lib.hid hmay
  clear heq hmay
  have hO0 := ((Only.refl Empty w).alloc (.cells #[.int .i64 0, .int .u32 0, .int .i64 0, .int .i64 0, .int .i64 0] 61)).alloc (.cells #[.slice (some ⟨b, o, sp⟩) n cap, .int .i64 0] 66)
  have HR0 := Lib.hid (show Rd ((w.alloc (.cells #[.int .i64 0, .int .u32 0, .int .i64 0, .int .i64 0, .int .i64 0] 61)).alloc (.cells #[.slice (some ⟨b, o, sp⟩) n cap, .int .i64 0] 66)) (w.heap.size + 1) (some ⟨b, o, sp⟩) n cap 0 from (by
    have h := Blk.new (w.alloc (.cells #[.int .i64 0, .int .u32 0, .int .i64 0, .int .i64 0, .int .i64 0] 61)) 66 #[.slice (some ⟨b, o, sp⟩) n cap, .int .i64 0]
    unfold Rd
    simpa using h))
  have HO0 := Lib.hid hO0
  have HB0 := Lib.hid (show ByteSl _ (· = w.heap.size + 1) (some ⟨b, o, sp⟩) n cap xs from (HB.out.only HO0.out (fun _ _ h => h)).mono_of (by show ¬ b = w.heap.size + 1; omega))
  clear hcell hB h0 hx hO0
  go_enter Try.func22, Try.ntmps22
  go_wp2_with fail
  clear k0
  refine (head_any (w.heap.size + 1) _ n cap xs _ HR0.out HB0.out hm (by omega)).mono ?_
  rintro e1 w1 ⟨rfl, hR1, hO1⟩
  unfold headV
  have HR1 := Lib.hid hR1
  have HO1 := Lib.hid (HO0.out.trans' hO1 (fun q h1 h2 => by omega))
  have HB1 := Lib.hid (HB0.out.only hO1 (fun _ _ h => h))
  have hz1 : w.heap.size + 1 < w1.heap.size := hR1.lt
  have hj1 : Blk w1 w.heap.size 61 #[.int .i64 0, .int .u32 0, .int .i64 0, .int .i64 0, .int .i64 0] := hO1.blk ((Blk.new w 61 #[.int .i64 0, .int .u32 0, .int .i64 0, .int .i64 0, .int .i64 0]).alloc _) (by omega)
  have HJ1 := Lib.hid hj1
  clear hR1 hO1 hj1
  obtain ⟨v1, e1, b1⟩ : ∃ v, v = nK xs ∧ v ≤ 255 := ⟨_, rfl, nK_le xs⟩
  obtain ⟨v2, e2, b2⟩ : ∃ v, v = nT xs ∧ v ≤ 4294967295 := ⟨_, rfl, nT_le xs⟩
  obtain ⟨v3, e3, b3⟩ : ∃ v, v = nA xs ∧ v ≤ 255 := ⟨_, rfl, nA_le xs⟩
  obtain ⟨v4, e4, b4⟩ : ∃ v, v = nB xs ∧ v ≤ 65535 := ⟨_, rfl, nB_le xs⟩
  obtain ⟨v5, e5, b5⟩ : ∃ v, v = nC xs ∧ v ≤ 255 := ⟨_, rfl, nC_le xs⟩
  obtain ⟨v6, e6, b6⟩ : ∃ v, v = nS xs ∧ v ≤ 65535 := ⟨_, rfl, nS_le xs⟩
  obtain ⟨v7, e7, b7⟩ : ∃ v, v = (crc16 (xs.take 9)).toNat ∧ v ≤ 65535 := ⟨_, rfl, by have := (crc16 (xs.take 9)).isLt; omega⟩
  rw [← e1, ← e2, ← e3, ← e4, ← e5]
  have E1 := Lib.hid (And.intro e1 (And.intro e2 (And.intro e3 (And.intro e4 e5))))
  have N6 : Hid (∀ W, Rd W (w.heap.size + 1) (some ⟨b, o, sp⟩) n cap 9 → ByteSl W (· = w.heap.size + 1) (some ⟨b, o, sp⟩) n cap xs → Calls Try.prog 24 #[.pointer (some ⟨w.heap.size + 1, 0, none⟩), .int .i64 2] W fun e W' => e = .returned (.int .u64 (v6 : Int)) ∧ Rd W' (w.heap.size + 1) (some ⟨b, o, sp⟩) n cap 11 ∧ Only (· = w.heap.size + 1) W W') := Lib.hid fun W hR hB => by
    rw [e6]; exact number_any (w.heap.size + 1) _ n cap 9 2 xs W hR (hB.mono (fun _ _ h => h.elim)) (by omega) (by omega) hm (by omega)
  have N7 : Hid (∀ W, ByteSl W (· = w.heap.size + 1) (some ⟨b, o, sp⟩) n cap xs → Calls Try.prog 28 #[.slice (some ⟨b, o, sp⟩) 9 cap] W fun e W' => e = .returned (.int .u16 (v7 : Int)) ∧ Below W.heap.size W W') := Lib.hid fun W hB => by
    rw [e7]; exact sum16_any _ 9 cap (xs.take 9) W ((hB.mono (fun _ _ h => h.elim)).take_ 9 (by omega))
  have he : v6 = v7 := by rw [e6, e7]; exact Heq.out
  rw [← e1, ← e2, ← e3, ← e4, ← e5] at Hmay
  subst he
  clear e1 e2 e3 e4 e5 e6 e7
  go_wp2_with fail
  have HR2 := Lib.hid (show Rd (w1.alloc (.cells #[.int .i64 (v1 : Int), .int .u32 (v2 : Int), .int .i64 (v3 : Int), .int .i64 (v4 : Int), .int .i64 (v5 : Int)] 61)).drew (w.heap.size + 1) (some ⟨b, o, sp⟩) n cap 9 from (HR1.out.alloc _).drew)
  have HO2 := Lib.hid (HO1.out.trans (((Only.refl Empty w1).alloc (.cells #[.int .i64 (v1 : Int), .int .u32 (v2 : Int), .int .i64 (v3 : Int), .int .i64 (v4 : Int), .int .i64 (v5 : Int)] 61)).drew))
  have HB2 := Lib.hid (show ByteSl (w1.alloc (.cells #[.int .i64 (v1 : Int), .int .u32 (v2 : Int), .int .i64 (v3 : Int), .int .i64 (v4 : Int), .int .i64 (v5 : Int)] 61)).drew (· = w.heap.size + 1) _ n cap xs from HB1.out.only (((Only.refl Empty w1).alloc (.cells #[.int .i64 (v1 : Int), .int .u32 (v2 : Int), .int .i64 (v3 : Int), .int .i64 (v4 : Int), .int .i64 (v5 : Int)] 61)).drew) (fun _ _ h => h.elim))
  have HJ2 := Lib.hid ((HJ1.out.alloc (.cells #[.int .i64 (v1 : Int), .int .u32 (v2 : Int), .int .i64 (v3 : Int), .int .i64 (v4 : Int), .int .i64 (v5 : Int)] 61)).drew)
  have HK2 := Lib.hid ((Blk.new w1 61 #[.int .i64 (v1 : Int), .int .u32 (v2 : Int), .int .i64 (v3 : Int), .int .i64 (v4 : Int), .int .i64 (v5 : Int)]).drew)
  have q9 : (9 : Int) ≤ (cap : Int) := by omega
  have q8 : (9 : Int) ≤ (n : Int) := by omega
  have hwv : IntKind.u16.wrap (v6 : Int) = (v6 : Int) := by rw [IntKind.wrap_u16]; omega
  have hT : True := trivial
  go_region_held3 (fun _ => True) (exact hT)
    (first | ((go_at_call 24; (with_reducible refine (N6.out _ HR2.out HB2.out).mono ?_); rintro e10 w10 ⟨rfl, hR10, hO10⟩; have HB10 := Lib.hid (HB2.out.only hO10 (fun _ _ h => h)))) | ((go_at_call 28; (with_reducible refine (N7.out _ HB10.out).mono ?_); rintro e11 w11 ⟨rfl, hb11⟩)))
  have hz2 : w.heap.size + 1 < w10.heap.size := hR10.lt
  have hw11 := HO2.out.trans' (hO10.trans (Only.of_below hb11)) (fun q h1 h2 => by omega)
  have hj11 := (hO10.blk HJ2.out (by omega)).of (hb11.block w.heap.size (by omega))
  have hk10 := hO10.blk HK2.out (by omega)
  have hk11 := hk10.of (hb11.block w1.heap.size hk10.lt)
  have HW11 := Lib.hid (show Below w.heap.size w w11 from hw11.below (Nat.le_refl _) (fun _ _ h => h))
  have j0 := hj11.cell 0
  have j1 := hj11.cell 1
  have j2 := hj11.cell 2
  have j3 := hj11.cell 3
  have j4 := hj11.cell 4
  have g0 := hj11.frozen 0
  have g1 := hj11.frozen 1
  have g2 := hj11.frozen 2
  have g3 := hj11.frozen 3
  have g4 := hj11.frozen 4
  have y0 := hk11.cell 0
  have y1 := hk11.cell 1
  have y2 := hk11.cell 2
  have y3 := hk11.cell 3
  have y4 := hk11.cell 4
  simp at j0 j1 j2 j3 j4 y0 y1 y2 y3 y4
  have HJ11 := Lib.hid hj11
  have hk12 := hk11
  clear hR10 hO10 hb11 hw11 hk10 hk11 hj11
  clear j0 j1 j2 j3 j4 g0 g1 g2 g3 g4
  have HK11 := Lib.hid hk12
  clear hk12
  go_wp2_with fail
  refine (mayBe_any (v1 : Int) (v2 : Int) (v3 : Int) (v4 : Int) (v5 : Int) _).mono ?_
  rw [Hmay.out]
  rintro e12 w12 ⟨rfl, hb12⟩
  have hj12 := HJ11.out.of (hb12.block w.heap.size HJ11.out.lt)
  have hk13 := HK11.out.of (hb12.block w1.heap.size HK11.out.lt)
  have HW12 := Lib.hid (HW11.out.trans (hb12.mono HW11.out.size))
  clear y0 y1 y2 y3 y4
  have j0 := hj12.cell 0
  have j1 := hj12.cell 1
  have j2 := hj12.cell 2
  have j3 := hj12.cell 3
  have j4 := hj12.cell 4
  have g0 := hj12.frozen 0
  have g1 := hj12.frozen 1
  have g2 := hj12.frozen 2
  have g3 := hj12.frozen 3
  have g4 := hj12.frozen 4
  have y0 := hk13.cell 0
  have y1 := hk13.cell 1
  have y2 := hk13.cell 2
  have y3 := hk13.cell 3
  have y4 := hk13.cell 4
  simp at j0 j1 j2 j3 j4 y0 y1 y2 y3 y4
  clear hb12 hj12 hk13
  go_wp2
  refine bodyPost_ret (v := .tuple #[.agg #[.int .i64 (v1 : Int), .int .u32 (v2 : Int), .int .i64 (v3 : Int), .int .i64 (v4 : Int), .int .i64 (v5 : Int)], .int .i64 0]) (by simp [results, Try.results22, go_sem, zeroH, j0, j1, j2, j3, j4]) rfl ⟨?_, ?_⟩
  · rw [hc.out]
    rw [if_pos rfl, headV, ← E1.out.1, ← E1.out.2.1, ← E1.out.2.2.1, ← E1.out.2.2.2.1, ← E1.out.2.2.2.2]
  · exact ((((HW12.out.setCell (by simp) _).setCell (by simp) _).setCell (by simp) _).setCell (by simp) _).setCell (by simp) _

/-- parseHead as one answer. -/
theorem parseHead_any (A : Option Addr) (n cap : Nat) (xs : List UInt8) (w : World) (hB : ByteSl w Empty A n cap xs) (hm : n ≤ 1048576) :
    Calls Try.prog 22 #[.slice A n cap] w fun e w' => HeadOk xs w w' e := by
  rcases Nat.eq_zero_or_pos n with hn | hn
  · subst hn
    obtain rfl : xs = [] := List.eq_nil_of_length_eq_zero hB.1
    exact parseHead_none A cap w
  · obtain ⟨⟨b, o, sp⟩, rfl, -, -, -⟩ := hB.2.2.2 hn
    obtain ⟨x, hx0⟩ : ∃ x, xs[0]? = some x := ⟨_, List.getElem?_eq_getElem (by have := hB.1; omega)⟩
    by_cases hx : x = 255
    · subst hx
      exact parseHead_blank _ n cap xs w hB hn hx0
    · by_cases h11 : n < 11
      · exact parseHead_short _ n cap xs x w hB hn h11 hx0 hx
      · by_cases hs : nS xs = (crc16 (xs.take 9)).toNat
        · cases hmay : mayB (nK xs : Int) (nT xs : Int) (nA xs : Int) (nB xs : Int) (nC xs : Int) with
          | true => exact parseHead_yes b o sp n cap xs x w hB (by omega) hm hx0 hx hs hmay
          | false => exact parseHead_form b o sp n cap xs x w hB (by omega) hm hx0 hx hs hmay
        · exact parseHead_sum b o sp n cap xs x w hB (by omega) hm hx0 hx hs

end Go.Proofs.Ytidcgobnhfganaa
