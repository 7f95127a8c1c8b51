/- The walk over a pool's reader.constant. -/
import Derived.Test.YtinkjeifkjfkgaaVs
import Derived.Test.YtinkjeifkjfkgaaVf
import Derived.Test.YtinkjeifkjfkgaaTk
namespace Go.Proofs.Ytinkjeifkjfkgaa
set_option maxRecDepth 100000
open Go.RowKit

theorem eq_noFrm' (f : Frm) (W : World) : (binOp .eql 59 (.agg #[.bool f.text, .int .i64 f.num, .int .i64 f.a, .int .i64 f.b]) (.agg #[.bool false, .int .i64 0, .int .i64 0, .int .i64 0])).run Try.prog W = .ok (.bool (decide (f = noFrm))) W := eq_form f noFrm W

/-- What a walk over constant stands on. -/
structure RdC (w : World) (g q1 q2 : Nat) (A : Option Addr) (n cap : Nat) (bs : List UInt8) (s : RS) (c : Cst) (f : Frm) (W : World) : Prop where
  rd : RdP W g A n cap bs s
  k0 : Blk W w.heap.size 41 zeroC.cells.toArray
  k1 : Blk W q1 41 c.cells.toArray
  k2 : Blk W q2 59 #[.bool f.text, .int .i64 f.num, .int .i64 f.a, .int .i64 f.b]
  only : Only (· = g) w W
  lt : g < w.heap.size
  le : w.heap.size < q1 ∧ q1 < q2
  b0 : ByteSl w (· = g) A n cap bs
theorem RdC.next {w W W' : World} {g q1 q2 n cap : Nat} {A : Option Addr} {bs : List UInt8} {s s' : RS} {c : Cst} {f : Frm} (h : RdC w g q1 q2 A n cap bs s c f W) (hR : RdP W' g A n cap bs s') (hO : Only (· = g) W W') : RdC w g q1 q2 A n cap bs s' c f W' :=
  ⟨hR, hO.blk h.k0 (by have := h.lt; omega), hO.blk h.k1 (by have := h.lt; have := h.le; omega), hO.blk h.k2 (by have := h.lt; have := h.le; omega), h.only.trans hO, h.lt, h.le, h.b0⟩
theorem RdC.set {w W : World} {g q1 q2 n cap : Nat} {A : Option Addr} {bs : List UInt8} {s : RS} {c c' : Cst} {f : Frm} (h : RdC w g q1 q2 A n cap bs s c f W) (j : Nat) (v : Value) (hc : c.cells.toArray.setIfInBounds j v = c'.cells.toArray) : RdC w g q1 q2 A n cap bs s c' f (W.setCell ⟨q1, j, none⟩ v) := by
  have hlt := h.lt
  have hle := h.le
  have hO : Only (· = q1) W (W.setCell ⟨q1, j, none⟩ v) := (Only.refl (· = q1) W).setCell (p := ⟨q1, j, none⟩) (Or.inl rfl) _
  have hb := h.k1.set_ j v
  rw [hc] at hb
  have hO2 := h.only.setCell (p := ⟨q1, j, none⟩) (Or.inr (by show w.heap.size ≤ q1; omega)) v
  exact ⟨⟨hO.blk h.rd.blk (by omega), h.b0.only hO2 (fun _ _ h => h), h.rd.le⟩, hO.blk h.k0 (by omega), hb, hO.blk h.k2 (by omega), hO2, h.lt, h.le, h.b0⟩
theorem RdC.start {w w1 w2 : World} {g n cap : Nat} {A : Option Addr} {bs : List UInt8} {s s0 : RS} {t : Int} (hR : RdP w g A n cap bs s) (hR1 : RdP w1 g A n cap bs s0) (hO1 : Only (· = g) (w.alloc (.cells zeroC.cells.toArray 41)) w1)
    (hb2 : Below (w1.alloc (.cells (⟨t, 0, 0, 0, []⟩ : Cst).cells.toArray 41)).heap.size (w1.alloc (.cells (⟨t, 0, 0, 0, []⟩ : Cst).cells.toArray 41)) w2) (f : Frm) :
    RdC w g w1.heap.size w2.heap.size A n cap bs s0 ⟨t, 0, 0, 0, []⟩ f (w2.alloc (.cells #[.bool f.text, .int .i64 f.num, .int .i64 f.a, .int .i64 f.b] 59)) := by
  have hlt := hR.blk.lt
  have h1 : w.heap.size < w1.heap.size := by have := hO1.size; simp at this; omega
  have h2 : w1.heap.size < w2.heap.size := by have := hb2.size; simp at this; omega
  have hO2 : Only Empty w1 (w2.alloc (.cells #[.bool f.text, .int .i64 f.num, .int .i64 f.a, .int .i64 f.b] 59)) := (((Only.refl Empty w1).alloc _).trans (Only.of_below hb2)).alloc _
  refine ⟨hR1.only hO2, ?_, ?_, Blk.new _ _ _, ?_, hlt, ⟨h1, h2⟩, hR.bytes⟩
  · exact hO2.blk (hO1.blk (Blk.new w 41 zeroC.cells.toArray) (by omega)) (fun h => h)
  · exact ((Blk.new w1 41 (⟨t, 0, 0, 0, []⟩ : Cst).cells.toArray).of (hb2.block _ (by simp))).alloc _
  · exact (((Only.refl (· = g) w).alloc _).trans hO1).trans (hO2.mono (fun _ _ h => h.elim))

theorem RdC.fin {w W : World} {g q1 q2 n cap : Nat} {A : Option Addr} {bs : List UInt8} {s : RS} {c : Cst} {f : Frm} (h : RdC w g q1 q2 A n cap bs s c f W) (v0 v1 v2 v3 v4 : Value) :
    RdP (((((W.setCell ⟨w.heap.size, 0, none⟩ v0).setCell ⟨w.heap.size, 1, none⟩ v1).setCell ⟨w.heap.size, 2, none⟩ v2).setCell ⟨w.heap.size, 3, none⟩ v3).setCell ⟨w.heap.size, 4, none⟩ v4) g A n cap bs s ∧
    Only (· = g) w (((((W.setCell ⟨w.heap.size, 0, none⟩ v0).setCell ⟨w.heap.size, 1, none⟩ v1).setCell ⟨w.heap.size, 2, none⟩ v2).setCell ⟨w.heap.size, 3, none⟩ v3).setCell ⟨w.heap.size, 4, none⟩ v4) := by
  have hlt := h.lt
  have hO : Only (· = w.heap.size) W (((((W.setCell ⟨w.heap.size, 0, none⟩ v0).setCell ⟨w.heap.size, 1, none⟩ v1).setCell ⟨w.heap.size, 2, none⟩ v2).setCell ⟨w.heap.size, 3, none⟩ v3).setCell ⟨w.heap.size, 4, none⟩ v4) :=
    (((((Only.refl (· = w.heap.size) W).setCell (p := ⟨w.heap.size, 0, none⟩) (Or.inl rfl) _).setCell (p := ⟨w.heap.size, 1, none⟩) (Or.inl rfl) _).setCell (p := ⟨w.heap.size, 2, none⟩) (Or.inl rfl) _).setCell (p := ⟨w.heap.size, 3, none⟩) (Or.inl rfl) _).setCell (p := ⟨w.heap.size, 4, none⟩) (Or.inl rfl) _
  have hO2 : Only (· = g) w (((((W.setCell ⟨w.heap.size, 0, none⟩ v0).setCell ⟨w.heap.size, 1, none⟩ v1).setCell ⟨w.heap.size, 2, none⟩ v2).setCell ⟨w.heap.size, 3, none⟩ v3).setCell ⟨w.heap.size, 4, none⟩ v4) := h.only.trans' hO (fun i hi e => by omega)
  exact ⟨⟨hO.blk h.rd.blk (by omega), h.b0.only hO2 (fun _ _ h => h), h.rd.le⟩, hO2⟩

set_option maxHeartbeats 1000000 in
theorem prConstant_any (g : Nat) (A : Option Addr) (n cap : Nat) (bs : List UInt8) (s : RS) (w : World) (hR : RdP w g A n cap bs s) (hm : n ≤ 1048576) :
    Calls Try.prog 38 #[.pointer (some ⟨g, 0, none⟩)] w fun e w' => e = .returned (constR bs s).1.v ∧ RdP w' g A n cap bs (constR bs s).2 ∧ Only (· = g) w w' := by
  have C0 := Lib.hid (fun W (h : RdP W g A n cap bs s) => prNumber_any g A n cap 1 bs s W h (by omega) (by omega) hm)
  have hlt0 := numR_lt bs s 1
  obtain ⟨t, s0, hr0⟩ : ∃ t s0, numR bs s 1 = (t, s0) := ⟨_, _, rfl⟩
  have hcon : constR bs s = (let f := formF (t : Int); let s1 := if f = noFrm then s0.refuse 8 else s0; let r1 := if f.text = true then textR bs s1 else ([], s1); let r2 := optR bs r1.2 (f.num != 0) f.num.toNat; let r3 := optR bs r2.2 (f.a != 0) 2; let r4 := optR bs r3.2 (f.b != 0) 2; (⟨(t : Int), (r3.1 : Int), (r4.1 : Int), if f.num = 0 then 0 else sgn r2.1 f.num.toNat, r1.1⟩, r4.2)) := by
    unfold constR
    rw [hr0]
  rw [hr0] at C0 hlt0
  have hlt0 : t < 256 := hlt0
  have hwt : IntKind.i64.wrap (t : Int) = (t : Int) := by rw [IntKind.wrap_i64]; omega
  have CF : ∀ W, Calls Try.prog 31 #[.int .i64 (t : Int)] W fun e w' => e = .returned (formF (t : Int)).v ∧ Below W.heap.size W w' := fun W => formOf_any _ W
  have CN : Hid (∀ (k : Nat) (s : RS) (W : World), 1 ≤ k → k ≤ 8 → RdP W g A n cap bs s → Calls Try.prog 36 #[.pointer (some ⟨g, 0, none⟩), .int .i64 (k : Int)] W fun e w' => e = .returned (.int .u64 ((numR bs s k).1 : Int)) ∧ RdP w' g A n cap bs (numR bs s k).2 ∧ Only (· = g) W w') := Lib.hid (fun k s W h1 h2 h => prNumber_any g A n cap k bs s W h h1 h2 hm)
  have CX : Hid (∀ (s : RS) (W : World), RdP W g A n cap bs s → Calls Try.prog 45 #[.pointer (some ⟨g, 0, none⟩)] W fun e w' => e = .returned (.string (strB (textR bs s).1)) ∧ RdP w' g A n cap bs (textR bs s).2 ∧ Only (· = g) W w') := Lib.hid (fun s W h => prText_any g A n cap bs s W h hm)
  have CR : Hid (∀ (s : RS) (e : Int) (W : World), RdP W g A n cap bs s → Calls Try.prog 37 #[.pointer (some ⟨g, 0, none⟩), .int .i64 e] W fun e1 w' => e1 = .returned (.tuple #[]) ∧ RdP w' g A n cap bs (s.refuse e) ∧ Only (· = g) W w') := Lib.hid (fun s e W h => refuse_any g A n cap bs s e W h)
  have CS : Hid (∀ (v k : Nat) W, v ≤ 18446744073709551615 → 1 ≤ k → k ≤ 8 → Calls Try.prog 42 #[.int .u64 (v : Int), .int .i64 (k : Int)] W fun e w' => e = .returned (.int .i64 (sgn v k)) ∧ W = w') := Lib.hid (fun v k W h0 h1 h2 => sign_yes v k W h0 h1 h2)
  have HL : Hid (∀ (s : RS) (k : Nat), (numR bs s k).1 < 256 ^ k) := Lib.hid (numR_lt bs)
  have HR := Lib.hid hR
  have Hcon := Lib.hid hcon
  clear hcon hr0 hR hm
  rcases form_ways (t : Int) with hf | hf | hf | hf | hf | hf | hf
  · obtain ⟨x, s1, hx⟩ : ∃ x s1, textR bs s0 = (x, s1) := ⟨_, _, rfl⟩
    have HE : Hid (constR bs s = (⟨t, 0, 0, 0, x⟩, s1)) := Lib.hid (by rw [Hcon.out]; simp [hf, noFrm, hx, optR])
    have HX := Lib.hid hx
    clear hx
    rw [hf] at CF
    have CF := Lib.hid CF
    simp only [Frm.v] at CF
    clear hf
    go_enter Try.func38, Try.ntmps38
    go_wp2_with fail
    refine (C0.out _ (HR.out.only ((Only.refl _ _).alloc _))).mono ?_
    rintro e w1 ⟨rfl, hR1, hO1⟩
    have HR1 := Lib.hid hR1
    have HO1 := Lib.hid hO1
    clear hR1 hO1
    go_wp2_with fail
    refine (CF.out _).mono ?_
    rintro e w2 ⟨rfl, hb2⟩
    have HC := Lib.hid (RdC.start HR.out HR1.out HO1.out hb2 ⟨true, 0, 0, 0⟩)
    clear hb2
    go_wp2_with fail
    refine (CX.out _ _ HC.out.rd).mono ?_
    rintro e w3 ⟨rfl, hR3, hO3⟩
    rw [HX.out] at hR3
    rw [HX.out]
    have HC3 := Lib.hid (HC.out.next hR3 hO3)
    clear hR3 hO3
    have hgl := HC3.out.k1.lt
    have hgf := HC3.out.k1.frozen 4
    have hgc : w3.cell? ⟨w1.heap.size, 4, none⟩ = some (.string ⟨#[]⟩) := HC3.out.k1.cell 4
    have HC4 : Hid (RdC w g w1.heap.size w2.heap.size A n cap bs s1 ⟨t, 0, 0, 0, x⟩ ⟨true, 0, 0, 0⟩ (w3.setCell ⟨w1.heap.size, 4, none⟩ (.string (strB x)))) := Lib.hid (HC3.out.set 4 _ (by simp [Cst.cells]))
    have b0 : (w3.setCell ⟨w1.heap.size, 4, none⟩ (.string (strB x))).cell? ⟨w2.heap.size, 0, none⟩ = some (.bool true) := HC4.out.k2.cell 0
    have b1 : (w3.setCell ⟨w1.heap.size, 4, none⟩ (.string (strB x))).cell? ⟨w2.heap.size, 1, none⟩ = some (.int .i64 0) := HC4.out.k2.cell 1
    have b2 : (w3.setCell ⟨w1.heap.size, 4, none⟩ (.string (strB x))).cell? ⟨w2.heap.size, 2, none⟩ = some (.int .i64 0) := HC4.out.k2.cell 2
    have b3 : (w3.setCell ⟨w1.heap.size, 4, none⟩ (.string (strB x))).cell? ⟨w2.heap.size, 3, none⟩ = some (.int .i64 0) := HC4.out.k2.cell 3
    have d0 : (w3.setCell ⟨w1.heap.size, 4, none⟩ (.string (strB x))).cell? ⟨w1.heap.size, 0, none⟩ = some (.int .i64 (t : Int)) := HC4.out.k1.cell 0
    have d1 : (w3.setCell ⟨w1.heap.size, 4, none⟩ (.string (strB x))).cell? ⟨w1.heap.size, 1, none⟩ = some (.int .i64 0) := HC4.out.k1.cell 1
    have d2 : (w3.setCell ⟨w1.heap.size, 4, none⟩ (.string (strB x))).cell? ⟨w1.heap.size, 2, none⟩ = some (.int .i64 0) := HC4.out.k1.cell 2
    have d3 : (w3.setCell ⟨w1.heap.size, 4, none⟩ (.string (strB x))).cell? ⟨w1.heap.size, 3, none⟩ = some (.int .i64 0) := HC4.out.k1.cell 3
    have d4 : (w3.setCell ⟨w1.heap.size, 4, none⟩ (.string (strB x))).cell? ⟨w1.heap.size, 4, none⟩ = some (.string (strB x)) := HC4.out.k1.cell 4
    have r0 : (w3.setCell ⟨w1.heap.size, 4, none⟩ (.string (strB x))).cell? ⟨w.heap.size, 0, none⟩ = some (.int .i64 0) := HC4.out.k0.cell 0
    have rf0 := HC4.out.k0.frozen 0
    have r1 : (w3.setCell ⟨w1.heap.size, 4, none⟩ (.string (strB x))).cell? ⟨w.heap.size, 1, none⟩ = some (.int .i64 0) := HC4.out.k0.cell 1
    have rf1 := HC4.out.k0.frozen 1
    have r2 : (w3.setCell ⟨w1.heap.size, 4, none⟩ (.string (strB x))).cell? ⟨w.heap.size, 2, none⟩ = some (.int .i64 0) := HC4.out.k0.cell 2
    have rf2 := HC4.out.k0.frozen 2
    have r3 : (w3.setCell ⟨w1.heap.size, 4, none⟩ (.string (strB x))).cell? ⟨w.heap.size, 3, none⟩ = some (.int .i64 0) := HC4.out.k0.cell 3
    have rf3 := HC4.out.k0.frozen 3
    have r4 : (w3.setCell ⟨w1.heap.size, 4, none⟩ (.string (strB x))).cell? ⟨w.heap.size, 4, none⟩ = some (.string ⟨#[]⟩) := HC4.out.k0.cell 4
    have rf4 := HC4.out.k0.frozen 4
    have rl := HC4.out.k0.lt
    go_wp2
    refine bodyPost_ret (v := .agg #[.int .i64 (t : Int), .int .i64 0, .int .i64 0, .int .i64 0, .string (strB x)]) (by simp [results, Try.results38, go_sem, r0, r1, r2, r3, r4]) rfl ⟨by rw [HE.out]; rfl, ?_⟩
    have hfin := HC4.out.fin (.int .i64 (t : Int)) (.int .i64 0) (.int .i64 0) (.int .i64 0) (.string (strB x))
    rw [HE.out]
    exact hfin
  · obtain ⟨v, s1, hx⟩ : ∃ v s1, numR bs s0 8 = (v, s1) := ⟨_, _, rfl⟩
    have HE : Hid (constR bs s = (⟨t, 0, 0, sgn v 8, []⟩, s1)) := Lib.hid (by rw [Hcon.out]; simp [hf, noFrm, hx, optR])
    have hv := HL.out s0 8
    rw [hx] at hv
    have HV : Hid (v ≤ 18446744073709551615) := Lib.hid (by have : v < 256 ^ 8 := hv; omega)
    have HX := Lib.hid hx
    clear hx hv
    rw [hf] at CF
    have CF := Lib.hid CF
    simp only [Frm.v] at CF
    clear hf
    go_enter Try.func38, Try.ntmps38
    go_wp2_with fail
    refine (C0.out _ (HR.out.only ((Only.refl _ _).alloc _))).mono ?_
    rintro e w1 ⟨rfl, hR1, hO1⟩
    have HR1 := Lib.hid hR1
    have HO1 := Lib.hid hO1
    clear hR1 hO1
    go_wp2_with fail
    refine (CF.out _).mono ?_
    rintro e w2 ⟨rfl, hb2⟩
    have HC := Lib.hid (RdC.start HR.out HR1.out HO1.out hb2 ⟨false, 8, 0, 0⟩)
    clear hb2
    have b1_ : (w2.alloc (.cells #[.bool false, .int .i64 8, .int .i64 0, .int .i64 0] 59)).cell? ⟨w2.heap.size, 1, none⟩ = some (.int .i64 8) := HC.out.k2.cell 1
    go_wp2_with fail
    refine wp_region_held_drew (S := fun W => W.cell? ⟨w2.heap.size, 1, none⟩ = some (.int .i64 8)) (by kernel_rfl) b1_ (fun hHeld0 => ?_)
    refine take_yes 0 25 ?_ rfl rfl (by kernel_rfl) (by kernel_rfl) (by kernel_rfl) (fun _ _ _ h => h) (by kernel_rfl) ?_ (by assumption) ?_; rotate_left; (focus (intro w hSw; (try dsimp only at hSw); go_simp; all_goals first | with_reducible rfl)); simp only [Act.put, List.setIfInBounds_toArray, List.set_cons_zero, List.set_cons_succ]
    refine take_yes 1 26 ?_ rfl rfl (by kernel_rfl) (by kernel_rfl) (by kernel_rfl) (fun _ _ _ h => h) (by kernel_rfl) ?_ (by assumption) ?_; rotate_left; (focus (intro w hSw; (try dsimp only at hSw); go_simp; all_goals first | with_reducible rfl)); simp only [Act.put, List.setIfInBounds_toArray, List.set_cons_zero, List.set_cons_succ]
    refine take_yes 2 27 ?_ rfl rfl (by kernel_rfl) (by kernel_rfl) (by kernel_rfl) (fun _ _ _ h => h) (by kernel_rfl) ?_ (by assumption) ?_; rotate_left; (focus (intro w hSw; (try dsimp only at hSw); go_simp; all_goals first | with_reducible rfl)); simp only [Act.put, List.setIfInBounds_toArray, List.set_cons_zero, List.set_cons_succ]
    refine take_yes 4 29 ?_ rfl rfl (by kernel_rfl) (by kernel_rfl) (by kernel_rfl) (fun _ _ _ h => h) (by kernel_rfl) ?_ (by assumption) ?_; rotate_left; (focus (intro w hSw; (try dsimp only at hSw); go_simp; all_goals first | with_reducible rfl)); simp only [Act.put, List.setIfInBounds_toArray, List.set_cons_zero, List.set_cons_succ]
    refine take_yes 5 30 ?_ rfl rfl (by kernel_rfl) (by kernel_rfl) (by kernel_rfl) (fun _ _ _ h => h) (by kernel_rfl) ?_ (by assumption) ?_; rotate_left; (focus (intro w hSw; (try dsimp only at hSw); go_simp; all_goals first | with_reducible rfl)); simp only [Act.put, List.setIfInBounds_toArray, List.set_cons_zero, List.set_cons_succ]
    refine wpAnyH_ready (rs := [3]) (by kernel_rfl) (by simp) ?_
    refine AllReadyH.cons rfl (fun K hK => ?_) AllReadyH.nil
    go_simp
    go_at_call 36
    (refine (CN.out 8 s0 _ (by omega) (by omega) (HC.out.rd.only ((Only.refl _ _).drew))).mono ?_)
    rintro e w3 ⟨rfl, hR3, hO3⟩
    rw [HX.out] at hR3
    rw [HX.out]
    have HC3 := Lib.hid (HC.out.next hR3 (((Only.refl (· = g) _).drew).trans hO3))
    clear hR3 hO3
    have b1_3 : w3.cell? ⟨w2.heap.size, 1, none⟩ = some (.int .i64 8) := HC3.out.k2.cell 1
    go_wp2_with fail
    refine hK.out _ _ (b1_3) (fun _ => ?_)
    clear hK K
    try simp only [Act.put, List.setIfInBounds_toArray, List.set_cons_zero, List.set_cons_succ]
    refine wpAnyH_ready (rs := [6]) (by kernel_rfl) (by simp) ?_
    refine AllReadyH.cons rfl (fun K hK => ?_) AllReadyH.nil
    go_simp
    go_at_call 42
    (refine (CS.out v 8 _ HV.out (by omega) (by omega)).mono ?_)
    rintro e w4 ⟨rfl, rfl⟩
    go_wp2_with fail
    refine hK.out _ _ (b1_3) (fun _ => ?_)
    clear hK K
    try simp only [Act.put, List.setIfInBounds_toArray, List.set_cons_zero, List.set_cons_succ]
    have hgl := HC3.out.k1.lt
    have hgf := HC3.out.k1.frozen 3
    have hgc : w3.cell? ⟨w1.heap.size, 3, none⟩ = some (.int .i64 0) := HC3.out.k1.cell 3
    have HC4 : Hid (RdC w g w1.heap.size w2.heap.size A n cap bs s1 ⟨t, 0, 0, sgn v 8, []⟩ ⟨false, 8, 0, 0⟩ (w3.setCell ⟨w1.heap.size, 3, none⟩ (.int .i64 (sgn v 8)))) := Lib.hid (HC3.out.set 3 _ (by simp [Cst.cells]))
    have b1_4 : (w3.setCell ⟨w1.heap.size, 3, none⟩ (.int .i64 (sgn v 8))).cell? ⟨w2.heap.size, 1, none⟩ = some (.int .i64 8) := HC4.out.k2.cell 1
    refine take_yes 7 32 ?_ rfl rfl (by kernel_rfl) (by kernel_rfl) (by kernel_rfl) (fun _ _ _ h => h) (by kernel_rfl) ?_ (by assumption) ?_; rotate_left; (focus (intro w hSw; (try dsimp only at hSw); go_simp; all_goals first | with_reducible rfl)); simp only [Act.put, List.setIfInBounds_toArray, List.set_cons_zero, List.set_cons_succ]
    refine wpAnyH_ready (rs := [8]) (by kernel_rfl) (by simp) ?_
    refine AllReadyH.cons rfl (fun K hK => ?_) AllReadyH.nil
    go_simp
    refine hK.out _ _ (b1_4) (fun _ => ?_)
    clear hK K
    try simp only [Act.put, List.setIfInBounds_toArray, List.set_cons_zero, List.set_cons_succ]
    refine wpAnyH_done (by kernel_rfl) ?_ _
    have b0 : (w3.setCell ⟨w1.heap.size, 3, none⟩ (.int .i64 (sgn v 8))).cell? ⟨w2.heap.size, 0, none⟩ = some (.bool false) := HC4.out.k2.cell 0
    have b1 : (w3.setCell ⟨w1.heap.size, 3, none⟩ (.int .i64 (sgn v 8))).cell? ⟨w2.heap.size, 1, none⟩ = some (.int .i64 8) := HC4.out.k2.cell 1
    have b2 : (w3.setCell ⟨w1.heap.size, 3, none⟩ (.int .i64 (sgn v 8))).cell? ⟨w2.heap.size, 2, none⟩ = some (.int .i64 0) := HC4.out.k2.cell 2
    have b3 : (w3.setCell ⟨w1.heap.size, 3, none⟩ (.int .i64 (sgn v 8))).cell? ⟨w2.heap.size, 3, none⟩ = some (.int .i64 0) := HC4.out.k2.cell 3
    have d0 : (w3.setCell ⟨w1.heap.size, 3, none⟩ (.int .i64 (sgn v 8))).cell? ⟨w1.heap.size, 0, none⟩ = some (.int .i64 (t : Int)) := HC4.out.k1.cell 0
    have d1 : (w3.setCell ⟨w1.heap.size, 3, none⟩ (.int .i64 (sgn v 8))).cell? ⟨w1.heap.size, 1, none⟩ = some (.int .i64 0) := HC4.out.k1.cell 1
    have d2 : (w3.setCell ⟨w1.heap.size, 3, none⟩ (.int .i64 (sgn v 8))).cell? ⟨w1.heap.size, 2, none⟩ = some (.int .i64 0) := HC4.out.k1.cell 2
    have d3 : (w3.setCell ⟨w1.heap.size, 3, none⟩ (.int .i64 (sgn v 8))).cell? ⟨w1.heap.size, 3, none⟩ = some (.int .i64 (sgn v 8)) := HC4.out.k1.cell 3
    have d4 : (w3.setCell ⟨w1.heap.size, 3, none⟩ (.int .i64 (sgn v 8))).cell? ⟨w1.heap.size, 4, none⟩ = some (.string ⟨#[]⟩) := HC4.out.k1.cell 4
    have r0 : (w3.setCell ⟨w1.heap.size, 3, none⟩ (.int .i64 (sgn v 8))).cell? ⟨w.heap.size, 0, none⟩ = some (.int .i64 0) := HC4.out.k0.cell 0
    have rf0 := HC4.out.k0.frozen 0
    have r1 : (w3.setCell ⟨w1.heap.size, 3, none⟩ (.int .i64 (sgn v 8))).cell? ⟨w.heap.size, 1, none⟩ = some (.int .i64 0) := HC4.out.k0.cell 1
    have rf1 := HC4.out.k0.frozen 1
    have r2 : (w3.setCell ⟨w1.heap.size, 3, none⟩ (.int .i64 (sgn v 8))).cell? ⟨w.heap.size, 2, none⟩ = some (.int .i64 0) := HC4.out.k0.cell 2
    have rf2 := HC4.out.k0.frozen 2
    have r3 : (w3.setCell ⟨w1.heap.size, 3, none⟩ (.int .i64 (sgn v 8))).cell? ⟨w.heap.size, 3, none⟩ = some (.int .i64 0) := HC4.out.k0.cell 3
    have rf3 := HC4.out.k0.frozen 3
    have r4 : (w3.setCell ⟨w1.heap.size, 3, none⟩ (.int .i64 (sgn v 8))).cell? ⟨w.heap.size, 4, none⟩ = some (.string ⟨#[]⟩) := HC4.out.k0.cell 4
    have rf4 := HC4.out.k0.frozen 4
    have rl := HC4.out.k0.lt
    go_wp2
    refine bodyPost_ret (v := .agg #[.int .i64 (t : Int), .int .i64 0, .int .i64 0, .int .i64 (sgn v 8), .string ⟨#[]⟩]) (by simp [results, Try.results38, go_sem, r0, r1, r2, r3, r4]) rfl ⟨by rw [HE.out]; rfl, ?_⟩
    have hfin := HC4.out.fin (.int .i64 (t : Int)) (.int .i64 0) (.int .i64 0) (.int .i64 (sgn v 8)) (.string ⟨#[]⟩)
    rw [HE.out]
    exact hfin
  · obtain ⟨v, s1, hx⟩ : ∃ v s1, numR bs s0 4 = (v, s1) := ⟨_, _, rfl⟩
    have HE : Hid (constR bs s = (⟨t, 0, 0, sgn v 4, []⟩, s1)) := Lib.hid (by rw [Hcon.out]; simp [hf, noFrm, hx, optR])
    have hv := HL.out s0 4
    rw [hx] at hv
    have HV : Hid (v ≤ 18446744073709551615) := Lib.hid (by have : v < 256 ^ 4 := hv; omega)
    have HX := Lib.hid hx
    clear hx hv
    rw [hf] at CF
    have CF := Lib.hid CF
    simp only [Frm.v] at CF
    clear hf
    go_enter Try.func38, Try.ntmps38
    go_wp2_with fail
    refine (C0.out _ (HR.out.only ((Only.refl _ _).alloc _))).mono ?_
    rintro e w1 ⟨rfl, hR1, hO1⟩
    have HR1 := Lib.hid hR1
    have HO1 := Lib.hid hO1
    clear hR1 hO1
    go_wp2_with fail
    refine (CF.out _).mono ?_
    rintro e w2 ⟨rfl, hb2⟩
    have HC := Lib.hid (RdC.start HR.out HR1.out HO1.out hb2 ⟨false, 4, 0, 0⟩)
    clear hb2
    have b1_ : (w2.alloc (.cells #[.bool false, .int .i64 4, .int .i64 0, .int .i64 0] 59)).cell? ⟨w2.heap.size, 1, none⟩ = some (.int .i64 4) := HC.out.k2.cell 1
    go_wp2_with fail
    refine wp_region_held_drew (S := fun W => W.cell? ⟨w2.heap.size, 1, none⟩ = some (.int .i64 4)) (by kernel_rfl) b1_ (fun hHeld0 => ?_)
    refine take_yes 0 25 ?_ rfl rfl (by kernel_rfl) (by kernel_rfl) (by kernel_rfl) (fun _ _ _ h => h) (by kernel_rfl) ?_ (by assumption) ?_; rotate_left; (focus (intro w hSw; (try dsimp only at hSw); go_simp; all_goals first | with_reducible rfl)); simp only [Act.put, List.setIfInBounds_toArray, List.set_cons_zero, List.set_cons_succ]
    refine take_yes 1 26 ?_ rfl rfl (by kernel_rfl) (by kernel_rfl) (by kernel_rfl) (fun _ _ _ h => h) (by kernel_rfl) ?_ (by assumption) ?_; rotate_left; (focus (intro w hSw; (try dsimp only at hSw); go_simp; all_goals first | with_reducible rfl)); simp only [Act.put, List.setIfInBounds_toArray, List.set_cons_zero, List.set_cons_succ]
    refine take_yes 2 27 ?_ rfl rfl (by kernel_rfl) (by kernel_rfl) (by kernel_rfl) (fun _ _ _ h => h) (by kernel_rfl) ?_ (by assumption) ?_; rotate_left; (focus (intro w hSw; (try dsimp only at hSw); go_simp; all_goals first | with_reducible rfl)); simp only [Act.put, List.setIfInBounds_toArray, List.set_cons_zero, List.set_cons_succ]
    refine take_yes 4 29 ?_ rfl rfl (by kernel_rfl) (by kernel_rfl) (by kernel_rfl) (fun _ _ _ h => h) (by kernel_rfl) ?_ (by assumption) ?_; rotate_left; (focus (intro w hSw; (try dsimp only at hSw); go_simp; all_goals first | with_reducible rfl)); simp only [Act.put, List.setIfInBounds_toArray, List.set_cons_zero, List.set_cons_succ]
    refine take_yes 5 30 ?_ rfl rfl (by kernel_rfl) (by kernel_rfl) (by kernel_rfl) (fun _ _ _ h => h) (by kernel_rfl) ?_ (by assumption) ?_; rotate_left; (focus (intro w hSw; (try dsimp only at hSw); go_simp; all_goals first | with_reducible rfl)); simp only [Act.put, List.setIfInBounds_toArray, List.set_cons_zero, List.set_cons_succ]
    refine wpAnyH_ready (rs := [3]) (by kernel_rfl) (by simp) ?_
    refine AllReadyH.cons rfl (fun K hK => ?_) AllReadyH.nil
    go_simp
    go_at_call 36
    (refine (CN.out 4 s0 _ (by omega) (by omega) (HC.out.rd.only ((Only.refl _ _).drew))).mono ?_)
    rintro e w3 ⟨rfl, hR3, hO3⟩
    rw [HX.out] at hR3
    rw [HX.out]
    have HC3 := Lib.hid (HC.out.next hR3 (((Only.refl (· = g) _).drew).trans hO3))
    clear hR3 hO3
    have b1_3 : w3.cell? ⟨w2.heap.size, 1, none⟩ = some (.int .i64 4) := HC3.out.k2.cell 1
    go_wp2_with fail
    refine hK.out _ _ (b1_3) (fun _ => ?_)
    clear hK K
    try simp only [Act.put, List.setIfInBounds_toArray, List.set_cons_zero, List.set_cons_succ]
    refine wpAnyH_ready (rs := [6]) (by kernel_rfl) (by simp) ?_
    refine AllReadyH.cons rfl (fun K hK => ?_) AllReadyH.nil
    go_simp
    go_at_call 42
    (refine (CS.out v 4 _ HV.out (by omega) (by omega)).mono ?_)
    rintro e w4 ⟨rfl, rfl⟩
    go_wp2_with fail
    refine hK.out _ _ (b1_3) (fun _ => ?_)
    clear hK K
    try simp only [Act.put, List.setIfInBounds_toArray, List.set_cons_zero, List.set_cons_succ]
    have hgl := HC3.out.k1.lt
    have hgf := HC3.out.k1.frozen 3
    have hgc : w3.cell? ⟨w1.heap.size, 3, none⟩ = some (.int .i64 0) := HC3.out.k1.cell 3
    have HC4 : Hid (RdC w g w1.heap.size w2.heap.size A n cap bs s1 ⟨t, 0, 0, sgn v 4, []⟩ ⟨false, 4, 0, 0⟩ (w3.setCell ⟨w1.heap.size, 3, none⟩ (.int .i64 (sgn v 4)))) := Lib.hid (HC3.out.set 3 _ (by simp [Cst.cells]))
    have b1_4 : (w3.setCell ⟨w1.heap.size, 3, none⟩ (.int .i64 (sgn v 4))).cell? ⟨w2.heap.size, 1, none⟩ = some (.int .i64 4) := HC4.out.k2.cell 1
    refine take_yes 7 32 ?_ rfl rfl (by kernel_rfl) (by kernel_rfl) (by kernel_rfl) (fun _ _ _ h => h) (by kernel_rfl) ?_ (by assumption) ?_; rotate_left; (focus (intro w hSw; (try dsimp only at hSw); go_simp; all_goals first | with_reducible rfl)); simp only [Act.put, List.setIfInBounds_toArray, List.set_cons_zero, List.set_cons_succ]
    refine wpAnyH_ready (rs := [8]) (by kernel_rfl) (by simp) ?_
    refine AllReadyH.cons rfl (fun K hK => ?_) AllReadyH.nil
    go_simp
    refine hK.out _ _ (b1_4) (fun _ => ?_)
    clear hK K
    try simp only [Act.put, List.setIfInBounds_toArray, List.set_cons_zero, List.set_cons_succ]
    refine wpAnyH_done (by kernel_rfl) ?_ _
    have b0 : (w3.setCell ⟨w1.heap.size, 3, none⟩ (.int .i64 (sgn v 4))).cell? ⟨w2.heap.size, 0, none⟩ = some (.bool false) := HC4.out.k2.cell 0
    have b1 : (w3.setCell ⟨w1.heap.size, 3, none⟩ (.int .i64 (sgn v 4))).cell? ⟨w2.heap.size, 1, none⟩ = some (.int .i64 4) := HC4.out.k2.cell 1
    have b2 : (w3.setCell ⟨w1.heap.size, 3, none⟩ (.int .i64 (sgn v 4))).cell? ⟨w2.heap.size, 2, none⟩ = some (.int .i64 0) := HC4.out.k2.cell 2
    have b3 : (w3.setCell ⟨w1.heap.size, 3, none⟩ (.int .i64 (sgn v 4))).cell? ⟨w2.heap.size, 3, none⟩ = some (.int .i64 0) := HC4.out.k2.cell 3
    have d0 : (w3.setCell ⟨w1.heap.size, 3, none⟩ (.int .i64 (sgn v 4))).cell? ⟨w1.heap.size, 0, none⟩ = some (.int .i64 (t : Int)) := HC4.out.k1.cell 0
    have d1 : (w3.setCell ⟨w1.heap.size, 3, none⟩ (.int .i64 (sgn v 4))).cell? ⟨w1.heap.size, 1, none⟩ = some (.int .i64 0) := HC4.out.k1.cell 1
    have d2 : (w3.setCell ⟨w1.heap.size, 3, none⟩ (.int .i64 (sgn v 4))).cell? ⟨w1.heap.size, 2, none⟩ = some (.int .i64 0) := HC4.out.k1.cell 2
    have d3 : (w3.setCell ⟨w1.heap.size, 3, none⟩ (.int .i64 (sgn v 4))).cell? ⟨w1.heap.size, 3, none⟩ = some (.int .i64 (sgn v 4)) := HC4.out.k1.cell 3
    have d4 : (w3.setCell ⟨w1.heap.size, 3, none⟩ (.int .i64 (sgn v 4))).cell? ⟨w1.heap.size, 4, none⟩ = some (.string ⟨#[]⟩) := HC4.out.k1.cell 4
    have r0 : (w3.setCell ⟨w1.heap.size, 3, none⟩ (.int .i64 (sgn v 4))).cell? ⟨w.heap.size, 0, none⟩ = some (.int .i64 0) := HC4.out.k0.cell 0
    have rf0 := HC4.out.k0.frozen 0
    have r1 : (w3.setCell ⟨w1.heap.size, 3, none⟩ (.int .i64 (sgn v 4))).cell? ⟨w.heap.size, 1, none⟩ = some (.int .i64 0) := HC4.out.k0.cell 1
    have rf1 := HC4.out.k0.frozen 1
    have r2 : (w3.setCell ⟨w1.heap.size, 3, none⟩ (.int .i64 (sgn v 4))).cell? ⟨w.heap.size, 2, none⟩ = some (.int .i64 0) := HC4.out.k0.cell 2
    have rf2 := HC4.out.k0.frozen 2
    have r3 : (w3.setCell ⟨w1.heap.size, 3, none⟩ (.int .i64 (sgn v 4))).cell? ⟨w.heap.size, 3, none⟩ = some (.int .i64 0) := HC4.out.k0.cell 3
    have rf3 := HC4.out.k0.frozen 3
    have r4 : (w3.setCell ⟨w1.heap.size, 3, none⟩ (.int .i64 (sgn v 4))).cell? ⟨w.heap.size, 4, none⟩ = some (.string ⟨#[]⟩) := HC4.out.k0.cell 4
    have rf4 := HC4.out.k0.frozen 4
    have rl := HC4.out.k0.lt
    go_wp2
    refine bodyPost_ret (v := .agg #[.int .i64 (t : Int), .int .i64 0, .int .i64 0, .int .i64 (sgn v 4), .string ⟨#[]⟩]) (by simp [results, Try.results38, go_sem, r0, r1, r2, r3, r4]) rfl ⟨by rw [HE.out]; rfl, ?_⟩
    have hfin := HC4.out.fin (.int .i64 (t : Int)) (.int .i64 0) (.int .i64 0) (.int .i64 (sgn v 4)) (.string ⟨#[]⟩)
    rw [HE.out]
    exact hfin
  · obtain ⟨v, s1, hx⟩ : ∃ v s1, numR bs s0 2 = (v, s1) := ⟨_, _, rfl⟩
    have hv := HL.out s0 2
    rw [hx] at hv
    have hv : v < 65536 := hv
    have hwv : IntKind.i64.wrap (v : Int) = (v : Int) := by rw [IntKind.wrap_i64]; omega
    obtain ⟨u, s2, hy⟩ : ∃ u s2, numR bs s1 2 = (u, s2) := ⟨_, _, rfl⟩
    have hu := HL.out s1 2
    rw [hy] at hu
    have hu : u < 65536 := hu
    have hwu : IntKind.i64.wrap (u : Int) = (u : Int) := by rw [IntKind.wrap_i64]; omega
    have HE : Hid (constR bs s = (⟨t, v, u, 0, []⟩, s2)) := Lib.hid (by rw [Hcon.out]; simp [hf, noFrm, hx, hy, optR])
    have HX := Lib.hid hx
    have HY := Lib.hid hy
    clear hx hy
    rw [hf] at CF
    have CF := Lib.hid CF
    simp only [Frm.v] at CF
    clear hf
    go_enter Try.func38, Try.ntmps38
    go_wp2_with fail
    refine (C0.out _ (HR.out.only ((Only.refl _ _).alloc _))).mono ?_
    rintro e w1 ⟨rfl, hR1, hO1⟩
    have HR1 := Lib.hid hR1
    have HO1 := Lib.hid hO1
    clear hR1 hO1
    go_wp2_with fail
    refine (CF.out _).mono ?_
    rintro e w2 ⟨rfl, hb2⟩
    have HC := Lib.hid (RdC.start HR.out HR1.out HO1.out hb2 ⟨false, 0, 7, 12⟩)
    clear hb2
    have b0_ : (w2.alloc (.cells #[.bool false, .int .i64 0, .int .i64 7, .int .i64 12] 59)).cell? ⟨w2.heap.size, 0, none⟩ = some (.bool false) := HC.out.k2.cell 0
    go_wp2_with fail
    refine (CN.out 2 s0 _ (by omega) (by omega) HC.out.rd).mono ?_
    rintro e w3 ⟨rfl, hR3, hO3⟩
    rw [HX.out] at hR3
    rw [HX.out]
    have HC3 := Lib.hid (HC.out.next hR3 hO3)
    clear hR3 hO3
    have hgl := HC3.out.k1.lt
    have hgf := HC3.out.k1.frozen 1
    have hgc : w3.cell? ⟨w1.heap.size, 1, none⟩ = some (.int .i64 0) := HC3.out.k1.cell 1
    have HC4 : Hid (RdC w g w1.heap.size w2.heap.size A n cap bs s1 ⟨t, v, 0, 0, []⟩ ⟨false, 0, 7, 12⟩ (w3.setCell ⟨w1.heap.size, 1, none⟩ (.int .i64 (v : Int)))) := Lib.hid (HC3.out.set 1 _ (by simp [Cst.cells]))
    have e3 : (w3.setCell ⟨w1.heap.size, 1, none⟩ (.int .i64 (v : Int))).cell? ⟨w2.heap.size, 3, none⟩ = some (.int .i64 12) := HC4.out.k2.cell 3
    go_wp2_with fail
    refine (CN.out 2 s1 _ (by omega) (by omega) HC4.out.rd).mono ?_
    rintro e w5 ⟨rfl, hR5, hO5⟩
    rw [HY.out] at hR5
    rw [HY.out]
    have HC5 := Lib.hid (HC4.out.next hR5 hO5)
    clear hR5 hO5 e3 hgl hgf hgc
    have hgl := HC5.out.k1.lt
    have hgf := HC5.out.k1.frozen 2
    have hgc : w5.cell? ⟨w1.heap.size, 2, none⟩ = some (.int .i64 0) := HC5.out.k1.cell 2
    have HC6 : Hid (RdC w g w1.heap.size w2.heap.size A n cap bs s2 ⟨t, v, u, 0, []⟩ ⟨false, 0, 7, 12⟩ (w5.setCell ⟨w1.heap.size, 2, none⟩ (.int .i64 (u : Int)))) := Lib.hid (HC5.out.set 2 _ (by simp [Cst.cells]))
    have b0 : (w5.setCell ⟨w1.heap.size, 2, none⟩ (.int .i64 (u : Int))).cell? ⟨w2.heap.size, 0, none⟩ = some (.bool false) := HC6.out.k2.cell 0
    have b1 : (w5.setCell ⟨w1.heap.size, 2, none⟩ (.int .i64 (u : Int))).cell? ⟨w2.heap.size, 1, none⟩ = some (.int .i64 0) := HC6.out.k2.cell 1
    have b2 : (w5.setCell ⟨w1.heap.size, 2, none⟩ (.int .i64 (u : Int))).cell? ⟨w2.heap.size, 2, none⟩ = some (.int .i64 7) := HC6.out.k2.cell 2
    have b3 : (w5.setCell ⟨w1.heap.size, 2, none⟩ (.int .i64 (u : Int))).cell? ⟨w2.heap.size, 3, none⟩ = some (.int .i64 12) := HC6.out.k2.cell 3
    have d0 : (w5.setCell ⟨w1.heap.size, 2, none⟩ (.int .i64 (u : Int))).cell? ⟨w1.heap.size, 0, none⟩ = some (.int .i64 (t : Int)) := HC6.out.k1.cell 0
    have d1 : (w5.setCell ⟨w1.heap.size, 2, none⟩ (.int .i64 (u : Int))).cell? ⟨w1.heap.size, 1, none⟩ = some (.int .i64 (v : Int)) := HC6.out.k1.cell 1
    have d2 : (w5.setCell ⟨w1.heap.size, 2, none⟩ (.int .i64 (u : Int))).cell? ⟨w1.heap.size, 2, none⟩ = some (.int .i64 (u : Int)) := HC6.out.k1.cell 2
    have d3 : (w5.setCell ⟨w1.heap.size, 2, none⟩ (.int .i64 (u : Int))).cell? ⟨w1.heap.size, 3, none⟩ = some (.int .i64 0) := HC6.out.k1.cell 3
    have d4 : (w5.setCell ⟨w1.heap.size, 2, none⟩ (.int .i64 (u : Int))).cell? ⟨w1.heap.size, 4, none⟩ = some (.string ⟨#[]⟩) := HC6.out.k1.cell 4
    have r0 : (w5.setCell ⟨w1.heap.size, 2, none⟩ (.int .i64 (u : Int))).cell? ⟨w.heap.size, 0, none⟩ = some (.int .i64 0) := HC6.out.k0.cell 0
    have rf0 := HC6.out.k0.frozen 0
    have r1 : (w5.setCell ⟨w1.heap.size, 2, none⟩ (.int .i64 (u : Int))).cell? ⟨w.heap.size, 1, none⟩ = some (.int .i64 0) := HC6.out.k0.cell 1
    have rf1 := HC6.out.k0.frozen 1
    have r2 : (w5.setCell ⟨w1.heap.size, 2, none⟩ (.int .i64 (u : Int))).cell? ⟨w.heap.size, 2, none⟩ = some (.int .i64 0) := HC6.out.k0.cell 2
    have rf2 := HC6.out.k0.frozen 2
    have r3 : (w5.setCell ⟨w1.heap.size, 2, none⟩ (.int .i64 (u : Int))).cell? ⟨w.heap.size, 3, none⟩ = some (.int .i64 0) := HC6.out.k0.cell 3
    have rf3 := HC6.out.k0.frozen 3
    have r4 : (w5.setCell ⟨w1.heap.size, 2, none⟩ (.int .i64 (u : Int))).cell? ⟨w.heap.size, 4, none⟩ = some (.string ⟨#[]⟩) := HC6.out.k0.cell 4
    have rf4 := HC6.out.k0.frozen 4
    have rl := HC6.out.k0.lt
    go_wp2
    refine bodyPost_ret (v := .agg #[.int .i64 (t : Int), .int .i64 (v : Int), .int .i64 (u : Int), .int .i64 0, .string ⟨#[]⟩]) (by simp [results, Try.results38, go_sem, r0, r1, r2, r3, r4]) rfl ⟨by rw [HE.out]; rfl, ?_⟩
    have hfin := HC6.out.fin (.int .i64 (t : Int)) (.int .i64 (v : Int)) (.int .i64 (u : Int)) (.int .i64 0) (.string ⟨#[]⟩)
    rw [HE.out]
    exact hfin
  · obtain ⟨v, s1, hx⟩ : ∃ v s1, numR bs s0 2 = (v, s1) := ⟨_, _, rfl⟩
    have hv := HL.out s0 2
    rw [hx] at hv
    have hv : v < 65536 := hv
    have hwv : IntKind.i64.wrap (v : Int) = (v : Int) := by rw [IntKind.wrap_i64]; omega
    obtain ⟨u, s2, hy⟩ : ∃ u s2, numR bs s1 2 = (u, s2) := ⟨_, _, rfl⟩
    have hu := HL.out s1 2
    rw [hy] at hu
    have hu : u < 65536 := hu
    have hwu : IntKind.i64.wrap (u : Int) = (u : Int) := by rw [IntKind.wrap_i64]; omega
    have HE : Hid (constR bs s = (⟨t, v, u, 0, []⟩, s2)) := Lib.hid (by rw [Hcon.out]; simp [hf, noFrm, hx, hy, optR])
    have HX := Lib.hid hx
    have HY := Lib.hid hy
    clear hx hy
    rw [hf] at CF
    have CF := Lib.hid CF
    simp only [Frm.v] at CF
    clear hf
    go_enter Try.func38, Try.ntmps38
    go_wp2_with fail
    refine (C0.out _ (HR.out.only ((Only.refl _ _).alloc _))).mono ?_
    rintro e w1 ⟨rfl, hR1, hO1⟩
    have HR1 := Lib.hid hR1
    have HO1 := Lib.hid hO1
    clear hR1 hO1
    go_wp2_with fail
    refine (CF.out _).mono ?_
    rintro e w2 ⟨rfl, hb2⟩
    have HC := Lib.hid (RdC.start HR.out HR1.out HO1.out hb2 ⟨false, 0, 1, 1⟩)
    clear hb2
    have b0_ : (w2.alloc (.cells #[.bool false, .int .i64 0, .int .i64 1, .int .i64 1] 59)).cell? ⟨w2.heap.size, 0, none⟩ = some (.bool false) := HC.out.k2.cell 0
    go_wp2_with fail
    refine (CN.out 2 s0 _ (by omega) (by omega) HC.out.rd).mono ?_
    rintro e w3 ⟨rfl, hR3, hO3⟩
    rw [HX.out] at hR3
    rw [HX.out]
    have HC3 := Lib.hid (HC.out.next hR3 hO3)
    clear hR3 hO3
    have hgl := HC3.out.k1.lt
    have hgf := HC3.out.k1.frozen 1
    have hgc : w3.cell? ⟨w1.heap.size, 1, none⟩ = some (.int .i64 0) := HC3.out.k1.cell 1
    have HC4 : Hid (RdC w g w1.heap.size w2.heap.size A n cap bs s1 ⟨t, v, 0, 0, []⟩ ⟨false, 0, 1, 1⟩ (w3.setCell ⟨w1.heap.size, 1, none⟩ (.int .i64 (v : Int)))) := Lib.hid (HC3.out.set 1 _ (by simp [Cst.cells]))
    have e3 : (w3.setCell ⟨w1.heap.size, 1, none⟩ (.int .i64 (v : Int))).cell? ⟨w2.heap.size, 3, none⟩ = some (.int .i64 1) := HC4.out.k2.cell 3
    go_wp2_with fail
    refine (CN.out 2 s1 _ (by omega) (by omega) HC4.out.rd).mono ?_
    rintro e w5 ⟨rfl, hR5, hO5⟩
    rw [HY.out] at hR5
    rw [HY.out]
    have HC5 := Lib.hid (HC4.out.next hR5 hO5)
    clear hR5 hO5 e3 hgl hgf hgc
    have hgl := HC5.out.k1.lt
    have hgf := HC5.out.k1.frozen 2
    have hgc : w5.cell? ⟨w1.heap.size, 2, none⟩ = some (.int .i64 0) := HC5.out.k1.cell 2
    have HC6 : Hid (RdC w g w1.heap.size w2.heap.size A n cap bs s2 ⟨t, v, u, 0, []⟩ ⟨false, 0, 1, 1⟩ (w5.setCell ⟨w1.heap.size, 2, none⟩ (.int .i64 (u : Int)))) := Lib.hid (HC5.out.set 2 _ (by simp [Cst.cells]))
    have b0 : (w5.setCell ⟨w1.heap.size, 2, none⟩ (.int .i64 (u : Int))).cell? ⟨w2.heap.size, 0, none⟩ = some (.bool false) := HC6.out.k2.cell 0
    have b1 : (w5.setCell ⟨w1.heap.size, 2, none⟩ (.int .i64 (u : Int))).cell? ⟨w2.heap.size, 1, none⟩ = some (.int .i64 0) := HC6.out.k2.cell 1
    have b2 : (w5.setCell ⟨w1.heap.size, 2, none⟩ (.int .i64 (u : Int))).cell? ⟨w2.heap.size, 2, none⟩ = some (.int .i64 1) := HC6.out.k2.cell 2
    have b3 : (w5.setCell ⟨w1.heap.size, 2, none⟩ (.int .i64 (u : Int))).cell? ⟨w2.heap.size, 3, none⟩ = some (.int .i64 1) := HC6.out.k2.cell 3
    have d0 : (w5.setCell ⟨w1.heap.size, 2, none⟩ (.int .i64 (u : Int))).cell? ⟨w1.heap.size, 0, none⟩ = some (.int .i64 (t : Int)) := HC6.out.k1.cell 0
    have d1 : (w5.setCell ⟨w1.heap.size, 2, none⟩ (.int .i64 (u : Int))).cell? ⟨w1.heap.size, 1, none⟩ = some (.int .i64 (v : Int)) := HC6.out.k1.cell 1
    have d2 : (w5.setCell ⟨w1.heap.size, 2, none⟩ (.int .i64 (u : Int))).cell? ⟨w1.heap.size, 2, none⟩ = some (.int .i64 (u : Int)) := HC6.out.k1.cell 2
    have d3 : (w5.setCell ⟨w1.heap.size, 2, none⟩ (.int .i64 (u : Int))).cell? ⟨w1.heap.size, 3, none⟩ = some (.int .i64 0) := HC6.out.k1.cell 3
    have d4 : (w5.setCell ⟨w1.heap.size, 2, none⟩ (.int .i64 (u : Int))).cell? ⟨w1.heap.size, 4, none⟩ = some (.string ⟨#[]⟩) := HC6.out.k1.cell 4
    have r0 : (w5.setCell ⟨w1.heap.size, 2, none⟩ (.int .i64 (u : Int))).cell? ⟨w.heap.size, 0, none⟩ = some (.int .i64 0) := HC6.out.k0.cell 0
    have rf0 := HC6.out.k0.frozen 0
    have r1 : (w5.setCell ⟨w1.heap.size, 2, none⟩ (.int .i64 (u : Int))).cell? ⟨w.heap.size, 1, none⟩ = some (.int .i64 0) := HC6.out.k0.cell 1
    have rf1 := HC6.out.k0.frozen 1
    have r2 : (w5.setCell ⟨w1.heap.size, 2, none⟩ (.int .i64 (u : Int))).cell? ⟨w.heap.size, 2, none⟩ = some (.int .i64 0) := HC6.out.k0.cell 2
    have rf2 := HC6.out.k0.frozen 2
    have r3 : (w5.setCell ⟨w1.heap.size, 2, none⟩ (.int .i64 (u : Int))).cell? ⟨w.heap.size, 3, none⟩ = some (.int .i64 0) := HC6.out.k0.cell 3
    have rf3 := HC6.out.k0.frozen 3
    have r4 : (w5.setCell ⟨w1.heap.size, 2, none⟩ (.int .i64 (u : Int))).cell? ⟨w.heap.size, 4, none⟩ = some (.string ⟨#[]⟩) := HC6.out.k0.cell 4
    have rf4 := HC6.out.k0.frozen 4
    have rl := HC6.out.k0.lt
    go_wp2
    refine bodyPost_ret (v := .agg #[.int .i64 (t : Int), .int .i64 (v : Int), .int .i64 (u : Int), .int .i64 0, .string ⟨#[]⟩]) (by simp [results, Try.results38, go_sem, r0, r1, r2, r3, r4]) rfl ⟨by rw [HE.out]; rfl, ?_⟩
    have hfin := HC6.out.fin (.int .i64 (t : Int)) (.int .i64 (v : Int)) (.int .i64 (u : Int)) (.int .i64 0) (.string ⟨#[]⟩)
    rw [HE.out]
    exact hfin
  · obtain ⟨v, s1, hx⟩ : ∃ v s1, numR bs s0 2 = (v, s1) := ⟨_, _, rfl⟩
    have hv := HL.out s0 2
    rw [hx] at hv
    have hv : v < 65536 := hv
    have hwv : IntKind.i64.wrap (v : Int) = (v : Int) := by rw [IntKind.wrap_i64]; omega
    have HE : Hid (constR bs s = (⟨t, v, 0, 0, []⟩, s1)) := Lib.hid (by rw [Hcon.out]; simp [hf, noFrm, hx, optR])
    have HX := Lib.hid hx
    clear hx
    rw [hf] at CF
    have CF := Lib.hid CF
    simp only [Frm.v] at CF
    clear hf
    go_enter Try.func38, Try.ntmps38
    go_wp2_with fail
    refine (C0.out _ (HR.out.only ((Only.refl _ _).alloc _))).mono ?_
    rintro e w1 ⟨rfl, hR1, hO1⟩
    have HR1 := Lib.hid hR1
    have HO1 := Lib.hid hO1
    clear hR1 hO1
    go_wp2_with fail
    refine (CF.out _).mono ?_
    rintro e w2 ⟨rfl, hb2⟩
    have HC := Lib.hid (RdC.start HR.out HR1.out HO1.out hb2 ⟨false, 0, 1, 0⟩)
    clear hb2
    have b0_ : (w2.alloc (.cells #[.bool false, .int .i64 0, .int .i64 1, .int .i64 0] 59)).cell? ⟨w2.heap.size, 0, none⟩ = some (.bool false) := HC.out.k2.cell 0
    go_wp2_with fail
    refine (CN.out 2 s0 _ (by omega) (by omega) HC.out.rd).mono ?_
    rintro e w3 ⟨rfl, hR3, hO3⟩
    rw [HX.out] at hR3
    rw [HX.out]
    have HC3 := Lib.hid (HC.out.next hR3 hO3)
    clear hR3 hO3
    have hgl := HC3.out.k1.lt
    have hgf := HC3.out.k1.frozen 1
    have hgc : w3.cell? ⟨w1.heap.size, 1, none⟩ = some (.int .i64 0) := HC3.out.k1.cell 1
    have HC4 : Hid (RdC w g w1.heap.size w2.heap.size A n cap bs s1 ⟨t, v, 0, 0, []⟩ ⟨false, 0, 1, 0⟩ (w3.setCell ⟨w1.heap.size, 1, none⟩ (.int .i64 (v : Int)))) := Lib.hid (HC3.out.set 1 _ (by simp [Cst.cells]))
    have b0 : (w3.setCell ⟨w1.heap.size, 1, none⟩ (.int .i64 (v : Int))).cell? ⟨w2.heap.size, 0, none⟩ = some (.bool false) := HC4.out.k2.cell 0
    have b1 : (w3.setCell ⟨w1.heap.size, 1, none⟩ (.int .i64 (v : Int))).cell? ⟨w2.heap.size, 1, none⟩ = some (.int .i64 0) := HC4.out.k2.cell 1
    have b2 : (w3.setCell ⟨w1.heap.size, 1, none⟩ (.int .i64 (v : Int))).cell? ⟨w2.heap.size, 2, none⟩ = some (.int .i64 1) := HC4.out.k2.cell 2
    have b3 : (w3.setCell ⟨w1.heap.size, 1, none⟩ (.int .i64 (v : Int))).cell? ⟨w2.heap.size, 3, none⟩ = some (.int .i64 0) := HC4.out.k2.cell 3
    have d0 : (w3.setCell ⟨w1.heap.size, 1, none⟩ (.int .i64 (v : Int))).cell? ⟨w1.heap.size, 0, none⟩ = some (.int .i64 (t : Int)) := HC4.out.k1.cell 0
    have d1 : (w3.setCell ⟨w1.heap.size, 1, none⟩ (.int .i64 (v : Int))).cell? ⟨w1.heap.size, 1, none⟩ = some (.int .i64 (v : Int)) := HC4.out.k1.cell 1
    have d2 : (w3.setCell ⟨w1.heap.size, 1, none⟩ (.int .i64 (v : Int))).cell? ⟨w1.heap.size, 2, none⟩ = some (.int .i64 0) := HC4.out.k1.cell 2
    have d3 : (w3.setCell ⟨w1.heap.size, 1, none⟩ (.int .i64 (v : Int))).cell? ⟨w1.heap.size, 3, none⟩ = some (.int .i64 0) := HC4.out.k1.cell 3
    have d4 : (w3.setCell ⟨w1.heap.size, 1, none⟩ (.int .i64 (v : Int))).cell? ⟨w1.heap.size, 4, none⟩ = some (.string ⟨#[]⟩) := HC4.out.k1.cell 4
    have r0 : (w3.setCell ⟨w1.heap.size, 1, none⟩ (.int .i64 (v : Int))).cell? ⟨w.heap.size, 0, none⟩ = some (.int .i64 0) := HC4.out.k0.cell 0
    have rf0 := HC4.out.k0.frozen 0
    have r1 : (w3.setCell ⟨w1.heap.size, 1, none⟩ (.int .i64 (v : Int))).cell? ⟨w.heap.size, 1, none⟩ = some (.int .i64 0) := HC4.out.k0.cell 1
    have rf1 := HC4.out.k0.frozen 1
    have r2 : (w3.setCell ⟨w1.heap.size, 1, none⟩ (.int .i64 (v : Int))).cell? ⟨w.heap.size, 2, none⟩ = some (.int .i64 0) := HC4.out.k0.cell 2
    have rf2 := HC4.out.k0.frozen 2
    have r3 : (w3.setCell ⟨w1.heap.size, 1, none⟩ (.int .i64 (v : Int))).cell? ⟨w.heap.size, 3, none⟩ = some (.int .i64 0) := HC4.out.k0.cell 3
    have rf3 := HC4.out.k0.frozen 3
    have r4 : (w3.setCell ⟨w1.heap.size, 1, none⟩ (.int .i64 (v : Int))).cell? ⟨w.heap.size, 4, none⟩ = some (.string ⟨#[]⟩) := HC4.out.k0.cell 4
    have rf4 := HC4.out.k0.frozen 4
    have rl := HC4.out.k0.lt
    go_wp2
    refine bodyPost_ret (v := .agg #[.int .i64 (t : Int), .int .i64 (v : Int), .int .i64 0, .int .i64 0, .string ⟨#[]⟩]) (by simp [results, Try.results38, go_sem, r0, r1, r2, r3, r4]) rfl ⟨by rw [HE.out]; rfl, ?_⟩
    have hfin := HC4.out.fin (.int .i64 (t : Int)) (.int .i64 (v : Int)) (.int .i64 0) (.int .i64 0) (.string ⟨#[]⟩)
    rw [HE.out]
    exact hfin
  · have HE : Hid (constR bs s = (⟨t, 0, 0, 0, []⟩, s0.refuse 8)) := Lib.hid (by rw [Hcon.out]; simp [hf, noFrm, optR])
    rw [hf] at CF
    have CF := Lib.hid CF
    simp only [Frm.v] at CF
    clear hf
    go_enter Try.func38, Try.ntmps38
    go_wp2_with fail
    refine (C0.out _ (HR.out.only ((Only.refl _ _).alloc _))).mono ?_
    rintro e w1 ⟨rfl, hR1, hO1⟩
    have HR1 := Lib.hid hR1
    have HO1 := Lib.hid hO1
    clear hR1 hO1
    go_wp2_with fail
    refine (CF.out _).mono ?_
    rintro e w2 ⟨rfl, hb2⟩
    have HC := Lib.hid (RdC.start HR.out HR1.out HO1.out hb2 ⟨false, 0, 0, 0⟩)
    clear hb2
    go_wp2_with fail
    refine (CR.out _ _ _ HC.out.rd).mono ?_
    rintro e w3 ⟨rfl, hR3, hO3⟩
    have HC3 := Lib.hid (HC.out.next hR3 hO3)
    clear hR3 hO3
    have b0 : w3.cell? ⟨w2.heap.size, 0, none⟩ = some (.bool false) := HC3.out.k2.cell 0
    have b1 : w3.cell? ⟨w2.heap.size, 1, none⟩ = some (.int .i64 0) := HC3.out.k2.cell 1
    have b2 : w3.cell? ⟨w2.heap.size, 2, none⟩ = some (.int .i64 0) := HC3.out.k2.cell 2
    have b3 : w3.cell? ⟨w2.heap.size, 3, none⟩ = some (.int .i64 0) := HC3.out.k2.cell 3
    have d0 : w3.cell? ⟨w1.heap.size, 0, none⟩ = some (.int .i64 (t : Int)) := HC3.out.k1.cell 0
    have d1 : w3.cell? ⟨w1.heap.size, 1, none⟩ = some (.int .i64 0) := HC3.out.k1.cell 1
    have d2 : w3.cell? ⟨w1.heap.size, 2, none⟩ = some (.int .i64 0) := HC3.out.k1.cell 2
    have d3 : w3.cell? ⟨w1.heap.size, 3, none⟩ = some (.int .i64 0) := HC3.out.k1.cell 3
    have d4 : w3.cell? ⟨w1.heap.size, 4, none⟩ = some (.string ⟨#[]⟩) := HC3.out.k1.cell 4
    have r0 : w3.cell? ⟨w.heap.size, 0, none⟩ = some (.int .i64 0) := HC3.out.k0.cell 0
    have rf0 := HC3.out.k0.frozen 0
    have r1 : w3.cell? ⟨w.heap.size, 1, none⟩ = some (.int .i64 0) := HC3.out.k0.cell 1
    have rf1 := HC3.out.k0.frozen 1
    have r2 : w3.cell? ⟨w.heap.size, 2, none⟩ = some (.int .i64 0) := HC3.out.k0.cell 2
    have rf2 := HC3.out.k0.frozen 2
    have r3 : w3.cell? ⟨w.heap.size, 3, none⟩ = some (.int .i64 0) := HC3.out.k0.cell 3
    have rf3 := HC3.out.k0.frozen 3
    have r4 : w3.cell? ⟨w.heap.size, 4, none⟩ = some (.string ⟨#[]⟩) := HC3.out.k0.cell 4
    have rf4 := HC3.out.k0.frozen 4
    have rl := HC3.out.k0.lt
    go_wp2
    refine bodyPost_ret (v := .agg #[.int .i64 (t : Int), .int .i64 0, .int .i64 0, .int .i64 0, .string ⟨#[]⟩]) (by simp [results, Try.results38, go_sem, r0, r1, r2, r3, r4]) rfl ⟨by rw [HE.out]; rfl, ?_⟩
    have hfin := HC3.out.fin (.int .i64 (t : Int)) (.int .i64 0) (.int .i64 0) (.int .i64 0) (.string ⟨#[]⟩)
    rw [HE.out]
    exact hfin

end Go.Proofs.Ytinkjeifkjfkgaa
