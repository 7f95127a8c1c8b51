/- The walks over slices.Clone at texts, flow.MapAt; printed by gen/gen_ok.py. -/
import Derived.Test.YtkcjgcogoicffaaDoorOh
import Derived.Test.YtkcjgcogoicffaaDoorRk
import Derived.Lib.SliceRun
namespace Go.Proofs.YtkcjgcogoicffaaDoor
set_option maxRecDepth 100000
open Go.RowKit

theorem rowS_of_sl {w : World} {Z : Nat → Prop} {A : Option Addr} {n c : Nat} {l : List Bs} (h : RowSl svC 1 w Z A n c l) (hA : A = none → n = 0 ∧ c = 0) : RowS strT w Z A n c l := by
  obtain ⟨h1, h2, h3, h4⟩ := h
  refine ⟨h1, h2, h3, hA, fun h0 => ?_⟩
  obtain ⟨b, o, e, hb, hs, hc⟩ := h4 h0
  refine ⟨b, o, e, hb, hs, fun i x hx => ⟨[.string (strB x)], fun j v hv => ?_, rfl⟩⟩
  obtain rfl : j = 0 := by
    have := (List.getElem?_eq_some_iff.1 hv).1
    simp at this
    omega
  have := hc i x hx 0 (by decide)
  rw [Nat.mul_one] at this
  have h5 : (strT.k) = 1 := rfl
  rw [h5, Nat.mul_one, this]
  exact hv
theorem cloneS_any (A : Option Addr) (n c : Nat) (l : List Bs) (w : World) (h : RowS strT w Empty A n c l) (hn : n ≤ 1000000) :
    Calls Tryd.prog 21 #[.slice A n c] w fun e w' => (∃ A' c', e = .returned (.slice A' n c') ∧ RowS strT w' (fun q => q < w.heap.size) A' n c' l) ∧ Below w.heap.size w w' := by
  rcases A with _ | ad
  · obtain ⟨rfl, rfl⟩ := h.2.2.2.1 rfl
    have hE := Lib.run_eql_slice_nil (P := Tryd.prog) w 36 9 none 0 0 0 0 Tryd.underlying36
    have H := Lib.hid h
    clear h
    go_enter Tryd.func21, Tryd.ntmps21
    go_wp2
    go_ret
    exact ⟨⟨none, 0, rfl, by have h1 := H.out.1; have : l = [] := List.eq_nil_of_length_eq_zero h1; subst this; exact rowS_nil _ _ _⟩, Below.refl _ _⟩
  · have hE := Lib.run_eql_slice_nil (P := Tryd.prog) w 36 9 (some ad) n c 0 0 Tryd.underlying36
    have H := Lib.hid h
    have hal : Below w.heap.size w (w.alloc (.cells #[] 9)) := (Below.refl _ _).alloc (Nat.le_refl _) _
    have hG5 : GotR svC 1 9 w.heap.size (w.alloc (.cells #[] 9)) (some ⟨w.heap.size, 0, none⟩) 0 0 ([] : List Bs) := by
      have own := World.ownsRow_lit (base := w.heap.size) (e := 9) (size := 1) w #[] 0 (Nat.le_refl _) (by decide) rfl
      obtain ⟨A, cp, he, hG⟩ := GotR.of_own (cells := svC) (l := ([] : List Bs)) svC_len own rfl
      cases he
      exact hG
    have HG5 := Lib.hid hG5
    have HAL := Lib.hid hal
    have HSL := Lib.hid (sl_of_rowS (h.below hal))
    clear h hG5 hal
    go_enter Tryd.func21, Tryd.ntmps21
    go_wp2_with (at_builtin; refine wpList_append_sv rfl _ _ rfl w.heap.size (some ⟨w.heap.size, 0, none⟩) 0 0 [] rfl HG5.out (some ad) n c l rfl HSL.out (fun h => by cases h) (by omega) HAL.out.size ?_; intro A6 c6 w6 hG6 hg6 hr6; have HE : Hid (RowS strT w6 (fun q => q < w.heap.size) A6 (0 + n) c6 l ∧ Below w.heap.size w w6) := Lib.hid ⟨rowS_of_sl (by have := hG6.out (S := fun q => q < w.heap.size) (fun i h1 _ h2 => by omega); rwa [List.nil_append] at this) hG6.isNil, below_gotR HAL.out HAL.out.size hg6 hr6 (Nat.le_refl _)⟩; clear hG6 hg6 hr6)
    go_ret
    rw [Nat.zero_add] at HE
    exact ⟨⟨A6, c6, rfl, HE.out.1⟩, HE.out.2⟩

theorem flMapAt1_any (x : MpD) (A1 : Option Addr) (n1 q1 : Nat) (A2 : Option Addr) (n2 q2 : Nat) (g : Nat) (a : Int) (w : World) (hg : w.cell? ⟨g, 0, none⟩ = some (.int .i64 a)) :
    Calls Tryd.prog 20 #[.agg #[.int .i64 x.at_, .slice A1 n1 q1, .slice A2 n2 q2], .pointer (some ⟨g, 0, none⟩)] w fun e w' => e = .returned (.bool (x.at_ == a)) ∧ Below w.heap.size w w' := by
  have hgl := cell_lt hg
  go_enter Tryd.func20, Tryd.ntmps20
  go_wp2
  go_ret
  exact ⟨rfl, (Below.refl _ _).alloc (Nat.le_refl _) _⟩

/-- What MapAt answers. -/
def MapD (r : Option MpD) (a : Int) (e : Ending) (w' : World) : Prop := match r with
  | none => e = .returned (.tuple #[.agg #[.int .i64 0, .slice none 0 0, .slice none 0 0], .bool false])
  | some x => ∃ A1 n1 c1 A2 n2 c2, e = .returned (.tuple #[.agg #[.int .i64 a, .slice A1 n1 c1, .slice A2 n2 c2], .bool true]) ∧ RowS strT w' Empty A1 n1 c1 x.locals ∧ RowS strT w' Empty A2 n2 c2 x.stack
set_option maxHeartbeats 4000000 in
theorem flMapAt_any (m : MeD) (Ac : Option Addr) (nc cc : Nat) (At : Option Addr) (nt ct : Nat) (Ap : Option Addr) (np cp : Nat) (a : Int) (w : World) (h : MeAt w m Ac nc cc At nt ct Ap np cp) (hT : Spans w) (hs : ∀ p ∈ m.maps, p.locals.length ≤ 1000000 ∧ p.stack.length ≤ 1000000) :
    Calls Tryd.prog 9 #[.agg #[.bool m.static, .string (strB m.name), .string (strB m.desc), .int .i64 m.stack, .int .i64 m.locals, .slice Ac nc cc, .slice At nt ct, .slice Ap np cp], .int .i64 a] w fun e w' => MapD (mapAtF m a) a e w' ∧ Below w.heap.size w w' := by
  obtain ⟨hco, htr, hma⟩ := h
  obtain ⟨W1, hW1⟩ : ∃ W1, w.alloc (.cells #[.bool m.static, .string (strB m.name), .string (strB m.desc), .int .i64 m.stack, .int .i64 m.locals, .slice Ac nc cc, .slice At nt ct, .slice Ap np cp] 26) = W1 := ⟨_, rfl⟩
  have hbb : Below w.heap.size w W1 := by rw [← hW1]; exact (Below.refl _ _).alloc (Nat.le_refl _) _
  have k0 : Blk W1 w.heap.size 26 #[.bool m.static, .string (strB m.name), .string (strB m.desc), .int .i64 m.stack, .int .i64 m.locals, .slice Ac nc cc, .slice At nt ct, .slice Ap np cp] := by rw [← hW1]; exact Blk.new w _ _
  have hsz : w.heap.size < W1.heap.size := k0.lt
  have K1 : Hid (∀ W : World, Below W1.heap.size W1 W → W.cell? ⟨w.heap.size, 0, none⟩ = some (.bool m.static) ∧ W.cell? ⟨w.heap.size, 1, none⟩ = some (.string (strB m.name)) ∧ W.cell? ⟨w.heap.size, 2, none⟩ = some (.string (strB m.desc)) ∧ W.cell? ⟨w.heap.size, 3, none⟩ = some (.int .i64 m.stack) ∧ W.cell? ⟨w.heap.size, 4, none⟩ = some (.int .i64 m.locals) ∧ W.cell? ⟨w.heap.size, 5, none⟩ = some (.slice Ac nc cc) ∧ W.cell? ⟨w.heap.size, 6, none⟩ = some (.slice At nt ct) ∧ W.cell? ⟨w.heap.size, 7, none⟩ = some (.slice Ap np cp)) := Lib.hid (fun W h => ⟨(k0.of (h.block _ hsz)).cell 0, (k0.of (h.block _ hsz)).cell 1, (k0.of (h.block _ hsz)).cell 2, (k0.of (h.block _ hsz)).cell 3, (k0.of (h.block _ hsz)).cell 4, (k0.of (h.block _ hsz)).cell 5, (k0.of (h.block _ hsz)).cell 6, (k0.of (h.block _ hsz)).cell 7⟩)
  have HCO := Lib.hid (hco.below hbb)
  have HTR := Lib.hid (htr.below hbb)
  have HMA := Lib.hid (hma.below hbb)
  have HT := Lib.hid (hT.below hbb)
  have HBB := Lib.hid hbb
  have HW1 := Lib.hid hW1
  have hnc := hco.2.1
  have hcc := hco.2.2.1
  have hnt := htr.2.1
  have hct := htr.2.2.1
  have hnp := hma.2.1
  have hcp := hma.2.2.1
  unfold maxLen at hcc hct hcp
  have HLC := Lib.hid hco.1
  have HS := Lib.hid hs
  have HMS := Lib.hid hma.1
  have hs1 : W1.heap.size = w.heap.size + 1 := by rw [← hW1]; simp
  obtain ⟨W2, hW2⟩ : ∃ W2, (W1.alloc (.cells #[.int .i64 a] 3)).alloc (.cells #[.int .i64 0, .slice none 0 0, .slice none 0 0] 38) = W2 := ⟨_, rfl⟩
  have hb2 : Below W1.heap.size W1 W2 := by rw [← hW2]; exact ((Below.refl _ _).alloc (Nat.le_refl _) _).alloc (by simp) _
  have k1 : Blk W2 (w.heap.size + 1) 3 #[.int .i64 a] := by rw [← hW2, ← hs1]; exact (Blk.new W1 _ _).alloc _
  have k2 : Blk W2 (w.heap.size + 1 + 1) 38 #[.int .i64 0, .slice none 0 0, .slice none 0 0] := by
    have := Blk.new (W1.alloc (.cells #[.int .i64 a] 3)) 38 #[.int .i64 0, .slice none 0 0, .slice none 0 0]
    rw [← hW2]
    rwa [show (W1.alloc (.cells #[.int .i64 a] 3)).heap.size = w.heap.size + 1 + 1 by simp [hs1]] at this
  have K2 : Hid (∀ W : World, Below W2.heap.size W2 W → W.cell? ⟨w.heap.size + 1, 0, none⟩ = some (.int .i64 a)) := Lib.hid (fun W q => (k1.of (q.block _ k1.lt)).cell 0)
  have HK2 := Lib.hid k2
  have CI : Hid (Calls Tryd.prog 19 #[.slice Ap np cp, .func (.func 20) #[] #[.pointer (some ⟨w.heap.size + 1, 0, none⟩)]] W2 fun e w' => e = .returned (.int .i64 (firstX (fun x => x.at_ == a) m.maps)) ∧ Below W2.heap.size W2 w') := Lib.hid (
    indexMp_any 20 ⟨w.heap.size + 1, 0, none⟩ (fun x => x.at_ == a) Ap np cp m.maps W2 (HMA.out.below hb2) (enters_of Tryd.func20 (by kernel_rfl) rfl) (fun x _ W' A1 n1 q1 A2 n2 q2 q' _ => flMapAt1_any x A1 n1 q1 A2 n2 q2 (w.heap.size + 1) a W' (K2.out W' q')))
  have HW2 := Lib.hid hW2
  have HB2 := Lib.hid hb2
  obtain ⟨p0, p1, p2, p3, p4, p5, p6, p7⟩ := K1.out _ (Below.refl _ _)
  obtain ⟨r0, r1, r2, r3, r4, r5, r6, r7⟩ := K1.out _ hb2
  have hgl2 : w.heap.size + 1 + 1 < W2.heap.size := k2.lt
  have HFX := Lib.hid (firstX_find (fun (x : MpD) => x.at_ == a) m.maps)
  have HMF : Hid (mapAtF m a = m.maps.find? (fun x => x.at_ == a)) := Lib.hid rfl
  clear hco htr hma hT hbb k0 hW1 hW2 hb2 k1 k2 hs1 hs
  go_enter Tryd.func9, Tryd.ntmps9
  go_wp2_with fail
  rw [HW1.out, HW2.out]
  refine CI.out.mono ?_
  rintro e w3 ⟨rfl, hb⟩
  have HB3 := Lib.hid (HB2.out.trans (hb.mono HB2.out.size))
  obtain ⟨q0, q1, q2, q3, q4, q5, q6, q7⟩ := K1.out _ HB3.out
  have HK3 := Lib.hid (HK2.out.of (hb.block _ HK2.out.lt))
  have HHK := K2.out _ hb
  have z0 : w3.cell? ⟨w.heap.size + 1 + 1, 0, none⟩ = some (.int .i64 0) := HK3.out.cell 0
  have z1 : w3.cell? ⟨w.heap.size + 1 + 1, 1, none⟩ = some (.slice none 0 0) := HK3.out.cell 1
  have z2 : w3.cell? ⟨w.heap.size + 1 + 1, 2, none⟩ = some (.slice none 0 0) := HK3.out.cell 2
  have y0 := HK3.out.frozen 0
  have y1 := HK3.out.frozen 1
  have y2 := HK3.out.frozen 2
  have HB23 := Lib.hid hb
  have HBW3 := Lib.hid (HBB.out.trans (HB3.out.mono HBB.out.size))
  have hgl3 : w.heap.size + 1 + 1 < w3.heap.size := HK3.out.lt
  clear p0 p1 p2 p3 p4 p5 p6 p7 r0 r1 r2 r3 r4 r5 r6 r7 CI hb
  rcases HFX.out with ⟨hf, hfind⟩ | ⟨k, x, hf, hx, hfind, hkl⟩
  · rw [hf]
    have HD : Hid (mapAtF m a = none) := Lib.hid (by rw [HMF.out, hfind])
    clear hf hfind
    go_wp2_with fail
    obtain ⟨W6, hW6⟩ : ∃ W6, (((w3.setCell ⟨w.heap.size + 1 + 1, 0, none⟩ (.int .i64 0)).setCell ⟨w.heap.size + 1 + 1, 1, none⟩ (.slice none 0 0)).setCell ⟨w.heap.size + 1 + 1, 2, none⟩ (.slice none 0 0)) = W6 := ⟨_, rfl⟩
    have kb2 : Blk W6 (w.heap.size + 1 + 1) 38 #[.int .i64 0, .slice none 0 0, .slice none 0 0] := by rw [← hW6]; exact ((HK3.out.set_ 0 _).set_ 1 _).set_ 2 _
    have hB6 : Below w.heap.size w W6 := by rw [← hW6]; exact ((HBW3.out.setCell (p := ⟨w.heap.size + 1 + 1, 0, none⟩) (by simp; omega) _).setCell (p := ⟨w.heap.size + 1 + 1, 1, none⟩) (by simp; omega) _).setCell (p := ⟨w.heap.size + 1 + 1, 2, none⟩) (by simp; omega) _
    rw [hW6]
    have e0 : W6.cell? ⟨w.heap.size + 1 + 1, 0, none⟩ = some (.int .i64 0) := kb2.cell 0
    have e1 : W6.cell? ⟨w.heap.size + 1 + 1, 1, none⟩ = some (.slice none 0 0) := kb2.cell 1
    have e2 : W6.cell? ⟨w.heap.size + 1 + 1, 2, none⟩ = some (.slice none 0 0) := kb2.cell 2
    clear hW6 kb2
    refine bodyPost_ret (v := .tuple #[.agg #[.int .i64 0, .slice none 0 0, .slice none 0 0], .bool false]) (by simp [results, Tryd.f9, go_sem, e0, e1, e2]) rfl ⟨?_, hB6⟩
    unfold MapD
    rw [HD.out]
  · rw [hf]
    rw [HMS.out] at hkl
    have HD : Hid (mapAtF m a = some x) := Lib.hid (by rw [HMF.out, hfind])
    obtain ⟨b, o, x', A1, n1, c1, A2, n2, c2, rfl, hb, hx', d0, d1, d2, hR1, hR2⟩ := mpRow_at (HMA.out.below HB3.out) hkl
    obtain rfl : x = x' := Option.some.inj (hx.symm.trans hx')
    have hxm := HS.out x (List.mem_of_getElem? hx)
    have hn1 : n1 ≤ 1000000 := by rw [← hR1.1]; exact hxm.1
    have hn2 : n2 ≤ 1000000 := by rw [← hR2.1]; exact hxm.2
    have hax : x.at_ = a := by
      have := List.find?_some hfind
      simpa using this
    rw [hax] at d0
    have hal : Below w3.heap.size w3 (w3.alloc (.cells #[.int .i64 a, .slice A1 n1 c1, .slice A2 n2 c2] 38)) := (Below.refl _ _).alloc (Nat.le_refl _) _
    have kx := Blk.new w3 38 #[.int .i64 a, .slice A1 n1 c1, .slice A2 n2 c2]
    have kr := HK3.out.alloc (.cells #[.int .i64 a, .slice A1 n1 c1, .slice A2 n2 c2] 38)
    obtain ⟨W5, hW5⟩ : ∃ W5, w3.alloc (.cells #[.int .i64 a, .slice A1 n1 c1, .slice A2 n2 c2] 38) = W5 := ⟨_, rfl⟩
    rw [hW5] at hal kx kr
    have hb25 : Below W2.heap.size W2 W5 := by
      have h1 : Below W2.heap.size W2 w3 := HB23.out
      exact h1.trans (hal.mono h1.size)
    have KS : ∀ W, Below W5.heap.size W5 W → W.cell? ⟨w.heap.size + 1, 0, none⟩ = some (.int .i64 a) ∧ W.cell? ⟨w3.heap.size, 1, none⟩ = some (.slice A1 n1 c1) ∧ W.cell? ⟨w3.heap.size, 2, none⟩ = some (.slice A2 n2 c2) := fun W q => ⟨K2.out W (hb25.trans (q.mono hb25.size)), (kx.of (q.block _ kx.lt)).cell 1, (kx.of (q.block _ kx.lt)).cell 2⟩
    have hS5 := KS W5 (Below.refl _ _)
    have hdr : Below W5.heap.size W5 W5.drew := ((Only.refl Empty W5).drew).below (Nat.le_refl _) (fun _ _ h => h)
    have C1 := Lib.hid (cloneS_any A1 n1 c1 x.locals W5.drew ((hR1.below hal).below hdr) hn1)
    have C2 := Lib.hid (fun (W : World) (q : Below W5.heap.size W5 W) => cloneS_any A2 n2 c2 x.stack W ((hR2.below hal).below q) hn2)
    have HKS := Lib.hid KS
    have HW5 := Lib.hid hW5
    have HBW5 := Lib.hid (HBW3.out.trans (hal.mono HBW3.out.size))
    have HKR := Lib.hid kr
    have HDR := Lib.hid hdr
    obtain ⟨g7, hg7⟩ : ∃ g7, w3.heap.size = g7 := ⟨_, rfl⟩
    have HG7 := Lib.hid hg7
    rw [hg7] at hS5
    clear hf hfind hx hx' hal kx kr hW5 hb25 KS hdr hg7 hxm
    subst hax
    go_wp2_with fail
    rw [HW5.out, HG7.out]
    refine wp_region_held_drew (S := fun W => W.cell? ⟨w.heap.size + 1, 0, none⟩ = some (.int .i64 x.at_) ∧ W.cell? ⟨g7, 1, none⟩ = some (.slice A1 n1 c1) ∧ W.cell? ⟨g7, 2, none⟩ = some (.slice A2 n2 c2)) (by kernel_rfl) hS5 (fun hHeld0 => ?_)
    refine take_yes 0 20 ?_ rfl rfl (by kernel_rfl) (by kernel_rfl) (by kernel_rfl) (fun _ _ _ h => h) (by kernel_rfl) ?_ (by assumption) ?_; rotate_left; (focus (intro w hSw; (try dsimp only at hSw); go_simp; all_goals first | with_reducible rfl)); simp only [Act.put, List.setIfInBounds_toArray, List.set_cons_zero, List.set_cons_succ]
    refine take_yes 1 21 ?_ rfl rfl (by kernel_rfl) (by kernel_rfl) (by kernel_rfl) (fun _ _ _ h => h) (by kernel_rfl) ?_ (by assumption) ?_; rotate_left; (focus (intro w hSw; (try dsimp only at hSw); go_simp; all_goals first | with_reducible rfl)); simp only [Act.put, List.setIfInBounds_toArray, List.set_cons_zero, List.set_cons_succ]
    refine take_yes 2 22 ?_ rfl rfl (by kernel_rfl) (by kernel_rfl) (by kernel_rfl) (fun _ _ _ h => h) (by kernel_rfl) ?_ (by assumption) ?_; rotate_left; (focus (intro w hSw; (try dsimp only at hSw); go_simp; all_goals first | with_reducible rfl)); simp only [Act.put, List.setIfInBounds_toArray, List.set_cons_zero, List.set_cons_succ]
    refine take_yes 4 24 ?_ rfl rfl (by kernel_rfl) (by kernel_rfl) (by kernel_rfl) (fun _ _ _ h => h) (by kernel_rfl) ?_ (by assumption) ?_; rotate_left; (focus (intro w hSw; (try dsimp only at hSw); go_simp; all_goals first | with_reducible rfl)); simp only [Act.put, List.setIfInBounds_toArray, List.set_cons_zero, List.set_cons_succ]
    refine take_yes 5 25 ?_ rfl rfl (by kernel_rfl) (by kernel_rfl) (by kernel_rfl) (fun _ _ _ h => h) (by kernel_rfl) ?_ (by assumption) ?_; rotate_left; (focus (intro w hSw; (try dsimp only at hSw); go_simp; all_goals first | with_reducible rfl)); simp only [Act.put, List.setIfInBounds_toArray, List.set_cons_zero, List.set_cons_succ]
    refine wpAnyH_ready (rs := [3]) (by kernel_rfl) (by simp) ?_
    refine AllReadyH.cons rfl (fun K hK => ?_) AllReadyH.nil
    go_simp
    go_at_call 21; (with_reducible refine C1.out.mono ?_); rintro e6 w6 ⟨⟨B1, b1, rfl, hQ1⟩, hb6⟩
    have hB6 : Below W5.heap.size W5 w6 := HDR.out.trans (hb6.mono HDR.out.size)
    have hS6 := HKS.out w6 hB6
    rw [HG7.out] at hS6
    have HB6 := Lib.hid hB6
    have HQ1 := Lib.hid (hQ1.mono (Z' := fun q => q < W5.heap.size) (fun i _ h => Nat.lt_of_lt_of_le h HDR.out.size))
    clear hb6 hB6 hQ1
    go_wp2_with fail
    refine hK.out _ _ (hS6) (fun _ => ?_)
    clear hK K
    try simp only [Act.put, List.setIfInBounds_toArray, List.set_cons_zero, List.set_cons_succ]
    refine wpAnyH_ready (rs := [6]) (by kernel_rfl) (by simp) ?_
    refine AllReadyH.cons rfl (fun K hK => ?_) AllReadyH.nil
    go_simp
    go_at_call 21; (with_reducible refine (C2.out _ HB6.out).mono ?_); rintro e7 w7 ⟨⟨B2, b2, rfl, hQ2⟩, hb7⟩
    have hB7 : Below W5.heap.size W5 w7 := HB6.out.trans (hb7.mono HB6.out.size)
    have hS7 := HKS.out w7 hB7
    rw [HG7.out] at hS7
    have HB7 := Lib.hid hB7
    have HQ3 := Lib.hid (HQ1.out.next (Z' := fun q => q < W5.heap.size) (Only.of_below hb7) (fun _ _ h => h))
    have HQ2 := Lib.hid (hQ2.mono (Z' := fun q => q < W5.heap.size) (fun i _ h => Nat.lt_of_lt_of_le h HB6.out.size))
    have kr7 := HKR.out.of (hB7.block _ HKR.out.lt)
    have y0 : w7.cell? ⟨w.heap.size + 1 + 1, 0, none⟩ = some (.int .i64 0) := kr7.cell 0
    have y1 : w7.cell? ⟨w.heap.size + 1 + 1, 1, none⟩ = some (.slice none 0 0) := kr7.cell 1
    have y2 : w7.cell? ⟨w.heap.size + 1 + 1, 2, none⟩ = some (.slice none 0 0) := kr7.cell 2
    have z0 := kr7.frozen 0
    have z1 := kr7.frozen 1
    have z2 := kr7.frozen 2
    have HKR7 := Lib.hid kr7
    clear hb7 hB7 hQ2 kr7
    go_wp2_with fail
    refine hK.out _ _ (hS7) (fun _ => ?_)
    clear hK K
    try simp only [Act.put, List.setIfInBounds_toArray, List.set_cons_zero, List.set_cons_succ]
    refine take_yes 7 27 ?_ rfl rfl (by kernel_rfl) (by kernel_rfl) (by kernel_rfl) (fun _ _ _ h => h) (by kernel_rfl) ?_ (by assumption) ?_; rotate_left; (focus (intro w hSw; (try dsimp only at hSw); go_simp; all_goals first | with_reducible rfl)); simp only [Act.put, List.setIfInBounds_toArray, List.set_cons_zero, List.set_cons_succ]
    refine wpAnyH_ready (rs := [8]) (by kernel_rfl) (by simp) ?_
    refine AllReadyH.cons rfl (fun K hK => ?_) AllReadyH.nil
    go_simp
    obtain ⟨W8, hW8⟩ : ∃ W8, (((w7.setCell ⟨w.heap.size + 1 + 1, 0, none⟩ (.int .i64 x.at_)).setCell ⟨w.heap.size + 1 + 1, 1, none⟩ (.slice B1 n1 b1)).setCell ⟨w.heap.size + 1 + 1, 2, none⟩ (.slice B2 n2 b2)) = W8 := ⟨_, rfl⟩
    have ho : Only (· = w.heap.size + 1 + 1) w7 W8 := by
      rw [← hW8]
      exact (((Only.refl (· = w.heap.size + 1 + 1) w7).setCell (p := ⟨w.heap.size + 1 + 1, 0, none⟩) (Or.inl rfl) _).setCell (p := ⟨w.heap.size + 1 + 1, 1, none⟩) (Or.inl rfl) _).setCell (p := ⟨w.heap.size + 1 + 1, 2, none⟩) (Or.inl rfl) _
    have hk8 : Blk W8 (w.heap.size + 1 + 1) 38 #[.int .i64 x.at_, .slice B1 n1 b1, .slice B2 n2 b2] := by
      rw [← hW8]
      exact ((HKR7.out.set_ 0 _).set_ 1 _).set_ 2 _
    have hg72 : w.heap.size + 1 + 1 < g7 := by rw [← HG7.out]; exact HK3.out.lt
    have hS8 : W8.cell? ⟨w.heap.size + 1, 0, none⟩ = some (.int .i64 x.at_) ∧ W8.cell? ⟨g7, 1, none⟩ = some (.slice A1 n1 c1) ∧ W8.cell? ⟨g7, 2, none⟩ = some (.slice A2 n2 c2) :=
      ⟨(ho.cell (p := ⟨w.heap.size + 1, 0, none⟩) (cell_lt hS7.1) (by simp)).trans hS7.1, (ho.cell (p := ⟨g7, 1, none⟩) (cell_lt hS7.2.1) (by simp; omega)).trans hS7.2.1, (ho.cell (p := ⟨g7, 2, none⟩) (cell_lt hS7.2.2) (by simp; omega)).trans hS7.2.2⟩
    have hB78 : Below w.heap.size w W8 := (HBW5.out.trans (HB7.out.mono HBW5.out.size)).trans (ho.below (B := w.heap.size) (by have := HBW5.out.size; have := HB7.out.size; omega) (fun k h1 h2 => by omega))
    have hE1 : Hid (RowS strT W8 Empty B1 n1 b1 x.locals ∧ RowS strT W8 Empty B2 n2 b2 x.stack ∧ Below w.heap.size w W8) := Lib.hid ⟨(HQ3.out.next (Z' := Empty) (ho.mono (fun i _ e => by have := HKR.out.lt; omega)) (fun _ _ h => h.elim)), (HQ2.out.next (Z' := Empty) (ho.mono (fun i _ e => by have := HKR.out.lt; omega)) (fun _ _ h => h.elim)), hB78⟩
    have e0 : W8.cell? ⟨w.heap.size + 1 + 1, 0, none⟩ = some (.int .i64 x.at_) := hk8.cell 0
    have e1 : W8.cell? ⟨w.heap.size + 1 + 1, 1, none⟩ = some (.slice B1 n1 b1) := hk8.cell 1
    have e2 : W8.cell? ⟨w.heap.size + 1 + 1, 2, none⟩ = some (.slice B2 n2 b2) := hk8.cell 2
    rw [hW8]
    clear hW8 ho hk8 hB78 y0 y1 y2 z0 z1 z2 hg72
    refine hK.out _ _ (hS8) (fun _ => ?_)
    clear hK K
    try simp only [Act.put, List.setIfInBounds_toArray, List.set_cons_zero, List.set_cons_succ]
    refine take_yes 9 5 (.bool true) rfl rfl (by kernel_rfl) (by kernel_rfl) (by kernel_rfl) (fun _ _ _ h => h) (by kernel_rfl) ?_ (by assumption) ?_; (focus (intro w hSw; (try dsimp only at hSw); go_simp; all_goals first | with_reducible rfl)); simp only [Act.put, List.setIfInBounds_toArray, List.set_cons_zero, List.set_cons_succ]
    refine wpAnyH_done (by kernel_rfl) ?_ _
    clear hS5 hS6 hS7 hS8 hHeld0
    go_wp2
    refine bodyPost_ret (v := .tuple #[.agg #[.int .i64 x.at_, .slice B1 n1 b1, .slice B2 n2 b2], .bool true]) (by simp [results, Tryd.f9, go_sem, e0, e1, e2]) rfl ⟨?_, hE1.out.2.2⟩
    unfold MapD
    rw [HD.out]
    exact ⟨_, _, _, _, _, _, rfl, hE1.out.1, hE1.out.2.1⟩

end Go.Proofs.YtkcjgcogoicffaaDoor
