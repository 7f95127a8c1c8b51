/- The walk over a pool's writer.constant. -/
import Derived.Test.YtinkjeifkjfkgaaVj
namespace Go.Proofs.Ytinkjeifkjfkgaa
set_option maxRecDepth 100000
open Go.RowKit

/-- A constant's bytes. -/
def constB (c : Cst) : List UInt8 := putL (bits64 c.tag) 1 ++ (if (formF c.tag).text = true then putL c.s.length 2 ++ c.s else []) ++ (if (formF c.tag).num ≠ 0 then putL (bits64 c.n) (formF c.tag).num.toNat else []) ++
  (if (formF c.tag).a ≠ 0 then putL (bits64 c.a) 2 else []) ++ (if (formF c.tag).b ≠ 0 then putL (bits64 c.b) 2 else [])

/-- What a walk over constant stands on. -/
structure WrC (w : World) (g base q : Nat) (c : Cst) (f : Frm) (m : Nat) (zs : List UInt8) (W : World) : Prop where
  wr : Wr W g base m zs
  kc : Blk W w.heap.size 41 c.cells.toArray
  kf : Blk W q 59 #[.bool f.text, .int .i64 f.num, .int .i64 f.a, .int .i64 f.b]
  wo : WO g base w W
theorem EW_const : ¬ EW 41 := by unfold EW; decide
theorem EW_form : ¬ EW 59 := by unfold EW; decide
theorem WrC.next {w W W' : World} {g base q m m' : Nat} {c : Cst} {f : Frm} {zs zs' : List UInt8} (h : WrC w g base q c f m zs W) (hW : Wr W' g base m' zs') (k : WO g base W W') : WrC w g base q c f m' zs' W' :=
  ⟨hW, k.keep _ _ _ h.kc EW_const, k.keep _ _ _ h.kf EW_form, h.wo.trans k⟩

theorem WrC.start {w w1 : World} {g base m : Nat} {c : Cst} {zs : List UInt8} (h : Wr w g base m zs) (hb : Below (w.alloc (.cells c.cells.toArray 41)).heap.size (w.alloc (.cells c.cells.toArray 41)) w1) (f : Frm) :
    WrC w g base w1.heap.size c f m zs (w1.alloc (.cells #[.bool f.text, .int .i64 f.num, .int .i64 f.a, .int .i64 f.b] 59)) := by
  obtain ⟨B, c', hA⟩ := h
  have h1 : Only Empty w (w1.alloc (.cells #[.bool f.text, .int .i64 f.num, .int .i64 f.a, .int .i64 f.b] 59)) := (((Only.refl Empty w).alloc _).trans (Only.of_below hb)).alloc _
  refine ⟨⟨B, c', hA.only h1⟩, ((Blk.new w 41 c.cells.toArray).of (hb.block _ (by simp))).alloc _, Blk.new _ _ _, WO.of_empty h1⟩

set_option maxHeartbeats 4000000 in
theorem wrConstant_any (g base m : Nat) (c : Cst) (zs : List UInt8) (w : World) (hW : Wr w g base m zs) (hm : m + c.s.length ≤ 7000000) (hg : g < w.heap.size) :
    Calls Try.prog 21 #[.pointer (some ⟨g, 0, none⟩), c.v] w fun e w' => e = .returned (.tuple #[]) ∧ Wr w' g base (m + (constB c).length) (zs ++ constB c) ∧ WO g base w w' := by
  obtain ⟨l, hl⟩ : ∃ l, c.s.length = l := ⟨_, rfl⟩
  rw [hl] at hm
  have HW := Lib.hid hW
  have CF : ∀ W, Calls Try.prog 31 #[.int .i64 c.tag] W fun e w' => e = .returned (formF c.tag).v ∧ Below W.heap.size W w' := fun W => formOf_any c.tag W
  have HUt := u64_wrap c.tag
  have HUn := u64_wrap c.n
  have HUa := u64_wrap c.a
  have HUb := u64_wrap c.b
  have hsz : (strB c.s).size = l := by rw [strB_size, hl]
  have HUl : IntKind.u64.wrap (l : Int) = (l : Int) := by rw [IntKind.wrap_u64]; omega
  have CN : Hid (∀ (m v n : Nat) (zs : List UInt8) (W : World), Wr W g base m zs → v ≤ 18446744073709551615 → 1 ≤ n → n ≤ 8 → m ≤ 8000000 → Calls Try.prog 20 #[.pointer (some ⟨g, 0, none⟩), .int .u64 (v : Int), .int .i64 (n : Int)] W fun e w' => e = .returned (.tuple #[]) ∧ Wr w' g base (m + n) (zs ++ putL v n) ∧ WO g base W w') :=
    Lib.hid (fun m v n zs W h h0 h1 h2 h3 => wrNumber_any g base m v n zs W h h0 h1 h2 h3)
  have HU := Lib.hid u64_le
  rcases form_ways c.tag with hf | hf | hf | hf | hf | hf | hf
  · have HE : Hid (constB c = putL (bits64 c.tag) 1 ++ putL l 2 ++ c.s) := Lib.hid (by unfold constB; rw [hf]; simp [hl])
    have HL : Hid ((constB c).length = 1 + 2 + l) := Lib.hid (by rw [HE.out]; simp [putL_len, hl]; omega)
    rw [hf] at CF
    have CF := Lib.hid CF
    simp only [Frm.v] at CF
    clear hf hW
    have Hl := Lib.hid hl
    clear hl
    simp only [Cst.v]
    go_enter Try.func21, Try.ntmps21
    go_wp2_with fail
    refine (CF.out _).mono ?_
    rintro e w1 ⟨rfl, hb1⟩
    have HC1 := Lib.hid (WrC.start HW.out hb1 ⟨true, 0, 0, 0⟩)
    clear hb1
    have a0_1 : (w1.alloc (.cells #[.bool true, .int .i64 0, .int .i64 0, .int .i64 0] 59)).cell? ⟨w.heap.size, 0, none⟩ = some (.int .i64 c.tag) := HC1.out.kc.cell 0
    have a1_1 : (w1.alloc (.cells #[.bool true, .int .i64 0, .int .i64 0, .int .i64 0] 59)).cell? ⟨w.heap.size, 1, none⟩ = some (.int .i64 c.a) := HC1.out.kc.cell 1
    have a2_1 : (w1.alloc (.cells #[.bool true, .int .i64 0, .int .i64 0, .int .i64 0] 59)).cell? ⟨w.heap.size, 2, none⟩ = some (.int .i64 c.b) := HC1.out.kc.cell 2
    have a3_1 : (w1.alloc (.cells #[.bool true, .int .i64 0, .int .i64 0, .int .i64 0] 59)).cell? ⟨w.heap.size, 3, none⟩ = some (.int .i64 c.n) := HC1.out.kc.cell 3
    have a4_1 : (w1.alloc (.cells #[.bool true, .int .i64 0, .int .i64 0, .int .i64 0] 59)).cell? ⟨w.heap.size, 4, none⟩ = some (.string (strB c.s)) := HC1.out.kc.cell 4
    go_wp2_with fail
    refine (CN.out (m) (bits64 c.tag) 1 (zs) _ HC1.out.wr (HU.out _) (by omega) (by omega) (by omega)).mono ?_
    rintro e w2 ⟨rfl, hw2, ho2⟩
    have HC2 := Lib.hid (HC1.out.next hw2 ho2)
    clear hw2 ho2 a0_1 a1_1 a2_1 a3_1 a4_1
    have a0_2 : w2.cell? ⟨w.heap.size, 0, none⟩ = some (.int .i64 c.tag) := HC2.out.kc.cell 0
    have a1_2 : w2.cell? ⟨w.heap.size, 1, none⟩ = some (.int .i64 c.a) := HC2.out.kc.cell 1
    have a2_2 : w2.cell? ⟨w.heap.size, 2, none⟩ = some (.int .i64 c.b) := HC2.out.kc.cell 2
    have a3_2 : w2.cell? ⟨w.heap.size, 3, none⟩ = some (.int .i64 c.n) := HC2.out.kc.cell 3
    have a4_2 : w2.cell? ⟨w.heap.size, 4, none⟩ = some (.string (strB c.s)) := HC2.out.kc.cell 4
    have b0_2 : w2.cell? ⟨w1.heap.size, 0, none⟩ = some (.bool true) := HC2.out.kf.cell 0
    have b1_2 : w2.cell? ⟨w1.heap.size, 1, none⟩ = some (.int .i64 0) := HC2.out.kf.cell 1
    have b2_2 : w2.cell? ⟨w1.heap.size, 2, none⟩ = some (.int .i64 0) := HC2.out.kf.cell 2
    have b3_2 : w2.cell? ⟨w1.heap.size, 3, none⟩ = some (.int .i64 0) := HC2.out.kf.cell 3
    go_wp2_with fail
    refine (CN.out (m + 1) (l) 2 (zs ++ putL (bits64 c.tag) 1) _ HC2.out.wr (by omega) (by omega) (by omega) (by omega)).mono ?_
    rintro e w3 ⟨rfl, hw3, ho3⟩
    have HC3 := Lib.hid (HC2.out.next hw3 ho3)
    clear hw3 ho3 a0_2 a1_2 a2_2 a3_2 a4_2 b0_2 b1_2 b2_2 b3_2
    have a0_3 : w3.cell? ⟨w.heap.size, 0, none⟩ = some (.int .i64 c.tag) := HC3.out.kc.cell 0
    have a1_3 : w3.cell? ⟨w.heap.size, 1, none⟩ = some (.int .i64 c.a) := HC3.out.kc.cell 1
    have a2_3 : w3.cell? ⟨w.heap.size, 2, none⟩ = some (.int .i64 c.b) := HC3.out.kc.cell 2
    have a3_3 : w3.cell? ⟨w.heap.size, 3, none⟩ = some (.int .i64 c.n) := HC3.out.kc.cell 3
    have a4_3 : w3.cell? ⟨w.heap.size, 4, none⟩ = some (.string (strB c.s)) := HC3.out.kc.cell 4
    have b0_3 : w3.cell? ⟨w1.heap.size, 0, none⟩ = some (.bool true) := HC3.out.kf.cell 0
    have b1_3 : w3.cell? ⟨w1.heap.size, 1, none⟩ = some (.int .i64 0) := HC3.out.kf.cell 1
    have b2_3 : w3.cell? ⟨w1.heap.size, 2, none⟩ = some (.int .i64 0) := HC3.out.kf.cell 2
    have b3_3 : w3.cell? ⟨w1.heap.size, 3, none⟩ = some (.int .i64 0) := HC3.out.kf.cell 3
    obtain ⟨B, cp, hA⟩ := HC3.out.wr
    have HA := Lib.hid hA
    have hc0 : w3.cell? ⟨g, 0, none⟩ = some (.slice B (m + 1 + 2) cp) := hA.blk.cell 0
    clear hA
    go_wp2_with fail
    refine wp_region_held_drew (S := fun W => W.cell? ⟨w.heap.size, 4, none⟩ = some (.string (strB c.s))) (by kernel_rfl) a4_3 (fun hHeld0 => ?_)
    refine take_yes 0 21 ?_ rfl rfl (by kernel_rfl) (by kernel_rfl) (by kernel_rfl) (fun _ _ _ h => h) (by kernel_rfl) ?_ (by assumption) ?_; rotate_left; (focus (intro w hSw; (try dsimp only at hSw); go_simp; all_goals first | with_reducible rfl)); simp only [Act.put, List.setIfInBounds_toArray, List.set_cons_zero, List.set_cons_succ]
    refine take_yes 1 22 ?_ rfl rfl (by kernel_rfl) (by kernel_rfl) (by kernel_rfl) (fun _ _ _ h => h) (by kernel_rfl) ?_ (by assumption) ?_; rotate_left; (focus (intro w hSw; (try dsimp only at hSw); go_simp; all_goals first | with_reducible rfl)); simp only [Act.put, List.setIfInBounds_toArray, List.set_cons_zero, List.set_cons_succ]
    refine take_yes 2 23 ?_ rfl rfl (by kernel_rfl) (by kernel_rfl) (by kernel_rfl) (fun _ _ _ h => h) (by kernel_rfl) ?_ (by assumption) ?_; rotate_left; (focus (intro w hSw; (try dsimp only at hSw); go_simp; all_goals first | with_reducible rfl)); simp only [Act.put, List.setIfInBounds_toArray, List.set_cons_zero, List.set_cons_succ]
    refine take_yes 3 24 ?_ rfl rfl (by kernel_rfl) (by kernel_rfl) (by kernel_rfl) (fun _ _ _ h => h) (by kernel_rfl) ?_ (by assumption) ?_; rotate_left; (focus (intro w hSw; (try dsimp only at hSw); go_simp; all_goals first | with_reducible rfl)); simp only [Act.put, List.setIfInBounds_toArray, List.set_cons_zero, List.set_cons_succ]
    refine take_yes 5 26 ?_ rfl rfl (by kernel_rfl) (by kernel_rfl) (by kernel_rfl) (fun _ _ _ h => h) (by kernel_rfl) ?_ (by assumption) ?_; rotate_left; (focus (intro w hSw; (try dsimp only at hSw); go_simp; all_goals first | with_reducible rfl)); simp only [Act.put, List.setIfInBounds_toArray, List.set_cons_zero, List.set_cons_succ]
    refine take_yes 6 27 ?_ rfl rfl (by kernel_rfl) (by kernel_rfl) (by kernel_rfl) (fun _ _ _ h => h) (by kernel_rfl) ?_ (by assumption) ?_; rotate_left; (focus (intro w hSw; (try dsimp only at hSw); go_simp; all_goals first | with_reducible rfl)); simp only [Act.put, List.setIfInBounds_toArray, List.set_cons_zero, List.set_cons_succ]
    refine wpAnyH_ready (rs := [4]) (by kernel_rfl) (by simp) ?_
    refine AllReadyH.cons rfl (fun K hK => ?_) AllReadyH.nil
    go_simp
    refine hK.out _ _ (a4_3) (fun _ => ?_)
    clear hK K
    try simp only [Act.put, List.setIfInBounds_toArray, List.set_cons_zero, List.set_cons_succ]
    refine wpAnyH_ready (rs := [7]) (by kernel_rfl) (by simp) ?_
    refine AllReadyH.cons rfl (fun K hK => ?_) AllReadyH.nil
    refine step_append_str rfl (.tmp 25) (.tmp 27) rfl base (.slice B (m + 1 + 2) cp) rfl (m + 1 + 2) (zs ++ putL (bits64 c.tag) 1 ++ putL l 2) (own_only HA.out.own (Only.refl Empty _).drew (fun _ _ _ h => h)) (strB c.s) rfl (by rw [hsz]; omega) HA.out.le ?_
    intro v' w2' hown hgr _
    rw [hsz] at hown
    have hE0 : (strB c.s).data.toList = c.s := rfl
    rw [hE0] at hown
    obtain ⟨B', c', rfl, -⟩ := ByteSl.of_own (S := Empty) hown (fun _ _ _ h => h)
    obtain ⟨hA3, hblk2, hWO, hK2⟩ := (HA.out.only ((Only.refl Empty _).drew)).set hgr hown
    have HC9 := Lib.hid ((HC3.out.next ⟨B, cp, HA.out.only (Only.refl Empty _).drew⟩ (WO.of_empty (Only.refl _ _).drew)).next ⟨B', c', hA3⟩ hWO)
    have hg0 := hblk2.cell 0
    have hgf := hblk2.frozen 0
    have hgl2 := hblk2.lt
    have a4_8 : w2'.cell? ⟨w.heap.size, 4, none⟩ = some (.string (strB c.s)) := (hK2 _ _ _ (Keep.of_empty (E := EW) (Only.refl Empty _).drew _ _ _ HC3.out.kc EW_const) EW_const).cell 4
    have a4_9 := HC9.out.kc.cell 4
    clear hA3 hblk2 hWO hown hgr
    refine hK.out _ _ (a4_8) (fun _ => ?_)
    clear hK K
    try simp only [Act.put, List.setIfInBounds_toArray, List.set_cons_zero, List.set_cons_succ]
    refine take_yes 8 29 ?_ rfl rfl (by kernel_rfl) (by kernel_rfl) (by kernel_rfl) (fun _ _ _ h => h) (by kernel_rfl) ?_ (by assumption) ?_; rotate_left; (focus (intro w hSw; (try dsimp only at hSw); go_simp; all_goals first | with_reducible rfl)); simp only [Act.put, List.setIfInBounds_toArray, List.set_cons_zero, List.set_cons_succ]
    refine take_yes 9 30 ?_ rfl rfl (by kernel_rfl) (by kernel_rfl) (by kernel_rfl) (fun _ _ _ h => h) (by kernel_rfl) ?_ (by assumption) ?_; rotate_left; (focus (intro w hSw; (try dsimp only at hSw); go_simp; all_goals first | with_reducible rfl)); simp only [Act.put, List.setIfInBounds_toArray, List.set_cons_zero, List.set_cons_succ]
    refine wpAnyH_ready (rs := [10]) (by kernel_rfl) (by simp) ?_
    refine AllReadyH.cons rfl (fun K hK => ?_) AllReadyH.nil
    go_simp
    refine hK.out _ _ (a4_9) (fun _ => ?_)
    clear hK K
    try simp only [Act.put, List.setIfInBounds_toArray, List.set_cons_zero, List.set_cons_succ]
    refine wpAnyH_done (by kernel_rfl) ?_ _
    obtain ⟨w9, hw9⟩ : ∃ w9, w9 = w2'.setCell ⟨g, 0, none⟩ (.slice B' (m + 1 + 2 + l) c') := ⟨_, rfl⟩
    rw [← hw9] at HC9 ⊢
    have b1_9 : w9.cell? ⟨w1.heap.size, 1, none⟩ = some (.int .i64 0) := HC9.out.kf.cell 1
    have b2_9 : w9.cell? ⟨w1.heap.size, 2, none⟩ = some (.int .i64 0) := HC9.out.kf.cell 2
    have b3_9 : w9.cell? ⟨w1.heap.size, 3, none⟩ = some (.int .i64 0) := HC9.out.kf.cell 3
    clear hw9 a4_9 a4_8 hg0 hgf hgl2
    go_wp2
    go_end0
    exact ⟨rfl, by rw [HL.out, HE.out]; have := HC9.out.wr; simpa only [List.append_assoc, Nat.add_assoc] using this, HC9.out.wo⟩
  · have HE : Hid (constB c = putL (bits64 c.tag) 1 ++ putL (bits64 c.n) 8) := Lib.hid (by unfold constB; rw [hf]; simp [hl])
    have HL : Hid ((constB c).length = 1 + 8) := Lib.hid (by rw [HE.out]; simp [putL_len, hl])
    rw [hf] at CF
    have CF := Lib.hid CF
    simp only [Frm.v] at CF
    clear hf hW
    have Hl := Lib.hid hl
    clear hl
    simp only [Cst.v]
    go_enter Try.func21, Try.ntmps21
    go_wp2_with fail
    refine (CF.out _).mono ?_
    rintro e w1 ⟨rfl, hb1⟩
    have HC1 := Lib.hid (WrC.start HW.out hb1 ⟨false, 8, 0, 0⟩)
    clear hb1
    have a0_1 : (w1.alloc (.cells #[.bool false, .int .i64 8, .int .i64 0, .int .i64 0] 59)).cell? ⟨w.heap.size, 0, none⟩ = some (.int .i64 c.tag) := HC1.out.kc.cell 0
    have a1_1 : (w1.alloc (.cells #[.bool false, .int .i64 8, .int .i64 0, .int .i64 0] 59)).cell? ⟨w.heap.size, 1, none⟩ = some (.int .i64 c.a) := HC1.out.kc.cell 1
    have a2_1 : (w1.alloc (.cells #[.bool false, .int .i64 8, .int .i64 0, .int .i64 0] 59)).cell? ⟨w.heap.size, 2, none⟩ = some (.int .i64 c.b) := HC1.out.kc.cell 2
    have a3_1 : (w1.alloc (.cells #[.bool false, .int .i64 8, .int .i64 0, .int .i64 0] 59)).cell? ⟨w.heap.size, 3, none⟩ = some (.int .i64 c.n) := HC1.out.kc.cell 3
    have a4_1 : (w1.alloc (.cells #[.bool false, .int .i64 8, .int .i64 0, .int .i64 0] 59)).cell? ⟨w.heap.size, 4, none⟩ = some (.string (strB c.s)) := HC1.out.kc.cell 4
    go_wp2_with fail
    refine (CN.out (m) (bits64 c.tag) 1 (zs) _ HC1.out.wr (HU.out _) (by omega) (by omega) (by omega)).mono ?_
    rintro e w2 ⟨rfl, hw2, ho2⟩
    have HC2 := Lib.hid (HC1.out.next hw2 ho2)
    clear hw2 ho2 a0_1 a1_1 a2_1 a3_1 a4_1
    have a0_2 : w2.cell? ⟨w.heap.size, 0, none⟩ = some (.int .i64 c.tag) := HC2.out.kc.cell 0
    have a1_2 : w2.cell? ⟨w.heap.size, 1, none⟩ = some (.int .i64 c.a) := HC2.out.kc.cell 1
    have a2_2 : w2.cell? ⟨w.heap.size, 2, none⟩ = some (.int .i64 c.b) := HC2.out.kc.cell 2
    have a3_2 : w2.cell? ⟨w.heap.size, 3, none⟩ = some (.int .i64 c.n) := HC2.out.kc.cell 3
    have a4_2 : w2.cell? ⟨w.heap.size, 4, none⟩ = some (.string (strB c.s)) := HC2.out.kc.cell 4
    have b0_2 : w2.cell? ⟨w1.heap.size, 0, none⟩ = some (.bool false) := HC2.out.kf.cell 0
    have b1_2 : w2.cell? ⟨w1.heap.size, 1, none⟩ = some (.int .i64 8) := HC2.out.kf.cell 1
    have b2_2 : w2.cell? ⟨w1.heap.size, 2, none⟩ = some (.int .i64 0) := HC2.out.kf.cell 2
    have b3_2 : w2.cell? ⟨w1.heap.size, 3, none⟩ = some (.int .i64 0) := HC2.out.kf.cell 3
    go_wp2_with fail
    refine (CN.out (m + 1) (bits64 c.n) 8 (zs ++ putL (bits64 c.tag) 1) _ HC2.out.wr (HU.out _) (by omega) (by omega) (by omega)).mono ?_
    rintro e w3 ⟨rfl, hw3, ho3⟩
    have HC3 := Lib.hid (HC2.out.next hw3 ho3)
    clear hw3 ho3 a0_2 a1_2 a2_2 a3_2 a4_2 b0_2 b1_2 b2_2 b3_2
    have a0_3 : w3.cell? ⟨w.heap.size, 0, none⟩ = some (.int .i64 c.tag) := HC3.out.kc.cell 0
    have a1_3 : w3.cell? ⟨w.heap.size, 1, none⟩ = some (.int .i64 c.a) := HC3.out.kc.cell 1
    have a2_3 : w3.cell? ⟨w.heap.size, 2, none⟩ = some (.int .i64 c.b) := HC3.out.kc.cell 2
    have a3_3 : w3.cell? ⟨w.heap.size, 3, none⟩ = some (.int .i64 c.n) := HC3.out.kc.cell 3
    have a4_3 : w3.cell? ⟨w.heap.size, 4, none⟩ = some (.string (strB c.s)) := HC3.out.kc.cell 4
    have b0_3 : w3.cell? ⟨w1.heap.size, 0, none⟩ = some (.bool false) := HC3.out.kf.cell 0
    have b1_3 : w3.cell? ⟨w1.heap.size, 1, none⟩ = some (.int .i64 8) := HC3.out.kf.cell 1
    have b2_3 : w3.cell? ⟨w1.heap.size, 2, none⟩ = some (.int .i64 0) := HC3.out.kf.cell 2
    have b3_3 : w3.cell? ⟨w1.heap.size, 3, none⟩ = some (.int .i64 0) := HC3.out.kf.cell 3
    go_wp2
    go_end0
    exact ⟨rfl, by rw [HL.out, HE.out]; have := HC3.out.wr; simpa only [List.append_assoc, Nat.add_assoc] using this, HC3.out.wo⟩
  · have HE : Hid (constB c = putL (bits64 c.tag) 1 ++ putL (bits64 c.n) 4) := Lib.hid (by unfold constB; rw [hf]; simp [hl])
    have HL : Hid ((constB c).length = 1 + 4) := Lib.hid (by rw [HE.out]; simp [putL_len, hl])
    rw [hf] at CF
    have CF := Lib.hid CF
    simp only [Frm.v] at CF
    clear hf hW
    have Hl := Lib.hid hl
    clear hl
    simp only [Cst.v]
    go_enter Try.func21, Try.ntmps21
    go_wp2_with fail
    refine (CF.out _).mono ?_
    rintro e w1 ⟨rfl, hb1⟩
    have HC1 := Lib.hid (WrC.start HW.out hb1 ⟨false, 4, 0, 0⟩)
    clear hb1
    have a0_1 : (w1.alloc (.cells #[.bool false, .int .i64 4, .int .i64 0, .int .i64 0] 59)).cell? ⟨w.heap.size, 0, none⟩ = some (.int .i64 c.tag) := HC1.out.kc.cell 0
    have a1_1 : (w1.alloc (.cells #[.bool false, .int .i64 4, .int .i64 0, .int .i64 0] 59)).cell? ⟨w.heap.size, 1, none⟩ = some (.int .i64 c.a) := HC1.out.kc.cell 1
    have a2_1 : (w1.alloc (.cells #[.bool false, .int .i64 4, .int .i64 0, .int .i64 0] 59)).cell? ⟨w.heap.size, 2, none⟩ = some (.int .i64 c.b) := HC1.out.kc.cell 2
    have a3_1 : (w1.alloc (.cells #[.bool false, .int .i64 4, .int .i64 0, .int .i64 0] 59)).cell? ⟨w.heap.size, 3, none⟩ = some (.int .i64 c.n) := HC1.out.kc.cell 3
    have a4_1 : (w1.alloc (.cells #[.bool false, .int .i64 4, .int .i64 0, .int .i64 0] 59)).cell? ⟨w.heap.size, 4, none⟩ = some (.string (strB c.s)) := HC1.out.kc.cell 4
    go_wp2_with fail
    refine (CN.out (m) (bits64 c.tag) 1 (zs) _ HC1.out.wr (HU.out _) (by omega) (by omega) (by omega)).mono ?_
    rintro e w2 ⟨rfl, hw2, ho2⟩
    have HC2 := Lib.hid (HC1.out.next hw2 ho2)
    clear hw2 ho2 a0_1 a1_1 a2_1 a3_1 a4_1
    have a0_2 : w2.cell? ⟨w.heap.size, 0, none⟩ = some (.int .i64 c.tag) := HC2.out.kc.cell 0
    have a1_2 : w2.cell? ⟨w.heap.size, 1, none⟩ = some (.int .i64 c.a) := HC2.out.kc.cell 1
    have a2_2 : w2.cell? ⟨w.heap.size, 2, none⟩ = some (.int .i64 c.b) := HC2.out.kc.cell 2
    have a3_2 : w2.cell? ⟨w.heap.size, 3, none⟩ = some (.int .i64 c.n) := HC2.out.kc.cell 3
    have a4_2 : w2.cell? ⟨w.heap.size, 4, none⟩ = some (.string (strB c.s)) := HC2.out.kc.cell 4
    have b0_2 : w2.cell? ⟨w1.heap.size, 0, none⟩ = some (.bool false) := HC2.out.kf.cell 0
    have b1_2 : w2.cell? ⟨w1.heap.size, 1, none⟩ = some (.int .i64 4) := HC2.out.kf.cell 1
    have b2_2 : w2.cell? ⟨w1.heap.size, 2, none⟩ = some (.int .i64 0) := HC2.out.kf.cell 2
    have b3_2 : w2.cell? ⟨w1.heap.size, 3, none⟩ = some (.int .i64 0) := HC2.out.kf.cell 3
    go_wp2_with fail
    refine (CN.out (m + 1) (bits64 c.n) 4 (zs ++ putL (bits64 c.tag) 1) _ HC2.out.wr (HU.out _) (by omega) (by omega) (by omega)).mono ?_
    rintro e w3 ⟨rfl, hw3, ho3⟩
    have HC3 := Lib.hid (HC2.out.next hw3 ho3)
    clear hw3 ho3 a0_2 a1_2 a2_2 a3_2 a4_2 b0_2 b1_2 b2_2 b3_2
    have a0_3 : w3.cell? ⟨w.heap.size, 0, none⟩ = some (.int .i64 c.tag) := HC3.out.kc.cell 0
    have a1_3 : w3.cell? ⟨w.heap.size, 1, none⟩ = some (.int .i64 c.a) := HC3.out.kc.cell 1
    have a2_3 : w3.cell? ⟨w.heap.size, 2, none⟩ = some (.int .i64 c.b) := HC3.out.kc.cell 2
    have a3_3 : w3.cell? ⟨w.heap.size, 3, none⟩ = some (.int .i64 c.n) := HC3.out.kc.cell 3
    have a4_3 : w3.cell? ⟨w.heap.size, 4, none⟩ = some (.string (strB c.s)) := HC3.out.kc.cell 4
    have b0_3 : w3.cell? ⟨w1.heap.size, 0, none⟩ = some (.bool false) := HC3.out.kf.cell 0
    have b1_3 : w3.cell? ⟨w1.heap.size, 1, none⟩ = some (.int .i64 4) := HC3.out.kf.cell 1
    have b2_3 : w3.cell? ⟨w1.heap.size, 2, none⟩ = some (.int .i64 0) := HC3.out.kf.cell 2
    have b3_3 : w3.cell? ⟨w1.heap.size, 3, none⟩ = some (.int .i64 0) := HC3.out.kf.cell 3
    go_wp2
    go_end0
    exact ⟨rfl, by rw [HL.out, HE.out]; have := HC3.out.wr; simpa only [List.append_assoc, Nat.add_assoc] using this, HC3.out.wo⟩
  · have HE : Hid (constB c = putL (bits64 c.tag) 1 ++ putL (bits64 c.a) 2 ++ putL (bits64 c.b) 2) := Lib.hid (by unfold constB; rw [hf]; simp [hl])
    have HL : Hid ((constB c).length = 1 + 2 + 2) := Lib.hid (by rw [HE.out]; simp [putL_len, hl])
    rw [hf] at CF
    have CF := Lib.hid CF
    simp only [Frm.v] at CF
    clear hf hW
    have Hl := Lib.hid hl
    clear hl
    simp only [Cst.v]
    go_enter Try.func21, Try.ntmps21
    go_wp2_with fail
    refine (CF.out _).mono ?_
    rintro e w1 ⟨rfl, hb1⟩
    have HC1 := Lib.hid (WrC.start HW.out hb1 ⟨false, 0, 7, 12⟩)
    clear hb1
    have a0_1 : (w1.alloc (.cells #[.bool false, .int .i64 0, .int .i64 7, .int .i64 12] 59)).cell? ⟨w.heap.size, 0, none⟩ = some (.int .i64 c.tag) := HC1.out.kc.cell 0
    have a1_1 : (w1.alloc (.cells #[.bool false, .int .i64 0, .int .i64 7, .int .i64 12] 59)).cell? ⟨w.heap.size, 1, none⟩ = some (.int .i64 c.a) := HC1.out.kc.cell 1
    have a2_1 : (w1.alloc (.cells #[.bool false, .int .i64 0, .int .i64 7, .int .i64 12] 59)).cell? ⟨w.heap.size, 2, none⟩ = some (.int .i64 c.b) := HC1.out.kc.cell 2
    have a3_1 : (w1.alloc (.cells #[.bool false, .int .i64 0, .int .i64 7, .int .i64 12] 59)).cell? ⟨w.heap.size, 3, none⟩ = some (.int .i64 c.n) := HC1.out.kc.cell 3
    have a4_1 : (w1.alloc (.cells #[.bool false, .int .i64 0, .int .i64 7, .int .i64 12] 59)).cell? ⟨w.heap.size, 4, none⟩ = some (.string (strB c.s)) := HC1.out.kc.cell 4
    go_wp2_with fail
    refine (CN.out (m) (bits64 c.tag) 1 (zs) _ HC1.out.wr (HU.out _) (by omega) (by omega) (by omega)).mono ?_
    rintro e w2 ⟨rfl, hw2, ho2⟩
    have HC2 := Lib.hid (HC1.out.next hw2 ho2)
    clear hw2 ho2 a0_1 a1_1 a2_1 a3_1 a4_1
    have a0_2 : w2.cell? ⟨w.heap.size, 0, none⟩ = some (.int .i64 c.tag) := HC2.out.kc.cell 0
    have a1_2 : w2.cell? ⟨w.heap.size, 1, none⟩ = some (.int .i64 c.a) := HC2.out.kc.cell 1
    have a2_2 : w2.cell? ⟨w.heap.size, 2, none⟩ = some (.int .i64 c.b) := HC2.out.kc.cell 2
    have a3_2 : w2.cell? ⟨w.heap.size, 3, none⟩ = some (.int .i64 c.n) := HC2.out.kc.cell 3
    have a4_2 : w2.cell? ⟨w.heap.size, 4, none⟩ = some (.string (strB c.s)) := HC2.out.kc.cell 4
    have b0_2 : w2.cell? ⟨w1.heap.size, 0, none⟩ = some (.bool false) := HC2.out.kf.cell 0
    have b1_2 : w2.cell? ⟨w1.heap.size, 1, none⟩ = some (.int .i64 0) := HC2.out.kf.cell 1
    have b2_2 : w2.cell? ⟨w1.heap.size, 2, none⟩ = some (.int .i64 7) := HC2.out.kf.cell 2
    have b3_2 : w2.cell? ⟨w1.heap.size, 3, none⟩ = some (.int .i64 12) := HC2.out.kf.cell 3
    go_wp2_with fail
    refine (CN.out (m + 1) (bits64 c.a) 2 (zs ++ putL (bits64 c.tag) 1) _ HC2.out.wr (HU.out _) (by omega) (by omega) (by omega)).mono ?_
    rintro e w3 ⟨rfl, hw3, ho3⟩
    have HC3 := Lib.hid (HC2.out.next hw3 ho3)
    clear hw3 ho3 a0_2 a1_2 a2_2 a3_2 a4_2 b0_2 b1_2 b2_2 b3_2
    have a0_3 : w3.cell? ⟨w.heap.size, 0, none⟩ = some (.int .i64 c.tag) := HC3.out.kc.cell 0
    have a1_3 : w3.cell? ⟨w.heap.size, 1, none⟩ = some (.int .i64 c.a) := HC3.out.kc.cell 1
    have a2_3 : w3.cell? ⟨w.heap.size, 2, none⟩ = some (.int .i64 c.b) := HC3.out.kc.cell 2
    have a3_3 : w3.cell? ⟨w.heap.size, 3, none⟩ = some (.int .i64 c.n) := HC3.out.kc.cell 3
    have a4_3 : w3.cell? ⟨w.heap.size, 4, none⟩ = some (.string (strB c.s)) := HC3.out.kc.cell 4
    have b0_3 : w3.cell? ⟨w1.heap.size, 0, none⟩ = some (.bool false) := HC3.out.kf.cell 0
    have b1_3 : w3.cell? ⟨w1.heap.size, 1, none⟩ = some (.int .i64 0) := HC3.out.kf.cell 1
    have b2_3 : w3.cell? ⟨w1.heap.size, 2, none⟩ = some (.int .i64 7) := HC3.out.kf.cell 2
    have b3_3 : w3.cell? ⟨w1.heap.size, 3, none⟩ = some (.int .i64 12) := HC3.out.kf.cell 3
    go_wp2_with fail
    refine (CN.out (m + 1 + 2) (bits64 c.b) 2 (zs ++ putL (bits64 c.tag) 1 ++ putL (bits64 c.a) 2) _ HC3.out.wr (HU.out _) (by omega) (by omega) (by omega)).mono ?_
    rintro e w4 ⟨rfl, hw4, ho4⟩
    have HC4 := Lib.hid (HC3.out.next hw4 ho4)
    clear hw4 ho4 a0_3 a1_3 a2_3 a3_3 a4_3 b0_3 b1_3 b2_3 b3_3
    have a0_4 : w4.cell? ⟨w.heap.size, 0, none⟩ = some (.int .i64 c.tag) := HC4.out.kc.cell 0
    have a1_4 : w4.cell? ⟨w.heap.size, 1, none⟩ = some (.int .i64 c.a) := HC4.out.kc.cell 1
    have a2_4 : w4.cell? ⟨w.heap.size, 2, none⟩ = some (.int .i64 c.b) := HC4.out.kc.cell 2
    have a3_4 : w4.cell? ⟨w.heap.size, 3, none⟩ = some (.int .i64 c.n) := HC4.out.kc.cell 3
    have a4_4 : w4.cell? ⟨w.heap.size, 4, none⟩ = some (.string (strB c.s)) := HC4.out.kc.cell 4
    have b0_4 : w4.cell? ⟨w1.heap.size, 0, none⟩ = some (.bool false) := HC4.out.kf.cell 0
    have b1_4 : w4.cell? ⟨w1.heap.size, 1, none⟩ = some (.int .i64 0) := HC4.out.kf.cell 1
    have b2_4 : w4.cell? ⟨w1.heap.size, 2, none⟩ = some (.int .i64 7) := HC4.out.kf.cell 2
    have b3_4 : w4.cell? ⟨w1.heap.size, 3, none⟩ = some (.int .i64 12) := HC4.out.kf.cell 3
    go_wp2
    go_end0
    exact ⟨rfl, by rw [HL.out, HE.out]; have := HC4.out.wr; simpa only [List.append_assoc, Nat.add_assoc] using this, HC4.out.wo⟩
  · have HE : Hid (constB c = putL (bits64 c.tag) 1 ++ putL (bits64 c.a) 2 ++ putL (bits64 c.b) 2) := Lib.hid (by unfold constB; rw [hf]; simp [hl])
    have HL : Hid ((constB c).length = 1 + 2 + 2) := Lib.hid (by rw [HE.out]; simp [putL_len, hl])
    rw [hf] at CF
    have CF := Lib.hid CF
    simp only [Frm.v] at CF
    clear hf hW
    have Hl := Lib.hid hl
    clear hl
    simp only [Cst.v]
    go_enter Try.func21, Try.ntmps21
    go_wp2_with fail
    refine (CF.out _).mono ?_
    rintro e w1 ⟨rfl, hb1⟩
    have HC1 := Lib.hid (WrC.start HW.out hb1 ⟨false, 0, 1, 1⟩)
    clear hb1
    have a0_1 : (w1.alloc (.cells #[.bool false, .int .i64 0, .int .i64 1, .int .i64 1] 59)).cell? ⟨w.heap.size, 0, none⟩ = some (.int .i64 c.tag) := HC1.out.kc.cell 0
    have a1_1 : (w1.alloc (.cells #[.bool false, .int .i64 0, .int .i64 1, .int .i64 1] 59)).cell? ⟨w.heap.size, 1, none⟩ = some (.int .i64 c.a) := HC1.out.kc.cell 1
    have a2_1 : (w1.alloc (.cells #[.bool false, .int .i64 0, .int .i64 1, .int .i64 1] 59)).cell? ⟨w.heap.size, 2, none⟩ = some (.int .i64 c.b) := HC1.out.kc.cell 2
    have a3_1 : (w1.alloc (.cells #[.bool false, .int .i64 0, .int .i64 1, .int .i64 1] 59)).cell? ⟨w.heap.size, 3, none⟩ = some (.int .i64 c.n) := HC1.out.kc.cell 3
    have a4_1 : (w1.alloc (.cells #[.bool false, .int .i64 0, .int .i64 1, .int .i64 1] 59)).cell? ⟨w.heap.size, 4, none⟩ = some (.string (strB c.s)) := HC1.out.kc.cell 4
    go_wp2_with fail
    refine (CN.out (m) (bits64 c.tag) 1 (zs) _ HC1.out.wr (HU.out _) (by omega) (by omega) (by omega)).mono ?_
    rintro e w2 ⟨rfl, hw2, ho2⟩
    have HC2 := Lib.hid (HC1.out.next hw2 ho2)
    clear hw2 ho2 a0_1 a1_1 a2_1 a3_1 a4_1
    have a0_2 : w2.cell? ⟨w.heap.size, 0, none⟩ = some (.int .i64 c.tag) := HC2.out.kc.cell 0
    have a1_2 : w2.cell? ⟨w.heap.size, 1, none⟩ = some (.int .i64 c.a) := HC2.out.kc.cell 1
    have a2_2 : w2.cell? ⟨w.heap.size, 2, none⟩ = some (.int .i64 c.b) := HC2.out.kc.cell 2
    have a3_2 : w2.cell? ⟨w.heap.size, 3, none⟩ = some (.int .i64 c.n) := HC2.out.kc.cell 3
    have a4_2 : w2.cell? ⟨w.heap.size, 4, none⟩ = some (.string (strB c.s)) := HC2.out.kc.cell 4
    have b0_2 : w2.cell? ⟨w1.heap.size, 0, none⟩ = some (.bool false) := HC2.out.kf.cell 0
    have b1_2 : w2.cell? ⟨w1.heap.size, 1, none⟩ = some (.int .i64 0) := HC2.out.kf.cell 1
    have b2_2 : w2.cell? ⟨w1.heap.size, 2, none⟩ = some (.int .i64 1) := HC2.out.kf.cell 2
    have b3_2 : w2.cell? ⟨w1.heap.size, 3, none⟩ = some (.int .i64 1) := HC2.out.kf.cell 3
    go_wp2_with fail
    refine (CN.out (m + 1) (bits64 c.a) 2 (zs ++ putL (bits64 c.tag) 1) _ HC2.out.wr (HU.out _) (by omega) (by omega) (by omega)).mono ?_
    rintro e w3 ⟨rfl, hw3, ho3⟩
    have HC3 := Lib.hid (HC2.out.next hw3 ho3)
    clear hw3 ho3 a0_2 a1_2 a2_2 a3_2 a4_2 b0_2 b1_2 b2_2 b3_2
    have a0_3 : w3.cell? ⟨w.heap.size, 0, none⟩ = some (.int .i64 c.tag) := HC3.out.kc.cell 0
    have a1_3 : w3.cell? ⟨w.heap.size, 1, none⟩ = some (.int .i64 c.a) := HC3.out.kc.cell 1
    have a2_3 : w3.cell? ⟨w.heap.size, 2, none⟩ = some (.int .i64 c.b) := HC3.out.kc.cell 2
    have a3_3 : w3.cell? ⟨w.heap.size, 3, none⟩ = some (.int .i64 c.n) := HC3.out.kc.cell 3
    have a4_3 : w3.cell? ⟨w.heap.size, 4, none⟩ = some (.string (strB c.s)) := HC3.out.kc.cell 4
    have b0_3 : w3.cell? ⟨w1.heap.size, 0, none⟩ = some (.bool false) := HC3.out.kf.cell 0
    have b1_3 : w3.cell? ⟨w1.heap.size, 1, none⟩ = some (.int .i64 0) := HC3.out.kf.cell 1
    have b2_3 : w3.cell? ⟨w1.heap.size, 2, none⟩ = some (.int .i64 1) := HC3.out.kf.cell 2
    have b3_3 : w3.cell? ⟨w1.heap.size, 3, none⟩ = some (.int .i64 1) := HC3.out.kf.cell 3
    go_wp2_with fail
    refine (CN.out (m + 1 + 2) (bits64 c.b) 2 (zs ++ putL (bits64 c.tag) 1 ++ putL (bits64 c.a) 2) _ HC3.out.wr (HU.out _) (by omega) (by omega) (by omega)).mono ?_
    rintro e w4 ⟨rfl, hw4, ho4⟩
    have HC4 := Lib.hid (HC3.out.next hw4 ho4)
    clear hw4 ho4 a0_3 a1_3 a2_3 a3_3 a4_3 b0_3 b1_3 b2_3 b3_3
    have a0_4 : w4.cell? ⟨w.heap.size, 0, none⟩ = some (.int .i64 c.tag) := HC4.out.kc.cell 0
    have a1_4 : w4.cell? ⟨w.heap.size, 1, none⟩ = some (.int .i64 c.a) := HC4.out.kc.cell 1
    have a2_4 : w4.cell? ⟨w.heap.size, 2, none⟩ = some (.int .i64 c.b) := HC4.out.kc.cell 2
    have a3_4 : w4.cell? ⟨w.heap.size, 3, none⟩ = some (.int .i64 c.n) := HC4.out.kc.cell 3
    have a4_4 : w4.cell? ⟨w.heap.size, 4, none⟩ = some (.string (strB c.s)) := HC4.out.kc.cell 4
    have b0_4 : w4.cell? ⟨w1.heap.size, 0, none⟩ = some (.bool false) := HC4.out.kf.cell 0
    have b1_4 : w4.cell? ⟨w1.heap.size, 1, none⟩ = some (.int .i64 0) := HC4.out.kf.cell 1
    have b2_4 : w4.cell? ⟨w1.heap.size, 2, none⟩ = some (.int .i64 1) := HC4.out.kf.cell 2
    have b3_4 : w4.cell? ⟨w1.heap.size, 3, none⟩ = some (.int .i64 1) := HC4.out.kf.cell 3
    go_wp2
    go_end0
    exact ⟨rfl, by rw [HL.out, HE.out]; have := HC4.out.wr; simpa only [List.append_assoc, Nat.add_assoc] using this, HC4.out.wo⟩
  · have HE : Hid (constB c = putL (bits64 c.tag) 1 ++ putL (bits64 c.a) 2) := Lib.hid (by unfold constB; rw [hf]; simp [hl])
    have HL : Hid ((constB c).length = 1 + 2) := Lib.hid (by rw [HE.out]; simp [putL_len, hl])
    rw [hf] at CF
    have CF := Lib.hid CF
    simp only [Frm.v] at CF
    clear hf hW
    have Hl := Lib.hid hl
    clear hl
    simp only [Cst.v]
    go_enter Try.func21, Try.ntmps21
    go_wp2_with fail
    refine (CF.out _).mono ?_
    rintro e w1 ⟨rfl, hb1⟩
    have HC1 := Lib.hid (WrC.start HW.out hb1 ⟨false, 0, 1, 0⟩)
    clear hb1
    have a0_1 : (w1.alloc (.cells #[.bool false, .int .i64 0, .int .i64 1, .int .i64 0] 59)).cell? ⟨w.heap.size, 0, none⟩ = some (.int .i64 c.tag) := HC1.out.kc.cell 0
    have a1_1 : (w1.alloc (.cells #[.bool false, .int .i64 0, .int .i64 1, .int .i64 0] 59)).cell? ⟨w.heap.size, 1, none⟩ = some (.int .i64 c.a) := HC1.out.kc.cell 1
    have a2_1 : (w1.alloc (.cells #[.bool false, .int .i64 0, .int .i64 1, .int .i64 0] 59)).cell? ⟨w.heap.size, 2, none⟩ = some (.int .i64 c.b) := HC1.out.kc.cell 2
    have a3_1 : (w1.alloc (.cells #[.bool false, .int .i64 0, .int .i64 1, .int .i64 0] 59)).cell? ⟨w.heap.size, 3, none⟩ = some (.int .i64 c.n) := HC1.out.kc.cell 3
    have a4_1 : (w1.alloc (.cells #[.bool false, .int .i64 0, .int .i64 1, .int .i64 0] 59)).cell? ⟨w.heap.size, 4, none⟩ = some (.string (strB c.s)) := HC1.out.kc.cell 4
    go_wp2_with fail
    refine (CN.out (m) (bits64 c.tag) 1 (zs) _ HC1.out.wr (HU.out _) (by omega) (by omega) (by omega)).mono ?_
    rintro e w2 ⟨rfl, hw2, ho2⟩
    have HC2 := Lib.hid (HC1.out.next hw2 ho2)
    clear hw2 ho2 a0_1 a1_1 a2_1 a3_1 a4_1
    have a0_2 : w2.cell? ⟨w.heap.size, 0, none⟩ = some (.int .i64 c.tag) := HC2.out.kc.cell 0
    have a1_2 : w2.cell? ⟨w.heap.size, 1, none⟩ = some (.int .i64 c.a) := HC2.out.kc.cell 1
    have a2_2 : w2.cell? ⟨w.heap.size, 2, none⟩ = some (.int .i64 c.b) := HC2.out.kc.cell 2
    have a3_2 : w2.cell? ⟨w.heap.size, 3, none⟩ = some (.int .i64 c.n) := HC2.out.kc.cell 3
    have a4_2 : w2.cell? ⟨w.heap.size, 4, none⟩ = some (.string (strB c.s)) := HC2.out.kc.cell 4
    have b0_2 : w2.cell? ⟨w1.heap.size, 0, none⟩ = some (.bool false) := HC2.out.kf.cell 0
    have b1_2 : w2.cell? ⟨w1.heap.size, 1, none⟩ = some (.int .i64 0) := HC2.out.kf.cell 1
    have b2_2 : w2.cell? ⟨w1.heap.size, 2, none⟩ = some (.int .i64 1) := HC2.out.kf.cell 2
    have b3_2 : w2.cell? ⟨w1.heap.size, 3, none⟩ = some (.int .i64 0) := HC2.out.kf.cell 3
    go_wp2_with fail
    refine (CN.out (m + 1) (bits64 c.a) 2 (zs ++ putL (bits64 c.tag) 1) _ HC2.out.wr (HU.out _) (by omega) (by omega) (by omega)).mono ?_
    rintro e w3 ⟨rfl, hw3, ho3⟩
    have HC3 := Lib.hid (HC2.out.next hw3 ho3)
    clear hw3 ho3 a0_2 a1_2 a2_2 a3_2 a4_2 b0_2 b1_2 b2_2 b3_2
    have a0_3 : w3.cell? ⟨w.heap.size, 0, none⟩ = some (.int .i64 c.tag) := HC3.out.kc.cell 0
    have a1_3 : w3.cell? ⟨w.heap.size, 1, none⟩ = some (.int .i64 c.a) := HC3.out.kc.cell 1
    have a2_3 : w3.cell? ⟨w.heap.size, 2, none⟩ = some (.int .i64 c.b) := HC3.out.kc.cell 2
    have a3_3 : w3.cell? ⟨w.heap.size, 3, none⟩ = some (.int .i64 c.n) := HC3.out.kc.cell 3
    have a4_3 : w3.cell? ⟨w.heap.size, 4, none⟩ = some (.string (strB c.s)) := HC3.out.kc.cell 4
    have b0_3 : w3.cell? ⟨w1.heap.size, 0, none⟩ = some (.bool false) := HC3.out.kf.cell 0
    have b1_3 : w3.cell? ⟨w1.heap.size, 1, none⟩ = some (.int .i64 0) := HC3.out.kf.cell 1
    have b2_3 : w3.cell? ⟨w1.heap.size, 2, none⟩ = some (.int .i64 1) := HC3.out.kf.cell 2
    have b3_3 : w3.cell? ⟨w1.heap.size, 3, none⟩ = some (.int .i64 0) := HC3.out.kf.cell 3
    go_wp2
    go_end0
    exact ⟨rfl, by rw [HL.out, HE.out]; have := HC3.out.wr; simpa only [List.append_assoc, Nat.add_assoc] using this, HC3.out.wo⟩
  · have HE : Hid (constB c = putL (bits64 c.tag) 1) := Lib.hid (by unfold constB; rw [hf]; simp [hl])
    have HL : Hid ((constB c).length = 1) := Lib.hid (by rw [HE.out]; simp [putL_len, hl])
    rw [hf] at CF
    have CF := Lib.hid CF
    simp only [Frm.v] at CF
    clear hf hW
    have Hl := Lib.hid hl
    clear hl
    simp only [Cst.v]
    go_enter Try.func21, Try.ntmps21
    go_wp2_with fail
    refine (CF.out _).mono ?_
    rintro e w1 ⟨rfl, hb1⟩
    have HC1 := Lib.hid (WrC.start HW.out hb1 ⟨false, 0, 0, 0⟩)
    clear hb1
    have a0_1 : (w1.alloc (.cells #[.bool false, .int .i64 0, .int .i64 0, .int .i64 0] 59)).cell? ⟨w.heap.size, 0, none⟩ = some (.int .i64 c.tag) := HC1.out.kc.cell 0
    have a1_1 : (w1.alloc (.cells #[.bool false, .int .i64 0, .int .i64 0, .int .i64 0] 59)).cell? ⟨w.heap.size, 1, none⟩ = some (.int .i64 c.a) := HC1.out.kc.cell 1
    have a2_1 : (w1.alloc (.cells #[.bool false, .int .i64 0, .int .i64 0, .int .i64 0] 59)).cell? ⟨w.heap.size, 2, none⟩ = some (.int .i64 c.b) := HC1.out.kc.cell 2
    have a3_1 : (w1.alloc (.cells #[.bool false, .int .i64 0, .int .i64 0, .int .i64 0] 59)).cell? ⟨w.heap.size, 3, none⟩ = some (.int .i64 c.n) := HC1.out.kc.cell 3
    have a4_1 : (w1.alloc (.cells #[.bool false, .int .i64 0, .int .i64 0, .int .i64 0] 59)).cell? ⟨w.heap.size, 4, none⟩ = some (.string (strB c.s)) := HC1.out.kc.cell 4
    go_wp2_with fail
    refine (CN.out (m) (bits64 c.tag) 1 (zs) _ HC1.out.wr (HU.out _) (by omega) (by omega) (by omega)).mono ?_
    rintro e w2 ⟨rfl, hw2, ho2⟩
    have HC2 := Lib.hid (HC1.out.next hw2 ho2)
    clear hw2 ho2 a0_1 a1_1 a2_1 a3_1 a4_1
    have a0_2 : w2.cell? ⟨w.heap.size, 0, none⟩ = some (.int .i64 c.tag) := HC2.out.kc.cell 0
    have a1_2 : w2.cell? ⟨w.heap.size, 1, none⟩ = some (.int .i64 c.a) := HC2.out.kc.cell 1
    have a2_2 : w2.cell? ⟨w.heap.size, 2, none⟩ = some (.int .i64 c.b) := HC2.out.kc.cell 2
    have a3_2 : w2.cell? ⟨w.heap.size, 3, none⟩ = some (.int .i64 c.n) := HC2.out.kc.cell 3
    have a4_2 : w2.cell? ⟨w.heap.size, 4, none⟩ = some (.string (strB c.s)) := HC2.out.kc.cell 4
    have b0_2 : w2.cell? ⟨w1.heap.size, 0, none⟩ = some (.bool false) := HC2.out.kf.cell 0
    have b1_2 : w2.cell? ⟨w1.heap.size, 1, none⟩ = some (.int .i64 0) := HC2.out.kf.cell 1
    have b2_2 : w2.cell? ⟨w1.heap.size, 2, none⟩ = some (.int .i64 0) := HC2.out.kf.cell 2
    have b3_2 : w2.cell? ⟨w1.heap.size, 3, none⟩ = some (.int .i64 0) := HC2.out.kf.cell 3
    go_wp2
    go_end0
    exact ⟨rfl, by rw [HL.out, HE.out]; have := HC2.out.wr; simpa only [List.append_assoc, Nat.add_assoc] using this, HC2.out.wo⟩

end Go.Proofs.Ytinkjeifkjfkgaa
