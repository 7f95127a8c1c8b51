/- Law 18: its fixed calls, its few; a method that comes in as an argument; printed by gen/gen_ol.py. -/
import Derived.Test.YtdkkpcbebhgbiaaGreatDoorZax
import Derived.Test.YtdkkpcbebhgbiaaGreatDoorZav
import Derived.Test.YtdkkpcbebhgbiaaGreatDoorZas
import Derived.Test.YtdkkpcbebhgbiaaGreatDoorZal
namespace Go.Proofs.YtdkkpcbebhgbiaaGreatDoor
set_option maxRecDepth 100000
open Go.ChangeShapes Go.WideShapes Go.ChangeAt Go.RowKit Go.Joins

theorem rowS_one {α : Type} {R : RepT α} {W : World} {b : Nat} {t : TypeId} {cs : Array Value} {x : α} (hB : Blk W b t cs) (hr : R.rep W Empty cs.toList x) : RowS R W Empty (some ⟨b, 0, none⟩) 1 1 [x] := by
  refine ⟨rfl, Nat.le_refl _, by decide, fun h => (by cases h), fun _ => ⟨b, 0, rfl, hB.lt, fun h => h, fun i y hy => ?_⟩⟩
  obtain rfl : i = 0 := by
    have := (List.getElem?_eq_some_iff.1 hy).1
    simp at this
    omega
  simp at hy
  subst hy
  refine ⟨cs.toList, fun j v hv => ?_, hr⟩
  rw [Nat.zero_mul, Nat.zero_add, hB.cell, ← Array.getElem?_toList]
  exact hv

/-- A law's argument: a method. -/
theorem open_meth {H : Type} {enc : TypeId × Value → H} {W : World} {base : Nat} {v : Value} {d : DataW H} {p : List MemPlace} (hv : Value.okWide Tryz.prog W .any base 41 v) (h : DataW.Trod enc Tryz.prog W 0 (fun _ => true) true 41 v d p) (hw : Wt 41 d) :
    ∃ (m : MeD) (Ac : Option Addr) (nc cc : Nat) (At : Option Addr) (nt ct : Nat) (Ap : Option Addr) (np cp : Nat), v = .agg #[.bool m.static, .string (strB m.name), .string (strB m.desc), .int .i64 m.stack, .int .i64 m.locals, .slice Ac nc cc, .slice At nt ct, .slice Ap np cp] ∧ MeAt W m Ac nc cc At nt ct Ap np cp ∧ meB m := by
  obtain ⟨cs, rfl, hsz⟩ := okWide_struct Tryz.underlying41 hv
  obtain ⟨fuel, hf⟩ := h
  obtain ⟨l⟩ := cs
  have h8 : l.length = 8 := hsz
  obtain ⟨m, hrep, hB⟩ := oneW_me h8 (hf : TC enc W 41 fuel l (d, p)) hw
  obtain ⟨Ac, nc, cc, At, nt, ct, Ap, np, cp, rfl, h1, h2⟩ := hrep
  exact ⟨m, Ac, nc, cc, At, nt, ct, Ap, np, cp, rfl, ⟨(h2 rfl).1.mono (fun _ _ h => h.elim), h1.mono (fun _ _ h => h.elim), (h2 rfl).2.mono (fun _ _ h => h.elim)⟩, hB⟩

/-- What few answers. -/
def Few18 (m : MeD) (nc nt : Nat) (e : Ending) : Prop := ∃ b, e = .returned (.bool b) ∧ (b = true → nc ≤ 200 ∧ nt ≤ 30 ∧ m.desc.length ≤ 1000000 ∧ ∀ p ∈ m.maps, p.locals.length ≤ 1000000 ∧ p.stack.length ≤ 1000000)
theorem Few18.no (m : MeD) (nc nt : Nat) : Few18 m nc nt (.returned (.bool false)) := ⟨false, rfl, fun h => by cases h⟩
set_option maxHeartbeats 2000000 in
theorem l18few_any (m : MeD) (Ac : Option Addr) (nc cc : Nat) (At : Option Addr) (nt ct : Nat) (Ap : Option Addr) (np cp : Nat) (w : World) (h : MeAt w m Ac nc cc At nt ct Ap np cp) (hB : meB m) :
    Calls Tryz.prog 37 #[.agg #[.bool m.static, .string (strB m.name), .string (strB m.desc), .int .i64 m.stack, .int .i64 m.locals, .slice Ac nc cc, .slice At nt ct, .slice Ap np cp]] w fun e w' => Few18 m nc nt e ∧ Below w.heap.size w w' := by
  obtain ⟨hco, htr, hma⟩ := h
  obtain ⟨W1, hW1⟩ : ∃ W1, w.alloc (.cells #[.bool m.static, .string (strB m.name), .string (strB m.desc), .int .i64 m.stack, .int .i64 m.locals, .slice Ac nc cc, .slice At nt ct, .slice Ap np cp] 41) = W1 := ⟨_, rfl⟩
  have hbb : Below w.heap.size w W1 := by rw [← hW1]; exact (Below.refl _ _).alloc (Nat.le_refl _) _
  have k0 : Blk W1 w.heap.size 41 #[.bool m.static, .string (strB m.name), .string (strB m.desc), .int .i64 m.stack, .int .i64 m.locals, .slice Ac nc cc, .slice At nt ct, .slice Ap np cp] := by rw [← hW1]; exact Blk.new w _ _
  have hsz : w.heap.size < W1.heap.size := k0.lt
  have K1 : Hid (∀ W : World, Below W1.heap.size W1 W → W.cell? ⟨w.heap.size, 0, none⟩ = some (.bool m.static) ∧ W.cell? ⟨w.heap.size, 1, none⟩ = some (.string (strB m.name)) ∧ W.cell? ⟨w.heap.size, 2, none⟩ = some (.string (strB m.desc)) ∧ W.cell? ⟨w.heap.size, 3, none⟩ = some (.int .i64 m.stack) ∧ W.cell? ⟨w.heap.size, 4, none⟩ = some (.int .i64 m.locals) ∧ W.cell? ⟨w.heap.size, 5, none⟩ = some (.slice Ac nc cc) ∧ W.cell? ⟨w.heap.size, 6, none⟩ = some (.slice At nt ct) ∧ W.cell? ⟨w.heap.size, 7, none⟩ = some (.slice Ap np cp)) := Lib.hid (fun W h => ⟨(k0.of (h.block _ hsz)).cell 0, (k0.of (h.block _ hsz)).cell 1, (k0.of (h.block _ hsz)).cell 2, (k0.of (h.block _ hsz)).cell 3, (k0.of (h.block _ hsz)).cell 4, (k0.of (h.block _ hsz)).cell 5, (k0.of (h.block _ hsz)).cell 6, (k0.of (h.block _ hsz)).cell 7⟩)
  have HCO := Lib.hid (hco.below hbb)
  have HTR := Lib.hid (htr.below hbb)
  have HMA := Lib.hid (hma.below hbb)
  have HBB := Lib.hid hbb
  have HW1 := Lib.hid hW1
  have hnc := hco.2.1
  have hcc := hco.2.2.1
  have hnt := htr.2.1
  have hct := htr.2.2.1
  have hnp := hma.2.1
  have hcp := hma.2.2.1
  unfold maxLen at hcc hct hcp
  have HLC := Lib.hid hco.1
  have hs1 : W1.heap.size = w.heap.size + 1 := by rw [← hW1]; simp
  obtain ⟨W2, hW2⟩ : ∃ W2, W1.alloc (.cells #[.bool m.static, .string (strB m.name), .string (strB m.desc), .int .i64 m.stack, .int .i64 m.locals, .slice Ac nc cc, .slice At nt ct, .slice Ap np cp] 41) = W2 := ⟨_, rfl⟩
  have hb2 : Below W1.heap.size W1 W2 := by rw [← hW2]; exact (Below.refl _ _).alloc (Nat.le_refl _) _
  have k2 : Blk W2 (w.heap.size + 1) 41 #[.bool m.static, .string (strB m.name), .string (strB m.desc), .int .i64 m.stack, .int .i64 m.locals, .slice Ac nc cc, .slice At nt ct, .slice Ap np cp] := by rw [← hW2, ← hs1]; exact Blk.new W1 _ _
  have HM : RowS meF W2 Empty (some ⟨w.heap.size + 1, 0, none⟩) 1 1 [m] := rowS_one k2 ⟨Ac, nc, cc, At, nt, ct, Ap, np, cp, rfl, (htr.below hbb).below hb2, fun _ => ⟨(hco.below hbb).below hb2, (hma.below hbb).below hb2⟩⟩
  have C : Hid (Calls Tryz.prog 87 #[.agg #[.string ⟨#[]⟩, .string ⟨#[]⟩, .slice none 0 0, .slice (some ⟨w.heap.size + 1, 0, none⟩) 1 1]] W2 fun e w' => Few15 ⟨[], [], [], [m]⟩ e ∧ Below W2.heap.size W2 w') := Lib.hid (
    rfew_any ⟨[], [], [], [m]⟩ none 0 0 (some ⟨w.heap.size + 1, 0, none⟩) 1 1 W2 (rowS_nil _ _ _) HM ⟨Nat.zero_le _, Nat.zero_le _, Nat.zero_le _, by show 1 ≤ M47; decide, fun f hf => absurd hf List.not_mem_nil, fun x hx => by
      obtain rfl : x = m := by simpa using hx
      exact hB⟩)
  have HW2 := Lib.hid hW2
  have HB2 : Hid (Below w.heap.size w W2) := Lib.hid (HBB.out.trans (hb2.mono HBB.out.size))
  obtain ⟨p0, p1, p2, p3, p4, p5, p6, p7⟩ := K1.out _ (Below.refl _ _)
  clear hco htr hma hbb k0 hW1 hs1 hW2 hb2 k2 HM hB
  by_cases c1 : 200 < nc
  · have c2 : ¬ nc ≤ 200 := by omega
    go_enter Tryz.func37, Tryz.ntmps37
    go_wp2_with fail
    rw [HW1.out]
    go_wp2
    go_ret
    exact ⟨Few18.no _ _ _, HBB.out⟩
  · by_cases c2 : 30 < nt
    · go_enter Tryz.func37, Tryz.ntmps37
      go_wp2_with fail
      rw [HW1.out]
      go_wp2
      go_ret
      exact ⟨Few18.no _ _ _, HBB.out⟩
    · go_enter Tryz.func37, Tryz.ntmps37
      go_wp2_with fail
      rw [HW1.out, HW2.out]
      refine C.out.mono ?_
      rintro e w3 ⟨⟨b, rfl, hb⟩, hbl⟩
      have HE : Hid (Few18 m nc nt (.returned (.bool b))) := Lib.hid ⟨b, rfl, fun hb2 => by
        obtain ⟨h1, h2⟩ := hb hb2
        have h3 := h2 m (List.mem_singleton.2 rfl)
        exact ⟨by omega, by omega, (h1.mth m (List.mem_singleton.2 rfl)).2, fun p hp => by have := h3.2 p hp; omega⟩⟩
      have HB3 := Lib.hid (HB2.out.trans (hbl.mono HB2.out.size))
      clear hb hbl
      go_wp2
      go_ret
      exact ⟨HE.out, HB3.out⟩

/-- The law's two methods. -/
def fixM (o : UInt8) : MeD := ⟨false, [], [40, 41, 86], 0, 0, [⟨o, 0, 0, [], [], [], []⟩], [], []⟩
theorem fix_ok : checkF (fixM 177) = 0 := by decide +kernel
theorem fix_miss : checkF (fixM 167) = 11 := by decide +kernel
theorem fix_form : checkF ⟨false, [], [], 0, 0, [], [], []⟩ = 8 := by decide +kernel
theorem fix_next : (nextsF (fixM 167) 0).length = 1 := by decide +kernel

set_option maxHeartbeats 2000000 in
theorem fixed18_any (w : World) (hT : Spans w) : Calls Tryz.prog 36 #[] w fun e w' => e = .returned (.bool true) ∧ Below w.heap.size w w' := by
  obtain ⟨W1, hW1⟩ : ∃ W1, w.alloc (.cells #[.int .u8 177, .int .i64 0, .int .i64 0, .string ⟨#[]⟩, .string ⟨#[]⟩, .string ⟨#[]⟩, .string ⟨#[]⟩] 98) = W1 := ⟨_, rfl⟩
  have k1 : Blk W1 w.heap.size 98 #[.int .u8 177, .int .i64 0, .int .i64 0, .string ⟨#[]⟩, .string ⟨#[]⟩, .string ⟨#[]⟩, .string ⟨#[]⟩] := by rw [← hW1]; exact Blk.new _ _ _
  have b1 : Below w.heap.size w W1 := by rw [← hW1]; exact (Below.refl _ _).alloc (Nat.le_refl _) _
  have s1 : W1.heap.size = w.heap.size + 1 := by rw [← hW1]; simp
  obtain ⟨W2, hW2⟩ : ∃ W2, W1.alloc (.cells #[.bool false, .string ⟨#[]⟩, .string ⟨#[40, 41, 86]⟩, .int .i64 0, .int .i64 0, .slice (some ⟨w.heap.size, 0, none⟩) 1 1, .slice none 0 0, .slice none 0 0] 41) = W2 := ⟨_, rfl⟩
  have k2 : Blk W2 (w.heap.size + 1) 41 #[.bool false, .string ⟨#[]⟩, .string ⟨#[40, 41, 86]⟩, .int .i64 0, .int .i64 0, .slice (some ⟨w.heap.size, 0, none⟩) 1 1, .slice none 0 0, .slice none 0 0] := by rw [← hW2, ← s1]; exact Blk.new _ _ _
  have b2 : Below W1.heap.size W1 W2 := by rw [← hW2]; exact (Below.refl _ _).alloc (Nat.le_refl _) _
  have s2 : W2.heap.size = w.heap.size + 1 + 1 := by rw [← hW2]; simp [s1]
  obtain ⟨W3, hW3⟩ : ∃ W3, W2.alloc (.cells #[.int .u8 167, .int .i64 0, .int .i64 0, .string ⟨#[]⟩, .string ⟨#[]⟩, .string ⟨#[]⟩, .string ⟨#[]⟩] 98) = W3 := ⟨_, rfl⟩
  have k3 : Blk W3 (w.heap.size + 1 + 1) 98 #[.int .u8 167, .int .i64 0, .int .i64 0, .string ⟨#[]⟩, .string ⟨#[]⟩, .string ⟨#[]⟩, .string ⟨#[]⟩] := by rw [← hW3, ← s2]; exact Blk.new _ _ _
  have b3 : Below W2.heap.size W2 W3 := by rw [← hW3]; exact (Below.refl _ _).alloc (Nat.le_refl _) _
  have s3 : W3.heap.size = w.heap.size + 1 + 1 + 1 := by rw [← hW3]; simp [s2]
  obtain ⟨W4, hW4⟩ : ∃ W4, W3.alloc (.cells #[.bool false, .string ⟨#[]⟩, .string ⟨#[40, 41, 86]⟩, .int .i64 0, .int .i64 0, .slice (some ⟨w.heap.size + 1 + 1, 0, none⟩) 1 1, .slice none 0 0, .slice none 0 0] 41) = W4 := ⟨_, rfl⟩
  have k4 : Blk W4 (w.heap.size + 1 + 1 + 1) 41 #[.bool false, .string ⟨#[]⟩, .string ⟨#[40, 41, 86]⟩, .int .i64 0, .int .i64 0, .slice (some ⟨w.heap.size + 1 + 1, 0, none⟩) 1 1, .slice none 0 0, .slice none 0 0] := by rw [← hW4, ← s3]; exact Blk.new _ _ _
  have b4 : Below W3.heap.size W3 W4 := by rw [← hW4]; exact (Below.refl _ _).alloc (Nat.le_refl _) _
  have b14 : Below W1.heap.size W1 W4 := (b2.trans (b3.mono b2.size)).trans (b4.mono (Nat.le_trans b2.size b3.size))
  have b24 : Below W2.heap.size W2 W4 := b3.trans (b4.mono b3.size)
  have HB4 : Hid (Below w.heap.size w W4) := Lib.hid (b1.trans (b14.mono b1.size))
  have kk1 := k1.of (b14.block _ k1.lt)
  have kk2 := k2.of (b24.block _ k2.lt)
  have kk3 := k3.of (b4.block _ k3.lt)
  have M1 : MeAt W4 (fixM 177) (some ⟨w.heap.size, 0, none⟩) 1 1 none 0 0 none 0 0 := ⟨rowS_one kk1 rfl, rowS_nil _ _ _, rowS_nil _ _ _⟩
  have M2 : MeAt W4 (fixM 167) (some ⟨w.heap.size + 1 + 1, 0, none⟩) 1 1 none 0 0 none 0 0 := ⟨rowS_one kk3 rfl, rowS_nil _ _ _, rowS_nil _ _ _⟩
  have HT := Lib.hid (hT.below HB4.out)
  have C1 : Hid (Calls Tryz.prog 46 #[.agg #[.bool false, .string ⟨#[]⟩, .string ⟨#[40, 41, 86]⟩, .int .i64 0, .int .i64 0, .slice (some ⟨w.heap.size, 0, none⟩) 1 1, .slice none 0 0, .slice none 0 0]] W4 fun e w' => e = .returned (.int .i64 0) ∧ Below W4.heap.size W4 w') := Lib.hid (by
    have := flCheck_any (fixM 177) (some ⟨w.heap.size, 0, none⟩) 1 1 none 0 0 none 0 0 W4 M1 (by decide) (by decide) HT.out
    rw [fix_ok] at this
    exact this)
  have C2 : Hid (∀ W, Below W4.heap.size W4 W → Calls Tryz.prog 46 #[.agg #[.bool false, .string ⟨#[]⟩, .string ⟨#[40, 41, 86]⟩, .int .i64 0, .int .i64 0, .slice (some ⟨w.heap.size + 1 + 1, 0, none⟩) 1 1, .slice none 0 0, .slice none 0 0]] W fun e w' => e = .returned (.int .i64 11) ∧ Below W.heap.size W w') := Lib.hid (fun W q => by
    have := flCheck_any (fixM 167) (some ⟨w.heap.size + 1 + 1, 0, none⟩) 1 1 none 0 0 none 0 0 W (M2.below q) (by decide) (by decide) (HT.out.below q)
    rw [fix_miss] at this
    exact this)
  have C3 : Hid (∀ W, Below W4.heap.size W4 W → Calls Tryz.prog 46 #[.agg #[.bool false, .string ⟨#[]⟩, .string ⟨#[]⟩, .int .i64 0, .int .i64 0, .slice none 0 0, .slice none 0 0, .slice none 0 0]] W fun e w' => e = .returned (.int .i64 8) ∧ Below W.heap.size W w') := Lib.hid (fun W q => by
    have := flCheck_any ⟨false, [], [], 0, 0, [], [], []⟩ none 0 0 none 0 0 none 0 0 W ⟨rowS_nil _ _ _, rowS_nil _ _ _, rowS_nil _ _ _⟩ (by decide) (by decide) (HT.out.below q)
    rw [fix_form] at this
    exact this)
  have C4 : Hid (∀ W, Calls Tryz.prog 40 #[.int .u8 191] W fun e w' => e = .returned (.bool true) ∧ W = w') := Lib.hid (fun W => flEnds_any 191 W)
  have C5 : Hid (∀ W, Below W4.heap.size W4 W → Calls Tryz.prog 38 #[.agg #[.bool false, .string ⟨#[]⟩, .string ⟨#[40, 41, 86]⟩, .int .i64 0, .int .i64 0, .slice (some ⟨w.heap.size + 1 + 1, 0, none⟩) 1 1, .slice none 0 0, .slice none 0 0], .int .i64 0] W fun e w' => (∃ A c, e = .returned (.slice A 1 c)) ∧ Below W.heap.size W w') := Lib.hid (fun W q => by
    refine (flNexts_any (fixM 167) (some ⟨w.heap.size + 1 + 1, 0, none⟩) 1 1 none 0 0 none 0 0 0 W (M2.below q) (HT.out.below q) (by decide)).mono ?_
    rintro e w' ⟨⟨A, n, c, rfl, hR⟩, hb⟩
    obtain rfl : n = 1 := by rw [← hR.1]; exact fix_next
    exact ⟨⟨A, c, rfl⟩, hb⟩)
  have HW1 := Lib.hid hW1
  have HW2 := Lib.hid hW2
  have HW3 := Lib.hid hW3
  have HW4 := Lib.hid hW4
  have KM : Hid (∀ W, Below W4.heap.size W4 W → W.cell? ⟨w.heap.size + 1 + 1 + 1, 0, none⟩ = some (.bool false) ∧ W.cell? ⟨w.heap.size + 1 + 1 + 1, 1, none⟩ = some (.string ⟨#[]⟩) ∧ W.cell? ⟨w.heap.size + 1 + 1 + 1, 2, none⟩ = some (.string ⟨#[40, 41, 86]⟩) ∧ W.cell? ⟨w.heap.size + 1 + 1 + 1, 3, none⟩ = some (.int .i64 0) ∧ W.cell? ⟨w.heap.size + 1 + 1 + 1, 4, none⟩ = some (.int .i64 0) ∧ W.cell? ⟨w.heap.size + 1 + 1 + 1, 5, none⟩ = some (.slice (some ⟨w.heap.size + 1 + 1, 0, none⟩) 1 1) ∧ W.cell? ⟨w.heap.size + 1 + 1 + 1, 6, none⟩ = some (.slice none 0 0) ∧ W.cell? ⟨w.heap.size + 1 + 1 + 1, 7, none⟩ = some (.slice none 0 0)) := Lib.hid (fun W q => ⟨(k4.of (q.block _ k4.lt)).cell 0, (k4.of (q.block _ k4.lt)).cell 1, (k4.of (q.block _ k4.lt)).cell 2, (k4.of (q.block _ k4.lt)).cell 3, (k4.of (q.block _ k4.lt)).cell 4, (k4.of (q.block _ k4.lt)).cell 5, (k4.of (q.block _ k4.lt)).cell 6, (k4.of (q.block _ k4.lt)).cell 7⟩)
  have e0 : ∀ i, W4.cell? ⟨w.heap.size + 1, i, none⟩ = #[.bool false, .string ⟨#[]⟩, .string ⟨#[40, 41, 86]⟩, .int .i64 0, .int .i64 0, .slice (some ⟨w.heap.size, 0, none⟩) 1 1, .slice none 0 0, .slice none 0 0][i]? := fun i => kk2.cell i
  obtain ⟨d0, d1, d2, d3, d4, d5, d6, d7⟩ : W4.cell? ⟨w.heap.size + 1, 0, none⟩ = some (.bool false) ∧ W4.cell? ⟨w.heap.size + 1, 1, none⟩ = some (.string ⟨#[]⟩) ∧ W4.cell? ⟨w.heap.size + 1, 2, none⟩ = some (.string ⟨#[40, 41, 86]⟩) ∧ W4.cell? ⟨w.heap.size + 1, 3, none⟩ = some (.int .i64 0) ∧ W4.cell? ⟨w.heap.size + 1, 4, none⟩ = some (.int .i64 0) ∧ W4.cell? ⟨w.heap.size + 1, 5, none⟩ = some (.slice (some ⟨w.heap.size, 0, none⟩) 1 1) ∧ W4.cell? ⟨w.heap.size + 1, 6, none⟩ = some (.slice none 0 0) ∧ W4.cell? ⟨w.heap.size + 1, 7, none⟩ = some (.slice none 0 0) := ⟨e0 0, e0 1, e0 2, e0 3, e0 4, e0 5, e0 6, e0 7⟩
  clear hW1 k1 b1 s1 hW2 k2 b2 s2 hW3 k3 b3 s3 hW4 k4 b4 b14 b24 kk1 kk2 kk3 M1 M2 hT e0
  go_enter Tryz.func36, Tryz.ntmps36
  go_wp2_with fail
  rw [HW1.out, HW2.out, HW3.out, HW4.out]
  refine C1.out.mono ?_
  rintro e w5 ⟨rfl, hb⟩
  have HB5 := Lib.hid hb
  obtain ⟨q0, q1, q2, q3, q4, q5, q6, q7⟩ := KM.out _ hb
  clear d0 d1 d2 d3 d4 d5 d6 d7 hb
  go_wp2_with fail
  refine (C2.out _ HB5.out).mono ?_
  rintro e w6 ⟨rfl, hb⟩
  have HB6 := Lib.hid (HB5.out.trans (hb.mono HB5.out.size))
  clear q0 q1 q2 q3 q4 q5 q6 q7 hb
  go_wp2_with fail
  refine (C3.out _ HB6.out).mono ?_
  rintro e w7 ⟨rfl, hb⟩
  have HB7 := Lib.hid (HB6.out.trans (hb.mono HB6.out.size))
  obtain ⟨q0, q1, q2, q3, q4, q5, q6, q7⟩ := KM.out _ HB7.out
  clear hb
  go_wp2_with fail
  refine (C4.out _).mono ?_
  rintro e w8 ⟨rfl, rfl⟩
  go_wp2_with fail
  refine (C5.out _ HB7.out).mono ?_
  rintro e w8 ⟨⟨A, c, rfl⟩, hb⟩
  have HB8 := Lib.hid (HB7.out.trans (hb.mono HB7.out.size))
  clear q0 q1 q2 q3 q4 q5 q6 q7 hb
  go_wp2
  go_ret
  exact ⟨rfl, HB4.out.trans (HB8.out.mono HB4.out.size)⟩

end Go.Proofs.YtdkkpcbebhgbiaaGreatDoor

/- The walk over FlowMade. -/
namespace Go.Proofs.YtdkkpcbebhgbiaaGreatDoor
set_option maxRecDepth 100000
open Go.RowKit

/-- Where its loops stand. -/
def RelK (n : Nat) (w : World) (i : Value) (wr : World) : Prop := ∃ k : Nat, k ≤ n ∧ i = .int .i64 (k : Int) ∧ Below w.heap.size w wr
set_option maxHeartbeats 8000000 in
theorem flowMade_calls (A : Option Addr) (n cap : Nat) (xs : List UInt8) (w : World) (hR : ByteSl w (fun q => w.heap.size ≤ q) A n cap xs) (hT : Spans w) :
    Calls Tryz.prog 10 #[.slice A n cap] w fun e w' => e = .returned (.bool true) ∧ Below w.heap.size w w' := by
  have HR := Lib.hid hR
  have HT := Lib.hid hT
  have C1 := Lib.hid (fixed18_any w hT)
  have hnc := hR.2.1
  have hcm := hR.2.2.1
  unfold maxLen at hcm
  clear hR hT
  go_enter Tryz.func10, Tryz.ntmps10
  go_wp2_with fail
  refine C1.out.mono ?_
  rintro e w1 ⟨rfl, hbe⟩
  have HB1 := Lib.hid hbe
  clear hbe C1
  by_cases h300 : 300 < n
  · go_wp2
    go_ret
    exact ⟨rfl, HB1.out⟩
  have CT := Lib.hid (taped_any w.heap.size A n cap xs w1 (HR.out.only (Only.of_below (S := Empty) HB1.out) (fun _ _ h => h.elim)) HB1.out.size (by omega))
  obtain ⟨wt, hwt⟩ : ∃ W, w1.alloc (.cells #[.slice A n cap, .int .i64 0] 32) = W := ⟨_, rfl⟩
  rw [hwt] at CT
  have HWT := Lib.hid hwt
  have HBT : Hid (Below w.heap.size w wt) := Lib.hid (by rw [← hwt]; exact HB1.out.alloc HB1.out.size _)
  clear hwt
  go_wp2_with fail
  rw [HWT.out]
  refine CT.out.mono ?_
  rintro e w2 ⟨⟨A2, c2, rfl, hR2⟩, hb2⟩
  have HB2 : Hid (Below w.heap.size w w2) := Lib.hid (HB1.out.trans (hb2.mono HB1.out.size))
  have HR2 := Lib.hid hR2
  have hc2 := hR2.2.1
  have hm2 := hR2.2.2.1
  unfold maxLen at hm2
  clear hb2 hR2 CT
  have HREL : Hid (RelK 4 w2 (.int .i64 0) w2) := Lib.hid ⟨0, Nat.zero_le _, rfl, Below.refl _ _⟩
  go_wp2
  go_loopw [17] (fun i wr => RelK 4 w2 i wr) (fun i _ => 4 - (intOf i).toNat)
  case atStart => exact HREL.out
  case round =>
    clear HREL
    obtain ⟨k, hk, rfl, hbw⟩ := hrel
    by_cases hlt : k < 4
    · obtain ⟨b, o, y, cs, rfl, hbl, _, hy, hcl, hcs, hr⟩ := (HR2.out.below hbw).at_ hlt
      obtain ⟨Bf, mf, df, Bm, mm, dm, rfl, hfl, hml⟩ := hr
      change ∀ j v, [Value.string (strB y.name), .string (strB y.super), .slice Bf mf df, .slice Bm mm dm][j]? = some v → wr.cell? ⟨b, o + k * 4 + j, none⟩ = some v at hcs
      have d0 : wr.cell? ⟨b, o + k * 4, none⟩ = some (.string (strB y.name)) := by have := hcs 0 _ rfl; simpa using this
      have d1 : wr.cell? ⟨b, o + k * 4 + 1, none⟩ = some (.string (strB y.super)) := by have := hcs 1 _ rfl; simpa using this
      have d2 : wr.cell? ⟨b, o + k * 4 + 2, none⟩ = some (.slice Bf mf df) := by have := hcs 2 _ rfl; simpa using this
      have d3 : wr.cell? ⟨b, o + k * 4 + 3, none⟩ = some (.slice Bm mm dm) := by have := hcs 3 _ rfl; simpa using this
      have hyU : y ∈ unitsW xs 0 := List.mem_of_getElem? hy
      obtain ⟨w3, hw3⟩ : ∃ W, wr.alloc (.cells #[.string (strB y.name), .string (strB y.super), .slice Bf mf df, .slice Bm mm dm] 82) = W := ⟨_, rfl⟩
      have hal : Below wr.heap.size wr w3 := by rw [← hw3]; exact belowA _ _
      have HB3 := Lib.hid (hbw.trans (hal.mono hbw.size))
      have k3 : Blk w3 wr.heap.size 82 #[.string (strB y.name), .string (strB y.super), .slice Bf mf df, .slice Bm mm dm] := by rw [← hw3]; exact Blk.new _ _ _
      have c33 : w3.cell? ⟨wr.heap.size, 3, none⟩ = some (.slice Bm mm dm) := k3.cell 3
      have HM3 := Lib.hid (hml.below hal)
      have hmc := hml.2.1
      have hmm := hml.2.2.1
      unfold maxLen at hmm
      have HW3 := Lib.hid hw3
      have hsz3 := k3.lt
      have HSM : Hid (∀ m ∈ y.meths, checkF m = 0 ∧ m.desc.length ≤ 1000000 ∧ m.code.length ≤ 1000000) := Lib.hid (fun m hm => ⟨made_shape xs 0 y hyU m hm, by have := (((made_sizes xs 0 y hyU).2.2.2.2.2 m hm).2.1); omega, by have := ((made_sizes xs 0 y hyU).2.2.2.2.2 m hm).2.2.1; omega⟩)
      have HREL : Hid (RelK mm w3 (.int .i64 0) w3) := Lib.hid ⟨0, Nat.zero_le _, rfl, Below.refl _ _⟩
      clear hcs hcl hy hfl hml hal hbw hyU k3 hw3
      go_wp2_with fail
      rw [HW3.out]
      have h4 : decide ((k : Int) < 4) = true := by simp; omega
      try rw [h4]
      go_loopw [24] (fun i wi => RelK mm w3 i wi) (fun i _ => mm - (intOf i).toNat)
      case atStart => exact HREL.out
      case round =>
        clear HREL
        obtain ⟨k2, hk2, rfl, hbi⟩ := hrel
        by_cases hlt2 : k2 < mm
        · obtain ⟨b2, o2, m, cs2, rfl, hbl2, _, hm, hcl2, hcs2, hr2⟩ := (HM3.out.below hbi).at_ hlt2
          obtain ⟨Ac, nc, cc, At, nt, ct, Ap, np, cp, rfl, htr, hfull⟩ := hr2
          obtain ⟨hco, hmp⟩ := hfull rfl
          change ∀ j v, [Value.bool m.static, .string (strB m.name), .string (strB m.desc), .int .i64 m.stack, .int .i64 m.locals, .slice Ac nc cc, .slice At nt ct, .slice Ap np cp][j]? = some v → wr.cell? ⟨b2, o2 + k2 * 8 + j, none⟩ = some v at hcs2
          have e0 : wr.cell? ⟨b2, o2 + k2 * 8, none⟩ = some (.bool m.static) := by have := hcs2 0 _ rfl; simpa using this
          have e1 : wr.cell? ⟨b2, o2 + k2 * 8 + 1, none⟩ = some (.string (strB m.name)) := by have := hcs2 1 _ rfl; simpa using this
          have e2 : wr.cell? ⟨b2, o2 + k2 * 8 + 2, none⟩ = some (.string (strB m.desc)) := by have := hcs2 2 _ rfl; simpa using this
          have e3 : wr.cell? ⟨b2, o2 + k2 * 8 + 3, none⟩ = some (.int .i64 m.stack) := by have := hcs2 3 _ rfl; simpa using this
          have e4 : wr.cell? ⟨b2, o2 + k2 * 8 + 4, none⟩ = some (.int .i64 m.locals) := by have := hcs2 4 _ rfl; simpa using this
          have e5 : wr.cell? ⟨b2, o2 + k2 * 8 + 5, none⟩ = some (.slice Ac nc cc) := by have := hcs2 5 _ rfl; simpa using this
          have e6 : wr.cell? ⟨b2, o2 + k2 * 8 + 6, none⟩ = some (.slice At nt ct) := by have := hcs2 6 _ rfl; simpa using this
          have e7 : wr.cell? ⟨b2, o2 + k2 * 8 + 7, none⟩ = some (.slice Ap np cp) := by have := hcs2 7 _ rfl; simpa using this
          obtain ⟨hck, hdl, hcl⟩ := HSM.out m (List.mem_of_getElem? hm)
          obtain ⟨w4, hw4⟩ : ∃ W, wr.alloc (.cells #[.bool m.static, .string (strB m.name), .string (strB m.desc), .int .i64 m.stack, .int .i64 m.locals, .slice Ac nc cc, .slice At nt ct, .slice Ap np cp] 41) = W := ⟨_, rfl⟩
          have hal4 : Below wr.heap.size wr w4 := by rw [← hw4]; exact belowA _ _
          have HB4 := Lib.hid (hbi.trans (hal4.mono hbi.size))
          have hT4 : Spans w4 := ((HT.out.below HB2.out).below (HB3.out.trans (HB4.out.mono HB3.out.size)))
          have CM := Lib.hid (flCheck_any m Ac nc cc At nt ct Ap np cp w4 ⟨hco.below hal4, htr.below hal4, hmp.below hal4⟩ hdl (by rw [← hco.1]; exact hcl) hT4)
          rw [hck] at CM
          have HW4 := Lib.hid hw4
          clear hcs2 hcl2 hm htr hfull hco hmp hck hdl hcl hw4 hal4 hT4 hbi
          go_wp2_with fail
          rw [HW4.out]
          refine CM.out.mono ?_
          rintro e w5 ⟨rfl, hb5⟩
          have HREL : Hid (RelK mm w3 (.int .i64 ((k2 : Int) + 1)) w5) := Lib.hid ⟨k2 + 1, hlt2, by simp, HB4.out.trans (hb5.mono HB4.out.size)⟩
          clear hb5 CM e0 e1 e2 e3 e4 e5 e6 e7
          go_wp2
          go_roundw
          case rel => first | exact HREL.out | exact ⟨_, _, _, _, _, _, _, _, _, _, HREL.out, rfl⟩ | (rw [h4]; exact ⟨_, _, _, _, _, _, _, _, _, _, HREL.out, rfl⟩)
          case measure => simp [intOf]; omega
        · have HREL : Hid (RelK 4 w2 (.int .i64 ((k : Int) + 1)) wr) := Lib.hid ⟨k + 1, hlt, by simp, HB3.out.trans (hbi.mono HB3.out.size)⟩
          go_wp2
          go_roundw
          case rel => exact HREL.out
          case measure => simp [intOf]; omega
    · go_wp2
      go_ret
      exact ⟨rfl, HB2.out.trans (hbw.mono HB2.out.size)⟩

end Go.Proofs.YtdkkpcbebhgbiaaGreatDoor
