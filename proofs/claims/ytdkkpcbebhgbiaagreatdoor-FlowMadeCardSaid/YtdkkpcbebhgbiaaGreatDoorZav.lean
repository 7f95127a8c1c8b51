/- The walks over flow.isMapped, Check; printed by gen/gen_oh.py. -/
import Derived.Test.YtdkkpcbebhgbiaaGreatDoorZau
import Derived.Deep.DeepCutAuto
import Derived.Test.YtdkkpcbebhgbiaaGreatDoorZas
import Derived.Lib.SliceRun
namespace Go.Proofs.YtdkkpcbebhgbiaaGreatDoor
set_option maxRecDepth 100000
open Go.RowKit

def boolA (l : List Bool) : Array Value := (l.map Value.bool).toArray
theorem boolA_get (l : List Bool) (i : Nat) : (boolA l)[i]? = (l[i]?).map Value.bool := by simp [boolA]
theorem boolA_set (l : List Bool) (i : Nat) (v : Bool) : (boolA l).setIfInBounds i (.bool v) = boolA (l.set i v) := by
  unfold boolA
  rw [List.setIfInBounds_toArray, List.map_set]
theorem made_bools (n : Nat) : madeCells #[.bool false] n = boolA (List.replicate n false) := by
  apply Array.ext_getElem?
  intro i
  rw [boolA_get, List.getElem?_replicate]
  by_cases h : i < n
  · simp [madeCells, h, Nat.mod_one]
  · simp [madeCells, h]
theorem Tryz.infoBool : (Tryz.prog.info? 4).map (fun i => (i.zero, i.size, i.bytes)) = some (some (.bool false), 1, 1) := by kernel_rfl
theorem run_make_bools (n : Nat) (hm : n ≤ 1048576) (W : World) :
    (Instr.makeSlice 76 (.int .i64 (n : Int)) (.int .i64 (n : Int))).run Tryz.prog W = .ok (.slice (some ⟨W.heap.size, 0, none⟩) n n) (W.alloc (.cells (boolA (List.replicate n false)) 4)) := by
  obtain ⟨i0, hi, hz0, hz1, hz2⟩ := info_parts Tryz.infoBool
  have hr := run_make (P := Tryz.prog) W 76 4 i0 (.bool false) Tryz.underlying76 hi hz0 .i64 .i64 n n (by omega) (by omega) (by rw [hz2]; omega) (by omega)
  simp only [Int.toNat_natCast, hz1, Nat.mul_one] at hr
  rw [← made_bools]
  exact hr

/-- Has place i a mark, when so many maps were gone over? -/
def hasK (m : MeD) (n k i : Nat) : Bool := (i == n) || (m.maps.take k).any (fun x => x.at_ == (i : Int))
theorem hasK_snoc {m : MeD} {n k : Nat} {x : MpD} {a : Nat} (hx : m.maps[k]? = some x) (ha : x.at_ = (a : Int)) (i : Nat) : hasK m n (k + 1) i = (hasK m n k i || a == i) := by
  unfold hasK
  rw [List.take_add_one, hx, List.any_append]
  simp only [Option.toList_some, List.any_cons, List.any_nil, Bool.or_false, ha, Bool.or_assoc]
  congr 2
  rw [Bool.eq_iff_iff, beq_iff_eq, beq_iff_eq]
  omega
theorem hasK_all {m : MeD} {np : Nat} (h : m.maps.length = np) (a : Int) (h0 : 0 ≤ a) : hasB m a = hasK m m.code.length np a.toNat := by
  unfold hasB hasK
  rw [List.take_of_length_le (by omega), show ((a.toNat : Nat) : Int) = a by omega]
  congr 1
  rw [Bool.eq_iff_iff, beq_iff_eq, beq_iff_eq]
  omega
theorem rising_bd {n : Nat} : ∀ {l : List MpD} {last : Int}, risingB n last l = true → ∀ x ∈ l, last < x.at_ ∧ x.at_ < (n : Int)
  | [], _, _, x, hx => by cases hx
  | y :: r, last, h, x, hx => by
    simp only [risingB, Bool.and_eq_true, Bool.not_eq_true', Bool.or_eq_false_iff, decide_eq_false_iff_not] at h
    rcases List.mem_cons.1 hx with rfl | hx
    · omega
    · have := rising_bd h.2 x hx
      omega
theorem placed_maps {m : MeD} (h : placedB m = true) : ∀ x ∈ m.maps, 0 ≤ x.at_ ∧ x.at_ < (m.code.length : Int) := fun x hx => by
  unfold placedB at h
  simp only [Bool.and_eq_true] at h
  have := rising_bd h.2 x hx
  omega
theorem placed_code {m : MeD} (h : placedB m = true) : ∀ x ∈ m.code, branchB x.op = true → 0 ≤ x.n ∧ x.n < (m.code.length : Int) := fun x hx hb => by
  unfold placedB at h
  simp only [Bool.and_eq_true, Bool.not_eq_true', List.any_eq_false] at h
  have := h.1.1 x hx
  unfold astrayB at this
  rw [hb] at this
  exact inPl_iff.1 (by simpa using this)
theorem placed_traps {m : MeD} (h : placedB m = true) : ∀ t ∈ m.traps, 0 ≤ t.c ∧ t.c < (m.code.length : Int) := fun t ht => by
  unfold placedB at h
  simp only [Bool.and_eq_true, Bool.not_eq_true', List.any_eq_false] at h
  have := h.1.2 t ht
  unfold wrongB at this
  simp only [Bool.or_eq_true, not_or, Bool.not_eq_true', Bool.not_eq_false] at this
  exact inPl_iff.1 (by simpa using this.2)
/-- Where the marks lie. -/
structure HasAt (m : MeD) (nc : Nat) (g k : Nat) (V W : World) : Prop where
  row : ∃ L : List Bool, Blk W (g + 1) 4 (boolA L) ∧ ∀ i, i ≤ nc → L[i]? = some (hasK m nc k i)
  box : Blk W (g + 1 + 1) 76 #[.slice (some ⟨g + 1, 0, none⟩) (nc + 1) (nc + 1)]
  bel : Below V.heap.size V W
theorem HasAt.below {m : MeD} {nc g k : Nat} {V W W' : World} (h : HasAt m nc g k V W) (q : Below W.heap.size W W') : HasAt m nc g k V W' := by
  obtain ⟨⟨L, h1, h2⟩, h3, h4⟩ := h
  exact ⟨⟨L, h1.of (q.block _ h1.lt), h2⟩, h3.of (q.block _ h3.lt), h4.trans (q.mono h4.size)⟩
theorem HasAt.cell {m : MeD} {nc g k : Nat} {V W : World} (h : HasAt m nc g k V W) (i : Nat) (hi : i ≤ nc) : W.cell? ⟨g + 1, i, none⟩ = some (.bool (hasK m nc k i)) := by
  obtain ⟨L, h1, h2⟩ := h.row
  rw [h1.cell, boolA_get, h2 i hi]
  rfl
theorem HasAt.mark {m : MeD} {nc g k : Nat} {V W : World} (h : HasAt m nc g k V W) (hg : V.heap.size = g + 1) {x : MpD} {a : Nat} (hx : m.maps[k]? = some x) (ha : x.at_ = (a : Int)) : HasAt m nc g (k + 1) V (W.setCell ⟨g + 1, a, none⟩ (.bool true)) := by
  obtain ⟨⟨L, h1, h2⟩, h3, h4⟩ := h
  refine ⟨⟨L.set a true, ?_, fun i hi => ?_⟩, h3.far (by simp) _, h4.setCell (by simp; omega) _⟩
  · have := h1.set_ a (.bool true)
    rwa [boolA_set] at this
  · rw [List.getElem?_set, hasK_snoc hx ha, h2 i hi]
    have hl := (List.getElem?_eq_some_iff.1 (h2 i hi)).1
    by_cases e : a = i
    · subst e
      simp [hl]
    · simp [e]
/-- Where its two loops stand. -/
def RelM1 (m : MeD) (nc g np : Nat) (V : World) (i : Value) (wr : World) : Prop := ∃ k : Nat, k ≤ np ∧ i = .int .i64 (k : Int) ∧ HasAt m nc g k V wr
def RelM2 (m : MeD) (nc g np : Nat) (V : World) (i : Value) (wr : World) : Prop := ∃ k : Nat, k ≤ nc ∧ i = .int .i64 (k : Int) ∧ lacksB m 0 m.code = lacksB m k (m.code.drop k) ∧ HasAt m nc g np V wr
theorem lacks_drop {m : MeD} {k : Nat} {x : InD} (hx : m.code[k]? = some x) : lacksB m k (m.code.drop k) = (lackB m k x || lacksB m (k + 1) (m.code.drop (k + 1))) := by
  have hk : k < m.code.length := (List.getElem?_eq_some_iff.1 hx).1
  rw [List.drop_eq_getElem_cons hk, (List.getElem?_eq_some_iff.1 hx).2]
  rfl

set_option maxHeartbeats 4000000 in
theorem flMapped_any (m : MeD) (Ac : Option Addr) (nc cc : Nat) (At : Option Addr) (nt ct : Nat) (Ap : Option Addr) (np cp : Nat) (w : World) (h : MeAt w m Ac nc cc At nt ct Ap np cp) (hT : Spans w) (hn : nc ≤ 1000000) (hP : placedB m = true) :
    Calls Tryz.prog 103 #[.agg #[.bool m.static, .string (strB m.name), .string (strB m.desc), .int .i64 m.stack, .int .i64 m.locals, .slice Ac nc cc, .slice At nt ct, .slice Ap np cp]] w fun e w' => e = .returned (.bool (mappedB m)) ∧ Below w.heap.size w w' := by
  obtain ⟨hco, htr, hma⟩ := h
  obtain ⟨W1, hW1⟩ : ∃ W1, w.alloc (.cells #[.bool m.static, .string (strB m.name), .string (strB m.desc), .int .i64 m.stack, .int .i64 m.locals, .slice Ac nc cc, .slice At nt ct, .slice Ap np cp] 41) = W1 := ⟨_, rfl⟩
  have hbb : Below w.heap.size w W1 := by rw [← hW1]; exact (Below.refl _ _).alloc (Nat.le_refl _) _
  have k0 : Blk W1 w.heap.size 41 #[.bool m.static, .string (strB m.name), .string (strB m.desc), .int .i64 m.stack, .int .i64 m.locals, .slice Ac nc cc, .slice At nt ct, .slice Ap np cp] := by rw [← hW1]; exact Blk.new w _ _
  have hsz : w.heap.size < W1.heap.size := k0.lt
  have K1 : Hid (∀ W : World, Below W1.heap.size W1 W → W.cell? ⟨w.heap.size, 0, none⟩ = some (.bool m.static) ∧ W.cell? ⟨w.heap.size, 1, none⟩ = some (.string (strB m.name)) ∧ W.cell? ⟨w.heap.size, 2, none⟩ = some (.string (strB m.desc)) ∧ W.cell? ⟨w.heap.size, 3, none⟩ = some (.int .i64 m.stack) ∧ W.cell? ⟨w.heap.size, 4, none⟩ = some (.int .i64 m.locals) ∧ W.cell? ⟨w.heap.size, 5, none⟩ = some (.slice Ac nc cc) ∧ W.cell? ⟨w.heap.size, 6, none⟩ = some (.slice At nt ct) ∧ W.cell? ⟨w.heap.size, 7, none⟩ = some (.slice Ap np cp)) := Lib.hid (fun W h => ⟨(k0.of (h.block _ hsz)).cell 0, (k0.of (h.block _ hsz)).cell 1, (k0.of (h.block _ hsz)).cell 2, (k0.of (h.block _ hsz)).cell 3, (k0.of (h.block _ hsz)).cell 4, (k0.of (h.block _ hsz)).cell 5, (k0.of (h.block _ hsz)).cell 6, (k0.of (h.block _ hsz)).cell 7⟩)
  have HCO := Lib.hid (hco.below hbb)
  have HTR := Lib.hid (htr.below hbb)
  have HMA := Lib.hid (hma.below hbb)
  have HT := Lib.hid (hT.below hbb)
  have HBB := Lib.hid hbb
  have HW1 := Lib.hid hW1
  have hnc := hco.2.1
  have hcc := hco.2.2.1
  have hnt := htr.2.1
  have hct := htr.2.2.1
  have hnp := hma.2.1
  have hcp := hma.2.2.1
  unfold maxLen at hcc hct hcp
  have HLC := Lib.hid hco.1
  have hlp := hma.1
  have hlc := hco.1
  have HP1 := Lib.hid (placed_maps hP)
  have HP2 := Lib.hid (placed_code hP)
  have HP3 := Lib.hid (placed_traps hP)
  have HLP := Lib.hid hlp
  have hs1 : W1.heap.size = w.heap.size + 1 := by rw [← hW1]; simp
  have HS1 := Lib.hid hs1
  have HHB := Lib.hid (fun (a : Int) (h0 : 0 ≤ a) => (hasK_all hlp a h0).trans (by rw [hlc]))
  have hmk : ∀ W : World, (Instr.makeSlice 76 (.int .i64 ((nc : Int) + 1)) (.int .i64 ((nc : Int) + 1))).run Tryz.prog W = .ok (.slice (some ⟨W.heap.size, 0, none⟩) (nc + 1) (nc + 1)) (W.alloc (.cells (boolA (List.replicate (nc + 1) false)) 4)) := fun W => run_make_bools (nc + 1) (by omega) W
  have HE : Hid (mappedB m = (!lacksB m 0 m.code && !m.traps.any (bareB m))) := Lib.hid rfl
  obtain ⟨W4, hW4⟩ : ∃ W4, ((W1.alloc (.cells ((boolA (List.replicate (nc + 1) false)).setIfInBounds nc (.bool true)) 4)).alloc (.cells #[.slice (some ⟨w.heap.size + 1, 0, none⟩) (nc + 1) (nc + 1)] 76)) = W4 := ⟨_, rfl⟩
  have hH : HasAt m nc w.heap.size 0 W1 W4 := by
    have b1 : Blk (W1.alloc (.cells ((boolA (List.replicate (nc + 1) false)).setIfInBounds nc (.bool true)) 4)) (w.heap.size + 1) 4 ((boolA (List.replicate (nc + 1) false)).setIfInBounds nc (.bool true)) := by rw [← hs1]; exact Blk.new _ _ _
    have b2 := Blk.new (W1.alloc (.cells ((boolA (List.replicate (nc + 1) false)).setIfInBounds nc (.bool true)) 4)) 76 #[.slice (some ⟨w.heap.size + 1, 0, none⟩) (nc + 1) (nc + 1)]
    rw [show (W1.alloc (.cells ((boolA (List.replicate (nc + 1) false)).setIfInBounds nc (.bool true)) 4)).heap.size = w.heap.size + 1 + 1 by simp [hs1]] at b2
    have b3 := b1.alloc (.cells #[.slice (some ⟨w.heap.size + 1, 0, none⟩) (nc + 1) (nc + 1)] 76)
    have hbel := ((Below.refl W1.heap.size W1).alloc (Nat.le_refl _) (.cells ((boolA (List.replicate (nc + 1) false)).setIfInBounds nc (.bool true)) 4)).alloc (by simp) (.cells #[.slice (some ⟨w.heap.size + 1, 0, none⟩) (nc + 1) (nc + 1)] 76)
    rw [hW4] at b2 b3 hbel
    rw [boolA_set] at b3
    refine ⟨⟨_, b3, fun i hi => ?_⟩, b2, hbel⟩
    rw [List.getElem?_set, List.getElem?_replicate]
    unfold hasK
    by_cases e : nc = i
    · subst e; simp
    · have e2 : (i == nc) = false := by simp; omega
      rw [if_neg e, if_pos (by omega), e2]
      rfl
  have HW4 := Lib.hid hW4
  have HH4 := Lib.hid hH
  have f4 : ((W1.alloc (.cells (boolA (List.replicate (nc + 1) false)) 4)).alloc (.cells #[.slice (some ⟨w.heap.size + 1, 0, none⟩) (nc + 1) (nc + 1)] 76)).cell? ⟨w.heap.size + 1, nc, none⟩ = some (.bool false) := by
    have b1 : Blk (W1.alloc (.cells (boolA (List.replicate (nc + 1) false)) 4)) (w.heap.size + 1) 4 (boolA (List.replicate (nc + 1) false)) := by rw [← hs1]; exact Blk.new _ _ _
    rw [(b1.alloc _).cell, boolA_get, List.getElem?_replicate, if_pos (by omega)]
    rfl
  obtain ⟨p0, p1, p2, p3, p4, p5, p6, p7⟩ := K1.out _ (Below.refl _ _)
  obtain ⟨r0, r1, r2, r3, r4, r5, r6, r7⟩ := K1.out _ hH.bel
  obtain ⟨s0, s1, s2, s3, s4, s5, s6, s7⟩ := K1.out _ (((Below.refl W1.heap.size W1).alloc (Nat.le_refl _) (.cells (boolA (List.replicate (nc + 1) false)) 4)).alloc (by simp) (.cells #[.slice (some ⟨w.heap.size + 1, 0, none⟩) (nc + 1) (nc + 1)] 76))
  have HREL : Hid (RelM1 m nc w.heap.size np W1 (.int .i64 0) W4) := Lib.hid ⟨0, Nat.zero_le _, rfl, hH⟩
  rw [← HW1.out] at p5 s5 s7 f4
  clear hco htr hma hT hbb k0 hW1 hH hW4 hs1 hlp hlc hP p0 p1 p2 p3 p4 p6 p7 s0 s1 s2 s3 s4 s6
  go_enter Tryz.func103, Tryz.ntmps103
  go_upto_region 3 with (fail)
  rw [HW1.out, HW4.out]
  clear s5 s7 f4 p5 hmk
  go_wp2_with fail
  clear r0 r1 r2 r3 r4 r5 r6 r7
  go_loopw [22] (fun i wr => RelM1 m nc w.heap.size np W1 i wr) (fun i _ => np - (intOf i).toNat)
  case atStart => exact HREL.out
  case round =>
    clear HREL
    obtain ⟨k, hk, rfl, hH⟩ := hrel
    have HH := Lib.hid hH
    by_cases hlt : k < np
    · obtain ⟨b, o, x, A1, n1, q1, A2, n2, q2, rfl, hb, hx, d0, d1, d2, -, -⟩ := mpRow_at (HMA.out.below hH.bel) hlt
      obtain ⟨a1, a2⟩ := HP1.out x (List.mem_of_getElem? hx)
      rw [HLC.out] at a2
      obtain ⟨a, ha⟩ : ∃ a : Nat, x.at_ = (a : Int) := ⟨x.at_.toNat, by omega⟩
      have HM := Lib.hid ((hH.mark HS1.out hx ha).below ((Below.refl _ _).alloc (Nat.le_refl _) (.cells #[.int .i64 (a : Int), .slice A1 n1 q1, .slice A2 n2 q2] 44)))
      rw [ha] at d0 a1 a2
      have a3 : a < nc + 1 := by omega
      have e1 : wr.cell? ⟨w.heap.size + 1, a, none⟩ = some (.bool (hasK m nc k a)) := hH.cell a (by omega)
      have e2 : wr.frozen? ⟨w.heap.size + 1, a, none⟩ = false := by obtain ⟨L, h1, _⟩ := hH.row; exact h1.frozen a
      have e3 : wr.cell? ⟨w.heap.size + 1 + 1, 0, none⟩ = some (.slice (some ⟨w.heap.size + 1, 0, none⟩) (nc + 1) (nc + 1)) := hH.box.cell 0
      have l1 := cell_lt e1
      have l2 := cell_lt e3
      clear hx ha hH
      go_wp2
      go_roundw
      case rel => exact ⟨k + 1, hlt, by simp, HM.out⟩
      case measure => simp [intOf]; omega
    · have hk2 : k = np := by omega
      subst hk2
      obtain ⟨r0, r1, r2, r3, r4, r5, r6, r7⟩ := K1.out _ hH.bel
      have HREL2 : Hid (RelM2 m nc w.heap.size k W1 (.int .i64 0) wr) := Lib.hid ⟨0, Nat.zero_le _, rfl, rfl, hH⟩
      clear hH
      go_wp2_with fail
      clear r0 r1 r2 r3 r4 r5 r6 r7
      go_loopw [34] (fun i wr => RelM2 m nc w.heap.size k W1 i wr) (fun i _ => nc - (intOf i).toNat)
      case atStart => exact HREL2.out
      case round =>
        clear HREL2 HH
        obtain ⟨j, hj, rfl, hla, hH⟩ := hrel
        have HLA := Lib.hid hla
        have HH := Lib.hid hH
        clear hla
        by_cases hlt : j < nc
        · obtain ⟨b, o, x, rfl, hb, hx, d0, d1, d2, d3, d4, d5, d6⟩ := inRow_at (HCO.out.below hH.bel) hlt
          have HLD := Lib.hid (lacks_drop hx)
          have hrng := HP2.out x (List.mem_of_getElem? hx)
          rw [HLC.out] at hrng
          obtain ⟨W5, hW5⟩ : ∃ W5, wr.alloc (.cells (inA x) 98) = W5 := ⟨_, rfl⟩
          have hal : Below wr.heap.size wr W5 := by rw [← hW5]; exact (Below.refl _ _).alloc (Nat.le_refl _) _
          have kx : Blk W5 wr.heap.size 98 (inA x) := by rw [← hW5]; exact Blk.new _ _ _
          have HH5 := Lib.hid (hH.below hal)
          have KX : Hid (∀ W, Below W5.heap.size W5 W → W.cell? ⟨wr.heap.size, 0, none⟩ = some (.int .u8 (x.op.toNat : Int)) ∧ W.cell? ⟨wr.heap.size, 1, none⟩ = some (.int .i64 x.n) ∧ W.cell? ⟨w.heap.size + 1 + 1, 0, none⟩ = some (.slice (some ⟨w.heap.size + 1, 0, none⟩) (nc + 1) (nc + 1)) ∧ ∀ i, i ≤ nc → W.cell? ⟨w.heap.size + 1, i, none⟩ = some (.bool (hasK m nc k i))) := Lib.hid (fun W q => ⟨(kx.of (q.block _ kx.lt)).cell 0, (kx.of (q.block _ kx.lt)).cell 1, (HH5.out.below q).box.cell 0, fun i hi => (HH5.out.below q).cell i hi⟩)
          have CB := Lib.hid (flBranch_any x.op W5 (HT.out.below (hH.below hal).bel))
          have CE := Lib.hid (fun (W : World) => flEnds_any x.op W)
          have HW5 := Lib.hid hW5
          unfold inA at HW5
          have HX := Lib.hid hx
          have HB5 : Hid (Below w.heap.size w W5) := Lib.hid (HBB.out.trans ((hH.below hal).bel.mono HBB.out.size))
          have hgl : wr.heap.size < W5.heap.size := kx.lt
          obtain ⟨t0, t1, t2, t3⟩ := KX.out _ (Below.refl _ _)
          have HNX : Hid (HasAt m nc w.heap.size k W1 W5) := HH5
          clear hx hW5 kx hal hH t1 t2 t3
          have HL : Hid (lackB m j x = ((branchB x.op && !hasB m x.n) || (endsB x.op && !hasK m nc k (j + 1)))) := Lib.hid (by
            unfold lackB
            rw [HHB.out ((j : Int) + 1) (by omega), show ((j : Int) + 1).toNat = j + 1 by omega])
          cases hbr : branchB x.op with
          | false =>
            rw [hbr] at HL CB
            clear hbr hrng
            cases he : endsB x.op with
            | false =>
              rw [he] at HL CE
              clear he
              go_wp2_with fail
              rw [HW5.out]
              go_wp2_with fail
              refine CB.out.mono ?_
              rintro e w6 ⟨rfl, hb6⟩
              obtain ⟨u0, u1, u2, u3⟩ := KX.out _ hb6
              have HH6 := Lib.hid (HNX.out.below hb6)
              have HB6 := Lib.hid (HB5.out.trans (hb6.mono HB5.out.size))
              have hg6 := Nat.lt_of_lt_of_le hgl hb6.size
              have m2 := u3 (j + 1) (by omega)
              have lm2 := cell_lt m2
              clear hb6 t0 HNX
              clear u3 u1
              go_wp2_with fail
              refine (CE.out _).mono ?_
              rintro e w7 ⟨rfl, rfl⟩
              have HF : Hid (lacksB m 0 m.code = lacksB m (j + 1) (m.code.drop (j + 1))) := Lib.hid (by rw [HLA.out, HLD.out, HL.out]; simp)
              go_wp2
              go_roundw
              case rel => exact ⟨j + 1, hlt, by simp, HF.out, HH6.out⟩
              case measure => simp [intOf]; omega
            | true =>
              rw [he] at HL CE
              clear he
              cases hv2 : hasK m nc k (j + 1) with
              | false =>
                rw [hv2] at HL
                go_wp2_with fail
                rw [HW5.out]
                go_wp2_with fail
                refine CB.out.mono ?_
                rintro e w6 ⟨rfl, hb6⟩
                obtain ⟨u0, u1, u2, u3⟩ := KX.out _ hb6
                have HH6 := Lib.hid (HNX.out.below hb6)
                have HB6 := Lib.hid (HB5.out.trans (hb6.mono HB5.out.size))
                have hg6 := Nat.lt_of_lt_of_le hgl hb6.size
                have m2 := u3 (j + 1) (by omega)
                have lm2 := cell_lt m2
                clear hb6 t0 HNX
                clear u3 u1
                rw [hv2] at m2
                go_wp2_with fail
                refine (CE.out _).mono ?_
                rintro e w7 ⟨rfl, rfl⟩
                have HF : Hid (mappedB m = false) := Lib.hid (by rw [HE.out, HLA.out, HLD.out, HL.out]; simp)
                go_wp2
                go_ret
                exact ⟨by rw [HF.out]; rfl, HB6.out⟩
              | true =>
                rw [hv2] at HL
                go_wp2_with fail
                rw [HW5.out]
                go_wp2_with fail
                refine CB.out.mono ?_
                rintro e w6 ⟨rfl, hb6⟩
                obtain ⟨u0, u1, u2, u3⟩ := KX.out _ hb6
                have HH6 := Lib.hid (HNX.out.below hb6)
                have HB6 := Lib.hid (HB5.out.trans (hb6.mono HB5.out.size))
                have hg6 := Nat.lt_of_lt_of_le hgl hb6.size
                have m2 := u3 (j + 1) (by omega)
                have lm2 := cell_lt m2
                clear hb6 t0 HNX
                clear u3 u1
                rw [hv2] at m2
                go_wp2_with fail
                refine (CE.out _).mono ?_
                rintro e w7 ⟨rfl, rfl⟩
                have HF : Hid (lacksB m 0 m.code = lacksB m (j + 1) (m.code.drop (j + 1))) := Lib.hid (by rw [HLA.out, HLD.out, HL.out]; simp)
                go_wp2
                go_roundw
                case rel => exact ⟨j + 1, hlt, by simp, HF.out, HH6.out⟩
                case measure => simp [intOf]; omega
          | true =>
            obtain ⟨n1, n2⟩ := hrng hbr
            obtain ⟨a, ha⟩ : ∃ a : Nat, x.n = (a : Int) := ⟨x.n.toNat, by omega⟩
            have HHA : Hid (hasB m x.n = hasK m nc k a) := Lib.hid ((HHB.out _ n1).trans (by rw [ha, Int.toNat_natCast]))
            rw [hbr, HHA.out] at HL
            rw [hbr] at CB
            rw [ha] at KX n1 n2 HW5 d1
            clear hbr hrng ha HHA
            have ha2 : a < nc + 1 := by omega
            cases hv1 : hasK m nc k a with
            | false =>
              rw [hv1] at HL
              go_wp2_with fail
              rw [HW5.out]
              go_wp2_with fail
              refine CB.out.mono ?_
              rintro e w6 ⟨rfl, hb6⟩
              obtain ⟨u0, u1, u2, u3⟩ := KX.out _ hb6
              have HH6 := Lib.hid (HNX.out.below hb6)
              have HB6 := Lib.hid (HB5.out.trans (hb6.mono HB5.out.size))
              have hg6 := Nat.lt_of_lt_of_le hgl hb6.size
              have m2 := u3 (j + 1) (by omega)
              have lm2 := cell_lt m2
              clear hb6 t0 HNX
              have m1 := u3 a (by omega)
              rw [hv1] at m1
              have lm1 := cell_lt m1
              clear u3
              have HF : Hid (mappedB m = false) := Lib.hid (by rw [HE.out, HLA.out, HLD.out, HL.out]; simp)
              go_wp2
              go_ret
              exact ⟨by rw [HF.out]; rfl, HB6.out⟩
            | true =>
              rw [hv1] at HL
              cases he : endsB x.op with
              | false =>
                rw [he] at HL CE
                clear he
                go_wp2_with fail
                rw [HW5.out]
                go_wp2_with fail
                refine CB.out.mono ?_
                rintro e w6 ⟨rfl, hb6⟩
                obtain ⟨u0, u1, u2, u3⟩ := KX.out _ hb6
                have HH6 := Lib.hid (HNX.out.below hb6)
                have HB6 := Lib.hid (HB5.out.trans (hb6.mono HB5.out.size))
                have hg6 := Nat.lt_of_lt_of_le hgl hb6.size
                have m2 := u3 (j + 1) (by omega)
                have lm2 := cell_lt m2
                clear hb6 t0 HNX
                have m1 := u3 a (by omega)
                rw [hv1] at m1
                have lm1 := cell_lt m1
                clear u3
                go_wp2_with fail
                refine (CE.out _).mono ?_
                rintro e w7 ⟨rfl, rfl⟩
                have HF : Hid (lacksB m 0 m.code = lacksB m (j + 1) (m.code.drop (j + 1))) := Lib.hid (by rw [HLA.out, HLD.out, HL.out]; simp)
                go_wp2
                go_roundw
                case rel => exact ⟨j + 1, hlt, by simp, HF.out, HH6.out⟩
                case measure => simp [intOf]; omega
              | true =>
                rw [he] at HL CE
                clear he
                cases hv2 : hasK m nc k (j + 1) with
                | false =>
                  rw [hv2] at HL
                  go_wp2_with fail
                  rw [HW5.out]
                  go_wp2_with fail
                  refine CB.out.mono ?_
                  rintro e w6 ⟨rfl, hb6⟩
                  obtain ⟨u0, u1, u2, u3⟩ := KX.out _ hb6
                  have HH6 := Lib.hid (HNX.out.below hb6)
                  have HB6 := Lib.hid (HB5.out.trans (hb6.mono HB5.out.size))
                  have hg6 := Nat.lt_of_lt_of_le hgl hb6.size
                  have m2 := u3 (j + 1) (by omega)
                  have lm2 := cell_lt m2
                  clear hb6 t0 HNX
                  have m1 := u3 a (by omega)
                  rw [hv1] at m1
                  have lm1 := cell_lt m1
                  clear u3
                  rw [hv2] at m2
                  go_wp2_with fail
                  refine (CE.out _).mono ?_
                  rintro e w7 ⟨rfl, rfl⟩
                  have HF : Hid (mappedB m = false) := Lib.hid (by rw [HE.out, HLA.out, HLD.out, HL.out]; simp)
                  go_wp2
                  go_ret
                  exact ⟨by rw [HF.out]; rfl, HB6.out⟩
                | true =>
                  rw [hv2] at HL
                  go_wp2_with fail
                  rw [HW5.out]
                  go_wp2_with fail
                  refine CB.out.mono ?_
                  rintro e w6 ⟨rfl, hb6⟩
                  obtain ⟨u0, u1, u2, u3⟩ := KX.out _ hb6
                  have HH6 := Lib.hid (HNX.out.below hb6)
                  have HB6 := Lib.hid (HB5.out.trans (hb6.mono HB5.out.size))
                  have hg6 := Nat.lt_of_lt_of_le hgl hb6.size
                  have m2 := u3 (j + 1) (by omega)
                  have lm2 := cell_lt m2
                  clear hb6 t0 HNX
                  have m1 := u3 a (by omega)
                  rw [hv1] at m1
                  have lm1 := cell_lt m1
                  clear u3
                  rw [hv2] at m2
                  go_wp2_with fail
                  refine (CE.out _).mono ?_
                  rintro e w7 ⟨rfl, rfl⟩
                  have HF : Hid (lacksB m 0 m.code = lacksB m (j + 1) (m.code.drop (j + 1))) := Lib.hid (by rw [HLA.out, HLD.out, HL.out]; simp)
                  go_wp2
                  go_roundw
                  case rel => exact ⟨j + 1, hlt, by simp, HF.out, HH6.out⟩
                  case measure => simp [intOf]; omega
        · have HF : Hid (lacksB m 0 m.code = false) := Lib.hid (by rw [HLA.out, List.drop_eq_nil_of_le (by rw [HLC.out]; omega)]; rfl)
          have CT : Hid (Calls Tryz.prog 159 #[.slice At nt ct, .func (.func 161) #[] #[.pointer (some ⟨w.heap.size + 1 + 1, 0, none⟩)]] wr fun e w' => e = .returned (.bool (m.traps.any (bareB m))) ∧ Below wr.heap.size wr w') := Lib.hid (
            containsTr_any 161 ⟨w.heap.size + 1 + 1, 0, none⟩ (bareB m) At nt ct m.traps wr (HTR.out.below hH.bel) (enters_of Tryz.func161 (by kernel_rfl) rfl) (fun x hx W' q' _ => by
              obtain ⟨x1, x2⟩ := HP3.out x hx
              rw [HLC.out] at x2
              have hv : bareB m x = !hasK m nc k x.c.toNat := by unfold bareB; rw [HHB.out _ x1]
              rw [hv]
              exact flMapped1_any x (w.heap.size + 1 + 1) (w.heap.size + 1) (nc + 1) (hasK m nc k x.c.toNat) W' ⟨x1, by omega⟩ (by omega) ((HH.out.below q').box.cell 0) ((HH.out.below q').cell _ (by omega))))
          obtain ⟨r0, r1, r2, r3, r4, r5, r6, r7⟩ := K1.out _ hH.bel
          have HBW := Lib.hid (HBB.out.trans (hH.bel.mono HBB.out.size))
          clear hH
          go_wp2_with fail
          refine CT.out.mono ?_
          rintro e w2 ⟨rfl, hb⟩
          go_wp2
          go_ret
          exact ⟨by rw [HE.out, HF.out]; rfl, HBW.out.trans (hb.mono HBW.out.size)⟩

/-- A call that is made with a method. -/
theorem flCheck_any (m : MeD) (Ac : Option Addr) (nc cc : Nat) (At : Option Addr) (nt ct : Nat) (Ap : Option Addr) (np cp : Nat) (w : World) (h : MeAt w m Ac nc cc At nt ct Ap np cp) (hd : m.desc.length ≤ 1000000) (hn : nc ≤ 1000000) (hT : Spans w) :
    Calls Tryz.prog 46 #[.agg #[.bool m.static, .string (strB m.name), .string (strB m.desc), .int .i64 m.stack, .int .i64 m.locals, .slice Ac nc cc, .slice At nt ct, .slice Ap np cp]] w fun e w' => e = .returned (.int .i64 (checkF m)) ∧ Below w.heap.size w w' := by
  have HM := Lib.hid h
  obtain ⟨hco, htr, hma⟩ := h
  obtain ⟨W1, hW1⟩ : ∃ W1, w.alloc (.cells #[.bool m.static, .string (strB m.name), .string (strB m.desc), .int .i64 m.stack, .int .i64 m.locals, .slice Ac nc cc, .slice At nt ct, .slice Ap np cp] 41) = W1 := ⟨_, rfl⟩
  have hbb : Below w.heap.size w W1 := by rw [← hW1]; exact (Below.refl _ _).alloc (Nat.le_refl _) _
  have k0 : Blk W1 w.heap.size 41 #[.bool m.static, .string (strB m.name), .string (strB m.desc), .int .i64 m.stack, .int .i64 m.locals, .slice Ac nc cc, .slice At nt ct, .slice Ap np cp] := by rw [← hW1]; exact Blk.new w _ _
  have hsz : w.heap.size < W1.heap.size := k0.lt
  have K1 : Hid (∀ W : World, Below W1.heap.size W1 W → W.cell? ⟨w.heap.size, 0, none⟩ = some (.bool m.static) ∧ W.cell? ⟨w.heap.size, 1, none⟩ = some (.string (strB m.name)) ∧ W.cell? ⟨w.heap.size, 2, none⟩ = some (.string (strB m.desc)) ∧ W.cell? ⟨w.heap.size, 3, none⟩ = some (.int .i64 m.stack) ∧ W.cell? ⟨w.heap.size, 4, none⟩ = some (.int .i64 m.locals) ∧ W.cell? ⟨w.heap.size, 5, none⟩ = some (.slice Ac nc cc) ∧ W.cell? ⟨w.heap.size, 6, none⟩ = some (.slice At nt ct) ∧ W.cell? ⟨w.heap.size, 7, none⟩ = some (.slice Ap np cp)) := Lib.hid (fun W h => ⟨(k0.of (h.block _ hsz)).cell 0, (k0.of (h.block _ hsz)).cell 1, (k0.of (h.block _ hsz)).cell 2, (k0.of (h.block _ hsz)).cell 3, (k0.of (h.block _ hsz)).cell 4, (k0.of (h.block _ hsz)).cell 5, (k0.of (h.block _ hsz)).cell 6, (k0.of (h.block _ hsz)).cell 7⟩)
  have HCO := Lib.hid (hco.below hbb)
  have HTR := Lib.hid (htr.below hbb)
  have HMA := Lib.hid (hma.below hbb)
  have HT := Lib.hid (hT.below hbb)
  have HBB := Lib.hid hbb
  have HW1 := Lib.hid hW1
  have hnc := hco.2.1
  have hcc := hco.2.2.1
  have hnt := htr.2.1
  have hct := htr.2.2.1
  have hnp := hma.2.1
  have hcp := hma.2.2.1
  unfold maxLen at hcc hct hcp
  have HLC := Lib.hid hco.1
  have C1 := Lib.hid (flFormed_any m Ac nc cc At nt ct Ap np cp W1 (HM.out.below hbb) hd (hT.below hbb))
  have C2 := Lib.hid (fun (W : World) (q : Below W1.heap.size W1 W) => flPlaced_any m Ac nc cc At nt ct Ap np cp W ((HM.out.below hbb).below q) ((hT.below hbb).below q))
  have C3 := Lib.hid (fun (W : World) (q : Below W1.heap.size W1 W) => flMapped_any m Ac nc cc At nt ct Ap np cp W ((HM.out.below hbb).below q) ((hT.below hbb).below q) hn)
  have HE : Hid (checkF m = if !formedB m then 8 else if !placedB m then 2 else if !mappedB m then 11 else 0) := Lib.hid rfl
  obtain ⟨p0, p1, p2, p3, p4, p5, p6, p7⟩ := K1.out _ (Below.refl _ _)
  clear hco htr hma hT hbb k0 hW1
  cases h1 : formedB m with
  | false =>
    rw [h1] at C1 HE
    go_enter Tryz.func46, Tryz.ntmps46
    go_wp2_with fail
    rw [HW1.out]
    go_wp2_with fail
    refine C1.out.mono ?_
    rintro e w2 ⟨rfl, hb⟩
    go_wp2
    go_ret
    exact ⟨by rw [HE.out]; rfl, HBB.out.trans (hb.mono HBB.out.size)⟩
  | true =>
    rw [h1] at C1 HE
    cases h2 : placedB m with
    | false =>
      rw [h2] at C2 HE
      go_enter Tryz.func46, Tryz.ntmps46
      go_wp2_with fail
      rw [HW1.out]
      go_wp2_with fail
      refine C1.out.mono ?_
      rintro e w2 ⟨rfl, hb⟩
      obtain ⟨q0, q1, q2, q3, q4, q5, q6, q7⟩ := K1.out _ hb
      have HB2 := Lib.hid hb
      clear p0 p1 p2 p3 p4 p5 p6 p7 hb
      go_wp2_with fail
      refine (C2.out _ HB2.out).mono ?_
      rintro e w3 ⟨rfl, hb⟩
      have HB3 := Lib.hid (HB2.out.trans (hb.mono HB2.out.size))
      clear hb
      go_wp2
      go_ret
      exact ⟨by rw [HE.out]; rfl, HBB.out.trans (HB3.out.mono HBB.out.size)⟩
    | true =>
      have C4 := Lib.hid (fun W q => C3.out W q h2)
      rw [h2] at C2 HE
      clear C3
      obtain ⟨mb, hmb⟩ : ∃ mb, mappedB m = mb := ⟨_, rfl⟩
      rw [hmb] at C4 HE
      clear hmb
      go_enter Tryz.func46, Tryz.ntmps46
      go_wp2_with fail
      rw [HW1.out]
      go_wp2_with fail
      refine C1.out.mono ?_
      rintro e w2 ⟨rfl, hb⟩
      obtain ⟨q0, q1, q2, q3, q4, q5, q6, q7⟩ := K1.out _ hb
      have HB2 := Lib.hid hb
      clear p0 p1 p2 p3 p4 p5 p6 p7 hb
      go_wp2_with fail
      refine (C2.out _ HB2.out).mono ?_
      rintro e w3 ⟨rfl, hb⟩
      obtain ⟨r0, r1, r2, r3, r4, r5, r6, r7⟩ := K1.out _ (HB2.out.trans (hb.mono HB2.out.size))
      have HB3 := Lib.hid (HB2.out.trans (hb.mono HB2.out.size))
      clear q0 q1 q2 q3 q4 q5 q6 q7 hb
      go_wp2_with fail
      refine (C4.out _ HB3.out).mono ?_
      rintro e w4 ⟨rfl, hb⟩
      have HB4 := Lib.hid (HB3.out.trans (hb.mono HB3.out.size))
      clear r0 r1 r2 r3 r4 r5 r6 r7 hb
      cases mb <;> (go_wp2; go_ret; exact ⟨by rw [HE.out]; rfl, HBB.out.trans (HB4.out.mono HBB.out.size)⟩)

end Go.Proofs.YtdkkpcbebhgbiaaGreatDoor

/- The walks over slices.Clone at texts, flow.MapAt; printed by gen/gen_ok.py. -/
namespace Go.Proofs.YtdkkpcbebhgbiaaGreatDoor
set_option maxRecDepth 100000
open Go.RowKit

theorem rowSl_row {w : World} {Z : Nat → Prop} {A : Option Addr} {n c : Nat} {l : List Bs} (h : RowSl svC 1 w Z A n c l) (hA : A = none → n = 0 ∧ c = 0) : RowS strT w Z A n c l := by
  obtain ⟨h1, h2, h3, h4⟩ := h
  refine ⟨h1, h2, h3, hA, fun h0 => ?_⟩
  obtain ⟨b, o, e, hb, hs, hc⟩ := h4 h0
  refine ⟨b, o, e, hb, hs, fun i x hx => ⟨[.string (strB x)], fun j v hv => ?_, rfl⟩⟩
  obtain rfl : j = 0 := by
    have := (List.getElem?_eq_some_iff.1 hv).1
    simp at this
    omega
  have := hc i x hx 0 (by decide)
  rw [Nat.mul_one] at this
  have h5 : (strT.k) = 1 := rfl
  rw [h5, Nat.mul_one, this]
  exact hv
theorem cloneS_any (A : Option Addr) (n c : Nat) (l : List Bs) (w : World) (h : RowS strT w Empty A n c l) (hn : n ≤ 1000000) :
    Calls Tryz.prog 83 #[.slice A n c] w fun e w' => (∃ A' c', e = .returned (.slice A' n c') ∧ RowS strT w' (fun q => q < w.heap.size) A' n c' l) ∧ Below w.heap.size w w' := by
  rcases A with _ | ad
  · obtain ⟨rfl, rfl⟩ := h.2.2.2.1 rfl
    have hE := Lib.run_eql_slice_nil (P := Tryz.prog) w 42 9 none 0 0 0 0 Tryz.underlying42
    have H := Lib.hid h
    clear h
    go_enter Tryz.func83, Tryz.ntmps83
    go_wp2
    go_ret
    exact ⟨⟨none, 0, rfl, by have h1 := H.out.1; have : l = [] := List.eq_nil_of_length_eq_zero h1; subst this; exact rowS_nil _ _ _⟩, Below.refl _ _⟩
  · have hE := Lib.run_eql_slice_nil (P := Tryz.prog) w 42 9 (some ad) n c 0 0 Tryz.underlying42
    have H := Lib.hid h
    have hal : Below w.heap.size w (w.alloc (.cells #[] 9)) := (Below.refl _ _).alloc (Nat.le_refl _) _
    have hG5 : GotR svC 1 9 w.heap.size (w.alloc (.cells #[] 9)) (some ⟨w.heap.size, 0, none⟩) 0 0 ([] : List Bs) := by
      have own := World.ownsRow_lit (base := w.heap.size) (e := 9) (size := 1) w #[] 0 (Nat.le_refl _) (by decide) rfl
      obtain ⟨A, cp, he, hG⟩ := GotR.of_own (cells := svC) (l := ([] : List Bs)) svC_len own rfl
      cases he
      exact hG
    have HG5 := Lib.hid hG5
    have HAL := Lib.hid hal
    have HSL := Lib.hid (sl_of_rowS (h.below hal))
    clear h hG5 hal
    go_enter Tryz.func83, Tryz.ntmps83
    go_wp2_with (at_builtin; refine wpList_append_sv rfl _ _ rfl w.heap.size (some ⟨w.heap.size, 0, none⟩) 0 0 [] rfl HG5.out (some ad) n c l rfl HSL.out (fun h => by cases h) (by omega) HAL.out.size ?_; intro A6 c6 w6 hG6 hg6 hr6; have HE : Hid (RowS strT w6 (fun q => q < w.heap.size) A6 (0 + n) c6 l ∧ Below w.heap.size w w6) := Lib.hid ⟨rowSl_row (by have := hG6.out (S := fun q => q < w.heap.size) (fun i h1 _ h2 => by omega); rwa [List.nil_append] at this) hG6.isNil, below_gotR HAL.out HAL.out.size hg6 hr6 (Nat.le_refl _)⟩; clear hG6 hg6 hr6)
    go_ret
    rw [Nat.zero_add] at HE
    exact ⟨⟨A6, c6, rfl, HE.out.1⟩, HE.out.2⟩

theorem flMapAt1_any (x : MpD) (A1 : Option Addr) (n1 q1 : Nat) (A2 : Option Addr) (n2 q2 : Nat) (g : Nat) (a : Int) (w : World) (hg : w.cell? ⟨g, 0, none⟩ = some (.int .i64 a)) :
    Calls Tryz.prog 96 #[.agg #[.int .i64 x.at_, .slice A1 n1 q1, .slice A2 n2 q2], .pointer (some ⟨g, 0, none⟩)] w fun e w' => e = .returned (.bool (x.at_ == a)) ∧ Below w.heap.size w w' := by
  have hgl := cell_lt hg
  go_enter Tryz.func96, Tryz.ntmps96
  go_wp2
  go_ret
  exact ⟨rfl, (Below.refl _ _).alloc (Nat.le_refl _) _⟩

/-- What MapAt answers. -/
def MapD (r : Option MpD) (a : Int) (e : Ending) (w' : World) : Prop := match r with
  | none => e = .returned (.tuple #[.agg #[.int .i64 0, .slice none 0 0, .slice none 0 0], .bool false])
  | some x => ∃ A1 n1 c1 A2 n2 c2, e = .returned (.tuple #[.agg #[.int .i64 a, .slice A1 n1 c1, .slice A2 n2 c2], .bool true]) ∧ RowS strT w' Empty A1 n1 c1 x.locals ∧ RowS strT w' Empty A2 n2 c2 x.stack
set_option maxHeartbeats 4000000 in
theorem flMapAt_any (m : MeD) (Ac : Option Addr) (nc cc : Nat) (At : Option Addr) (nt ct : Nat) (Ap : Option Addr) (np cp : Nat) (a : Int) (w : World) (h : MeAt w m Ac nc cc At nt ct Ap np cp) (hT : Spans w) (hs : ∀ p ∈ m.maps, p.locals.length ≤ 1000000 ∧ p.stack.length ≤ 1000000) :
    Calls Tryz.prog 42 #[.agg #[.bool m.static, .string (strB m.name), .string (strB m.desc), .int .i64 m.stack, .int .i64 m.locals, .slice Ac nc cc, .slice At nt ct, .slice Ap np cp], .int .i64 a] w fun e w' => MapD (mapAtF m a) a e w' ∧ Below w.heap.size w w' := by
  obtain ⟨hco, htr, hma⟩ := h
  obtain ⟨W1, hW1⟩ : ∃ W1, w.alloc (.cells #[.bool m.static, .string (strB m.name), .string (strB m.desc), .int .i64 m.stack, .int .i64 m.locals, .slice Ac nc cc, .slice At nt ct, .slice Ap np cp] 41) = W1 := ⟨_, rfl⟩
  have hbb : Below w.heap.size w W1 := by rw [← hW1]; exact (Below.refl _ _).alloc (Nat.le_refl _) _
  have k0 : Blk W1 w.heap.size 41 #[.bool m.static, .string (strB m.name), .string (strB m.desc), .int .i64 m.stack, .int .i64 m.locals, .slice Ac nc cc, .slice At nt ct, .slice Ap np cp] := by rw [← hW1]; exact Blk.new w _ _
  have hsz : w.heap.size < W1.heap.size := k0.lt
  have K1 : Hid (∀ W : World, Below W1.heap.size W1 W → W.cell? ⟨w.heap.size, 0, none⟩ = some (.bool m.static) ∧ W.cell? ⟨w.heap.size, 1, none⟩ = some (.string (strB m.name)) ∧ W.cell? ⟨w.heap.size, 2, none⟩ = some (.string (strB m.desc)) ∧ W.cell? ⟨w.heap.size, 3, none⟩ = some (.int .i64 m.stack) ∧ W.cell? ⟨w.heap.size, 4, none⟩ = some (.int .i64 m.locals) ∧ W.cell? ⟨w.heap.size, 5, none⟩ = some (.slice Ac nc cc) ∧ W.cell? ⟨w.heap.size, 6, none⟩ = some (.slice At nt ct) ∧ W.cell? ⟨w.heap.size, 7, none⟩ = some (.slice Ap np cp)) := Lib.hid (fun W h => ⟨(k0.of (h.block _ hsz)).cell 0, (k0.of (h.block _ hsz)).cell 1, (k0.of (h.block _ hsz)).cell 2, (k0.of (h.block _ hsz)).cell 3, (k0.of (h.block _ hsz)).cell 4, (k0.of (h.block _ hsz)).cell 5, (k0.of (h.block _ hsz)).cell 6, (k0.of (h.block _ hsz)).cell 7⟩)
  have HCO := Lib.hid (hco.below hbb)
  have HTR := Lib.hid (htr.below hbb)
  have HMA := Lib.hid (hma.below hbb)
  have HT := Lib.hid (hT.below hbb)
  have HBB := Lib.hid hbb
  have HW1 := Lib.hid hW1
  have hnc := hco.2.1
  have hcc := hco.2.2.1
  have hnt := htr.2.1
  have hct := htr.2.2.1
  have hnp := hma.2.1
  have hcp := hma.2.2.1
  unfold maxLen at hcc hct hcp
  have HLC := Lib.hid hco.1
  have HS := Lib.hid hs
  have HMS := Lib.hid hma.1
  have hs1 : W1.heap.size = w.heap.size + 1 := by rw [← hW1]; simp
  obtain ⟨W2, hW2⟩ : ∃ W2, (W1.alloc (.cells #[.int .i64 a] 3)).alloc (.cells #[.int .i64 0, .slice none 0 0, .slice none 0 0] 44) = W2 := ⟨_, rfl⟩
  have hb2 : Below W1.heap.size W1 W2 := by rw [← hW2]; exact ((Below.refl _ _).alloc (Nat.le_refl _) _).alloc (by simp) _
  have k1 : Blk W2 (w.heap.size + 1) 3 #[.int .i64 a] := by rw [← hW2, ← hs1]; exact (Blk.new W1 _ _).alloc _
  have k2 : Blk W2 (w.heap.size + 1 + 1) 44 #[.int .i64 0, .slice none 0 0, .slice none 0 0] := by
    have := Blk.new (W1.alloc (.cells #[.int .i64 a] 3)) 44 #[.int .i64 0, .slice none 0 0, .slice none 0 0]
    rw [← hW2]
    rwa [show (W1.alloc (.cells #[.int .i64 a] 3)).heap.size = w.heap.size + 1 + 1 by simp [hs1]] at this
  have K2 : Hid (∀ W : World, Below W2.heap.size W2 W → W.cell? ⟨w.heap.size + 1, 0, none⟩ = some (.int .i64 a)) := Lib.hid (fun W q => (k1.of (q.block _ k1.lt)).cell 0)
  have HK2 := Lib.hid k2
  have CI : Hid (Calls Tryz.prog 95 #[.slice Ap np cp, .func (.func 96) #[] #[.pointer (some ⟨w.heap.size + 1, 0, none⟩)]] W2 fun e w' => e = .returned (.int .i64 (firstX (fun x => x.at_ == a) m.maps)) ∧ Below W2.heap.size W2 w') := Lib.hid (
    indexMp_any 96 ⟨w.heap.size + 1, 0, none⟩ (fun x => x.at_ == a) Ap np cp m.maps W2 (HMA.out.below hb2) (enters_of Tryz.func96 (by kernel_rfl) rfl) (fun x _ W' A1 n1 q1 A2 n2 q2 q' _ => flMapAt1_any x A1 n1 q1 A2 n2 q2 (w.heap.size + 1) a W' (K2.out W' q')))
  have HW2 := Lib.hid hW2
  have HB2 := Lib.hid hb2
  obtain ⟨p0, p1, p2, p3, p4, p5, p6, p7⟩ := K1.out _ (Below.refl _ _)
  obtain ⟨r0, r1, r2, r3, r4, r5, r6, r7⟩ := K1.out _ hb2
  have hgl2 : w.heap.size + 1 + 1 < W2.heap.size := k2.lt
  have HFX := Lib.hid (firstX_find (fun (x : MpD) => x.at_ == a) m.maps)
  have HMF : Hid (mapAtF m a = m.maps.find? (fun x => x.at_ == a)) := Lib.hid rfl
  clear hco htr hma hT hbb k0 hW1 hW2 hb2 k1 k2 hs1 hs
  go_enter Tryz.func42, Tryz.ntmps42
  go_wp2_with fail
  rw [HW1.out, HW2.out]
  refine CI.out.mono ?_
  rintro e w3 ⟨rfl, hb⟩
  have HB3 := Lib.hid (HB2.out.trans (hb.mono HB2.out.size))
  obtain ⟨q0, q1, q2, q3, q4, q5, q6, q7⟩ := K1.out _ HB3.out
  have HK3 := Lib.hid (HK2.out.of (hb.block _ HK2.out.lt))
  have HHK := K2.out _ hb
  have z0 : w3.cell? ⟨w.heap.size + 1 + 1, 0, none⟩ = some (.int .i64 0) := HK3.out.cell 0
  have z1 : w3.cell? ⟨w.heap.size + 1 + 1, 1, none⟩ = some (.slice none 0 0) := HK3.out.cell 1
  have z2 : w3.cell? ⟨w.heap.size + 1 + 1, 2, none⟩ = some (.slice none 0 0) := HK3.out.cell 2
  have y0 := HK3.out.frozen 0
  have y1 := HK3.out.frozen 1
  have y2 := HK3.out.frozen 2
  have HB23 := Lib.hid hb
  have HBW3 := Lib.hid (HBB.out.trans (HB3.out.mono HBB.out.size))
  have hgl3 : w.heap.size + 1 + 1 < w3.heap.size := HK3.out.lt
  clear p0 p1 p2 p3 p4 p5 p6 p7 r0 r1 r2 r3 r4 r5 r6 r7 CI hb
  rcases HFX.out with ⟨hf, hfind⟩ | ⟨k, x, hf, hx, hfind, hkl⟩
  · rw [hf]
    have HD : Hid (mapAtF m a = none) := Lib.hid (by rw [HMF.out, hfind])
    clear hf hfind
    go_wp2_with fail
    obtain ⟨W6, hW6⟩ : ∃ W6, (((w3.setCell ⟨w.heap.size + 1 + 1, 0, none⟩ (.int .i64 0)).setCell ⟨w.heap.size + 1 + 1, 1, none⟩ (.slice none 0 0)).setCell ⟨w.heap.size + 1 + 1, 2, none⟩ (.slice none 0 0)) = W6 := ⟨_, rfl⟩
    have kb2 : Blk W6 (w.heap.size + 1 + 1) 44 #[.int .i64 0, .slice none 0 0, .slice none 0 0] := by rw [← hW6]; exact ((HK3.out.set_ 0 _).set_ 1 _).set_ 2 _
    have hB6 : Below w.heap.size w W6 := by rw [← hW6]; exact ((HBW3.out.setCell (p := ⟨w.heap.size + 1 + 1, 0, none⟩) (by simp; omega) _).setCell (p := ⟨w.heap.size + 1 + 1, 1, none⟩) (by simp; omega) _).setCell (p := ⟨w.heap.size + 1 + 1, 2, none⟩) (by simp; omega) _
    rw [hW6]
    have e0 : W6.cell? ⟨w.heap.size + 1 + 1, 0, none⟩ = some (.int .i64 0) := kb2.cell 0
    have e1 : W6.cell? ⟨w.heap.size + 1 + 1, 1, none⟩ = some (.slice none 0 0) := kb2.cell 1
    have e2 : W6.cell? ⟨w.heap.size + 1 + 1, 2, none⟩ = some (.slice none 0 0) := kb2.cell 2
    clear hW6 kb2
    refine bodyPost_ret (v := .tuple #[.agg #[.int .i64 0, .slice none 0 0, .slice none 0 0], .bool false]) (by simp [results, Tryz.f42, go_sem, e0, e1, e2]) rfl ⟨?_, hB6⟩
    unfold MapD
    rw [HD.out]
  · rw [hf]
    rw [HMS.out] at hkl
    have HD : Hid (mapAtF m a = some x) := Lib.hid (by rw [HMF.out, hfind])
    obtain ⟨b, o, x', A1, n1, c1, A2, n2, c2, rfl, hb, hx', d0, d1, d2, hR1, hR2⟩ := mpRow_at (HMA.out.below HB3.out) hkl
    obtain rfl : x = x' := Option.some.inj (hx.symm.trans hx')
    have hxm := HS.out x (List.mem_of_getElem? hx)
    have hn1 : n1 ≤ 1000000 := by rw [← hR1.1]; exact hxm.1
    have hn2 : n2 ≤ 1000000 := by rw [← hR2.1]; exact hxm.2
    have hax : x.at_ = a := by
      have := List.find?_some hfind
      simpa using this
    rw [hax] at d0
    have hal : Below w3.heap.size w3 (w3.alloc (.cells #[.int .i64 a, .slice A1 n1 c1, .slice A2 n2 c2] 44)) := (Below.refl _ _).alloc (Nat.le_refl _) _
    have kx := Blk.new w3 44 #[.int .i64 a, .slice A1 n1 c1, .slice A2 n2 c2]
    have kr := HK3.out.alloc (.cells #[.int .i64 a, .slice A1 n1 c1, .slice A2 n2 c2] 44)
    obtain ⟨W5, hW5⟩ : ∃ W5, w3.alloc (.cells #[.int .i64 a, .slice A1 n1 c1, .slice A2 n2 c2] 44) = W5 := ⟨_, rfl⟩
    rw [hW5] at hal kx kr
    have hb25 : Below W2.heap.size W2 W5 := by
      have h1 : Below W2.heap.size W2 w3 := HB23.out
      exact h1.trans (hal.mono h1.size)
    have KS : ∀ W, Below W5.heap.size W5 W → W.cell? ⟨w.heap.size + 1, 0, none⟩ = some (.int .i64 a) ∧ W.cell? ⟨w3.heap.size, 1, none⟩ = some (.slice A1 n1 c1) ∧ W.cell? ⟨w3.heap.size, 2, none⟩ = some (.slice A2 n2 c2) := fun W q => ⟨K2.out W (hb25.trans (q.mono hb25.size)), (kx.of (q.block _ kx.lt)).cell 1, (kx.of (q.block _ kx.lt)).cell 2⟩
    have hS5 := KS W5 (Below.refl _ _)
    have hdr : Below W5.heap.size W5 W5.drew := ((Only.refl Empty W5).drew).below (Nat.le_refl _) (fun _ _ h => h)
    have C1 := Lib.hid (cloneS_any A1 n1 c1 x.locals W5.drew ((hR1.below hal).below hdr) hn1)
    have C2 := Lib.hid (fun (W : World) (q : Below W5.heap.size W5 W) => cloneS_any A2 n2 c2 x.stack W ((hR2.below hal).below q) hn2)
    have HKS := Lib.hid KS
    have HW5 := Lib.hid hW5
    have HBW5 := Lib.hid (HBW3.out.trans (hal.mono HBW3.out.size))
    have HKR := Lib.hid kr
    have HDR := Lib.hid hdr
    obtain ⟨g7, hg7⟩ : ∃ g7, w3.heap.size = g7 := ⟨_, rfl⟩
    have HG7 := Lib.hid hg7
    rw [hg7] at hS5
    clear hf hfind hx hx' hal kx kr hW5 hb25 KS hdr hg7 hxm
    subst hax
    go_wp2_with fail
    rw [HW5.out, HG7.out]
    refine wp_region_held_drew (S := fun W => W.cell? ⟨w.heap.size + 1, 0, none⟩ = some (.int .i64 x.at_) ∧ W.cell? ⟨g7, 1, none⟩ = some (.slice A1 n1 c1) ∧ W.cell? ⟨g7, 2, none⟩ = some (.slice A2 n2 c2)) (by kernel_rfl) hS5 (fun hHeld0 => ?_)
    refine take_yes 0 20 ?_ rfl rfl (by kernel_rfl) (by kernel_rfl) (by kernel_rfl) (fun _ _ _ h => h) (by kernel_rfl) ?_ (by assumption) ?_; rotate_left; (focus (intro w hSw; (try dsimp only at hSw); go_simp; all_goals first | with_reducible rfl)); simp only [Act.put, List.setIfInBounds_toArray, List.set_cons_zero, List.set_cons_succ]
    refine take_yes 1 21 ?_ rfl rfl (by kernel_rfl) (by kernel_rfl) (by kernel_rfl) (fun _ _ _ h => h) (by kernel_rfl) ?_ (by assumption) ?_; rotate_left; (focus (intro w hSw; (try dsimp only at hSw); go_simp; all_goals first | with_reducible rfl)); simp only [Act.put, List.setIfInBounds_toArray, List.set_cons_zero, List.set_cons_succ]
    refine take_yes 2 22 ?_ rfl rfl (by kernel_rfl) (by kernel_rfl) (by kernel_rfl) (fun _ _ _ h => h) (by kernel_rfl) ?_ (by assumption) ?_; rotate_left; (focus (intro w hSw; (try dsimp only at hSw); go_simp; all_goals first | with_reducible rfl)); simp only [Act.put, List.setIfInBounds_toArray, List.set_cons_zero, List.set_cons_succ]
    refine take_yes 4 24 ?_ rfl rfl (by kernel_rfl) (by kernel_rfl) (by kernel_rfl) (fun _ _ _ h => h) (by kernel_rfl) ?_ (by assumption) ?_; rotate_left; (focus (intro w hSw; (try dsimp only at hSw); go_simp; all_goals first | with_reducible rfl)); simp only [Act.put, List.setIfInBounds_toArray, List.set_cons_zero, List.set_cons_succ]
    refine take_yes 5 25 ?_ rfl rfl (by kernel_rfl) (by kernel_rfl) (by kernel_rfl) (fun _ _ _ h => h) (by kernel_rfl) ?_ (by assumption) ?_; rotate_left; (focus (intro w hSw; (try dsimp only at hSw); go_simp; all_goals first | with_reducible rfl)); simp only [Act.put, List.setIfInBounds_toArray, List.set_cons_zero, List.set_cons_succ]
    refine wpAnyH_ready (rs := [3]) (by kernel_rfl) (by simp) ?_
    refine AllReadyH.cons rfl (fun K hK => ?_) AllReadyH.nil
    go_simp
    go_at_call 83; (with_reducible refine C1.out.mono ?_); rintro e6 w6 ⟨⟨B1, b1, rfl, hQ1⟩, hb6⟩
    have hB6 : Below W5.heap.size W5 w6 := HDR.out.trans (hb6.mono HDR.out.size)
    have hS6 := HKS.out w6 hB6
    rw [HG7.out] at hS6
    have HB6 := Lib.hid hB6
    have HQ1 := Lib.hid (hQ1.mono (Z' := fun q => q < W5.heap.size) (fun i _ h => Nat.lt_of_lt_of_le h HDR.out.size))
    clear hb6 hB6 hQ1
    go_wp2_with fail
    refine hK.out _ _ (hS6) (fun _ => ?_)
    clear hK K
    try simp only [Act.put, List.setIfInBounds_toArray, List.set_cons_zero, List.set_cons_succ]
    refine wpAnyH_ready (rs := [6]) (by kernel_rfl) (by simp) ?_
    refine AllReadyH.cons rfl (fun K hK => ?_) AllReadyH.nil
    go_simp
    go_at_call 83; (with_reducible refine (C2.out _ HB6.out).mono ?_); rintro e7 w7 ⟨⟨B2, b2, rfl, hQ2⟩, hb7⟩
    have hB7 : Below W5.heap.size W5 w7 := HB6.out.trans (hb7.mono HB6.out.size)
    have hS7 := HKS.out w7 hB7
    rw [HG7.out] at hS7
    have HB7 := Lib.hid hB7
    have HQ3 := Lib.hid (HQ1.out.next (Z' := fun q => q < W5.heap.size) (Only.of_below hb7) (fun _ _ h => h))
    have HQ2 := Lib.hid (hQ2.mono (Z' := fun q => q < W5.heap.size) (fun i _ h => Nat.lt_of_lt_of_le h HB6.out.size))
    have kr7 := HKR.out.of (hB7.block _ HKR.out.lt)
    have y0 : w7.cell? ⟨w.heap.size + 1 + 1, 0, none⟩ = some (.int .i64 0) := kr7.cell 0
    have y1 : w7.cell? ⟨w.heap.size + 1 + 1, 1, none⟩ = some (.slice none 0 0) := kr7.cell 1
    have y2 : w7.cell? ⟨w.heap.size + 1 + 1, 2, none⟩ = some (.slice none 0 0) := kr7.cell 2
    have z0 := kr7.frozen 0
    have z1 := kr7.frozen 1
    have z2 := kr7.frozen 2
    have HKR7 := Lib.hid kr7
    clear hb7 hB7 hQ2 kr7
    go_wp2_with fail
    refine hK.out _ _ (hS7) (fun _ => ?_)
    clear hK K
    try simp only [Act.put, List.setIfInBounds_toArray, List.set_cons_zero, List.set_cons_succ]
    refine take_yes 7 27 ?_ rfl rfl (by kernel_rfl) (by kernel_rfl) (by kernel_rfl) (fun _ _ _ h => h) (by kernel_rfl) ?_ (by assumption) ?_; rotate_left; (focus (intro w hSw; (try dsimp only at hSw); go_simp; all_goals first | with_reducible rfl)); simp only [Act.put, List.setIfInBounds_toArray, List.set_cons_zero, List.set_cons_succ]
    refine wpAnyH_ready (rs := [8]) (by kernel_rfl) (by simp) ?_
    refine AllReadyH.cons rfl (fun K hK => ?_) AllReadyH.nil
    go_simp
    obtain ⟨W8, hW8⟩ : ∃ W8, (((w7.setCell ⟨w.heap.size + 1 + 1, 0, none⟩ (.int .i64 x.at_)).setCell ⟨w.heap.size + 1 + 1, 1, none⟩ (.slice B1 n1 b1)).setCell ⟨w.heap.size + 1 + 1, 2, none⟩ (.slice B2 n2 b2)) = W8 := ⟨_, rfl⟩
    have ho : Only (· = w.heap.size + 1 + 1) w7 W8 := by
      rw [← hW8]
      exact (((Only.refl (· = w.heap.size + 1 + 1) w7).setCell (p := ⟨w.heap.size + 1 + 1, 0, none⟩) (Or.inl rfl) _).setCell (p := ⟨w.heap.size + 1 + 1, 1, none⟩) (Or.inl rfl) _).setCell (p := ⟨w.heap.size + 1 + 1, 2, none⟩) (Or.inl rfl) _
    have hk8 : Blk W8 (w.heap.size + 1 + 1) 44 #[.int .i64 x.at_, .slice B1 n1 b1, .slice B2 n2 b2] := by
      rw [← hW8]
      exact ((HKR7.out.set_ 0 _).set_ 1 _).set_ 2 _
    have hg72 : w.heap.size + 1 + 1 < g7 := by rw [← HG7.out]; exact HK3.out.lt
    have hS8 : W8.cell? ⟨w.heap.size + 1, 0, none⟩ = some (.int .i64 x.at_) ∧ W8.cell? ⟨g7, 1, none⟩ = some (.slice A1 n1 c1) ∧ W8.cell? ⟨g7, 2, none⟩ = some (.slice A2 n2 c2) :=
      ⟨(ho.cell (p := ⟨w.heap.size + 1, 0, none⟩) (cell_lt hS7.1) (by simp)).trans hS7.1, (ho.cell (p := ⟨g7, 1, none⟩) (cell_lt hS7.2.1) (by simp; omega)).trans hS7.2.1, (ho.cell (p := ⟨g7, 2, none⟩) (cell_lt hS7.2.2) (by simp; omega)).trans hS7.2.2⟩
    have hB78 : Below w.heap.size w W8 := (HBW5.out.trans (HB7.out.mono HBW5.out.size)).trans (ho.below (B := w.heap.size) (by have := HBW5.out.size; have := HB7.out.size; omega) (fun k h1 h2 => by omega))
    have hE1 : Hid (RowS strT W8 Empty B1 n1 b1 x.locals ∧ RowS strT W8 Empty B2 n2 b2 x.stack ∧ Below w.heap.size w W8) := Lib.hid ⟨(HQ3.out.next (Z' := Empty) (ho.mono (fun i _ e => by have := HKR.out.lt; omega)) (fun _ _ h => h.elim)), (HQ2.out.next (Z' := Empty) (ho.mono (fun i _ e => by have := HKR.out.lt; omega)) (fun _ _ h => h.elim)), hB78⟩
    have e0 : W8.cell? ⟨w.heap.size + 1 + 1, 0, none⟩ = some (.int .i64 x.at_) := hk8.cell 0
    have e1 : W8.cell? ⟨w.heap.size + 1 + 1, 1, none⟩ = some (.slice B1 n1 b1) := hk8.cell 1
    have e2 : W8.cell? ⟨w.heap.size + 1 + 1, 2, none⟩ = some (.slice B2 n2 b2) := hk8.cell 2
    rw [hW8]
    clear hW8 ho hk8 hB78 y0 y1 y2 z0 z1 z2 hg72
    refine hK.out _ _ (hS8) (fun _ => ?_)
    clear hK K
    try simp only [Act.put, List.setIfInBounds_toArray, List.set_cons_zero, List.set_cons_succ]
    refine take_yes 9 5 (.bool true) rfl rfl (by kernel_rfl) (by kernel_rfl) (by kernel_rfl) (fun _ _ _ h => h) (by kernel_rfl) ?_ (by assumption) ?_; (focus (intro w hSw; (try dsimp only at hSw); go_simp; all_goals first | with_reducible rfl)); simp only [Act.put, List.setIfInBounds_toArray, List.set_cons_zero, List.set_cons_succ]
    refine wpAnyH_done (by kernel_rfl) ?_ _
    clear hS5 hS6 hS7 hS8 hHeld0
    go_wp2
    refine bodyPost_ret (v := .tuple #[.agg #[.int .i64 x.at_, .slice B1 n1 b1, .slice B2 n2 b2], .bool true]) (by simp [results, Tryz.f42, go_sem, e0, e1, e2]) rfl ⟨?_, hE1.out.2.2⟩
    unfold MapD
    rw [HD.out]
    exact ⟨_, _, _, _, _, _, rfl, hE1.out.1, hE1.out.2.1⟩

end Go.Proofs.YtdkkpcbebhgbiaaGreatDoor
