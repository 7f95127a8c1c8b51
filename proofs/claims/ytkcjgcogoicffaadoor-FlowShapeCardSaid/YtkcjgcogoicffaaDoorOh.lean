/- The walks over flow.isMapped, Check; printed by gen/gen_oh.py. -/
import Derived.Test.YtkcjgcogoicffaaDoorOg
import Derived.Deep.DeepCutAuto
namespace Go.Proofs.YtkcjgcogoicffaaDoor
set_option maxRecDepth 100000
open Go.RowKit

def boolA (l : List Bool) : Array Value := (l.map Value.bool).toArray
theorem boolA_get (l : List Bool) (i : Nat) : (boolA l)[i]? = (l[i]?).map Value.bool := by simp [boolA]
theorem boolA_set (l : List Bool) (i : Nat) (v : Bool) : (boolA l).setIfInBounds i (.bool v) = boolA (l.set i v) := by
  unfold boolA
  rw [List.setIfInBounds_toArray, List.map_set]
theorem made_bools (n : Nat) : madeCells #[.bool false] n = boolA (List.replicate n false) := by
  apply Array.ext_getElem?
  intro i
  rw [boolA_get, List.getElem?_replicate]
  by_cases h : i < n
  · simp [madeCells, h, Nat.mod_one]
  · simp [madeCells, h]
theorem Tryd.infoBool : (Tryd.prog.info? 4).map (fun i => (i.zero, i.size, i.bytes)) = some (some (.bool false), 1, 1) := by kernel_rfl
theorem run_make_bools (n : Nat) (hm : n ≤ 1048576) (W : World) :
    (Instr.makeSlice 66 (.int .i64 (n : Int)) (.int .i64 (n : Int))).run Tryd.prog W = .ok (.slice (some ⟨W.heap.size, 0, none⟩) n n) (W.alloc (.cells (boolA (List.replicate n false)) 4)) := by
  obtain ⟨i0, hi, hz0, hz1, hz2⟩ := info_parts Tryd.infoBool
  have hr := run_make (P := Tryd.prog) W 66 4 i0 (.bool false) Tryd.underlying66 hi hz0 .i64 .i64 n n (by omega) (by omega) (by rw [hz2]; omega) (by omega)
  simp only [Int.toNat_natCast, hz1, Nat.mul_one] at hr
  rw [← made_bools]
  exact hr

/-- Has place i a mark, when so many maps were gone over? -/
def hasK (m : MeD) (n k i : Nat) : Bool := (i == n) || (m.maps.take k).any (fun x => x.at_ == (i : Int))
theorem hasK_snoc {m : MeD} {n k : Nat} {x : MpD} {a : Nat} (hx : m.maps[k]? = some x) (ha : x.at_ = (a : Int)) (i : Nat) : hasK m n (k + 1) i = (hasK m n k i || a == i) := by
  unfold hasK
  rw [List.take_add_one, hx, List.any_append]
  simp only [Option.toList_some, List.any_cons, List.any_nil, Bool.or_false, ha, Bool.or_assoc]
  congr 2
  rw [Bool.eq_iff_iff, beq_iff_eq, beq_iff_eq]
  omega
theorem hasK_all {m : MeD} {np : Nat} (h : m.maps.length = np) (a : Int) (h0 : 0 ≤ a) : hasB m a = hasK m m.code.length np a.toNat := by
  unfold hasB hasK
  rw [List.take_of_length_le (by omega), show ((a.toNat : Nat) : Int) = a by omega]
  congr 1
  rw [Bool.eq_iff_iff, beq_iff_eq, beq_iff_eq]
  omega
theorem rising_bd {n : Nat} : ∀ {l : List MpD} {last : Int}, risingB n last l = true → ∀ x ∈ l, last < x.at_ ∧ x.at_ < (n : Int)
  | [], _, _, x, hx => by cases hx
  | y :: r, last, h, x, hx => by
    simp only [risingB, Bool.and_eq_true, Bool.not_eq_true', Bool.or_eq_false_iff, decide_eq_false_iff_not] at h
    rcases List.mem_cons.1 hx with rfl | hx
    · omega
    · have := rising_bd h.2 x hx
      omega
theorem placed_maps {m : MeD} (h : placedB m = true) : ∀ x ∈ m.maps, 0 ≤ x.at_ ∧ x.at_ < (m.code.length : Int) := fun x hx => by
  unfold placedB at h
  simp only [Bool.and_eq_true] at h
  have := rising_bd h.2 x hx
  omega
theorem placed_code {m : MeD} (h : placedB m = true) : ∀ x ∈ m.code, branchB x.op = true → 0 ≤ x.n ∧ x.n < (m.code.length : Int) := fun x hx hb => by
  unfold placedB at h
  simp only [Bool.and_eq_true, Bool.not_eq_true', List.any_eq_false] at h
  have := h.1.1 x hx
  unfold astrayB at this
  rw [hb] at this
  exact inPl_iff.1 (by simpa using this)
theorem placed_traps {m : MeD} (h : placedB m = true) : ∀ t ∈ m.traps, 0 ≤ t.c ∧ t.c < (m.code.length : Int) := fun t ht => by
  unfold placedB at h
  simp only [Bool.and_eq_true, Bool.not_eq_true', List.any_eq_false] at h
  have := h.1.2 t ht
  unfold wrongB at this
  simp only [Bool.or_eq_true, not_or, Bool.not_eq_true', Bool.not_eq_false] at this
  exact inPl_iff.1 (by simpa using this.2)
/-- Where the marks lie. -/
structure HasAt (m : MeD) (nc : Nat) (g k : Nat) (V W : World) : Prop where
  row : ∃ L : List Bool, Blk W (g + 1) 4 (boolA L) ∧ ∀ i, i ≤ nc → L[i]? = some (hasK m nc k i)
  box : Blk W (g + 1 + 1) 66 #[.slice (some ⟨g + 1, 0, none⟩) (nc + 1) (nc + 1)]
  bel : Below V.heap.size V W
theorem HasAt.below {m : MeD} {nc g k : Nat} {V W W' : World} (h : HasAt m nc g k V W) (q : Below W.heap.size W W') : HasAt m nc g k V W' := by
  obtain ⟨⟨L, h1, h2⟩, h3, h4⟩ := h
  exact ⟨⟨L, h1.of (q.block _ h1.lt), h2⟩, h3.of (q.block _ h3.lt), h4.trans (q.mono h4.size)⟩
theorem HasAt.cell {m : MeD} {nc g k : Nat} {V W : World} (h : HasAt m nc g k V W) (i : Nat) (hi : i ≤ nc) : W.cell? ⟨g + 1, i, none⟩ = some (.bool (hasK m nc k i)) := by
  obtain ⟨L, h1, h2⟩ := h.row
  rw [h1.cell, boolA_get, h2 i hi]
  rfl
theorem HasAt.mark {m : MeD} {nc g k : Nat} {V W : World} (h : HasAt m nc g k V W) (hg : V.heap.size = g + 1) {x : MpD} {a : Nat} (hx : m.maps[k]? = some x) (ha : x.at_ = (a : Int)) : HasAt m nc g (k + 1) V (W.setCell ⟨g + 1, a, none⟩ (.bool true)) := by
  obtain ⟨⟨L, h1, h2⟩, h3, h4⟩ := h
  refine ⟨⟨L.set a true, ?_, fun i hi => ?_⟩, h3.far (by simp) _, h4.setCell (by simp; omega) _⟩
  · have := h1.set_ a (.bool true)
    rwa [boolA_set] at this
  · rw [List.getElem?_set, hasK_snoc hx ha, h2 i hi]
    have hl := (List.getElem?_eq_some_iff.1 (h2 i hi)).1
    by_cases e : a = i
    · subst e
      simp [hl]
    · simp [e]
/-- Where its two loops stand. -/
def RelM1 (m : MeD) (nc g np : Nat) (V : World) (i : Value) (wr : World) : Prop := ∃ k : Nat, k ≤ np ∧ i = .int .i64 (k : Int) ∧ HasAt m nc g k V wr
def RelM2 (m : MeD) (nc g np : Nat) (V : World) (i : Value) (wr : World) : Prop := ∃ k : Nat, k ≤ nc ∧ i = .int .i64 (k : Int) ∧ lacksB m 0 m.code = lacksB m k (m.code.drop k) ∧ HasAt m nc g np V wr
theorem lacks_drop {m : MeD} {k : Nat} {x : InD} (hx : m.code[k]? = some x) : lacksB m k (m.code.drop k) = (lackB m k x || lacksB m (k + 1) (m.code.drop (k + 1))) := by
  have hk : k < m.code.length := (List.getElem?_eq_some_iff.1 hx).1
  rw [List.drop_eq_getElem_cons hk, (List.getElem?_eq_some_iff.1 hx).2]
  rfl

set_option maxHeartbeats 4000000 in
theorem flMapped_any (m : MeD) (Ac : Option Addr) (nc cc : Nat) (At : Option Addr) (nt ct : Nat) (Ap : Option Addr) (np cp : Nat) (w : World) (h : MeAt w m Ac nc cc At nt ct Ap np cp) (hT : Spans w) (hn : nc ≤ 1000000) (hP : placedB m = true) :
    Calls Tryd.prog 13 #[.agg #[.bool m.static, .string (strB m.name), .string (strB m.desc), .int .i64 m.stack, .int .i64 m.locals, .slice Ac nc cc, .slice At nt ct, .slice Ap np cp]] w fun e w' => e = .returned (.bool (mappedB m)) ∧ Below w.heap.size w w' := by
  obtain ⟨hco, htr, hma⟩ := h
  obtain ⟨W1, hW1⟩ : ∃ W1, w.alloc (.cells #[.bool m.static, .string (strB m.name), .string (strB m.desc), .int .i64 m.stack, .int .i64 m.locals, .slice Ac nc cc, .slice At nt ct, .slice Ap np cp] 26) = W1 := ⟨_, rfl⟩
  have hbb : Below w.heap.size w W1 := by rw [← hW1]; exact (Below.refl _ _).alloc (Nat.le_refl _) _
  have k0 : Blk W1 w.heap.size 26 #[.bool m.static, .string (strB m.name), .string (strB m.desc), .int .i64 m.stack, .int .i64 m.locals, .slice Ac nc cc, .slice At nt ct, .slice Ap np cp] := by rw [← hW1]; exact Blk.new w _ _
  have hsz : w.heap.size < W1.heap.size := k0.lt
  have K1 : Hid (∀ W : World, Below W1.heap.size W1 W → W.cell? ⟨w.heap.size, 0, none⟩ = some (.bool m.static) ∧ W.cell? ⟨w.heap.size, 1, none⟩ = some (.string (strB m.name)) ∧ W.cell? ⟨w.heap.size, 2, none⟩ = some (.string (strB m.desc)) ∧ W.cell? ⟨w.heap.size, 3, none⟩ = some (.int .i64 m.stack) ∧ W.cell? ⟨w.heap.size, 4, none⟩ = some (.int .i64 m.locals) ∧ W.cell? ⟨w.heap.size, 5, none⟩ = some (.slice Ac nc cc) ∧ W.cell? ⟨w.heap.size, 6, none⟩ = some (.slice At nt ct) ∧ W.cell? ⟨w.heap.size, 7, none⟩ = some (.slice Ap np cp)) := Lib.hid (fun W h => ⟨(k0.of (h.block _ hsz)).cell 0, (k0.of (h.block _ hsz)).cell 1, (k0.of (h.block _ hsz)).cell 2, (k0.of (h.block _ hsz)).cell 3, (k0.of (h.block _ hsz)).cell 4, (k0.of (h.block _ hsz)).cell 5, (k0.of (h.block _ hsz)).cell 6, (k0.of (h.block _ hsz)).cell 7⟩)
  have HCO := Lib.hid (hco.below hbb)
  have HTR := Lib.hid (htr.below hbb)
  have HMA := Lib.hid (hma.below hbb)
  have HT := Lib.hid (hT.below hbb)
  have HBB := Lib.hid hbb
  have HW1 := Lib.hid hW1
  have hnc := hco.2.1
  have hcc := hco.2.2.1
  have hnt := htr.2.1
  have hct := htr.2.2.1
  have hnp := hma.2.1
  have hcp := hma.2.2.1
  unfold maxLen at hcc hct hcp
  have HLC := Lib.hid hco.1
  have hlp := hma.1
  have hlc := hco.1
  have HP1 := Lib.hid (placed_maps hP)
  have HP2 := Lib.hid (placed_code hP)
  have HP3 := Lib.hid (placed_traps hP)
  have HLP := Lib.hid hlp
  have hs1 : W1.heap.size = w.heap.size + 1 := by rw [← hW1]; simp
  have HS1 := Lib.hid hs1
  have HHB := Lib.hid (fun (a : Int) (h0 : 0 ≤ a) => (hasK_all hlp a h0).trans (by rw [hlc]))
  have hmk : ∀ W : World, (Instr.makeSlice 66 (.int .i64 ((nc : Int) + 1)) (.int .i64 ((nc : Int) + 1))).run Tryd.prog W = .ok (.slice (some ⟨W.heap.size, 0, none⟩) (nc + 1) (nc + 1)) (W.alloc (.cells (boolA (List.replicate (nc + 1) false)) 4)) := fun W => run_make_bools (nc + 1) (by omega) W
  have HE : Hid (mappedB m = (!lacksB m 0 m.code && !m.traps.any (bareB m))) := Lib.hid rfl
  obtain ⟨W4, hW4⟩ : ∃ W4, ((W1.alloc (.cells ((boolA (List.replicate (nc + 1) false)).setIfInBounds nc (.bool true)) 4)).alloc (.cells #[.slice (some ⟨w.heap.size + 1, 0, none⟩) (nc + 1) (nc + 1)] 66)) = W4 := ⟨_, rfl⟩
  have hH : HasAt m nc w.heap.size 0 W1 W4 := by
    have b1 : Blk (W1.alloc (.cells ((boolA (List.replicate (nc + 1) false)).setIfInBounds nc (.bool true)) 4)) (w.heap.size + 1) 4 ((boolA (List.replicate (nc + 1) false)).setIfInBounds nc (.bool true)) := by rw [← hs1]; exact Blk.new _ _ _
    have b2 := Blk.new (W1.alloc (.cells ((boolA (List.replicate (nc + 1) false)).setIfInBounds nc (.bool true)) 4)) 66 #[.slice (some ⟨w.heap.size + 1, 0, none⟩) (nc + 1) (nc + 1)]
    rw [show (W1.alloc (.cells ((boolA (List.replicate (nc + 1) false)).setIfInBounds nc (.bool true)) 4)).heap.size = w.heap.size + 1 + 1 by simp [hs1]] at b2
    have b3 := b1.alloc (.cells #[.slice (some ⟨w.heap.size + 1, 0, none⟩) (nc + 1) (nc + 1)] 66)
    have hbel := ((Below.refl W1.heap.size W1).alloc (Nat.le_refl _) (.cells ((boolA (List.replicate (nc + 1) false)).setIfInBounds nc (.bool true)) 4)).alloc (by simp) (.cells #[.slice (some ⟨w.heap.size + 1, 0, none⟩) (nc + 1) (nc + 1)] 66)
    rw [hW4] at b2 b3 hbel
    rw [boolA_set] at b3
    refine ⟨⟨_, b3, fun i hi => ?_⟩, b2, hbel⟩
    rw [List.getElem?_set, List.getElem?_replicate]
    unfold hasK
    by_cases e : nc = i
    · subst e; simp
    · have e2 : (i == nc) = false := by simp; omega
      rw [if_neg e, if_pos (by omega), e2]
      rfl
  have HW4 := Lib.hid hW4
  have HH4 := Lib.hid hH
  have f4 : ((W1.alloc (.cells (boolA (List.replicate (nc + 1) false)) 4)).alloc (.cells #[.slice (some ⟨w.heap.size + 1, 0, none⟩) (nc + 1) (nc + 1)] 66)).cell? ⟨w.heap.size + 1, nc, none⟩ = some (.bool false) := by
    have b1 : Blk (W1.alloc (.cells (boolA (List.replicate (nc + 1) false)) 4)) (w.heap.size + 1) 4 (boolA (List.replicate (nc + 1) false)) := by rw [← hs1]; exact Blk.new _ _ _
    rw [(b1.alloc _).cell, boolA_get, List.getElem?_replicate, if_pos (by omega)]
    rfl
  obtain ⟨p0, p1, p2, p3, p4, p5, p6, p7⟩ := K1.out _ (Below.refl _ _)
  obtain ⟨r0, r1, r2, r3, r4, r5, r6, r7⟩ := K1.out _ hH.bel
  obtain ⟨s0, s1, s2, s3, s4, s5, s6, s7⟩ := K1.out _ (((Below.refl W1.heap.size W1).alloc (Nat.le_refl _) (.cells (boolA (List.replicate (nc + 1) false)) 4)).alloc (by simp) (.cells #[.slice (some ⟨w.heap.size + 1, 0, none⟩) (nc + 1) (nc + 1)] 66))
  have HREL : Hid (RelM1 m nc w.heap.size np W1 (.int .i64 0) W4) := Lib.hid ⟨0, Nat.zero_le _, rfl, hH⟩
  rw [← HW1.out] at p5 s5 s7 f4
  clear hco htr hma hT hbb k0 hW1 hH hW4 hs1 hlp hlc hP p0 p1 p2 p3 p4 p6 p7 s0 s1 s2 s3 s4 s6
  go_enter Tryd.func13, Tryd.ntmps13
  go_upto_region 3 with (fail)
  rw [HW1.out, HW4.out]
  clear s5 s7 f4 p5 hmk
  go_wp2_with fail
  clear r0 r1 r2 r3 r4 r5 r6 r7
  go_loopw [22] (fun i wr => RelM1 m nc w.heap.size np W1 i wr) (fun i _ => np - (intOf i).toNat)
  case atStart => exact HREL.out
  case round =>
    clear HREL
    obtain ⟨k, hk, rfl, hH⟩ := hrel
    have HH := Lib.hid hH
    by_cases hlt : k < np
    · obtain ⟨b, o, x, A1, n1, q1, A2, n2, q2, rfl, hb, hx, d0, d1, d2, -, -⟩ := mpRow_at (HMA.out.below hH.bel) hlt
      obtain ⟨a1, a2⟩ := HP1.out x (List.mem_of_getElem? hx)
      rw [HLC.out] at a2
      obtain ⟨a, ha⟩ : ∃ a : Nat, x.at_ = (a : Int) := ⟨x.at_.toNat, by omega⟩
      have HM := Lib.hid ((hH.mark HS1.out hx ha).below ((Below.refl _ _).alloc (Nat.le_refl _) (.cells #[.int .i64 (a : Int), .slice A1 n1 q1, .slice A2 n2 q2] 38)))
      rw [ha] at d0 a1 a2
      have a3 : a < nc + 1 := by omega
      have e1 : wr.cell? ⟨w.heap.size + 1, a, none⟩ = some (.bool (hasK m nc k a)) := hH.cell a (by omega)
      have e2 : wr.frozen? ⟨w.heap.size + 1, a, none⟩ = false := by obtain ⟨L, h1, _⟩ := hH.row; exact h1.frozen a
      have e3 : wr.cell? ⟨w.heap.size + 1 + 1, 0, none⟩ = some (.slice (some ⟨w.heap.size + 1, 0, none⟩) (nc + 1) (nc + 1)) := hH.box.cell 0
      have l1 := cell_lt e1
      have l2 := cell_lt e3
      clear hx ha hH
      go_wp2
      go_roundw
      case rel => exact ⟨k + 1, hlt, by simp, HM.out⟩
      case measure => simp [intOf]; omega
    · have hk2 : k = np := by omega
      subst hk2
      obtain ⟨r0, r1, r2, r3, r4, r5, r6, r7⟩ := K1.out _ hH.bel
      have HREL2 : Hid (RelM2 m nc w.heap.size k W1 (.int .i64 0) wr) := Lib.hid ⟨0, Nat.zero_le _, rfl, rfl, hH⟩
      clear hH
      go_wp2_with fail
      clear r0 r1 r2 r3 r4 r5 r6 r7
      go_loopw [34] (fun i wr => RelM2 m nc w.heap.size k W1 i wr) (fun i _ => nc - (intOf i).toNat)
      case atStart => exact HREL2.out
      case round =>
        clear HREL2 HH
        obtain ⟨j, hj, rfl, hla, hH⟩ := hrel
        have HLA := Lib.hid hla
        have HH := Lib.hid hH
        clear hla
        by_cases hlt : j < nc
        · obtain ⟨b, o, x, rfl, hb, hx, d0, d1, d2, d3, d4, d5, d6⟩ := inRow_at (HCO.out.below hH.bel) hlt
          have HLD := Lib.hid (lacks_drop hx)
          have hrng := HP2.out x (List.mem_of_getElem? hx)
          rw [HLC.out] at hrng
          obtain ⟨W5, hW5⟩ : ∃ W5, wr.alloc (.cells (inA x) 32) = W5 := ⟨_, rfl⟩
          have hal : Below wr.heap.size wr W5 := by rw [← hW5]; exact (Below.refl _ _).alloc (Nat.le_refl _) _
          have kx : Blk W5 wr.heap.size 32 (inA x) := by rw [← hW5]; exact Blk.new _ _ _
          have HH5 := Lib.hid (hH.below hal)
          have KX : Hid (∀ W, Below W5.heap.size W5 W → W.cell? ⟨wr.heap.size, 0, none⟩ = some (.int .u8 (x.op.toNat : Int)) ∧ W.cell? ⟨wr.heap.size, 1, none⟩ = some (.int .i64 x.n) ∧ W.cell? ⟨w.heap.size + 1 + 1, 0, none⟩ = some (.slice (some ⟨w.heap.size + 1, 0, none⟩) (nc + 1) (nc + 1)) ∧ ∀ i, i ≤ nc → W.cell? ⟨w.heap.size + 1, i, none⟩ = some (.bool (hasK m nc k i))) := Lib.hid (fun W q => ⟨(kx.of (q.block _ kx.lt)).cell 0, (kx.of (q.block _ kx.lt)).cell 1, (HH5.out.below q).box.cell 0, fun i hi => (HH5.out.below q).cell i hi⟩)
          have CB := Lib.hid (flBranch_any x.op W5 (HT.out.below (hH.below hal).bel))
          have CE := Lib.hid (fun (W : World) => flEnds_any x.op W)
          have HW5 := Lib.hid hW5
          unfold inA at HW5
          have HX := Lib.hid hx
          have HB5 : Hid (Below w.heap.size w W5) := Lib.hid (HBB.out.trans ((hH.below hal).bel.mono HBB.out.size))
          have hgl : wr.heap.size < W5.heap.size := kx.lt
          obtain ⟨t0, t1, t2, t3⟩ := KX.out _ (Below.refl _ _)
          have HNX : Hid (HasAt m nc w.heap.size k W1 W5) := HH5
          clear hx hW5 kx hal hH t1 t2 t3
          have HL : Hid (lackB m j x = ((branchB x.op && !hasB m x.n) || (endsB x.op && !hasK m nc k (j + 1)))) := Lib.hid (by
            unfold lackB
            rw [HHB.out ((j : Int) + 1) (by omega), show ((j : Int) + 1).toNat = j + 1 by omega])
          cases hbr : branchB x.op with
          | false =>
            rw [hbr] at HL CB
            clear hbr hrng
            cases he : endsB x.op with
            | false =>
              rw [he] at HL CE
              clear he
              go_wp2_with fail
              rw [HW5.out]
              go_wp2_with fail
              refine CB.out.mono ?_
              rintro e w6 ⟨rfl, hb6⟩
              obtain ⟨u0, u1, u2, u3⟩ := KX.out _ hb6
              have HH6 := Lib.hid (HNX.out.below hb6)
              have HB6 := Lib.hid (HB5.out.trans (hb6.mono HB5.out.size))
              have hg6 := Nat.lt_of_lt_of_le hgl hb6.size
              have m2 := u3 (j + 1) (by omega)
              have lm2 := cell_lt m2
              clear hb6 t0 HNX
              clear u3 u1
              go_wp2_with fail
              refine (CE.out _).mono ?_
              rintro e w7 ⟨rfl, rfl⟩
              have HF : Hid (lacksB m 0 m.code = lacksB m (j + 1) (m.code.drop (j + 1))) := Lib.hid (by rw [HLA.out, HLD.out, HL.out]; simp)
              go_wp2
              go_roundw
              case rel => exact ⟨j + 1, hlt, by simp, HF.out, HH6.out⟩
              case measure => simp [intOf]; omega
            | true =>
              rw [he] at HL CE
              clear he
              cases hv2 : hasK m nc k (j + 1) with
              | false =>
                rw [hv2] at HL
                go_wp2_with fail
                rw [HW5.out]
                go_wp2_with fail
                refine CB.out.mono ?_
                rintro e w6 ⟨rfl, hb6⟩
                obtain ⟨u0, u1, u2, u3⟩ := KX.out _ hb6
                have HH6 := Lib.hid (HNX.out.below hb6)
                have HB6 := Lib.hid (HB5.out.trans (hb6.mono HB5.out.size))
                have hg6 := Nat.lt_of_lt_of_le hgl hb6.size
                have m2 := u3 (j + 1) (by omega)
                have lm2 := cell_lt m2
                clear hb6 t0 HNX
                clear u3 u1
                rw [hv2] at m2
                go_wp2_with fail
                refine (CE.out _).mono ?_
                rintro e w7 ⟨rfl, rfl⟩
                have HF : Hid (mappedB m = false) := Lib.hid (by rw [HE.out, HLA.out, HLD.out, HL.out]; simp)
                go_wp2
                go_ret
                exact ⟨by rw [HF.out]; rfl, HB6.out⟩
              | true =>
                rw [hv2] at HL
                go_wp2_with fail
                rw [HW5.out]
                go_wp2_with fail
                refine CB.out.mono ?_
                rintro e w6 ⟨rfl, hb6⟩
                obtain ⟨u0, u1, u2, u3⟩ := KX.out _ hb6
                have HH6 := Lib.hid (HNX.out.below hb6)
                have HB6 := Lib.hid (HB5.out.trans (hb6.mono HB5.out.size))
                have hg6 := Nat.lt_of_lt_of_le hgl hb6.size
                have m2 := u3 (j + 1) (by omega)
                have lm2 := cell_lt m2
                clear hb6 t0 HNX
                clear u3 u1
                rw [hv2] at m2
                go_wp2_with fail
                refine (CE.out _).mono ?_
                rintro e w7 ⟨rfl, rfl⟩
                have HF : Hid (lacksB m 0 m.code = lacksB m (j + 1) (m.code.drop (j + 1))) := Lib.hid (by rw [HLA.out, HLD.out, HL.out]; simp)
                go_wp2
                go_roundw
                case rel => exact ⟨j + 1, hlt, by simp, HF.out, HH6.out⟩
                case measure => simp [intOf]; omega
          | true =>
            obtain ⟨n1, n2⟩ := hrng hbr
            obtain ⟨a, ha⟩ : ∃ a : Nat, x.n = (a : Int) := ⟨x.n.toNat, by omega⟩
            have HHA : Hid (hasB m x.n = hasK m nc k a) := Lib.hid ((HHB.out _ n1).trans (by rw [ha, Int.toNat_natCast]))
            rw [hbr, HHA.out] at HL
            rw [hbr] at CB
            rw [ha] at KX n1 n2 HW5 d1
            clear hbr hrng ha HHA
            have ha2 : a < nc + 1 := by omega
            cases hv1 : hasK m nc k a with
            | false =>
              rw [hv1] at HL
              go_wp2_with fail
              rw [HW5.out]
              go_wp2_with fail
              refine CB.out.mono ?_
              rintro e w6 ⟨rfl, hb6⟩
              obtain ⟨u0, u1, u2, u3⟩ := KX.out _ hb6
              have HH6 := Lib.hid (HNX.out.below hb6)
              have HB6 := Lib.hid (HB5.out.trans (hb6.mono HB5.out.size))
              have hg6 := Nat.lt_of_lt_of_le hgl hb6.size
              have m2 := u3 (j + 1) (by omega)
              have lm2 := cell_lt m2
              clear hb6 t0 HNX
              have m1 := u3 a (by omega)
              rw [hv1] at m1
              have lm1 := cell_lt m1
              clear u3
              have HF : Hid (mappedB m = false) := Lib.hid (by rw [HE.out, HLA.out, HLD.out, HL.out]; simp)
              go_wp2
              go_ret
              exact ⟨by rw [HF.out]; rfl, HB6.out⟩
            | true =>
              rw [hv1] at HL
              cases he : endsB x.op with
              | false =>
                rw [he] at HL CE
                clear he
                go_wp2_with fail
                rw [HW5.out]
                go_wp2_with fail
                refine CB.out.mono ?_
                rintro e w6 ⟨rfl, hb6⟩
                obtain ⟨u0, u1, u2, u3⟩ := KX.out _ hb6
                have HH6 := Lib.hid (HNX.out.below hb6)
                have HB6 := Lib.hid (HB5.out.trans (hb6.mono HB5.out.size))
                have hg6 := Nat.lt_of_lt_of_le hgl hb6.size
                have m2 := u3 (j + 1) (by omega)
                have lm2 := cell_lt m2
                clear hb6 t0 HNX
                have m1 := u3 a (by omega)
                rw [hv1] at m1
                have lm1 := cell_lt m1
                clear u3
                go_wp2_with fail
                refine (CE.out _).mono ?_
                rintro e w7 ⟨rfl, rfl⟩
                have HF : Hid (lacksB m 0 m.code = lacksB m (j + 1) (m.code.drop (j + 1))) := Lib.hid (by rw [HLA.out, HLD.out, HL.out]; simp)
                go_wp2
                go_roundw
                case rel => exact ⟨j + 1, hlt, by simp, HF.out, HH6.out⟩
                case measure => simp [intOf]; omega
              | true =>
                rw [he] at HL CE
                clear he
                cases hv2 : hasK m nc k (j + 1) with
                | false =>
                  rw [hv2] at HL
                  go_wp2_with fail
                  rw [HW5.out]
                  go_wp2_with fail
                  refine CB.out.mono ?_
                  rintro e w6 ⟨rfl, hb6⟩
                  obtain ⟨u0, u1, u2, u3⟩ := KX.out _ hb6
                  have HH6 := Lib.hid (HNX.out.below hb6)
                  have HB6 := Lib.hid (HB5.out.trans (hb6.mono HB5.out.size))
                  have hg6 := Nat.lt_of_lt_of_le hgl hb6.size
                  have m2 := u3 (j + 1) (by omega)
                  have lm2 := cell_lt m2
                  clear hb6 t0 HNX
                  have m1 := u3 a (by omega)
                  rw [hv1] at m1
                  have lm1 := cell_lt m1
                  clear u3
                  rw [hv2] at m2
                  go_wp2_with fail
                  refine (CE.out _).mono ?_
                  rintro e w7 ⟨rfl, rfl⟩
                  have HF : Hid (mappedB m = false) := Lib.hid (by rw [HE.out, HLA.out, HLD.out, HL.out]; simp)
                  go_wp2
                  go_ret
                  exact ⟨by rw [HF.out]; rfl, HB6.out⟩
                | true =>
                  rw [hv2] at HL
                  go_wp2_with fail
                  rw [HW5.out]
                  go_wp2_with fail
                  refine CB.out.mono ?_
                  rintro e w6 ⟨rfl, hb6⟩
                  obtain ⟨u0, u1, u2, u3⟩ := KX.out _ hb6
                  have HH6 := Lib.hid (HNX.out.below hb6)
                  have HB6 := Lib.hid (HB5.out.trans (hb6.mono HB5.out.size))
                  have hg6 := Nat.lt_of_lt_of_le hgl hb6.size
                  have m2 := u3 (j + 1) (by omega)
                  have lm2 := cell_lt m2
                  clear hb6 t0 HNX
                  have m1 := u3 a (by omega)
                  rw [hv1] at m1
                  have lm1 := cell_lt m1
                  clear u3
                  rw [hv2] at m2
                  go_wp2_with fail
                  refine (CE.out _).mono ?_
                  rintro e w7 ⟨rfl, rfl⟩
                  have HF : Hid (lacksB m 0 m.code = lacksB m (j + 1) (m.code.drop (j + 1))) := Lib.hid (by rw [HLA.out, HLD.out, HL.out]; simp)
                  go_wp2
                  go_roundw
                  case rel => exact ⟨j + 1, hlt, by simp, HF.out, HH6.out⟩
                  case measure => simp [intOf]; omega
        · have HF : Hid (lacksB m 0 m.code = false) := Lib.hid (by rw [HLA.out, List.drop_eq_nil_of_le (by rw [HLC.out]; omega)]; rfl)
          have CT : Hid (Calls Tryd.prog 30 #[.slice At nt ct, .func (.func 32) #[] #[.pointer (some ⟨w.heap.size + 1 + 1, 0, none⟩)]] wr fun e w' => e = .returned (.bool (m.traps.any (bareB m))) ∧ Below wr.heap.size wr w') := Lib.hid (
            containsTr_any 32 ⟨w.heap.size + 1 + 1, 0, none⟩ (bareB m) At nt ct m.traps wr (HTR.out.below hH.bel) (enters_of Tryd.func32 (by kernel_rfl) rfl) (fun x hx W' q' _ => by
              obtain ⟨x1, x2⟩ := HP3.out x hx
              rw [HLC.out] at x2
              have hv : bareB m x = !hasK m nc k x.c.toNat := by unfold bareB; rw [HHB.out _ x1]
              rw [hv]
              exact flMapped1_any x (w.heap.size + 1 + 1) (w.heap.size + 1) (nc + 1) (hasK m nc k x.c.toNat) W' ⟨x1, by omega⟩ (by omega) ((HH.out.below q').box.cell 0) ((HH.out.below q').cell _ (by omega))))
          obtain ⟨r0, r1, r2, r3, r4, r5, r6, r7⟩ := K1.out _ hH.bel
          have HBW := Lib.hid (HBB.out.trans (hH.bel.mono HBB.out.size))
          clear hH
          go_wp2_with fail
          refine CT.out.mono ?_
          rintro e w2 ⟨rfl, hb⟩
          go_wp2
          go_ret
          exact ⟨by rw [HE.out, HF.out]; rfl, HBW.out.trans (hb.mono HBW.out.size)⟩

/-- A call that is made with a method. -/
theorem flCheck_any (m : MeD) (Ac : Option Addr) (nc cc : Nat) (At : Option Addr) (nt ct : Nat) (Ap : Option Addr) (np cp : Nat) (w : World) (h : MeAt w m Ac nc cc At nt ct Ap np cp) (hd : m.desc.length ≤ 1000000) (hn : nc ≤ 1000000) (hT : Spans w) :
    Calls Tryd.prog 6 #[.agg #[.bool m.static, .string (strB m.name), .string (strB m.desc), .int .i64 m.stack, .int .i64 m.locals, .slice Ac nc cc, .slice At nt ct, .slice Ap np cp]] w fun e w' => e = .returned (.int .i64 (checkF m)) ∧ Below w.heap.size w w' := by
  have HM := Lib.hid h
  obtain ⟨hco, htr, hma⟩ := h
  obtain ⟨W1, hW1⟩ : ∃ W1, w.alloc (.cells #[.bool m.static, .string (strB m.name), .string (strB m.desc), .int .i64 m.stack, .int .i64 m.locals, .slice Ac nc cc, .slice At nt ct, .slice Ap np cp] 26) = W1 := ⟨_, rfl⟩
  have hbb : Below w.heap.size w W1 := by rw [← hW1]; exact (Below.refl _ _).alloc (Nat.le_refl _) _
  have k0 : Blk W1 w.heap.size 26 #[.bool m.static, .string (strB m.name), .string (strB m.desc), .int .i64 m.stack, .int .i64 m.locals, .slice Ac nc cc, .slice At nt ct, .slice Ap np cp] := by rw [← hW1]; exact Blk.new w _ _
  have hsz : w.heap.size < W1.heap.size := k0.lt
  have K1 : Hid (∀ W : World, Below W1.heap.size W1 W → W.cell? ⟨w.heap.size, 0, none⟩ = some (.bool m.static) ∧ W.cell? ⟨w.heap.size, 1, none⟩ = some (.string (strB m.name)) ∧ W.cell? ⟨w.heap.size, 2, none⟩ = some (.string (strB m.desc)) ∧ W.cell? ⟨w.heap.size, 3, none⟩ = some (.int .i64 m.stack) ∧ W.cell? ⟨w.heap.size, 4, none⟩ = some (.int .i64 m.locals) ∧ W.cell? ⟨w.heap.size, 5, none⟩ = some (.slice Ac nc cc) ∧ W.cell? ⟨w.heap.size, 6, none⟩ = some (.slice At nt ct) ∧ W.cell? ⟨w.heap.size, 7, none⟩ = some (.slice Ap np cp)) := Lib.hid (fun W h => ⟨(k0.of (h.block _ hsz)).cell 0, (k0.of (h.block _ hsz)).cell 1, (k0.of (h.block _ hsz)).cell 2, (k0.of (h.block _ hsz)).cell 3, (k0.of (h.block _ hsz)).cell 4, (k0.of (h.block _ hsz)).cell 5, (k0.of (h.block _ hsz)).cell 6, (k0.of (h.block _ hsz)).cell 7⟩)
  have HCO := Lib.hid (hco.below hbb)
  have HTR := Lib.hid (htr.below hbb)
  have HMA := Lib.hid (hma.below hbb)
  have HT := Lib.hid (hT.below hbb)
  have HBB := Lib.hid hbb
  have HW1 := Lib.hid hW1
  have hnc := hco.2.1
  have hcc := hco.2.2.1
  have hnt := htr.2.1
  have hct := htr.2.2.1
  have hnp := hma.2.1
  have hcp := hma.2.2.1
  unfold maxLen at hcc hct hcp
  have HLC := Lib.hid hco.1
  have C1 := Lib.hid (flFormed_any m Ac nc cc At nt ct Ap np cp W1 (HM.out.below hbb) hd (hT.below hbb))
  have C2 := Lib.hid (fun (W : World) (q : Below W1.heap.size W1 W) => flPlaced_any m Ac nc cc At nt ct Ap np cp W ((HM.out.below hbb).below q) ((hT.below hbb).below q))
  have C3 := Lib.hid (fun (W : World) (q : Below W1.heap.size W1 W) => flMapped_any m Ac nc cc At nt ct Ap np cp W ((HM.out.below hbb).below q) ((hT.below hbb).below q) hn)
  have HE : Hid (checkF m = if !formedB m then 8 else if !placedB m then 2 else if !mappedB m then 11 else 0) := Lib.hid rfl
  obtain ⟨p0, p1, p2, p3, p4, p5, p6, p7⟩ := K1.out _ (Below.refl _ _)
  clear hco htr hma hT hbb k0 hW1
  cases h1 : formedB m with
  | false =>
    rw [h1] at C1 HE
    go_enter Tryd.func6, Tryd.ntmps6
    go_wp2_with fail
    rw [HW1.out]
    go_wp2_with fail
    refine C1.out.mono ?_
    rintro e w2 ⟨rfl, hb⟩
    go_wp2
    go_ret
    exact ⟨by rw [HE.out]; rfl, HBB.out.trans (hb.mono HBB.out.size)⟩
  | true =>
    rw [h1] at C1 HE
    cases h2 : placedB m with
    | false =>
      rw [h2] at C2 HE
      go_enter Tryd.func6, Tryd.ntmps6
      go_wp2_with fail
      rw [HW1.out]
      go_wp2_with fail
      refine C1.out.mono ?_
      rintro e w2 ⟨rfl, hb⟩
      obtain ⟨q0, q1, q2, q3, q4, q5, q6, q7⟩ := K1.out _ hb
      have HB2 := Lib.hid hb
      clear p0 p1 p2 p3 p4 p5 p6 p7 hb
      go_wp2_with fail
      refine (C2.out _ HB2.out).mono ?_
      rintro e w3 ⟨rfl, hb⟩
      have HB3 := Lib.hid (HB2.out.trans (hb.mono HB2.out.size))
      clear hb
      go_wp2
      go_ret
      exact ⟨by rw [HE.out]; rfl, HBB.out.trans (HB3.out.mono HBB.out.size)⟩
    | true =>
      have C4 := Lib.hid (fun W q => C3.out W q h2)
      rw [h2] at C2 HE
      clear C3
      obtain ⟨mb, hmb⟩ : ∃ mb, mappedB m = mb := ⟨_, rfl⟩
      rw [hmb] at C4 HE
      clear hmb
      go_enter Tryd.func6, Tryd.ntmps6
      go_wp2_with fail
      rw [HW1.out]
      go_wp2_with fail
      refine C1.out.mono ?_
      rintro e w2 ⟨rfl, hb⟩
      obtain ⟨q0, q1, q2, q3, q4, q5, q6, q7⟩ := K1.out _ hb
      have HB2 := Lib.hid hb
      clear p0 p1 p2 p3 p4 p5 p6 p7 hb
      go_wp2_with fail
      refine (C2.out _ HB2.out).mono ?_
      rintro e w3 ⟨rfl, hb⟩
      obtain ⟨r0, r1, r2, r3, r4, r5, r6, r7⟩ := K1.out _ (HB2.out.trans (hb.mono HB2.out.size))
      have HB3 := Lib.hid (HB2.out.trans (hb.mono HB2.out.size))
      clear q0 q1 q2 q3 q4 q5 q6 q7 hb
      go_wp2_with fail
      refine (C4.out _ HB3.out).mono ?_
      rintro e w4 ⟨rfl, hb⟩
      have HB4 := Lib.hid (HB3.out.trans (hb.mono HB3.out.size))
      clear r0 r1 r2 r3 r4 r5 r6 r7 hb
      cases mb <;> (go_wp2; go_ret; exact ⟨by rw [HE.out]; rfl, HBB.out.trans (HB4.out.mono HBB.out.size)⟩)

end Go.Proofs.YtkcjgcogoicffaaDoor
