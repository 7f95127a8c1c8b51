/- Proved: whatever its three arguments are, NorFuse returns true and leaves them as they were. Conditions: none but the row's own (the arguments can be read as data). -/
import Derived.Test.YtaepdmifenkhcaaW6
import Derived.Test.YtaepdmifenkhcaaLaw
import Derived.Deep.RegionWith
import Derived.Deep.RegionHeld3
namespace Go.Proofs.Ytaepdmifenkhcaa
open Go.ChangeShapes Go.WideShapes Go.ChangeAt Go.RowKit Go.Joins

/-- 128 bytes: the first i are 0, the others 255. -/
def lowBs (i : Nat) : List UInt8 := (List.replicate 128 255).mapIdx (fun j b => if j < i then 0 else b)

theorem lowBs_zero : lowBs 0 = List.replicate (2 * 64) 255 := mapIdx_id _ _ fun i b _ => by simp
theorem lowBs_get (i j : Nat) : (lowBs i)[j]? = if j < 128 then some (if j < i then 0 else 255) else none := by
  unfold lowBs
  rw [List.getElem?_mapIdx, List.getElem?_replicate]
  by_cases h : j < 128
  · rw [if_pos h, if_pos h]; rfl
  · rw [if_neg h, if_neg h]; rfl

attribute [irreducible] lowBs

/-- The flash behind i of k acts: so many bytes are 0. -/
def fuFl (k : Nat) (keep : Int) (mask : UInt8) (i : Nat) : Fl :=
  { S := 2, Z := 64, L := 100, bs := lowBs i, er := [0, 0], up := true, fuse := (k : Int) - i, keep := keep, mask := mask }

theorem fuFl_zero (k : Nat) (keep : Int) (mask : UInt8) : (Fl.fresh 2 64 100).fused k keep mask = fuFl k keep mask 0 := by
  unfold Fl.fused Fl.fresh fuFl
  rw [lowBs_zero]
  simp

theorem fuFl_step (k : Nat) (keep : Int) (mask : UInt8) (i : Nat) (h : i < k) : (fuFl k keep mask i).prog i [0] = fuFl k keep mask (i + 1) := by
  have h1 : ¬ (k : Int) - i = 0 := by omega
  have h2 : (0 : Int) < (k : Int) - i := by omega
  have hm : (fuFl k keep mask i).many 1 = 1 := by simp [Fl.many, fuFl, h1]
  have hb : (lowBs i).mapIdx (tornF i [0] 1 mask) = lowBs (i + 1) := by
    apply List.ext_getElem?
    intro j
    rw [List.getElem?_mapIdx, lowBs_get, lowBs_get]
    by_cases hj : j < 128
    · rw [if_pos hj, if_pos hj]
      simp only [Option.map_some]
      congr 1
      unfold tornF
      by_cases h3 : j < i
      · rw [if_pos h3, if_neg (by omega), if_neg (by simp), if_pos (by omega)]
      · by_cases h4 : j = i
        · have h5 : i ≤ j ∧ j < i + 1 := by omega
          rw [if_pos h5, if_pos (show j < i + 1 by omega)]
          simp [h4]
        · rw [if_neg h3, if_neg (by omega), if_neg (by simp), if_neg (by omega)]
    · rw [if_neg hj, if_neg hj]; rfl
  have hu : (fuFl k keep mask i).burn = { fuFl k keep mask i with fuse := (k : Int) - i - 1 } := by
    unfold Fl.burn
    rw [if_neg (show ¬ (fuFl k keep mask i).fuse = 0 from h1), if_pos (show 0 < (fuFl k keep mask i).fuse from h2)]
    rfl
  have hbs : (fuFl k keep mask i).bs = lowBs i := rfl
  have hmk : (fuFl k keep mask i).mask = mask := rfl
  unfold Fl.prog
  rw [show ([0] : List UInt8).length = 1 from rfl, hm, hu, hbs, hmk, hb]
  unfold fuFl
  rw [show (k : Int) - i - 1 = (k : Int) - ((i + 1 : Nat) : Int) by omega]

theorem zero_fits (bs : List UInt8) (o : Nat) : Fits bs o [0] := by
  intro j hj
  have : j = 0 := by simpa using hj
  subst this
  simp

theorem fuFl_read (k : Nat) (m : Nat) (mk : UInt8) (hk : k < 30) : (((lowBs k).mapIdx (tornF 100 [0] m mk)).drop 0).take k = List.replicate k 0 := by
  apply List.ext_getElem?
  intro j
  rw [List.drop_zero, List.getElem?_take, List.getElem?_replicate]
  by_cases h : j < k
  · rw [if_pos h, if_pos h, List.getElem?_mapIdx, lowBs_get, if_pos (by omega), if_pos h]
    simp only [Option.map_some]
    congr 1
    unfold tornF
    rw [if_neg (by omega), if_neg (by omega)]
  · rw [if_neg h, if_neg h]

set_option maxHeartbeats 4000000 in
theorem norFuse_calls (x y k0 : Int) (m0 : UInt8) (w : World) (x1 : 0 ≤ x) (x2 : x ≤ 255) (y1 : 0 ≤ y) (y2 : y ≤ 255) (k1 : -9223372036854775808 ≤ k0) (k2 : k0 ≤ 9223372036854775807) :
    Calls Try.prog 6 #[.int .u8 x, .agg #[.int .i64 k0, B8 m0], .int .u8 y] w fun e w' => e = .returned (.bool true) ∧ Below w.heap.size w w' := by
  go_enter Try.func6, Try.ntmps6
  go_wp2_with fail
  refine (fixed_any _).mono ?_
  rintro e1 w1 ⟨rfl, hb1⟩
  go_wp2_with fail
  refine (new_yes 2 64 100 w1 ⟨by decide, by decide, by decide, by decide, by decide, by decide⟩).mono ?_
  rintro e1 w2 ⟨p, c, er, rfl, hf2, hb2, hp, hc, he⟩
  have h0 : Below w.heap.size w (w.alloc (.cells #[.int .i64 k0, B8 m0] 36)) := (Below.refl _ _).alloc (Nat.le_refl _) _
  have hs1 := hb1.size
  have hs2 := hb2.size
  simp at hs1
  have hbb : Below w.heap.size w w2 := (h0.trans (hb1.mono (by simp))).trans (hb2.mono (by omega))
  have hc0 := (hb1.trans (hb2.mono (by simp; omega))).cell (p := ⟨w.heap.size, 0, none⟩) (by simp)
  have hc1 := (hb1.trans (hb2.mono (by simp; omega))).cell (p := ⟨w.heap.size, 1, none⟩) (by simp)
  have hk0 : w2.cell? ⟨w.heap.size, 0, none⟩ = some (.int .i64 k0) := by rw [hc0]; exact (Blk.new w 36 #[.int .i64 k0, B8 m0]).cell 0
  have hk1 : w2.cell? ⟨w.heap.size, 1, none⟩ = some (B8 m0) := by rw [hc1]; exact (Blk.new w 36 #[.int .i64 k0, B8 m0]).cell 1
  clear hc0 hc1 h0 hb1 hb2
  obtain ⟨k, hk⟩ := Int.eq_ofNat_of_zero_le (show 0 ≤ x % 30 by omega)
  have hk3 : k < 30 := by omega
  go_wp2_with fail
  rw [hk]
  clear hk
  refine (fuse_any p c er _ (k : Int) k0 m0 w2 hf2 (by omega) (by omega) k1 k2).mono ?_
  rintro e1 w3 ⟨rfl, hf3, ho3⟩
  rw [fuFl_zero] at hf3
  have hb3 : Below w.heap.size w w3 := hbb.trans (ho3.below hbb.size (by intro i hi e; omega))
  clear hf2 hbb hk0 hk1 hs2 ho3
  go_wp2_with fail
  go_loopw [30] (fun i wr => ∃ j : Nat, j ≤ k ∧ i = .int .i64 (j : Int) ∧ FlashAt wr p c er (fuFl k k0 m0 j) ∧ Below w.heap.size w wr) (fun i _ => k - (intOf i).toNat)
  case atStart => exact ⟨0, Nat.zero_le _, rfl, hf3, hb3⟩
  case round =>
    obtain ⟨j, hj, rfl, hf, hb⟩ := hrel
    by_cases hlt : j < k
    · go_wp2_with fail
      have hs4 : ByteSl (wr.alloc (.cells (cellsB [0]) 5)) (Three p c er) (some ⟨wr.heap.size, 0, none⟩) 1 1 [0] :=
        ByteSl.lit wr _ [0] 1 rfl (by have := hf.hd.lt; have := hf.ce.lt; have := hf.er.lt; unfold Three; omega) (by decide)
      have hf4 : FlashAt (wr.alloc (.cells (cellsB [0]) 5)) p c er (fuFl k k0 m0 j) := hf.of ((Only.refl Empty wr).alloc _) (fun h => h) (fun h => h) (fun h => h)
      refine (program_fits p c er j 1 1 (fuFl k k0 m0 j) [0] _ _ hf4 rfl hs4 (by show j + 1 ≤ 2 * 64; omega) (zero_fits _ _)).mono ?_
      rintro e1 w4 ⟨rfl, hf5, ho5⟩
      rw [fuFl_step _ _ _ _ hlt] at hf5
      have hcode : (fuFl k k0 m0 j).code = 0 := by
        have h1 : ¬ (k : Int) - j = 0 := by omega
        simp [Fl.code, fuFl, h1]
      rw [hcode]
      have hb5 : Below w.heap.size w w4 := (hb.alloc hb.size _).trans (ho5.below (by simp; have := hb.size; omega) (by intro i hi h3; unfold Three at h3; omega))
      clear hf4 hs4 hf hb ho5 hf3 hb3
      go_wp2
      go_roundw
      case rel => exact ⟨j + 1, by omega, by go_num, hf5, hb5⟩
      case measure => simp [intOf]; omega
    · obtain rfl : j = k := by omega
      clear hf3 hb3
      go_wp2_with fail
      have hs4 : ByteSl (wr.alloc (.cells (cellsB [0]) 5)) (Three p c er) (some ⟨wr.heap.size, 0, none⟩) 1 1 [0] :=
        ByteSl.lit wr _ [0] 1 rfl (by have := hf.hd.lt; have := hf.ce.lt; have := hf.er.lt; unfold Three; omega) (by decide)
      have hf4 : FlashAt (wr.alloc (.cells (cellsB [0]) 5)) p c er (fuFl j k0 m0 j) := hf.of ((Only.refl Empty wr).alloc _) (fun h => h) (fun h => h) (fun h => h)
      refine (program_fits p c er 100 1 1 (fuFl j k0 m0 j) [0] _ _ hf4 rfl hs4 (by show 100 + 1 ≤ 2 * 64; omega) (zero_fits _ _)).mono ?_
      rintro e1 w4 ⟨rfl, hf5, ho5⟩
      have hfz : (fuFl j k0 m0 j).fuse = 0 := by show (j : Int) - j = 0; omega
      have hcode : (fuFl j k0 m0 j).code = 5 := by unfold Fl.code; rw [if_pos hfz]
      rw [hcode]
      have hb5 : Below w.heap.size w w4 := (hb.alloc hb.size _).trans (ho5.below (by simp; have := hb.size; omega) (by intro i hi h3; unfold Three at h3; omega))
      have hbs : ((fuFl j k0 m0 j).prog 100 [0]).reset.bs = (lowBs j).mapIdx (tornF 100 [0] ((fuFl j k0 m0 j).many 1) m0) := rfl
      have hup : ((fuFl j k0 m0 j).prog 100 [0]).up = false := by
        show (fuFl j k0 m0 j).burn.up = false
        unfold Fl.burn
        rw [if_pos hfz]
      have hSZ : ((fuFl j k0 m0 j).prog 100 [0]).S = 2 ∧ ((fuFl j k0 m0 j).prog 100 [0]).Z = 64 := by
        refine ⟨?_, ?_⟩
        · show (fuFl j k0 m0 j).burn.S = 2
          rw [Fl.burn_geo _ |>.1]; rfl
        · show (fuFl j k0 m0 j).burn.Z = 64
          rw [Fl.burn_geo _ |>.2.1]; rfl
      have Hbs := Lib.hid hbs
      have HSZ := Lib.hid hSZ
      obtain ⟨fz, hfzz⟩ : ∃ fz, fz = (fuFl j k0 m0 j).prog 100 [0] := ⟨_, rfl⟩
      rw [← hfzz] at hf5 hup Hbs HSZ
      have h5 : w4.cell? ⟨p, 5, none⟩ = some (.bool false) := by rw [hf5.hd.cell]; simp [Fl.hdr, hup]
      clear hf4 hs4 hf hb ho5 hbs hSZ hfzz hup hfz hcode
      have Hf5 := Lib.hid hf5
      have Hb5 := Lib.hid hb5
      clear hf5 hb5
      have hy : 0 ≤ y % 4 ∧ y % 4 < 4 := by omega
      go_wp2_with fail
      go_loop [46] (fun i => ∃ n : Int, 0 ≤ n ∧ n ≤ 1 + y % 4 ∧ i = .int .u8 n) (fun i => (1 + y % 4 - intOf i).toNat)
      case atStart => exact ⟨0, by omega, by omega, rfl⟩
      case round =>
        obtain ⟨n, hn0, hn1, rfl⟩ := hrel
        by_cases hlt : n < 1 + y % 4
        · go_wp2_with fail
          refine (read_down p 0 1 _ h5).mono ?_
          rintro e1 w5 ⟨rfl, rfl⟩
          go_wp2_with fail
          refine (erase_down p 0 _ h5).mono ?_
          rintro e1 w5 ⟨rfl, rfl⟩
          go_wp2_with fail
          refine (program_down p 0 none 0 0 _ h5).mono ?_
          rintro e1 w5 ⟨rfl, rfl⟩
          go_wp2
          go_round
          case rel => exact ⟨n + 1, by omega, by omega, rfl⟩
          case measure => simp [intOf]; omega
        · go_wp2_with fail
          refine (reset_any p c er fz w4 Hf5.out).mono ?_
          rintro e1 w5 ⟨rfl, hf6, ho6⟩
          go_wp2_with fail
          refine (read_in p c er 0 j fz.reset w5 hf6 rfl (by show 0 + j ≤ fz.S * fz.Z; rw [HSZ.out.1, HSZ.out.2]; omega)).mono ?_
          rintro e1 w6 ⟨v, rfl, hown, hb6⟩
          have hrd : (fz.reset.bs.drop 0).take j = List.replicate j 0 := by rw [Hbs.out]; exact fuFl_read j _ m0 hk3
          rw [hrd] at hown
          obtain ⟨A, cap, rfl, hB0, -⟩ := ByteSl.of_own (S := Three p c er) hown (fun k h _ h3 => by have := hf6.hd.lt; have := hf6.ce.lt; have := hf6.er.lt; unfold Three at h3; omega)
          have hB := hB0.mono (T := Empty) (fun _ _ h => h.elim)
          have hf7 : FlashAt w6 p c er fz.reset := hf6.of (Only.of_below (S := Empty) hb6) (fun h => h) (fun h => h) (fun h => h)
          have hbw : Below w.heap.size w w6 := (Hb5.out.trans (ho6.below Hb5.out.size (by intro i hi e; omega))).trans (hb6.mono (by have := ho6.size; have := Hb5.out.size; omega))
          have hM : Blk (w6.alloc (.cells (madeCells #[.int .u8 0] j) 5)) w6.heap.size 5 (cellsB (List.replicate j 0)) := by rw [← made_bytes]; exact Blk.new _ _ _
          have hBM : ByteSl (w6.alloc (.cells (madeCells #[.int .u8 0] j) 5)).drew Empty (some ⟨w6.heap.size, 0, none⟩) j j (List.replicate j 0) := by
            rw [made_bytes]
            exact (ByteSl.lit w6 Empty (List.replicate j 0) j (by simp) (fun h => h) (by unfold maxLen; omega)).only ((Only.refl Empty _).drew) (fun _ _ h => h)
          have hcM := conv_bytes hBM
          have hc1 := conv_bytes (hB.only ((Only.refl Empty w6).drew) (fun _ _ h => h))
          have hc2 := conv_bytes (hB.only (((Only.refl Empty w6).alloc (.cells (madeCells #[.int .u8 0] j) 5)).drew) (fun _ _ h => h))
          have hB3 := hB0.only ((((Only.refl Empty w6).alloc (.cells (madeCells #[.int .u8 0] j) 5)).alloc (.cells #[.int .u8 0] 5)).drew) (fun _ _ h => h.elim)
          have hc3 := conv_bytes hB3
          have hmk := fun W => run_make_row' (P := Try.prog) 34 5 (.int .u8 0) 1 Try.underlying34 Try.infoU8 rfl .i64 .i64 j (by omega) (by omega) W
          have hs8 : ByteSl (((w6.alloc (.cells (madeCells #[.int .u8 0] j) 5)).alloc (.cells #[.int .u8 0] 5)).drew) (Three p c er) (some ⟨w6.heap.size + 1, 0, none⟩) 1 1 [0] := by
            have h8 := ByteSl.lit (w6.alloc (.cells (madeCells #[.int .u8 0] j) 5)) (Three p c er) [0] 1 rfl (by have := hf7.hd.lt; have := hf7.ce.lt; have := hf7.er.lt; unfold Three; simp; omega) (by decide)
            have h9 := h8.only ((Only.refl (Three p c er) _).drew) (fun _ _ h => h)
            rw [show (w6.alloc (.cells (madeCells #[.int .u8 0] j) 5)).heap.size = w6.heap.size + 1 by simp] at h9
            exact h9
          have hcall := (program_fits p c er 127 1 1 fz.reset [0] _ _ (hf7.of ((((Only.refl Empty w6).alloc (.cells (madeCells #[.int .u8 0] j) 5)).alloc (.cells #[.int .u8 0] 5)).drew) (fun h => h) (fun h => h) (fun h => h)) rfl hs8
            (by show 127 + 1 ≤ fz.S * fz.Z; rw [HSZ.out.1, HSZ.out.2]; omega) (zero_fits _ _)).mono
              (R' := fun e1 w' => e1 = .returned (.int .i64 0) ∧ Below w.heap.size w w' ∧ (convert 34 9 (.slice A j cap)).run Try.prog w' = .ok (.string (strB (List.replicate j 0))) w') (fun e1 w' ⟨he, _, ho⟩ => ⟨he, (by
                have hq := hbw.trans (((((Below.refl w6.heap.size w6).alloc (Nat.le_refl _) (.cells (madeCells #[.int .u8 0] j) 5)).alloc (by simp) (.cells #[.int .u8 0] 5)).drew).mono hbw.size)
                exact hq.trans (ho.below hq.size (by intro i hi h3; unfold Three at h3; omega))), conv_bytes (hB3.only ho (fun _ _ h => h))⟩)
          have Hcall := Lib.hid hcall
          clear hcall hs8 hBM hM hB hB0 hB3 hown hf7 hbw hb6 ho6 hf6
          go_wp2_with fail
          go_region_held (fun W => (convert 34 9 (.slice A j cap)).run Try.prog W = .ok (.string (strB (List.replicate j 0))) W) (first | exact hc1 | exact hc2 | exact hc3 | exact hc7) (first | (go_at_call 20; refine Hcall.out.mono ?_; rintro e1 w7 ⟨rfl, hb7, hc7⟩))
          go_wp2
          go_ret
          exact ⟨rfl, hb7⟩

set_option maxRecDepth 100000 in
theorem norFuse_lifted (os : Os) (started : os.Started) (H : Type) (enc : TypeId × Value → H) :
    ReturnsInHanded {} Try.checked os 6 .any (Rows.norFuseSpec.pre6 enc Try.prog Try.f6 Rows.norFuseRow.domain false) (Rows.norFuseSpec.post enc Try.prog Try.f6 false true false false) := by
  refine returnsInHanded_of_change (C := Try.checked) Try.ownKnobs started (by kernel_rfl) Try.func6
    (ChangeSpec.witness6 (enc := enc) (C := Try.checked) false ⟨#[], #[.int .u8 0, .agg #[.int .i64 0, .int .u8 0], .int .u8 0], []⟩ 8 (by kernel_rfl) (by kernel_rfl) (by kernel_rfl) (by kernel_rfl)) ?_
  intro W base args ds gs before hval0 hW hcnd _
  have hval : ∀ (j : Nat) t v, Try.f6.params[j]? = some t → args[j]? = some v → Value.okWide Try.prog W .any base t v := hval0
  have hW' := hW
  obtain ⟨p, q, hA0, hV, rfl, hfz, hnd⟩ := hW
  have hA : DataW.TrodAll enc Try.prog W 0 (fun _ => true) true Try.f6.params.toList args.toList ds p := hA0
  rw [Try.params6] at hA hval
  obtain ⟨v0, vs0, d0, ds0, p0, q0, hargs, rfl, rfl, h0, r0⟩ := trodAll_cons hA
  obtain ⟨v1, vs1, d1, ds1, p1, q1, rfl, rfl, rfl, h1, r1⟩ := trodAll_cons r0
  obtain ⟨v2, vs2, d2, ds2, p2, q2, rfl, rfl, rfl, h2, r2⟩ := trodAll_cons r1
  obtain ⟨rfl, rfl, rfl⟩ := trodAll_nil r2
  obtain rfl : args = #[v0, v1, v2] := by cases args; simp_all
  obtain ⟨rfl, rfl⟩ := trodVars_none hV
  obtain ⟨x, rfl, x1, x2⟩ := open_u8 (hval 0 5 v0 rfl rfl) h0
  obtain ⟨k, m, rfl, k1, k2⟩ := open_tear (hval 1 36 v1 rfl rfl) h1
  obtain ⟨y, rfl, y1, y2⟩ := open_u8 (hval 2 5 v2 rfl rfl) h2
  refine (norFuse_calls x y k m W x1 x2 y1 y2 k1 k2).mono fun e W' ⟨he, hb⟩ => ?_
  subst he
  exact ⟨_, rfl, law_post Try.allLaid (of_decide_eq_true (by kernel_rfl)) rfl Try.underlying4 rfl hW' rfl rfl rfl hb⟩

/-- The statement: NorFuse returns true, and its arguments read as they did. -/
theorem norFuse_holds : Rows.NorFuseSaid :=
  OpenClaim.holds_of_wide 6 Try.f6 rfl rfl rfl rfl rfl rfl rfl ⟨rfl, rfl, rfl, rfl, rfl⟩ rfl rfl rfl rfl rfl (by kernel_rfl) Try.func6 (by kernel_rfl)
    (of_decide_eq_true (by kernel_rfl)) (by unfold Func.isWrapper; first | (rw [if_pos (by decide +kernel)]; kernel_rfl) | (rw [if_neg (by decide +kernel)]; exact ⟨rfl, rfl⟩))
    (fun os started H enc _ => norFuse_lifted os started H enc)

end Go.Proofs.Ytaepdmifenkhcaa
