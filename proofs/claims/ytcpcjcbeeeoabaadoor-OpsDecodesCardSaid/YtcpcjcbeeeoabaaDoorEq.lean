/- The walk over the document's one where a second number stands behind: an instruction's bytes. Printed by gen/gen_ep.py. -/
import Derived.Test.YtcpcjcbeeeoabaaDoorEp
import Derived.Test.YtcpcjcbeeeoabaaDoorTk
namespace Go.Proofs.YtcpcjcbeeeoabaaDoor
set_option maxRecDepth 100000
open Go.RowKit

theorem own_ge {w : World} {base : Nat} {v : Value} {n : Nat} {xs : List Value} (h : w.ownsRow base 5 1 v n xs) : ∀ q, v.ownBlock = some q → base ≤ q := by
  intro q hq
  rcases h.2 with ⟨rfl, _⟩ | ⟨g, c, cur, rfl, hb, _⟩
  · cases hq
  · cases hq
    exact hb

set_option maxHeartbeats 4000000 in
theorem refOne_8 (r : RawD) (w : World) (ho : r.op < 256) (hf : formN r.op = 8) :
    Calls Tryd.prog 26 #[.agg #[.int .i64 r.pl, .int .u8 (r.op : Int), .int .i64 r.a, .int .i64 r.b]] w fun e w' => OneOk r w w' e := by
  have HF : Hid (∀ W, Calls Tryd.prog 9 #[.int .u8 (r.op : Int)] W fun e w' => e = .returned (.int .i64 8) ∧ W = w') := Lib.hid (fun W => by have := refForm_any r.op ho W; rw [hf] at this; exact this)
  have HM : Hid (mayF r = mayF' 8 r) := Lib.hid (by unfold mayF; rw [hf])
  have Ho := Lib.hid ho
  have HW2 : Hid (Below w.heap.size w ((w.alloc (.cells #[.int .i64 r.pl, .int .u8 (r.op : Int), .int .i64 r.a, .int .i64 r.b] 36)).alloc (.cells #[.int .u8 (r.op : Int)] 5))) := Lib.hid (((Below.refl _ _).alloc (Nat.le_refl _) _).alloc (by simp) _)
  rw [may_8] at HM
  by_cases h1 : 0 ≤ r.a
  · by_cases h2 : r.a ≤ 255
    · have hd1 : decide (r.a < 0) = false := by simp; omega
      have hd3 : decide (255 < r.a) = false := by simp; omega
      have HM2 : Hid (mayF r = decide (-128 ≤ r.b ∧ r.b ≤ 127)) := Lib.hid (by rw [HM.out, decide_eq_true ⟨h1, h2⟩, Bool.true_and])
      have hu : IntKind.u64.wrap r.a = (uw r.a : Int) := uw_wrap _
      have hul := uw_le r.a
      have HPut : Hid (Calls Tryd.prog 28 #[.slice (some ⟨w.heap.size + 1, 0, none⟩) 1 1, .int .u64 (uw r.a : Int), .int .i64 1] ((w.alloc (.cells #[.int .i64 r.pl, .int .u8 (r.op : Int), .int .i64 r.a, .int .i64 r.b] 36)).alloc (.cells #[.int .u8 (r.op : Int)] 5)) fun e w' => (∃ u, e = .returned u ∧ w'.ownsRow ((w.alloc (.cells #[.int .i64 r.pl, .int .u8 (r.op : Int), .int .i64 r.a, .int .i64 r.b] 36)).alloc (.cells #[.int .u8 (r.op : Int)] 5)).heap.size 5 1 u (1 + 1) (([UInt8.ofNat r.op] ++ putL (uw r.a) 1).map B8)) ∧ Below ((w.alloc (.cells #[.int .i64 r.pl, .int .u8 (r.op : Int), .int .i64 r.a, .int .i64 r.b] 36)).alloc (.cells #[.int .u8 (r.op : Int)] 5)).heap.size ((w.alloc (.cells #[.int .i64 r.pl, .int .u8 (r.op : Int), .int .i64 r.a, .int .i64 r.b] 36)).alloc (.cells #[.int .u8 (r.op : Int)] 5)) w') := Lib.hid (by
        have h := lit1 (w.alloc (.cells #[.int .i64 r.pl, .int .u8 (r.op : Int), .int .i64 r.a, .int .i64 r.b] 36)) r.op ho
        rw [show (w.alloc (.cells #[.int .i64 r.pl, .int .u8 (r.op : Int), .int .i64 r.a, .int .i64 r.b] 36)).heap.size = w.heap.size + 1 by simp] at h
        exact refPut_yes _ 1 1 [UInt8.ofNat r.op] (uw r.a) 1 _ h (fun h => by cases h) hul (by omega) (by omega) (by omega))
      have HRb : Hid (∀ W, Below ((w.alloc (.cells #[.int .i64 r.pl, .int .u8 (r.op : Int), .int .i64 r.a, .int .i64 r.b] 36)).alloc (.cells #[.int .u8 (r.op : Int)] 5)).heap.size ((w.alloc (.cells #[.int .i64 r.pl, .int .u8 (r.op : Int), .int .i64 r.a, .int .i64 r.b] 36)).alloc (.cells #[.int .u8 (r.op : Int)] 5)) W → W.cell? ⟨w.heap.size, 1, none⟩ = some (.int .u8 (r.op : Int)) ∧ W.cell? ⟨w.heap.size, 3, none⟩ = some (.int .i64 r.b)) := Lib.hid (fun W h => by
        have hb := ((Blk.new w 36 #[.int .i64 r.pl, .int .u8 (r.op : Int), .int .i64 r.a, .int .i64 r.b]).alloc (.cells #[.int .u8 (r.op : Int)] 5)).of (h.block w.heap.size (by simp; omega))
        exact ⟨hb.cell 1, hb.cell 3⟩)
      have HCb : Hid (codeB r = ([UInt8.ofNat r.op] ++ putL (uw r.a) 1) ++ putL (uw r.b) 1) := Lib.hid (by unfold codeB codeB'; rw [hf]; show UInt8.ofNat r.op :: (putL (uw r.a) 1 ++ putL (uw r.b) 1) = _; simp)
      clear hf HM
      go_enter Tryd.func26, Tryd.ntmps26
      go_wp2_with fail
      refine (HF.out _).mono ?_
      rintro e1 w1 ⟨rfl, rfl⟩
      go_wp2_with fail
      refine HPut.out.mono ?_
      rintro e2 w2 ⟨⟨u, rfl, hown⟩, hb2⟩
      obtain ⟨k1, k3⟩ := HRb.out w2 hb2
      have HRw : Hid (Blk w2 w.heap.size 36 #[.int .i64 r.pl, .int .u8 (r.op : Int), .int .i64 r.a, .int .i64 r.b]) := Lib.hid (((Blk.new w 36 _).alloc _).of (hb2.block w.heap.size (by simp; omega)))
      have HB2 := Lib.hid (HW2.out.trans (hb2.mono HW2.out.size))
      have HO2 := Lib.hid (own_base hown HW2.out.size)
      clear hown hb2
      go_wp2_with fail
      refine (HF.out _).mono ?_
      rintro e3 w3 ⟨rfl, rfl⟩
      obtain ⟨o8, ho8⟩ : ∃ o8 : Nat, o8 = uw r.b % 256 := ⟨_, rfl⟩
      have hw8 : IntKind.u8.wrap r.b = (o8 : Int) := by
        rw [IntKind.wrap_u8, ho8]
        unfold uw
        omega
      have ho8l : o8 < 256 := by omega
      have HP8 : Hid (putL (uw r.b) 1 = [UInt8.ofNat o8]) := Lib.hid (by
        rw [ho8]
        show [UInt8.ofNat (uw r.b / 2 ^ (8 * (1 - 1 - 0)))] = _
        congr 1
        apply UInt8.toNat_inj.1
        rw [UInt8.toNat_ofNat', UInt8.toNat_ofNat']
        simp)
      clear ho8 k1
      have HLw : Hid (ByteSl (w2.drew.alloc (.cells #[.int .u8 (o8 : Int)] 5)) Empty (some ⟨w2.heap.size, 0, none⟩) 1 1 [UInt8.ofNat o8]) := Lib.hid (lit1 w2.drew o8 ho8l)
      have HOd : Hid ((w2.drew.alloc (.cells #[.int .u8 (o8 : Int)] 5)).ownsRow w.heap.size 5 1 u (1 + 1) (([UInt8.ofNat r.op] ++ putL (uw r.a) 1).map B8)) := Lib.hid (own_only HO2.out (Only.of_below (S := Empty) (((Below.refl w2.heap.size w2).drewN 1).alloc (Nat.le_refl _) _)) (fun _ _ _ h => h))
      have HBd : Hid (Below w.heap.size w (w2.drew.alloc (.cells #[.int .u8 (o8 : Int)] 5))) := Lib.hid ((HB2.out.drewN 1).alloc HB2.out.size _)
      have HRd : Hid (Blk (w2.drew.alloc (.cells #[.int .u8 (o8 : Int)] 5)) w.heap.size 36 #[.int .i64 r.pl, .int .u8 (r.op : Int), .int .i64 r.a, .int .i64 r.b]) := Lib.hid ((HRw.out.drew).alloc _)
      have k3d : w2.drew.cell? ⟨w.heap.size, 3, none⟩ = some (.int .i64 r.b) := k3
      have k3a := HRd.out.cell 3
      simp at k3a
      by_cases hb1 : -128 ≤ r.b
      · have hg1 : decide (-128 ≤ r.b) = true := decide_eq_true hb1
        have HM3 : Hid (mayF r = decide (r.b ≤ 127)) := Lib.hid (by rw [HM2.out, Bool.eq_iff_iff]; simp; omega)
        clear hb1
        go_wp2
        refine wp_region_held_drew (S := fun W => W.cell? ⟨w.heap.size, 3, none⟩ = some (.int .i64 r.b)) (by kernel_rfl) k3d (fun hHeld0 => ?_)
        refine take_yes 0 61 ?_ rfl rfl (by kernel_rfl) (by kernel_rfl) (by kernel_rfl) (fun _ _ _ h => h) (by kernel_rfl) ?_ (by assumption) ?_; rotate_left; (focus (intro w hSw; (try dsimp only at hSw); go_simp; all_goals first | with_reducible rfl)); simp only [Act.put, List.setIfInBounds_toArray, List.set_cons_zero, List.set_cons_succ]
        refine take_yes 1 62 ?_ rfl rfl (by kernel_rfl) (by kernel_rfl) (by kernel_rfl) (fun _ _ _ h => h) (by kernel_rfl) ?_ (by assumption) ?_; rotate_left; (focus (intro w hSw; (try dsimp only at hSw); go_simp; all_goals first | with_reducible rfl)); simp only [Act.put, List.setIfInBounds_toArray, List.set_cons_zero, List.set_cons_succ]
        refine take_yes 2 63 ?_ rfl rfl (by kernel_rfl) (by kernel_rfl) (by kernel_rfl) (fun _ _ _ h => h) (by kernel_rfl) ?_ (by assumption) ?_; rotate_left; (focus (intro w hSw; (try dsimp only at hSw); go_simp; all_goals first | with_reducible rfl)); simp only [Act.put, List.setIfInBounds_toArray, List.set_cons_zero, List.set_cons_succ]
        refine take_yes 3 64 (.int .u8 (o8 : Int)) rfl rfl (by kernel_rfl) (by kernel_rfl) (by kernel_rfl) (fun _ _ _ h => h) (by kernel_rfl) ?_ (by assumption) ?_; (focus (intro w hSw; (try dsimp only at hSw); go_simp; all_goals first | with_reducible rfl | simp [hw8])); simp only [Act.put, List.setIfInBounds_toArray, List.set_cons_zero, List.set_cons_succ]
        refine take_yes 6 67 ?_ rfl rfl (by kernel_rfl) (by kernel_rfl) (by kernel_rfl) (fun _ _ _ h => h) (by kernel_rfl) ?_ (by assumption) ?_; rotate_left; (focus (intro w hSw; (try dsimp only at hSw); go_simp; all_goals first | with_reducible rfl)); simp only [Act.put, List.setIfInBounds_toArray, List.set_cons_zero, List.set_cons_succ]
        refine take_yes 7 68 ?_ rfl rfl (by kernel_rfl) (by kernel_rfl) (by kernel_rfl) (fun _ _ _ h => h) (by kernel_rfl) ?_ (by assumption) ?_; rotate_left; (focus (intro w hSw; (try dsimp only at hSw); go_simp; all_goals first | with_reducible rfl)); simp only [Act.put, List.setIfInBounds_toArray, List.set_cons_zero, List.set_cons_succ]
        refine take_yes 8 69 (.bool true) rfl rfl (by kernel_rfl) (by kernel_rfl) (by kernel_rfl) (fun _ _ _ h => h) (by kernel_rfl) ?_ (by assumption) ?_; (focus (intro w hSw; (try dsimp only at hSw); go_simp; all_goals first | with_reducible rfl | simp [hg1])); simp only [Act.put, List.setIfInBounds_toArray, List.set_cons_zero, List.set_cons_succ]
        refine wpAnyH_ready (rs := [4]) (by kernel_rfl) (by simp) ?_
        refine AllReadyH.cons rfl (fun K hK => ?_) AllReadyH.nil
        go_simp
        refine hK.out _ _ (k3a) (fun _ => ?_)
        clear hK K
        try simp only [Act.put, List.setIfInBounds_toArray, List.set_cons_zero, List.set_cons_succ]
        refine wpAnyH_ready (rs := [5]) (by kernel_rfl) (by simp) ?_
        refine AllReadyH.cons rfl (fun K hK => ?_) AllReadyH.nil
        refine step_append_bytes rfl (.tmp 61) (.tmp 65) rfl w.heap.size u rfl (1 + 1) ([UInt8.ofNat r.op] ++ putL (uw r.a) 1) HOd.out (some ⟨w2.heap.size, 0, none⟩) 1 1 [UInt8.ofNat o8] Empty rfl HLw.out (fun h => by cases h) (by omega) HBd.out.size ?_
        intro v5 w5 ho5 hg5 _
        change K (Act.put _ (some 66) v5) w5
        have hr5 := (grown_blk hg5 HRd.out (own_ne_ HOd.out HRd.out (by decide))).cell 3
        simp at hr5
        have HB5 : Hid (Below w.heap.size w w5) := Lib.hid (below_grown HBd.out HBd.out.size hg5 (own_ge HOd.out))
        have HO5 := Lib.hid ho5
        clear ho5 hg5
        refine hK.out _ _ (hr5) (fun _ => ?_)
        clear hK K
        try simp only [Act.put, List.setIfInBounds_toArray, List.set_cons_zero, List.set_cons_succ]
        refine take_yes 9 70 (.bool true) rfl rfl (by kernel_rfl) (by kernel_rfl) (by kernel_rfl) (fun _ _ _ h => h) (by kernel_rfl) ?_ (by assumption) ?_; (focus (intro w hSw; (try dsimp only at hSw); go_simp; all_goals first | with_reducible rfl)); simp only [Act.put, List.setIfInBounds_toArray, List.set_cons_zero, List.set_cons_succ]
        refine take_yes 10 71 ?_ rfl rfl (by kernel_rfl) (by kernel_rfl) (by kernel_rfl) (fun _ _ _ h => h) (by kernel_rfl) ?_ (by assumption) ?_; rotate_left; (focus (intro w hSw; (try dsimp only at hSw); go_simp; all_goals first | with_reducible rfl)); simp only [Act.put, List.setIfInBounds_toArray, List.set_cons_zero, List.set_cons_succ]
        refine take_yes 11 72 ?_ rfl rfl (by kernel_rfl) (by kernel_rfl) (by kernel_rfl) (fun _ _ _ h => h) (by kernel_rfl) ?_ (by assumption) ?_; rotate_left; (focus (intro w hSw; (try dsimp only at hSw); go_simp; all_goals first | with_reducible rfl)); simp only [Act.put, List.setIfInBounds_toArray, List.set_cons_zero, List.set_cons_succ]
        refine take_yes 12 73 ?_ rfl rfl (by kernel_rfl) (by kernel_rfl) (by kernel_rfl) (fun _ _ _ h => h) (by kernel_rfl) ?_ (by assumption) ?_; rotate_left; (focus (intro w hSw; (try dsimp only at hSw); go_simp; all_goals first | with_reducible rfl)); simp only [Act.put, List.setIfInBounds_toArray, List.set_cons_zero, List.set_cons_succ]
        refine take_yes 13 74 ?_ rfl rfl (by kernel_rfl) (by kernel_rfl) (by kernel_rfl) (fun _ _ _ h => h) (by kernel_rfl) ?_ (by assumption) ?_; rotate_left; (focus (intro w hSw; (try dsimp only at hSw); go_simp; all_goals first | with_reducible rfl)); simp only [Act.put, List.setIfInBounds_toArray, List.set_cons_zero, List.set_cons_succ]
        refine take_yes 14 2 ?_ rfl rfl (by kernel_rfl) (by kernel_rfl) (by kernel_rfl) (fun _ _ _ h => h) (by kernel_rfl) ?_ (by assumption) ?_; rotate_left; (focus (intro w hSw; (try dsimp only at hSw); go_simp; all_goals first | with_reducible rfl)); simp only [Act.put, List.setIfInBounds_toArray, List.set_cons_zero, List.set_cons_succ]
        refine take_yes 15 3 ?_ rfl rfl (by kernel_rfl) (by kernel_rfl) (by kernel_rfl) (fun _ _ _ h => h) (by kernel_rfl) ?_ (by assumption) ?_; rotate_left; (focus (intro w hSw; (try dsimp only at hSw); go_simp; all_goals first | with_reducible rfl)); simp only [Act.put, List.setIfInBounds_toArray, List.set_cons_zero, List.set_cons_succ]
        refine wpAnyH_done (by kernel_rfl) ?_ _
        go_wp2
        go_ret2
        refine ⟨⟨v5, ([UInt8.ofNat r.op] ++ putL (uw r.a) 1) ++ [UInt8.ofNat o8], by rw [HM3.out]; rfl, ?_, fun _ => by rw [HCb.out, HP8.out]⟩, HB5.out⟩
        have h := HO5.out
        rw [List.length_append, List.length_append, putL_len]
        exact h
      · have hg1 : decide (-128 ≤ r.b) = false := decide_eq_false hb1
        have HM3 : Hid (mayF r = false) := Lib.hid (by rw [HM2.out, decide_eq_false (fun h => hb1 h.1)])
        clear hb1
        go_wp2
        refine wp_region_held_drew (S := fun W => W.cell? ⟨w.heap.size, 3, none⟩ = some (.int .i64 r.b)) (by kernel_rfl) k3d (fun hHeld0 => ?_)
        refine take_yes 0 61 ?_ rfl rfl (by kernel_rfl) (by kernel_rfl) (by kernel_rfl) (fun _ _ _ h => h) (by kernel_rfl) ?_ (by assumption) ?_; rotate_left; (focus (intro w hSw; (try dsimp only at hSw); go_simp; all_goals first | with_reducible rfl)); simp only [Act.put, List.setIfInBounds_toArray, List.set_cons_zero, List.set_cons_succ]
        refine take_yes 1 62 ?_ rfl rfl (by kernel_rfl) (by kernel_rfl) (by kernel_rfl) (fun _ _ _ h => h) (by kernel_rfl) ?_ (by assumption) ?_; rotate_left; (focus (intro w hSw; (try dsimp only at hSw); go_simp; all_goals first | with_reducible rfl)); simp only [Act.put, List.setIfInBounds_toArray, List.set_cons_zero, List.set_cons_succ]
        refine take_yes 2 63 ?_ rfl rfl (by kernel_rfl) (by kernel_rfl) (by kernel_rfl) (fun _ _ _ h => h) (by kernel_rfl) ?_ (by assumption) ?_; rotate_left; (focus (intro w hSw; (try dsimp only at hSw); go_simp; all_goals first | with_reducible rfl)); simp only [Act.put, List.setIfInBounds_toArray, List.set_cons_zero, List.set_cons_succ]
        refine take_yes 3 64 (.int .u8 (o8 : Int)) rfl rfl (by kernel_rfl) (by kernel_rfl) (by kernel_rfl) (fun _ _ _ h => h) (by kernel_rfl) ?_ (by assumption) ?_; (focus (intro w hSw; (try dsimp only at hSw); go_simp; all_goals first | with_reducible rfl | simp [hw8])); simp only [Act.put, List.setIfInBounds_toArray, List.set_cons_zero, List.set_cons_succ]
        refine take_yes 6 67 ?_ rfl rfl (by kernel_rfl) (by kernel_rfl) (by kernel_rfl) (fun _ _ _ h => h) (by kernel_rfl) ?_ (by assumption) ?_; rotate_left; (focus (intro w hSw; (try dsimp only at hSw); go_simp; all_goals first | with_reducible rfl)); simp only [Act.put, List.setIfInBounds_toArray, List.set_cons_zero, List.set_cons_succ]
        refine take_yes 7 68 ?_ rfl rfl (by kernel_rfl) (by kernel_rfl) (by kernel_rfl) (fun _ _ _ h => h) (by kernel_rfl) ?_ (by assumption) ?_; rotate_left; (focus (intro w hSw; (try dsimp only at hSw); go_simp; all_goals first | with_reducible rfl)); simp only [Act.put, List.setIfInBounds_toArray, List.set_cons_zero, List.set_cons_succ]
        refine take_yes 8 69 (.bool false) rfl rfl (by kernel_rfl) (by kernel_rfl) (by kernel_rfl) (fun _ _ _ h => h) (by kernel_rfl) ?_ (by assumption) ?_; (focus (intro w hSw; (try dsimp only at hSw); go_simp; all_goals first | with_reducible rfl | simp [hg1])); simp only [Act.put, List.setIfInBounds_toArray, List.set_cons_zero, List.set_cons_succ]
        refine wpAnyH_ready (rs := [4]) (by kernel_rfl) (by simp) ?_
        refine AllReadyH.cons rfl (fun K hK => ?_) AllReadyH.nil
        go_simp
        refine hK.out _ _ (k3a) (fun _ => ?_)
        clear hK K
        try simp only [Act.put, List.setIfInBounds_toArray, List.set_cons_zero, List.set_cons_succ]
        refine wpAnyH_ready (rs := [5]) (by kernel_rfl) (by simp) ?_
        refine AllReadyH.cons rfl (fun K hK => ?_) AllReadyH.nil
        refine step_append_bytes rfl (.tmp 61) (.tmp 65) rfl w.heap.size u rfl (1 + 1) ([UInt8.ofNat r.op] ++ putL (uw r.a) 1) HOd.out (some ⟨w2.heap.size, 0, none⟩) 1 1 [UInt8.ofNat o8] Empty rfl HLw.out (fun h => by cases h) (by omega) HBd.out.size ?_
        intro v5 w5 ho5 hg5 _
        change K (Act.put _ (some 66) v5) w5
        have hr5 := (grown_blk hg5 HRd.out (own_ne_ HOd.out HRd.out (by decide))).cell 3
        simp at hr5
        have HB5 : Hid (Below w.heap.size w w5) := Lib.hid (below_grown HBd.out HBd.out.size hg5 (own_ge HOd.out))
        have HO5 := Lib.hid ho5
        clear ho5 hg5
        refine hK.out _ _ (hr5) (fun _ => ?_)
        clear hK K
        try simp only [Act.put, List.setIfInBounds_toArray, List.set_cons_zero, List.set_cons_succ]
        refine take_yes 9 70 (.bool false) rfl rfl (by kernel_rfl) (by kernel_rfl) (by kernel_rfl) (fun _ _ _ h => h) (by kernel_rfl) ?_ (by assumption) ?_; (focus (intro w hSw; (try dsimp only at hSw); go_simp; all_goals first | with_reducible rfl)); simp only [Act.put, List.setIfInBounds_toArray, List.set_cons_zero, List.set_cons_succ]
        refine take_no 10 71 rfl rfl (by kernel_rfl) (by kernel_rfl) (by kernel_rfl) (fun _ _ _ h => h) (by kernel_rfl) (by assumption) ?_; simp only [Act.put, List.setIfInBounds_toArray, List.set_cons_zero, List.set_cons_succ]
        refine take_no 11 72 rfl rfl (by kernel_rfl) (by kernel_rfl) (by kernel_rfl) (fun _ _ _ h => h) (by kernel_rfl) (by assumption) ?_; simp only [Act.put, List.setIfInBounds_toArray, List.set_cons_zero, List.set_cons_succ]
        refine take_no 12 73 rfl rfl (by kernel_rfl) (by kernel_rfl) (by kernel_rfl) (fun _ _ _ h => h) (by kernel_rfl) (by assumption) ?_; simp only [Act.put, List.setIfInBounds_toArray, List.set_cons_zero, List.set_cons_succ]
        refine take_yes 13 74 (.bool false) rfl rfl (by kernel_rfl) (by kernel_rfl) (by kernel_rfl) (fun _ _ _ h => h) (by kernel_rfl) ?_ (by assumption) ?_; (focus (intro w hSw; (try dsimp only at hSw); go_simp; all_goals first | with_reducible rfl)); simp only [Act.put, List.setIfInBounds_toArray, List.set_cons_zero, List.set_cons_succ]
        refine take_yes 14 2 ?_ rfl rfl (by kernel_rfl) (by kernel_rfl) (by kernel_rfl) (fun _ _ _ h => h) (by kernel_rfl) ?_ (by assumption) ?_; rotate_left; (focus (intro w hSw; (try dsimp only at hSw); go_simp; all_goals first | with_reducible rfl)); simp only [Act.put, List.setIfInBounds_toArray, List.set_cons_zero, List.set_cons_succ]
        refine take_yes 15 3 ?_ rfl rfl (by kernel_rfl) (by kernel_rfl) (by kernel_rfl) (fun _ _ _ h => h) (by kernel_rfl) ?_ (by assumption) ?_; rotate_left; (focus (intro w hSw; (try dsimp only at hSw); go_simp; all_goals first | with_reducible rfl)); simp only [Act.put, List.setIfInBounds_toArray, List.set_cons_zero, List.set_cons_succ]
        refine wpAnyH_done (by kernel_rfl) ?_ _
        go_wp2
        go_ret2
        refine ⟨⟨v5, ([UInt8.ofNat r.op] ++ putL (uw r.a) 1) ++ [UInt8.ofNat o8], by rw [HM3.out]; rfl, ?_, fun h => by rw [HM3.out] at h; cases h⟩, HB5.out⟩
        have h := HO5.out
        rw [List.length_append, List.length_append, putL_len]
        exact h
    · have HN : Hid (mayF r = false) := Lib.hid (by rw [HM.out, decide_eq_false (fun h => h2 h.2)]; rfl)
      have hd1 : decide (r.a < 0) = false := by simp; omega
      have hd3 : decide (255 < r.a) = true := by simp; omega
      clear ho hf HM h2
      go_enter Tryd.func26, Tryd.ntmps26
      go_wp2_with fail
      refine (HF.out _).mono ?_
      rintro e1 w1 ⟨rfl, rfl⟩
      go_wp2
      go_ret2
      exact ⟨⟨_, [], by rw [HN.out]; rfl, own_none _ _, fun h => by rw [HN.out] at h; cases h⟩, HW2.out⟩
  · have HN : Hid (mayF r = false) := Lib.hid (by rw [HM.out, decide_eq_false (fun h => h1 h.1)]; rfl)
    have hd1 : decide (r.a < 0) = true := by simp; omega
    clear ho hf HM h1
    go_enter Tryd.func26, Tryd.ntmps26
    go_wp2_with fail
    refine (HF.out _).mono ?_
    rintro e1 w1 ⟨rfl, rfl⟩
    go_wp2
    go_ret2
    exact ⟨⟨_, [], by rw [HN.out]; rfl, own_none _ _, fun h => by rw [HN.out] at h; cases h⟩, HW2.out⟩

end Go.Proofs.YtcpcjcbeeeoabaaDoor
