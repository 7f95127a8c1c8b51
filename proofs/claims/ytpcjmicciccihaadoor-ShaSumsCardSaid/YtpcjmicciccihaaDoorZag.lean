/- SHA-256's words that a block makes. -/
import Derived.Test.YtpcjmicciccihaaDoorZae
import Derived.Test.YtpcjmicciccihaaDoorZab
import Derived.Test.YtpcjmicciccihaaDoorZaf
import Derived.Deep.MidRow
import Derived.Test.YtpcjmicciccihaaDoorZac
namespace Go.Proofs.YtpcjmicciccihaaDoor
set_option maxRecDepth 100000
open Go.RowKit

/-- The row of words, k of them made. -/
def rowW (m : List UInt8) (k : Nat) : Array Value := ((spreadN m k).map WV ++ List.replicate (64 - k) (Value.int .u32 0)).toArray
theorem rowW_get (m : List UInt8) (k j : Nat) (h : j < k) : (rowW m k)[j]? = some (WV ((spreadN m k).getD j 0)) := by
  unfold rowW
  rw [List.getElem?_toArray, List.getElem?_append_left (by simp [spreadN_len]; omega), List.getElem?_map, List.getD_eq_getElem?_getD, List.getElem?_eq_getElem (by rw [spreadN_len]; omega)]
  rfl
theorem rowW_set (m : List UInt8) (k : Nat) (h : k < 64) : (rowW m k).setIfInBounds k (WV (nextW m (spreadN m k))) = rowW m (k + 1) := by
  unfold rowW
  rw [List.setIfInBounds_toArray, List.set_append_right _ _ (by simp [spreadN_len])]
  rw [show 64 - k = (64 - (k + 1)) + 1 by omega, List.replicate_succ]
  simp [spreadN_len, spreadN_next]
theorem rowW_size (m : List UInt8) (k : Nat) (h : k ≤ 64) : (rowW m k).size = 64 := by simp [rowW, spreadN_len]; omega
theorem rowW_all (m : List UInt8) : rowW m 64 = ((spreadF m).map WV).toArray := by simp [rowW, spreadF]
theorem getV4 (m : List UInt8) (k : Nat) (h : 4 * k + 4 ≤ m.length) : getV ((m.drop (4 * k)).take 4) = (word4 m k).toNat := by
  have e : (m.drop (4 * k)).take 4 = [m.getD (4 * k) 0, m.getD (4 * k + 1) 0, m.getD (4 * k + 2) 0, m.getD (4 * k + 3) 0] := by
    apply List.ext_getElem
    · simp; omega
    · intro i h1 h2
      simp at h2
      simp only [List.getElem_take, List.getElem_drop]
      rcases i with _ | _ | _ | _ | i
      · simp [List.getD_eq_getElem?_getD, List.getElem?_eq_getElem (show 4 * k < m.length by omega)]
      · simp [List.getD_eq_getElem?_getD, List.getElem?_eq_getElem (show 4 * k + 1 < m.length by omega)]
      · simp [List.getD_eq_getElem?_getD, List.getElem?_eq_getElem (show 4 * k + 2 < m.length by omega)]
      · simp [List.getD_eq_getElem?_getD, List.getElem?_eq_getElem (show 4 * k + 3 < m.length by omega)]
      · omega
  rw [e]
  unfold word4 getV
  have b0 := byte_lt (m.getD (4 * k) 0)
  have b1 := byte_lt (m.getD (4 * k + 1) 0)
  have b2 := byte_lt (m.getD (4 * k + 2) 0)
  have b3 := byte_lt (m.getD (4 * k + 3) 0)
  rw [UInt32.toNat_ofNat', Nat.mod_eq_of_lt (by omega)]
  simp
theorem nextW_lo (m : List UInt8) (k : Nat) (h : k < 16) : nextW m (spreadN m k) = word4 m k := by
  unfold nextW; rw [spreadN_len, if_pos h]
theorem nextW_hi (m : List UInt8) (k : Nat) (h : ¬ k < 16) : nextW m (spreadN m k) = ((sig1 ((spreadN m k).getD (k - 2) 0) + (spreadN m k).getD (k - 7) 0) + sig0 ((spreadN m k).getD (k - 15) 0)) + (spreadN m k).getD (k - 16) 0 := by
  unfold nextW; rw [spreadN_len, if_neg h]

/-- A whole block of bytes, as a slice. -/
theorem ByteSl.of_blk {w : World} {g n : Nat} {t : TypeId} {m : List UInt8} (S : Nat → Prop) (h : Blk w g t (cellsB m)) (hm : m.length = n) (hn : n ≤ maxLen) (hS : ¬ S g) : ByteSl w S (some ⟨g, 0, none⟩) n n m := by
  refine ⟨hm, Nat.le_refl _, hn, fun _ => ⟨_, rfl, h.lt, hS, fun j x hx => ?_⟩⟩
  rw [add_off, h.cell, Nat.zero_add, cellsB_get, hx]
  rfl
set_option maxHeartbeats 2000000 in
theorem spread_any (w : World) (m : List UInt8) (hm : m.length = 64) :
    Calls Tryd.prog 25 #[.agg (cellsB m)] w fun e w' => e = .returned (.agg ((spreadF m).map WV).toArray) ∧ Below w.heap.size w w' := by
  have Hm := Lib.hid hm
  clear hm
  go_enter Tryd.func25, Tryd.ntmps25
  go_wp2
  go_loopw [12] (fun i wr => ∃ k : Nat, k ≤ 64 ∧ i = .int .i64 (k : Int) ∧ Blk wr w.heap.size 46 (cellsB m) ∧ Blk wr (w.heap.size + 1) 57 (rowW m 0) ∧ Blk wr (w.heap.size + 1 + 1) 57 (rowW m k) ∧ Hid (Below w.heap.size w wr)) (fun i _ => 64 - (intOf i).toNat)
  case atStart =>
    refine ⟨0, by omega, rfl, ?_, ?_, ?_, Lib.hid ?_⟩
    · exact ((Blk.new _ _ _).alloc _).alloc _
    · have h := (Blk.new (w.alloc (.cells (cellsB m) 46)) 57 (rowW m 0)).alloc (.cells (rowW m 0) 57)
      rw [show (w.alloc (.cells (cellsB m) 46)).heap.size = w.heap.size + 1 by simp] at h
      exact h
    · have h := Blk.new ((w.alloc (.cells (cellsB m) 46)).alloc (.cells (rowW m 0) 57)) 57 (rowW m 0)
      rw [show ((w.alloc (.cells (cellsB m) 46)).alloc (.cells (rowW m 0) 57)).heap.size = w.heap.size + 1 + 1 by simp] at h
      exact h
    · exact (((Below.refl _ _).alloc (Nat.le_refl _) _).alloc (by simp) _).alloc (by simp; omega) _
  case round =>
    obtain ⟨k, hk, rfl, hb1, hb2, hb3, HW⟩ := hrel
    by_cases hlt : k < 64
    · by_cases h16 : k < 16
      · have Hb1 := Lib.hid hb1
        have Hb2 := Lib.hid hb2
        have Hb3 := Lib.hid hb3
        have f3 := hb3.frozen k
        have c3 : ∃ u, wr.cell? ⟨w.heap.size + 1 + 1, k, none⟩ = some u := ⟨_, by rw [hb3.cell]; exact Array.getElem?_eq_getElem (by rw [rowW_size _ _ hk]; exact hlt)⟩
        obtain ⟨u, c3⟩ := c3
        clear hb1 hb2 hb3
        have HB := Lib.hid (ByteSl.of_blk Empty Hb1.out Hm.out (by decide) (fun h => h))
        go_wp2_with fail
        rw [show (k : Int) * 4 = ((4 * k : Nat) : Int) by omega]
        refine (get_yes _ 64 64 (4 * k) 4 m _ HB.out (by omega) (by omega) (by omega) (by omega)).mono ?_
        rintro e w1 ⟨rfl, rfl⟩
        rw [getV4 m k (by rw [Hm.out]; omega)]
        obtain ⟨x, hx⟩ : ∃ x, x = word4 m k := ⟨_, rfl⟩
        rw [← hx]
        have hxl := x.toNat_lt
        have hxw : ((x.toNat : Int)) % 4294967296 = (x.toNat : Int) := by omega
        have HX := Lib.hid hx
        clear hx
        go_wp2
        go_roundw
        case rel =>
          refine ⟨k + 1, by omega, by go_num, ?_, ?_, ?_, Lib.hid (HW.out.setCell (by simp; omega) _)⟩
          · exact Hb1.out.far (by simp; omega) _
          · exact Hb2.out.far (by simp) _
          · have h := Hb3.out.set_ k (WV (nextW m (spreadN m k)))
            rw [rowW_set _ _ hlt, nextW_lo _ _ h16, ← HX.out] at h
            exact h
        case measure => simp [intOf]; omega
      · have hb3' := hb3
        have Hb1 := Lib.hid hb1
        have Hb2 := Lib.hid hb2
        have Hb3 := Lib.hid hb3
        have f3 := hb3.frozen k
        have c3 : ∃ u, wr.cell? ⟨w.heap.size + 1 + 1, k, none⟩ = some u := ⟨_, by rw [hb3.cell]; exact Array.getElem?_eq_getElem (by rw [rowW_size _ _ hk]; exact hlt)⟩
        obtain ⟨u, c3⟩ := c3
        obtain ⟨X, hX⟩ : ∃ X, X = (spreadN m k).getD (k - 15) 0 := ⟨_, rfl⟩
        obtain ⟨Y, hY⟩ : ∃ Y, Y = (spreadN m k).getD (k - 2) 0 := ⟨_, rfl⟩
        obtain ⟨P, hP⟩ : ∃ P, P = (spreadN m k).getD (k - 7) 0 := ⟨_, rfl⟩
        obtain ⟨Q, hQ⟩ : ∃ Q, Q = (spreadN m k).getD (k - 16) 0 := ⟨_, rfl⟩
        have cX : wr.cell? ⟨w.heap.size + 1 + 1, k - 15, none⟩ = some (.int .u32 (X.toNat : Int)) := by rw [hb3.cell, rowW_get _ _ _ (by omega), ← hX]; rfl
        have cY : wr.cell? ⟨w.heap.size + 1 + 1, k - 2, none⟩ = some (.int .u32 (Y.toNat : Int)) := by rw [hb3.cell, rowW_get _ _ _ (by omega), ← hY]; rfl
        have cP : wr.cell? ⟨w.heap.size + 1 + 1, k - 7, none⟩ = some (.int .u32 (P.toNat : Int)) := by rw [hb3.cell, rowW_get _ _ _ (by omega), ← hP]; rfl
        have cQ : wr.cell? ⟨w.heap.size + 1 + 1, k - 16, none⟩ = some (.int .u32 (Q.toNat : Int)) := by rw [hb3.cell, rowW_get _ _ _ (by omega), ← hQ]; rfl
        have HN : Hid (nextW m (spreadN m k) = ((sig1 Y + P) + sig0 X) + Q) := Lib.hid (by rw [nextW_hi _ _ h16, hX, hY, hP, hQ])
        clear hX hY hP hQ hb1 hb2 hb3 hb3'
        have e15 : ((k : Int) - 15).toNat = k - 15 := by omega
        have e2 : ((k : Int) - 2).toNat = k - 2 := by omega
        have e7 : ((k : Int) - 7).toNat = k - 7 := by omega
        have e16 : ((k : Int) - 16).toNat = k - 16 := by omega
        go_wp2
        go_quiet (fail)
        rename Nat => q1
        go_wp2_with fail
        refine (shturn_any X 7 _ rfl (by omega) (by omega) _).mono ?_
        rintro e w1 ⟨rfl, rfl⟩
        unfold WV
        go_wp2_with fail
        refine (shturn_any X 18 _ rfl (by omega) (by omega) _).mono ?_
        rintro e w1 ⟨rfl, rfl⟩
        unfold WV
        go_wp2_with fail
        refine (shturn_any Y 17 _ rfl (by omega) (by omega) _).mono ?_
        rintro e w1 ⟨rfl, rfl⟩
        unfold WV
        go_wp2_with fail
        refine (shturn_any Y 19 _ rfl (by omega) (by omega) _).mono ?_
        rintro e w1 ⟨rfl, rfl⟩
        unfold WV
        go_wp2
        rw [sig0_int, sig1_int]
        obtain ⟨k7, hk7⟩ : ∃ k7, k7 = k - 7 := ⟨_, rfl⟩
        obtain ⟨k16, hk16⟩ : ∃ k16, k16 = k - 16 := ⟨_, rfl⟩
        have b7 : (k7 : Int) < 64 := by omega
        have b16 : (k16 : Int) < 64 := by omega
        have bk : (k : Int) < 64 := by omega
        have hw7 : IntKind.i64.wrap ((k : Int) - 7) = (k7 : Int) := by rw [IntKind.wrap_i64]; omega
        have hw16 : IntKind.i64.wrap ((k : Int) - 16) = (k16 : Int) := by rw [IntKind.wrap_i64]; omega
        rw [← hk7] at cP
        rw [← hk16] at cQ
        have n7 : ¬ (k7 = k) := by omega
        have n16 : ¬ (k16 = k) := by omega
        clear hk7 hk16 e7 e16
        have kP : (wr.drewN q1).drew.cell? ⟨w.heap.size + 1 + 1, k7, none⟩ = some (.int .u32 (P.toNat : Int)) := cP
        have kQ : (wr.drewN q1).drew.cell? ⟨w.heap.size + 1 + 1, k16, none⟩ = some (.int .u32 (Q.toNat : Int)) := cQ
        have kU : (wr.drewN q1).drew.cell? ⟨w.heap.size + 1 + 1, k, none⟩ = some u := c3
        have kF : (wr.drewN q1).drew.frozen? ⟨w.heap.size + 1 + 1, k, none⟩ = false := f3
        go_wp2_with fail
        refine wp_region_held_drew (S := fun W => W.cell? ⟨w.heap.size + 1 + 1, k7, none⟩ = some (.int .u32 (P.toNat : Int)) ∧ W.cell? ⟨w.heap.size + 1 + 1, k16, none⟩ = some (.int .u32 (Q.toNat : Int))) (by kernel_rfl) ⟨kP, kQ⟩ (fun hHeld0 => ?_)
        refine take_yes 0 53 ?_ rfl rfl (by kernel_rfl) (by kernel_rfl) (by kernel_rfl) (fun _ _ _ h => h) (by kernel_rfl) ?_ (by assumption) ?_; rotate_left; (focus (intro w hSw; (try dsimp only at hSw); go_simp; all_goals first | with_reducible rfl)); simp only [Act.put, List.setIfInBounds_toArray, List.set_cons_zero, List.set_cons_succ]
        refine take_yes 1 54 ?_ rfl rfl (by kernel_rfl) (by kernel_rfl) (by kernel_rfl) (fun _ _ _ h => h) (by kernel_rfl) ?_ (by assumption) ?_; rotate_left; (focus (intro w hSw; (try dsimp only at hSw); go_simp; all_goals first | with_reducible rfl)); simp only [Act.put, List.setIfInBounds_toArray, List.set_cons_zero, List.set_cons_succ]
        refine take_yes 2 55 ?_ rfl rfl (by kernel_rfl) (by kernel_rfl) (by kernel_rfl) (fun _ _ _ h => h) (by kernel_rfl) ?_ (by assumption) ?_; rotate_left; (focus (intro w hSw; (try dsimp only at hSw); go_simp; all_goals first | with_reducible rfl)); simp only [Act.put, List.setIfInBounds_toArray, List.set_cons_zero, List.set_cons_succ]
        refine take_yes 3 56 (.int .i64 (k7 : Int)) rfl rfl (by kernel_rfl) (by kernel_rfl) (by kernel_rfl) (fun _ _ _ h => h) (by kernel_rfl) ?_ (by assumption) ?_; (focus (intro w hSw; (try dsimp only at hSw); go_simp; all_goals first | with_reducible rfl | simp [hw7])); simp only [Act.put, List.setIfInBounds_toArray, List.set_cons_zero, List.set_cons_succ]
        refine take_yes 4 57 ?_ rfl rfl (by kernel_rfl) (by kernel_rfl) (by kernel_rfl) (fun _ _ _ h => h) (by kernel_rfl) ?_ (by assumption) ?_; rotate_left; (focus (intro w hSw; (try dsimp only at hSw); go_simp; all_goals first | with_reducible rfl)); simp only [Act.put, List.setIfInBounds_toArray, List.set_cons_zero, List.set_cons_succ]
        refine take_yes 5 58 ?_ rfl rfl (by kernel_rfl) (by kernel_rfl) (by kernel_rfl) (fun _ _ _ h => h) (by kernel_rfl) ?_ (by assumption) ?_; rotate_left; (focus (intro w hSw; (try dsimp only at hSw); go_simp; all_goals first | with_reducible rfl)); simp only [Act.put, List.setIfInBounds_toArray, List.set_cons_zero, List.set_cons_succ]
        refine take_yes 6 59 ?_ rfl rfl (by kernel_rfl) (by kernel_rfl) (by kernel_rfl) (fun _ _ _ h => h) (by kernel_rfl) ?_ (by assumption) ?_; rotate_left; (focus (intro w hSw; (try dsimp only at hSw); go_simp; all_goals first | with_reducible rfl)); simp only [Act.put, List.setIfInBounds_toArray, List.set_cons_zero, List.set_cons_succ]
        refine take_yes 7 60 ?_ rfl rfl (by kernel_rfl) (by kernel_rfl) (by kernel_rfl) (fun _ _ _ h => h) (by kernel_rfl) ?_ (by assumption) ?_; rotate_left; (focus (intro w hSw; (try dsimp only at hSw); go_simp; all_goals first | with_reducible rfl)); simp only [Act.put, List.setIfInBounds_toArray, List.set_cons_zero, List.set_cons_succ]
        refine take_yes 8 61 ?_ rfl rfl (by kernel_rfl) (by kernel_rfl) (by kernel_rfl) (fun _ _ _ h => h) (by kernel_rfl) ?_ (by assumption) ?_; rotate_left; (focus (intro w hSw; (try dsimp only at hSw); go_simp; all_goals first | with_reducible rfl)); simp only [Act.put, List.setIfInBounds_toArray, List.set_cons_zero, List.set_cons_succ]
        refine take_yes 9 62 ?_ rfl rfl (by kernel_rfl) (by kernel_rfl) (by kernel_rfl) (fun _ _ _ h => h) (by kernel_rfl) ?_ (by assumption) ?_; rotate_left; (focus (intro w hSw; (try dsimp only at hSw); go_simp; all_goals first | with_reducible rfl)); simp only [Act.put, List.setIfInBounds_toArray, List.set_cons_zero, List.set_cons_succ]
        refine take_yes 10 63 (.int .i64 (k16 : Int)) rfl rfl (by kernel_rfl) (by kernel_rfl) (by kernel_rfl) (fun _ _ _ h => h) (by kernel_rfl) ?_ (by assumption) ?_; (focus (intro w hSw; (try dsimp only at hSw); go_simp; all_goals first | with_reducible rfl | simp [hw16])); simp only [Act.put, List.setIfInBounds_toArray, List.set_cons_zero, List.set_cons_succ]
        refine take_yes 11 64 ?_ rfl rfl (by kernel_rfl) (by kernel_rfl) (by kernel_rfl) (fun _ _ _ h => h) (by kernel_rfl) ?_ (by assumption) ?_; rotate_left; (focus (intro w hSw; (try dsimp only at hSw); go_simp; all_goals first | with_reducible rfl)); simp only [Act.put, List.setIfInBounds_toArray, List.set_cons_zero, List.set_cons_succ]
        refine take_yes 12 65 ?_ rfl rfl (by kernel_rfl) (by kernel_rfl) (by kernel_rfl) (fun _ _ _ h => h) (by kernel_rfl) ?_ (by assumption) ?_; rotate_left; (focus (intro w hSw; (try dsimp only at hSw); go_simp; all_goals first | with_reducible rfl)); simp only [Act.put, List.setIfInBounds_toArray, List.set_cons_zero, List.set_cons_succ]
        refine take_yes 13 66 ?_ rfl rfl (by kernel_rfl) (by kernel_rfl) (by kernel_rfl) (fun _ _ _ h => h) (by kernel_rfl) ?_ (by assumption) ?_; rotate_left; (focus (intro w hSw; (try dsimp only at hSw); go_simp; all_goals first | with_reducible rfl)); simp only [Act.put, List.setIfInBounds_toArray, List.set_cons_zero, List.set_cons_succ]
        refine take_yes 14 67 ?_ rfl rfl (by kernel_rfl) (by kernel_rfl) (by kernel_rfl) (fun _ _ _ h => h) (by kernel_rfl) ?_ (by assumption) ?_; rotate_left; (focus (intro w hSw; (try dsimp only at hSw); go_simp; all_goals first | with_reducible rfl)); simp only [Act.put, List.setIfInBounds_toArray, List.set_cons_zero, List.set_cons_succ]
        refine wpAnyH_ready (rs := [15]) (by kernel_rfl) (by simp) ?_
        refine AllReadyH.cons rfl (fun K hK => ?_) AllReadyH.nil
        go_simp
        rw [wadd_int, wadd_int, wadd_int]
        obtain ⟨w5, hw5⟩ : ∃ W, (wr.drewN (q1 + 1)).setCell ⟨w.heap.size + 1 + 1, k, none⟩ (WV (((sig1 Y + P) + sig0 X) + Q)) = W := ⟨_, rfl⟩
        change K _ ((wr.drewN (q1 + 1)).setCell ⟨w.heap.size + 1 + 1, k, none⟩ (WV (((sig1 Y + P) + sig0 X) + Q)))
        have hf : w5.cell? ⟨w.heap.size + 1 + 1, k7, none⟩ = some (.int .u32 (P.toNat : Int)) ∧ w5.cell? ⟨w.heap.size + 1 + 1, k16, none⟩ = some (.int .u32 (Q.toNat : Int)) := by
          rw [← hw5]
          exact ⟨by rw [World.cell?_setCell_other _ _ _ _ (by simp [n7])]; exact kP, by rw [World.cell?_setCell_other _ _ _ _ (by simp [n16])]; exact kQ⟩
        have H1 : Hid (Blk w5 w.heap.size 46 (cellsB m)) := Lib.hid (by rw [← hw5]; exact (Hb1.out.drewN _).far (by simp; omega) _)
        have H2 : Hid (Blk w5 (w.heap.size + 1) 57 (rowW m 0)) := Lib.hid (by rw [← hw5]; exact (Hb2.out.drewN _).far (by simp) _)
        have H3 : Hid (Blk w5 (w.heap.size + 1 + 1) 57 (rowW m (k + 1))) := Lib.hid (by
          rw [← hw5]
          have h := (Hb3.out.drewN (q1 + 1)).set_ k (WV (nextW m (spreadN m k)))
          rw [rowW_set _ _ hlt, HN.out] at h
          exact h)
        have H4 : Hid (Below w.heap.size w w5) := Lib.hid (by rw [← hw5]; exact (HW.out.drewN _).setCell (by simp; omega) _)
        rw [hw5]
        refine hK.out _ _ (hf) (fun _ => ?_)
        clear hK K
        try simp only [Act.put, List.setIfInBounds_toArray, List.set_cons_zero, List.set_cons_succ]
        refine wpAnyH_done (by kernel_rfl) ?_ _
        clear hw5
        go_wp2
        go_roundw
        case rel => exact ⟨k + 1, by omega, by go_num, H1.out, H2.out, H3.out, H4⟩
        case measure => simp [intOf]; omega
    · obtain ⟨R, hR⟩ : ∃ R, R = rowW m k := ⟨_, rfl⟩
      obtain ⟨Z, hZ⟩ : ∃ Z, Z = rowW m 0 := ⟨_, rfl⟩
      have hRs : R.size = 64 := by rw [hR, rowW_size _ _ hk]
      have hZs : Z.size = 64 := by rw [hZ, rowW_size _ _ (by omega)]
      have hRe : R = ((spreadF m).map WV).toArray := by rw [hR, show k = 64 by omega, rowW_all]
      rw [← hR] at hb3
      rw [← hZ] at hb2
      have HRe := Lib.hid hRe
      have HRs := Lib.hid hRs
      have HZs := Lib.hid hZs
      have hg3 : wr.heap[w.heap.size + 1 + 1]? = some (.cells R 57 (0, 0)) := hb3
      have hg2 : wr.heap[w.heap.size + 1]? = some (.cells Z 57 (0, 0)) := hb2
      have Hb2 := Lib.hid hb2
      clear hb1 hb2 hb3 hR hZ hRe hRs hZs
      have HR1 : Hid (R.all (·.oneCell') = true) := Lib.hid (by rw [HRe.out]; exact Array.all_eq_true_iff_forall_mem.2 (fun v hv => by simp at hv; obtain ⟨z, _, rfl⟩ := hv; rfl))
      have hi57 : (Tryd.prog.info? 57).map (·.size) = some 64 := by kernel_rfl
      have Hi57 := Lib.hid hi57
      clear hi57
      go_wp2_with (first | with_reducible refine wpList_load_row rfl 57 (.tmp 3) rfl (w.heap.size + 1 + 1) rfl 57 R (0, 0) _ hg3 Tryd.underlying57 rfl (by rw [HRs.out]; exact Hi57.out) ?_ | with_reducible refine wpList_store_row rfl 57 (.tmp 2) (.tmp 69) rfl (w.heap.size + 1) R rfl rfl 57 Z hg2 (by rw [HRs.out]; exact Hi57.out) (by rw [HRs.out]; exact HZs.out) HR1.out ?_)
      refine bodyPost_ret (v := .agg R) (results_cell_row Tryd.results25 _ _ (w.heap.size + 1) 57 R (0, 0) _ rfl (setRow_heap _ _ _ _ _ _ hg2) Tryd.underlying57 rfl (by rw [HRs.out]; exact Hi57.out)) rfl ?_
      refine ⟨by rw [HRe.out], ?_⟩
      exact HW.out.trans (((Only.refl _ _).trans (only_setRow wr (w.heap.size + 1) R)).below HW.out.size (fun q hq h => by have h : q = w.heap.size + 1 := h; omega))
end Go.Proofs.YtpcjmicciccihaaDoor

/- SHA-256's words, moved on by a block. -/
namespace Go.Proofs.YtpcjmicciccihaaDoor
set_option maxRecDepth 100000
open Go.RowKit

/-- The two tables lie as they were laid. -/
structure ShaT (w : World) : Prop where
  start : ∀ j x, startW.l[j]? = some x → w.cell? ⟨0, j, none⟩ = some (WV x)
  roots : ∀ j x, rootsL[j]? = some x → w.cell? ⟨1, j, none⟩ = some (WV x)
  size : 2 ≤ w.heap.size
theorem ShaT.only {w w' : World} {S : Nat → Prop} (h : ShaT w) (k : Only S w w') (h0 : ¬ S 0) (h1 : ¬ S 1) : ShaT w' :=
  ⟨fun j x hj => by rw [k.cell (p := ⟨0, j, none⟩) (Nat.lt_of_lt_of_le (by show 0 < 2; omega) h.size) h0]; exact h.start j x hj,
   fun j x hj => by rw [k.cell (p := ⟨1, j, none⟩) (Nat.lt_of_lt_of_le (by show 1 < 2; omega) h.size) h1]; exact h.roots j x hj,
   Nat.le_trans h.size k.size⟩

theorem run_index_one {P : Program} (w : World) (t e : TypeId) (n : Nat) (d : TypeDesc) (cs : Array Value) (k : Nat) (v : Value) (h : P.underlying t = some (.array n e)) (he : P.underlying e = some d) (hd : (match d with | .struct _ | .array _ _ => true | _ => false) = false) (hs : (P.info? e).map (·.size) = some 1) (hk : k < n) (hv : cs[k]? = some v) :
    (Instr.index t (.agg cs) (.int .i64 (k : Int))).run P w = .ok v w := by
  have hagg : (isAgg e).run P w = .ok false w := by
    unfold isAgg
    rw [Sem.run_bind, run_underlying he w]
    cases d <;> simp_all
  cases hq : P.info? e with
  | none => simp [hq] at hs
  | some i =>
    have hs1 : i.size = 1 := by simpa [hq] using hs
    have hkn : (k : Int) < (n : Int) := by omega
    simp [Instr.index, run_underlying h, asIntOf, hkn, go_sem, sizeOf, typeInfo, hq, hs1, part, hagg, hv]
    omega
def wl (v : W8) : List Value := v.l.map WV
theorem wl_toArray (v : W8) : (wl v).toArray = wcells v := rfl
/-- The first k words are the sum's already. -/
def addK (v s : W8) (k : Nat) : List Value := (wl (addW v s)).take k ++ (wl v).drop k

theorem addK_set (v s : W8) (j : Nat) (h : j < 8) : (addK v s j).set j (WV (v.l.getD j 0 + s.l.getD j 0)) = addK v s (j + 1) := by
  rcases j with _ | _ | _ | _ | _ | _ | _ | _ | j <;> first | rfl | omega
theorem addK_get (v s : W8) (j : Nat) (h : j < 8) : (addK v s j)[j]? = some (WV (v.l.getD j 0)) := by
  rcases j with _ | _ | _ | _ | _ | _ | _ | _ | j <;> first | rfl | omega
theorem addK_len (v s : W8) (j : Nat) (h : j ≤ 8) : (addK v s j).length = 8 := by
  simp [addK, wl, W8.l]; omega
theorem wcells_get (s : W8) (j : Nat) (h : j < 8) : (wcells s)[j]? = some (WV (s.l.getD j 0)) := by
  rcases j with _ | _ | _ | _ | _ | _ | _ | _ | j <;> first | rfl | omega

set_option maxHeartbeats 4000000 in
theorem mix_any (w : World) (g : Nat) (t : TypeId) (v : W8) (tail : List Value) (m : List UInt8) (hm : m.length = 64) (hT : ShaT w) (hb : Blk w g t (wl v ++ tail).toArray) (hg : 2 ≤ g) :
    Calls Tryd.prog 18 #[.pointer (some ⟨g, 0, none⟩), .agg (cellsB m)] w fun e w' => e = .returned (.tuple #[]) ∧ Blk w' g t (wl (mixF v m) ++ tail).toArray ∧ Only (· = g) w w' := by
  have h0 : w.cell? ⟨g, 0, none⟩ = some (WV v.a) := hb.cell 0
  have h1 : w.cell? ⟨g, 1, none⟩ = some (WV v.b) := hb.cell 1
  have h2 : w.cell? ⟨g, 2, none⟩ = some (WV v.c) := hb.cell 2
  have h3 : w.cell? ⟨g, 3, none⟩ = some (WV v.d) := hb.cell 3
  have h4 : w.cell? ⟨g, 4, none⟩ = some (WV v.e) := hb.cell 4
  have h5 : w.cell? ⟨g, 5, none⟩ = some (WV v.f) := hb.cell 5
  have h6 : w.cell? ⟨g, 6, none⟩ = some (WV v.g) := hb.cell 6
  have h7 : w.cell? ⟨g, 7, none⟩ = some (WV v.h) := hb.cell 7
  have hlt := hb.lt
  have Hb := Lib.hid hb
  have HT := Lib.hid hT
  have Hm := Lib.hid hm
  clear hb hT hm
  unfold WV at h0 h1 h2 h3 h4 h5 h6 h7
  have hms : (cellsB m).size = 64 := by rw [cellsB_len, Hm.out]
  go_enter Tryd.func18, Tryd.ntmps18
  go_wp2_with fail
  obtain ⟨w1, hw1⟩ : ∃ W, (w.alloc (.cells (cellsB m) 46)).alloc (.cells (wcells v) 45) = W := ⟨_, rfl⟩
  change Oper.wp _ _ _ ((w.alloc (.cells (cellsB m) 46)).alloc (.cells (wcells v) 45)) _ _
  have hB1 : Blk w1 w.heap.size 46 (cellsB m) := by rw [← hw1]; exact (Blk.new _ _ _).alloc _
  have hB2 : Blk w1 (w.heap.size + 1) 45 (wcells v) := by
    rw [← hw1]
    have h := Blk.new (w.alloc (.cells (cellsB m) 46)) 45 (wcells v)
    rw [show (w.alloc (.cells (cellsB m) 46)).heap.size = w.heap.size + 1 by simp] at h
    exact h
  have hw01 : Below w.heap.size w w1 := by rw [← hw1]; exact ((Below.refl _ _).alloc (Nat.le_refl _) _).alloc (by simp) _
  have HB2 := Lib.hid hB2
  have HW1 := Lib.hid hw01
  have hs1 := hB2.lt
  rw [hw1]
  clear hw1 hB2 hw01 h0 h1 h2 h3 h4 h5 h6 h7
  refine wp_load_row 46 (.tmp 3) rfl w.heap.size rfl 46 (cellsB m) (0, 0) _ hB1 Tryd.underlying46 rfl (by rw [hms]; kernel_rfl) ?_
  clear hB1
  go_wp2_with fail
  refine (spread_any w1 m Hm.out).mono ?_
  rintro e w2 ⟨rfl, hb12⟩
  have HB12 := Lib.hid hb12
  have hs12 := hb12.size
  obtain ⟨SP, hSP⟩ : ∃ SP, SP = ((spreadF m).map WV).toArray := ⟨_, rfl⟩
  rw [← hSP]
  have HSP := Lib.hid hSP
  clear hSP hb12
  go_wp2
  go_loopw [14] (fun i wr => ∃ k : Nat, k ≤ 64 ∧ i = .int .i64 (k : Int) ∧ Blk wr (w.heap.size + 1) 45 (wcells (roundsN v m k)) ∧ Hid (Below w.heap.size w wr)) (fun i _ => 64 - (intOf i).toNat)
  case atStart => exact ⟨0, by omega, rfl, HB2.out.of (HB12.out.block _ hs1), Lib.hid (HW1.out.trans (HB12.out.mono (by omega)))⟩
  case round =>
    obtain ⟨k, hk, rfl, hb2, HW⟩ := hrel
    by_cases hlt2 : k < 64
    · obtain ⟨x, hx⟩ : ∃ x, x = (spreadF m).getD k 0 := ⟨_, rfl⟩
      obtain ⟨r, hr⟩ : ∃ r, r = rootsL.getD k 0 := ⟨_, rfl⟩
      have hspx : SP[k]? = some (.int .u32 (x.toNat : Int)) := by
        rw [HSP.out, List.getElem?_toArray, List.getElem?_map, hx, List.getD_eq_getElem?_getD, List.getElem?_eq_getElem (by rw [show (spreadF m).length = 64 from spreadN_len m 64]; exact hlt2)]
        rfl
      have hrt : wr.cell? ⟨1, k, none⟩ = some (.int .u32 (r.toNat : Int)) := by
        have h := (HT.out.only (Only.of_below HW.out : Only Empty w wr) (fun h => h) (fun h => h)).roots k r (by rw [hr, List.getD_eq_getElem?_getD, List.getElem?_eq_getElem (by show k < 64; exact hlt2)]; rfl)
        exact h
      have HX := Lib.hid hx
      have HR := Lib.hid hr
      have bk : (k : Int) < 64 := by omega
      have hsr := hb2.lt
      have hix := run_index_one (P := Tryd.prog) wr 57 40 64 _ SP k _ Tryd.underlying57 Tryd.underlying40 rfl (by kernel_rfl) hlt2 hspx
      have CR := Lib.hid (round_any wr (w.heap.size + 1) 45 (roundsN v m k) (r + x) hb2)
      clear hx hr hb2
      go_wp2_with fail
      rw [add_int]
      refine CR.out.mono ?_
      rintro e w3 ⟨rfl, hb3, ho3⟩
      have HB3 := Lib.hid hb3
      have HW3 := Lib.hid (HW.out.trans (ho3.below HW.out.size (fun q hq h => by have h : q = w.heap.size + 1 := h; omega)))
      clear hb3 ho3
      go_wp2
      go_roundw
      case rel =>
        refine ⟨k + 1, by omega, by go_num, ?_, HW3⟩
        have h := HB3.out
        rw [HX.out, HR.out] at h
        exact h
      case measure => simp [intOf]; omega
    · have hk64 : k = 64 := by omega
      obtain ⟨s, hs⟩ : ∃ s, s = roundsN v m k := ⟨_, rfl⟩
      have HS : Hid (mixF v m = addW v s) := Lib.hid (by rw [hs, hk64]; rfl)
      rw [← hs] at hb2
      have h0 : wr.cell? ⟨w.heap.size + 1, 0, none⟩ = some (.int .u32 (s.a.toNat : Int)) := hb2.cell 0
      have h1 : wr.cell? ⟨w.heap.size + 1, 1, none⟩ = some (.int .u32 (s.b.toNat : Int)) := hb2.cell 1
      have h2 : wr.cell? ⟨w.heap.size + 1, 2, none⟩ = some (.int .u32 (s.c.toNat : Int)) := hb2.cell 2
      have h3 : wr.cell? ⟨w.heap.size + 1, 3, none⟩ = some (.int .u32 (s.d.toNat : Int)) := hb2.cell 3
      have h4 : wr.cell? ⟨w.heap.size + 1, 4, none⟩ = some (.int .u32 (s.e.toNat : Int)) := hb2.cell 4
      have h5 : wr.cell? ⟨w.heap.size + 1, 5, none⟩ = some (.int .u32 (s.f.toNat : Int)) := hb2.cell 5
      have h6 : wr.cell? ⟨w.heap.size + 1, 6, none⟩ = some (.int .u32 (s.g.toNat : Int)) := hb2.cell 6
      have h7 : wr.cell? ⟨w.heap.size + 1, 7, none⟩ = some (.int .u32 (s.h.toNat : Int)) := hb2.cell 7
      clear hs hb2 hk64
      have hsW := HW.out.size
      have HA := Lib.hid (show Blk wr g t (addK v s 0 ++ tail).toArray from Hb.out.of (HW.out.block _ hlt))
      go_wp2_with fail
      go_loopw [26] (fun i wr => ∃ j : Nat, j ≤ 8 ∧ i = .int .i64 (j : Int) ∧ Blk wr g t (addK v s j ++ tail).toArray ∧ Hid (Only (· = g) w wr)) (fun i _ => 8 - (intOf i).toNat)
      case atStart => exact ⟨0, by omega, rfl, HA.out, Lib.hid (Only.of_below HW.out)⟩
      case round =>
        obtain ⟨j, hj, rfl, hbq, HO⟩ := hrel
        by_cases hj8 : j < 8
        · have hjI : (j : Int) < 8 := by omega
          obtain ⟨X, hX⟩ : ∃ X, X = v.l.getD j 0 := ⟨_, rfl⟩
          obtain ⟨Y, hY⟩ : ∃ Y, Y = s.l.getD j 0 := ⟨_, rfl⟩
          have hcX : wr.cell? ⟨g, j, none⟩ = some (.int .u32 (X.toNat : Int)) := by
            rw [hbq.cell, List.getElem?_toArray, List.getElem?_append_left (by rw [addK_len _ _ _ hj]; exact hj8), addK_get _ _ _ hj8, hX]
            rfl
          have hfX := hbq.frozen j
          have hix := run_index_one (P := Tryd.prog) wr 45 40 8 _ #[.int .u32 (s.a.toNat : Int), .int .u32 (s.b.toNat : Int), .int .u32 (s.c.toNat : Int), .int .u32 (s.d.toNat : Int), .int .u32 (s.e.toNat : Int), .int .u32 (s.f.toNat : Int), .int .u32 (s.g.toNat : Int), .int .u32 (s.h.toNat : Int)] j (.int .u32 (Y.toNat : Int)) Tryd.underlying45 Tryd.underlying40 rfl (by kernel_rfl) hj8 (by rw [hY]; exact wcells_get s j hj8)
          have HN : Hid (Blk (wr.setCell ⟨g, j, none⟩ (WV (X + Y))).drew g t (addK v s (j + 1) ++ tail).toArray) := Lib.hid (by
            have h := (hbq.set_ j (WV (X + Y))).drew
            rw [List.setIfInBounds_toArray, List.set_append_left _ _ (by rw [addK_len _ _ _ hj]; exact hj8), hX, hY, addK_set _ _ _ hj8, ← hX, ← hY] at h
            exact h)
          clear hX hY hbq
          go_wp2
          go_still_tail 9, (by kernel_rfl)
          go_wp2
          go_roundw
          case rel =>
            rw [add_int]
            exact ⟨j + 1, by omega, by go_num, HN.out, Lib.hid ((HO.out.setCell (.inl rfl) _).drew)⟩
          case measure => simp [intOf]; omega
        · have HN : Hid (Blk wr g t (wl (mixF v m) ++ tail).toArray) := Lib.hid (by
            rw [HS.out]
            rw [show j = 8 by omega] at hbq
            exact hbq)
          clear hbq
          go_wp2
          go_end0
          exact ⟨rfl, HN.out, HO.out⟩
end Go.Proofs.YtpcjmicciccihaaDoor

/- SHA-256's hash as bytes; what stands behind the bytes. -/
namespace Go.Proofs.YtpcjmicciccihaaDoor
set_option maxRecDepth 100000
open Go.RowKit

def accD (v : W8) (k : Nat) : List UInt8 := (v.l.take k).flatMap fun x => putL x.toNat 4
theorem accD_len (v : W8) (k : Nat) (h : k ≤ 8) : (accD v k).length = 4 * k := by
  rcases k with _ | _ | _ | _ | _ | _ | _ | _ | _ | k <;> first | (simp [accD, W8.l, putL_len]; done) | omega
theorem accD_next (v : W8) (k : Nat) (h : k < 8) : accD v (k + 1) = accD v k ++ putL (v.l.getD k 0).toNat 4 := by
  unfold accD
  rw [List.take_succ_eq_append_getElem (by rw [W8.l_len]; exact h), List.flatMap_append]
  simp [List.getD_eq_getElem?_getD, List.getElem?_eq_getElem (show k < v.l.length from h)]
theorem accD_all (v : W8) : accD v 8 = digest v := rfl

theorem ByteSl.range {w : World} {S : Nat → Prop} {g n cap : Nat} {xs : List UInt8} (h : ByteSl w S (some ⟨g, 0, none⟩) n cap xs) (h0 : 0 < n) : w.rangeAt g 0 (xs.map B8) := by
  intro j u hu
  obtain ⟨ad, he, _, _, hc⟩ := h.2.2.2 h0
  cases he
  rw [List.getElem?_map] at hu
  cases hx : xs[j]? with
  | none => simp [hx] at hu
  | some x =>
    have := hc j x hx
    rw [add_off] at this
    rw [this]
    simpa [hx] using hu
set_option maxHeartbeats 4000000 in
theorem wsum_any (w : World) (v : W8) :
    Calls Tryd.prog 20 #[.agg (wcells v)] w fun e w' => e = .returned (.agg (cellsB (digest v))) ∧ Below w.heap.size w w' := by
  unfold wcells WV
  go_enter Tryd.func20, Tryd.ntmps20
  have hi45 : (Tryd.prog.info? 45).map (·.size) = some 8 := by kernel_rfl
  have Hi45 := Lib.hid hi45
  clear hi45
  go_wp2_with fail
  go_loopw [3, 7] (fun b i wr => ∃ (k n cap : Nat) (B : Option Addr), k ≤ 8 ∧ n = 4 * k ∧ b = .slice B n cap ∧ i = .int .i64 (k : Int) ∧ Hid (ByteSl wr Empty B n cap (accD v k)) ∧ Hid (0 < n → ∃ g, B = some ⟨g, 0, none⟩) ∧ Blk wr (w.heap.size + 1) 24 (cellsB (List.replicate 32 0)) ∧ Hid (Below w.heap.size w wr)) (fun _ i _ => 8 - (intOf i).toNat)
  case atStart =>
    refine ⟨0, 0, 0, none, by omega, rfl, rfl, rfl, Lib.hid (ByteSl.nil_ _ _ _ _ (by decide)), Lib.hid (fun h => absurd h (by omega)), ?_, Lib.hid ?_⟩
    · have h := Blk.new (w.alloc (.cells (wcells v) 45)) 24 (cellsB (List.replicate 32 0))
      rw [show (w.alloc (.cells (wcells v) 45)).heap.size = w.heap.size + 1 by simp] at h
      exact h
    · exact ((Below.refl _ _).alloc (Nat.le_refl _) _).alloc (by simp) _
  case round =>
    obtain ⟨k, n, cap, B, hk, rfl, rfl, rfl, HB, HS, hb2, HW⟩ := hrel
    have HB2 := Lib.hid hb2
    have hs2 := hb2.lt
    have hsW := HW.out.size
    by_cases hlt : k < 8
    · have hltI : (k : Int) < 8 := by omega
      obtain ⟨x, hx⟩ : ∃ x, x = v.l.getD k 0 := ⟨_, rfl⟩
      have hxl := x.toNat_lt
      have hxI : (x.toNat : Int) ≤ 4294967295 := by omega
      have hix := run_index_one (P := Tryd.prog) wr 45 40 8 _ #[.int .u32 (v.a.toNat : Int), .int .u32 (v.b.toNat : Int), .int .u32 (v.c.toNat : Int), .int .u32 (v.d.toNat : Int), .int .u32 (v.e.toNat : Int), .int .u32 (v.f.toNat : Int), .int .u32 (v.g.toNat : Int), .int .u32 (v.h.toNat : Int)] k (.int .u32 (x.toNat : Int)) Tryd.underlying45 Tryd.underlying40 rfl (by kernel_rfl) hlt (by rw [hx]; exact wcells_get v k hlt)
      have HX := Lib.hid hx
      clear hx hb2
      go_wp2_with fail
      refine (put_yes B (4 * k) cap (accD v k) x.toNat 4 wr HB.out (by omega) (by omega) (by omega) (by omega)).mono ?_
      rintro e w3 ⟨⟨u, rfl, hown⟩, hb3⟩
      obtain ⟨A3, c3, rfl, hB3, hg3⟩ := ByteSl.of_own (S := Empty) hown (fun _ _ _ h => h)
      have HB3 := Lib.hid hB3
      have HG3 := Lib.hid hg3
      have Hb3 := Lib.hid hb3
      clear hown hB3 hg3 hb3
      go_wp2
      go_roundw
      case rel =>
        refine ⟨k + 1, 4 * k + 4, c3, A3, by omega, by omega, rfl, by go_num, Lib.hid ?_, Lib.hid (fun h => ?_), HB2.out.of (Hb3.out.block _ hs2), Lib.hid (HW.out.trans (Hb3.out.mono hsW))⟩
        · rw [accD_next _ _ hlt, ← HX.out]; exact HB3.out
        · obtain ⟨g, h1, _⟩ := HG3.out h
          exact ⟨g, h1⟩
      case measure => simp [intOf]; omega
    · have HD : Hid (ByteSl wr Empty B 32 cap (digest v)) := Lib.hid (by
        have h := HB.out
        rw [show 4 * k = 32 by omega, show k = 8 by omega, accD_all] at h
        exact h)
      obtain ⟨g, hg⟩ := HS.out (by omega)
      subst hg
      rw [show 4 * k = 32 by omega]
      have hcap := HD.out.2.1
      have hc31 := HD.out.2.2.1
      have hg2 : wr.heap[w.heap.size + 1]? = some (.cells (cellsB (List.replicate 32 0)) 24 (0, 0)) := hb2
      clear hb2
      obtain ⟨Z, hZ⟩ : ∃ Z, Z = cellsB (List.replicate 32 0) := ⟨_, rfl⟩
      have hZs : Z.size = 32 := by rw [hZ, cellsB_len]; simp
      rw [← hZ] at hg2
      clear hZ HB2 HS HB
      have hra : wr.rangeAt g 0 ((digest v).map B8) := HD.out.range (by omega)
      have hArr : (Instr.arrayAt 24 (.slice (some ⟨g, 0, none⟩) 32 cap)).run Tryd.prog wr = .ok (.pointer (some ⟨g, 0, none⟩)) wr := by
        simp [Instr.arrayAt, run_underlying Tryd.underlying24]
      have hi24 : (Tryd.prog.info? 24).map (·.size) = some 32 := by kernel_rfl
      have Hi24 := Lib.hid hi24
      have HL : Hid (((digest v).map B8).length = 32) := Lib.hid (by simp [digest_len])
      have HZs := Lib.hid hZs
      have H1 : Hid (((digest v).map B8).toArray.all (·.oneCell') = true) := Lib.hid (all_oneCell_toArray (fun u hu => by obtain ⟨z, _, rfl⟩ := List.mem_map.1 hu; rfl))
      clear hi24 hZs
      obtain ⟨L, hL⟩ : ∃ L, L = (digest v).map B8 := ⟨_, rfl⟩
      have HLL := Lib.hid hL
      rw [← hL] at hra HL H1
      clear hL
      have HI : Hid ((Tryd.prog.info? 24).map (·.size) = some L.toArray.size) := Lib.hid (by rw [List.size_toArray, HL.out]; exact Hi24.out)
      have HO : Hid (Z.size = L.toArray.size) := Lib.hid (HZs.out.trans (by rw [List.size_toArray, HL.out]))
      go_wp2_with (first | with_reducible refine wpList_load_mid rfl 24 (.tmp 16) rfl g 0 rfl L _ hra Tryd.underlying24 rfl (by rw [HL.out]; exact Hi24.out) ?_ | with_reducible refine wpList_store_row rfl 24 (.tmp 2) (.tmp 17) rfl (w.heap.size + 1) L.toArray rfl rfl 24 Z hg2 HI.out HO.out H1.out ?_)
      refine bodyPost_ret (v := .agg L.toArray) (results_cell_row Tryd.results20 _ _ (w.heap.size + 1) 24 L.toArray (0, 0) _ rfl (setRow_heap _ _ _ _ _ _ hg2) Tryd.underlying24 rfl (by rw [List.size_toArray, HL.out]; exact Hi24.out)) rfl ?_
      refine ⟨by rw [HLL.out]; rfl, ?_⟩
      exact HW.out.trans (((Only.refl _ _).trans (only_setRow wr (w.heap.size + 1) L.toArray)).below HW.out.size (fun q hq h => by have h : q = w.heap.size + 1 := h; omega))
end Go.Proofs.YtpcjmicciccihaaDoor

/- SHA-256's state in memory: bytes written to it. -/
namespace Go.Proofs.YtpcjmicciccihaaDoor
set_option maxRecDepth 100000
open Go.RowKit

theorem add_addH (ad : Addr) (k j : Nat) (h : k ≠ 0) : (ad.add k).add j = ad.add (k + j) := by
  by_cases h0 : j = 0
  · subst h0
    show (if 0 = 0 then _ else _) = _
    rw [if_pos rfl]
    rfl
  · unfold Addr.add
    rw [if_neg h, if_neg h0, if_neg (by omega)]
    show (⟨ad.block, ad.off + k + j, none⟩ : Addr) = ⟨ad.block, ad.off + (k + j), none⟩
    rw [Nat.add_assoc]
theorem ByteSl.fromH {w : World} {S : Nat → Prop} {ad : Addr} {n cap : Nat} {xs : List UInt8} (h : ByteSl w S (some ad) n cap xs) (k : Nat) (hk : k ≤ n) (h0 : k ≠ 0) : ByteSl w S (some (ad.add k)) (n - k) (cap - k) (xs.drop k) := by
  obtain ⟨hl, hnc, hcm, hc⟩ := h
  refine ⟨by rw [List.length_drop]; omega, by omega, by omega, fun hn => ?_⟩
  obtain ⟨a, e, hb, hs, hcell⟩ := hc (by omega)
  cases e
  refine ⟨_, rfl, by rw [addr_add_block]; exact hb, by rw [addr_add_block]; exact hs, fun j x hj => ?_⟩
  rw [List.getElem?_drop] at hj
  rw [add_addH _ _ _ h0]
  exact hcell (k + j) x hj

/-- A Hash's cells. -/
def hcells (v : W8) (r : List UInt8) (n : Nat) : Array Value := (wl v ++ (r.map B8 ++ [Value.int .u64 (n : Int)])).toArray
theorem hcells_word (v : W8) (r : List UInt8) (n j : Nat) (h : j < 8) : (hcells v r n)[j]? = some (WV (v.l.getD j 0)) := by
  unfold hcells
  rw [List.getElem?_toArray, List.getElem?_append_left (by show j < 8; exact h)]
  rcases j with _ | _ | _ | _ | _ | _ | _ | _ | j <;> first | rfl | omega
theorem hcells_size (v : W8) (r : List UInt8) (n : Nat) (hr : r.length = 64) : (hcells v r n)[72]? = some (.int .u64 (n : Int)) := by
  unfold hcells
  rw [List.getElem?_toArray, List.getElem?_append_right (by show 8 ≤ 72; omega), List.getElem?_append_right (by simp [wl, W8.l, hr])]
  simp [wl, W8.l, hr]
theorem hcells_len (v : W8) (r : List UInt8) (n : Nat) (hr : r.length = 64) : (hcells v r n).size = 73 := by
  simp [hcells, wl, W8.l, hr]
theorem hcells_setn (v : W8) (r : List UInt8) (n k : Nat) (hr : r.length = 64) : (hcells v r n).setIfInBounds 72 (.int .u64 (k : Int)) = hcells v r k := by
  unfold hcells
  rw [List.setIfInBounds_toArray, List.set_append_right _ _ (by show 8 ≤ 72; omega), List.set_append_right _ _ (by simp [wl, W8.l, hr])]
  simp [wl, W8.l, hr]
theorem hcells_splice (v : W8) (r c : List UInt8) (n f : Nat) (hr : r.length = 64) (hf : f + c.length ≤ 64) : (splice (hcells v r n).toList (8 + f) (c.map B8)).toArray = hcells v (splice r f c) n := by
  unfold hcells splice
  have h8 : (wl v).length = 8 := rfl
  simp only [List.map_append, List.map_take, List.map_drop, List.length_map]
  rw [List.take_append, List.drop_append, h8, List.take_of_length_le (by omega), show 8 + f - 8 = f by omega, show 8 + f + c.length - 8 = f + c.length by omega, List.drop_of_length_le (show (wl v).length ≤ 8 + f + c.length by omega),
    List.take_append_of_le_length (by simp [hr]; omega), List.drop_append_of_le_length (by simp [hr]; omega)]
  simp
theorem hcells_rest (w : World) (g : Nat) (t : TypeId) (v : W8) (r : List UInt8) (n : Nat) (hb : Blk w g t (hcells v r n)) : w.rangeAt g 8 (r.map B8) := by
  intro j u hu
  rw [hb.cell]
  unfold hcells
  rw [List.getElem?_toArray, List.getElem?_append_right (by show 8 ≤ 8 + j; omega)]
  show (r.map B8 ++ _)[8 + j - 8]? = _
  rw [show 8 + j - 8 = j by omega, List.getElem?_append_left (List.getElem?_eq_some_iff.1 hu).1, hu]
theorem hcells_first (u v : W8) (r : List UInt8) (n : Nat) : ((((((((hcells u r n).setIfInBounds 0 (WV v.a)).setIfInBounds 1 (WV v.b)).setIfInBounds 2 (WV v.c)).setIfInBounds 3 (WV v.d)).setIfInBounds 4 (WV v.e)).setIfInBounds 5 (WV v.f)).setIfInBounds 6 (WV v.g)).setIfInBounds 7 (WV v.h) = hcells v r n := by
  simp [hcells, wl, W8.l]
/-- A Hash to which l was written. -/
def HashAt (w : World) (g : Nat) (l : List UInt8) : Prop := ∃ u : W8, (l ≠ [] → u = (hsF l).w) ∧ Blk w g 48 (hcells u (hsF l).r l.length)
theorem HashAt.lt {w : World} {g : Nat} {l : List UInt8} (h : HashAt w g l) : g < w.heap.size := by
  obtain ⟨_, _, h⟩ := h
  exact h.lt
theorem HashAt.of {w w' : World} {g : Nat} {l : List UInt8} (h : HashAt w g l) (same : w'.heap[g]? = w.heap[g]?) : HashAt w' g l := by
  obtain ⟨u, h1, h2⟩ := h
  exact ⟨u, h1, h2.of same⟩

set_option maxHeartbeats 4000000 in
theorem ending_any (w : World) (n : Nat) (hn : n ≤ 1099511627776) :
    Calls Tryd.prog 19 #[.int .u64 (n : Int)] w fun e w' => (∃ u, e = .returned u ∧ w'.ownsRow w.heap.size 5 1 u (endZ n + 9) ((endL n).map B8)) ∧ Below w.heap.size w w' := by
  go_enter Tryd.func19, Tryd.ntmps19
  go_wp2
  go_loopw [3] (fun b wr => ∃ (j cap : Nat) (B : Option Addr), j ≤ endZ n ∧ b = .slice B (1 + j) cap ∧ Hid (wr.ownsRow w.heap.size 5 1 (.slice B (1 + j) cap) (1 + j) ((128 :: List.replicate j (0 : UInt8)).map B8)) ∧ Hid (Below w.heap.size w wr)) (fun b _ => match b with | .slice _ m _ => 100 - m | _ => 0)
  case atStart =>
    refine ⟨0, 1, some ⟨w.heap.size, 0, none⟩, Nat.zero_le _, rfl, Lib.hid ?_, Lib.hid ((Below.refl _ _).alloc (Nat.le_refl _) _)⟩
    exact own_of_blk (cur := [128]) (Blk.new _ _ _) (Nat.le_refl _) rfl (by omega) (by decide) rfl
  case round =>
    obtain ⟨j, cap, B, hj, rfl, HO, HW⟩ := hrel
    have hz : endZ n < 64 := by unfold endZ; omega
    have hsW := HW.out.size
    by_cases hlt : j < endZ n
    · have hd : (((n : Int) + (1 + (j : Int)) + 8) % 64 == 0) = false := by unfold endZ at hlt hj hz; simp; omega
      have HO2 := Lib.hid (own_alloc HO.out (.cells (cellsB [0]) 5))
      have HL := Lib.hid (ByteSl.lit wr Empty [0] 1 rfl (fun h => h) (by decide))
      go_wp2_with (at_builtin; refine wpList_append_bytes rfl (.tmp 13) (.tmp 14) rfl w.heap.size (.slice B (1 + j) cap) rfl (1 + j) (128 :: List.replicate j 0) HO2.out (some ⟨wr.heap.size, 0, none⟩) 1 1 [0] Empty rfl HL.out (by simp) (by omega) (by simp; omega) ?_; intro v6 w6 ho6 hg6 hn6)
      have HB6 := Lib.hid (below_grown (HW.out.alloc hsW (.cells (cellsB [0]) 5)) (by simp; omega) hg6 (own_ge HO2.out))
      obtain ⟨A6, c6, rfl, -, -⟩ := own_open ho6
      refine ⟨⟨j + 1, c6, A6, by omega, ?_, Lib.hid ?_, HB6⟩, ?_⟩
      · rw [Nat.add_assoc]
      · rw [show (128 :: List.replicate j (0 : UInt8) ++ [0]) = 128 :: List.replicate (j + 1) 0 by simp [List.replicate_succ']] at ho6
        exact ho6
      · show 100 - (1 + j + 1) < 100 - (1 + j)
        omega
    · have hj2 : j = endZ n := by omega
      have hd : (((n : Int) + (1 + (j : Int)) + 8) % 64 == 0) = true := by unfold endZ at hj2 hz; simp; omega
      have h8 : (n : Int) * 8 ≤ 18446744073709551615 := by omega
      obtain ⟨A6, c6, he, HB, -⟩ := own_open HO.out
      cases he
      have HB6 := Lib.hid HB
      clear HB
      have HJ := Lib.hid hj2
      clear hj2
      go_wp2_with fail
      rw [show (n : Int) * 8 = ((n * 8 : Nat) : Int) by omega]
      refine (put_yes B (1 + j) cap (128 :: List.replicate j 0) (n * 8) 8 wr HB6.out (by omega) (by omega) (by omega) (by omega)).mono ?_
      rintro e w3 ⟨⟨u, rfl, hown⟩, hb3⟩
      have HOW := Lib.hid hown
      have Hb3 := Lib.hid hb3
      clear hown hb3
      go_wp2
      go_ret
      refine ⟨⟨u, rfl, ?_⟩, HW.out.trans (Hb3.out.mono hsW)⟩
      have h := own_base HOW.out hsW
      rw [HJ.out] at h
      rw [show endZ n + 9 = 1 + endZ n + 8 by omega]
      unfold endL
      rw [Nat.mod_eq_of_lt (show n * 8 < 18446744073709551616 by omega)]
      exact h

/-- A new Hash. -/
theorem new_any (w : World) : Calls Tryd.prog 9 #[] w fun e w' => e = .returned (.pointer (some ⟨w.heap.size, 0, none⟩)) ∧ HashAt w' w.heap.size [] ∧ Below w.heap.size w w' := by
  go_enter Tryd.func9, Tryd.ntmps9
  have hz : (zeroValue 48).run Tryd.prog w = .ok (.agg (hcells ⟨0, 0, 0, 0, 0, 0, 0, 0⟩ (List.replicate 64 0) 0)) w := by kernel_rfl
  obtain ⟨Z, hZ⟩ : ∃ Z, Z = hcells ⟨0, 0, 0, 0, 0, 0, 0, 0⟩ (List.replicate 64 0) 0 := ⟨_, rfl⟩
  rw [← hZ] at hz
  have HZ := Lib.hid hZ
  clear hZ
  go_wp2
  go_ret
  refine ⟨rfl, ⟨⟨0, 0, 0, 0, 0, 0, 0, 0⟩, fun h => absurd rfl h, ?_⟩, (Below.refl _ _).alloc (Nat.le_refl _) _⟩
  have h := Blk.new w 48 Z
  rw [HZ.out] at h ⊢
  exact h
end Go.Proofs.YtpcjmicciccihaaDoor

/- SHA-256: Write, Sum. -/
namespace Go.Proofs.YtpcjmicciccihaaDoor
set_option maxRecDepth 100000
open Go.RowKit

theorem map_B8_range (l : List UInt8) (k : Nat) : (l.take k).map B8 = (l.map B8).take k := by simp

/-- The state's cells, just as l makes them. -/
def HashC (w : World) (g : Nat) (l : List UInt8) : Prop := Blk w g 48 (hcells (hsF l).w (hsF l).r l.length)

theorem hashC_put (l c : List UInt8) (f : Nat) (hf : f = l.length % 64) (hc : f + c.length ≤ 64) (h0 : c ≠ []) :
    (hsF (l ++ c)).r = splice (hsF l).r f c ∧ (hsF (l ++ c)).w = (if (l.length + c.length) % 64 = 0 then mixF (hsF l).w (splice (hsF l).r f c) else (hsF l).w) := by
  have h := puts_part (hsF l) c (hsF_r l) (by rw [hsF_n, ← hf]; exact hc)
  rw [← hsF_append, hsF_n, ← hf] at h
  rw [h]
  refine ⟨rfl, ?_⟩
  by_cases h2 : (l.length + c.length) % 64 = 0
  · rw [if_pos ⟨h0, h2⟩, if_pos h2]
  · rw [if_neg (fun h3 => h2 h3.2), if_neg h2]

theorem start_blk {w : World} {g : Nat} {t : TypeId} {u : W8} {r : List UInt8} {n : Nat} (S : W8) (hb : Blk w g t (hcells u r n)) :
    Blk ((((((((w.setCell ⟨g, 0, none⟩ (.int .u32 (S.a.toNat : Int))).setCell ⟨g, 1, none⟩ (.int .u32 (S.b.toNat : Int))).setCell ⟨g, 2, none⟩ (.int .u32 (S.c.toNat : Int))).setCell ⟨g, 3, none⟩ (.int .u32 (S.d.toNat : Int))).setCell ⟨g, 4, none⟩ (.int .u32 (S.e.toNat : Int))).setCell ⟨g, 5, none⟩ (.int .u32 (S.f.toNat : Int))).setCell ⟨g, 6, none⟩ (.int .u32 (S.g.toNat : Int))).setCell ⟨g, 7, none⟩ (.int .u32 (S.h.toNat : Int))) g t (hcells S r n) := by
  have h := ((((((((hb.set_ 0 (.int .u32 (S.a.toNat : Int))).set_ 1 (.int .u32 (S.b.toNat : Int))).set_ 2 (.int .u32 (S.c.toNat : Int))).set_ 3 (.int .u32 (S.d.toNat : Int))).set_ 4 (.int .u32 (S.e.toNat : Int))).set_ 5 (.int .u32 (S.f.toNat : Int))).set_ 6 (.int .u32 (S.g.toNat : Int))).set_ 7 (.int .u32 (S.h.toNat : Int)))
  have e := hcells_first u S r n
  unfold WV at e
  rw [e] at h
  exact h
theorem start_only {w : World} {g : Nat} (S : W8) :
    Only (· = g) w ((((((((w.setCell ⟨g, 0, none⟩ (.int .u32 (S.a.toNat : Int))).setCell ⟨g, 1, none⟩ (.int .u32 (S.b.toNat : Int))).setCell ⟨g, 2, none⟩ (.int .u32 (S.c.toNat : Int))).setCell ⟨g, 3, none⟩ (.int .u32 (S.d.toNat : Int))).setCell ⟨g, 4, none⟩ (.int .u32 (S.e.toNat : Int))).setCell ⟨g, 5, none⟩ (.int .u32 (S.f.toNat : Int))).setCell ⟨g, 6, none⟩ (.int .u32 (S.g.toNat : Int))).setCell ⟨g, 7, none⟩ (.int .u32 (S.h.toNat : Int))) := by
  have one : ∀ (W : World) (k : Nat) (x : Value), Only (· = g) w W → Only (· = g) w (W.setCell ⟨g, k, none⟩ x) := fun W k x h => h.setCell (p := ⟨g, k, none⟩) (Or.inl rfl) x
  exact one _ _ _ (one _ _ _ (one _ _ _ (one _ _ _ (one _ _ _ (one _ _ _ (one _ _ _ (one _ _ _ (Only.refl _ _))))))))
theorem rest_slice (wr : World) (g f : Nat) (hf : f < 64) : (Instr.sliceAt 46 (.pointer (some ⟨g, 8, none⟩)) (some (.int .u64 (f : Int))) none none).run Tryd.prog wr = .ok (.slice (some ⟨g, 8 + f, none⟩) (64 - f) (64 - f)) wr := by
  have hl : Tryd.prog.arrayLen 46 = 64 := by kernel_rfl
  have hso : (sizeOf (Tryd.prog.elem 46)).run Tryd.prog wr = .ok 1 wr := by kernel_rfl
  rw [run_sliceAt_array_l wr 46 ⟨g, 8, none⟩ (by kernel_rfl) .u64 (f : Int) (by omega) (by rw [hl]; omega), hso, hl]
  have hne : ¬ (64 = f) := by omega
  simp [slicedAt, Result.andThen, hne, add_off]
theorem load_rest (W : World) (g : Nat) (L : List Value) (h : W.rangeAt g 8 L) (hl : L.length = 64) : (loadVar 46 ⟨g, 8, none⟩).run Tryd.prog W = .ok (.agg L.toArray) W :=
  run_loadVar_mid W g 8 46 L _ h Tryd.underlying46 rfl (by rw [hl]; kernel_rfl)
theorem exec_load_rest {ρ : Operand → Value} {o : Oper} (x : Operand) (W : World) (g : Nat) (L : List Value) (ho : o.op = .load 46 x) (hx : ρ x = .pointer (some ⟨g, 8, none⟩)) (h : W.rangeAt g 8 L) (hl : L.length = 64) :
    (execOp ρ o).run Tryd.prog W = .ok (.value (.agg L.toArray)) W := by
  unfold execOp
  simp only [ho, hx, Instr.loadAt, Instr.sureAddr, Sem.run_bind, Sem.run_pure, Result.andThen_ok, load_rest W g L h hl]
set_option maxHeartbeats 8000000 in
theorem write_any (w : World) (g : Nat) (l bs : List UInt8) (A : Option Addr) (n cap : Nat) (hT : ShaT w) (hg : 2 ≤ g) (hH : HashAt w g l) (hB : ByteSl w (· = g) A n cap bs) (hl : l.length + n ≤ 1099511627776) :
    Calls Tryd.prog 10 #[.pointer (some ⟨g, 0, none⟩), .slice A n cap] w fun e w' => e = .returned (.tuple #[]) ∧ HashC w' g (l ++ bs) ∧ Only (· = g) w w' := by
  obtain ⟨u, hu, hb⟩ := hH
  have hrl : (hsF l).r.length = 64 := hsF_r l
  have HT := Lib.hid hT
  have HB := Lib.hid hB
  have hlt := hb.lt
  have Hb := Lib.hid hb
  obtain ⟨N, hN⟩ : ∃ N, N = l.length := ⟨_, rfl⟩
  have c72 : w.cell? ⟨g, 72, none⟩ = some (.int .u64 (N : Int)) := by rw [hN]; exact (hb.cell 72).trans (hcells_size _ _ _ hrl)
  have HN := Lib.hid hN
  have HU := Lib.hid hu
  have hNn : N + n ≤ 1099511627776 := by omega
  obtain ⟨S, hS⟩ : ∃ S : W8, S = startW := ⟨_, rfl⟩
  have HSt := Lib.hid hS
  have s0 : w.cell? ⟨0, 0, none⟩ = some (.int .u32 (S.a.toNat : Int)) := by rw [hS]; exact hT.start 0 _ rfl
  have s1 : w.cell? ⟨0, 1, none⟩ = some (.int .u32 (S.b.toNat : Int)) := by rw [hS]; exact hT.start 1 _ rfl
  have s2 : w.cell? ⟨0, 2, none⟩ = some (.int .u32 (S.c.toNat : Int)) := by rw [hS]; exact hT.start 2 _ rfl
  have s3 : w.cell? ⟨0, 3, none⟩ = some (.int .u32 (S.d.toNat : Int)) := by rw [hS]; exact hT.start 3 _ rfl
  have s4 : w.cell? ⟨0, 4, none⟩ = some (.int .u32 (S.e.toNat : Int)) := by rw [hS]; exact hT.start 4 _ rfl
  have s5 : w.cell? ⟨0, 5, none⟩ = some (.int .u32 (S.f.toNat : Int)) := by rw [hS]; exact hT.start 5 _ rfl
  have s6 : w.cell? ⟨0, 6, none⟩ = some (.int .u32 (S.g.toNat : Int)) := by rw [hS]; exact hT.start 6 _ rfl
  have s7 : w.cell? ⟨0, 7, none⟩ = some (.int .u32 (S.h.toNat : Int)) := by rw [hS]; exact hT.start 7 _ rfl
  have c0 : w.cell? ⟨g, 0, none⟩ = some (WV u.a) := (hb.cell 0).trans (hcells_word _ _ _ 0 (by omega))
  have c1 : w.cell? ⟨g, 1, none⟩ = some (WV u.b) := (hb.cell 1).trans (hcells_word _ _ _ 1 (by omega))
  have c2 : w.cell? ⟨g, 2, none⟩ = some (WV u.c) := (hb.cell 2).trans (hcells_word _ _ _ 2 (by omega))
  have c3 : w.cell? ⟨g, 3, none⟩ = some (WV u.d) := (hb.cell 3).trans (hcells_word _ _ _ 3 (by omega))
  have c4 : w.cell? ⟨g, 4, none⟩ = some (WV u.e) := (hb.cell 4).trans (hcells_word _ _ _ 4 (by omega))
  have c5 : w.cell? ⟨g, 5, none⟩ = some (WV u.f) := (hb.cell 5).trans (hcells_word _ _ _ 5 (by omega))
  have c6 : w.cell? ⟨g, 6, none⟩ = some (WV u.g) := (hb.cell 6).trans (hcells_word _ _ _ 6 (by omega))
  have c7 : w.cell? ⟨g, 7, none⟩ = some (WV u.h) := (hb.cell 7).trans (hcells_word _ _ _ 7 (by omega))
  have f0 := hb.frozen 0
  have f1 := hb.frozen 1
  have f2 := hb.frozen 2
  have f3 := hb.frozen 3
  have f4 := hb.frozen 4
  have f5 := hb.frozen 5
  have f6 := hb.frozen 6
  have f7 := hb.frozen 7
  clear hb hT hB hu hrl hN hl hS
  go_enter Tryd.func10, Tryd.ntmps10
  by_cases hN0 : N = 0
  · have hN0I : ((N : Int) == 0) = true := by simp; omega
    have HN0 := Lib.hid hN0
    clear hN0
    go_wp2_with fail
    obtain ⟨w1, hw1⟩ : ∃ W, ((((((((w.setCell ⟨g, 0, none⟩ (.int .u32 (S.a.toNat : Int))).setCell ⟨g, 1, none⟩ (.int .u32 (S.b.toNat : Int))).setCell ⟨g, 2, none⟩ (.int .u32 (S.c.toNat : Int))).setCell ⟨g, 3, none⟩ (.int .u32 (S.d.toNat : Int))).setCell ⟨g, 4, none⟩ (.int .u32 (S.e.toNat : Int))).setCell ⟨g, 5, none⟩ (.int .u32 (S.f.toNat : Int))).setCell ⟨g, 6, none⟩ (.int .u32 (S.g.toNat : Int))).setCell ⟨g, 7, none⟩ (.int .u32 (S.h.toNat : Int))) = W := ⟨_, rfl⟩
    have HC1 : Hid (HashC w1 g l) := Lib.hid (by
      have hle : l = [] := List.length_eq_zero_iff.1 (by rw [← HN.out]; exact HN0.out)
      have h := start_blk S Hb.out
      rw [hw1] at h
      unfold HashC
      rw [show (hsF l).w = S by rw [HSt.out, hle]; rfl]
      exact h)
    have HO1 : Hid (Only (· = g) w w1) := Lib.hid (by rw [← hw1]; exact start_only S)
    rw [hw1]
    clear hw1 s0 s1 s2 s3 s4 s5 s6 s7 c0 c1 c2 c3 c4 c5 c6 c7 f0 f1 f2 f3 f4 f5 f6 f7 c72 hN0I HN0 Hb HU HSt
    go_loopw [1] (fun b wr => ∃ (dn rs : List UInt8) (A1 : Option Addr) (n1 c1 : Nat), Hid (dn ++ rs = bs) ∧ b = .slice A1 n1 c1 ∧ Hid (ByteSl wr (· = g) A1 n1 c1 rs) ∧ Hid (HashC wr g (l ++ dn)) ∧ Hid (Only (· = g) w wr)) (fun b _ => match b with | .slice _ m _ => m | _ => 0)
    case atStart => exact ⟨[], bs, A, n, cap, Lib.hid rfl, rfl, Lib.hid (HB.out.only HO1.out (fun _ _ h => h)), Lib.hid (by rw [List.append_nil]; exact HC1.out), HO1⟩
    case round =>
      obtain ⟨dn, rs, A1, n1, c1, HD, rfl, HB1, HC, HO⟩ := hrel
      clear HC1 HO1
      by_cases hn1 : 0 < n1
      · have hnI : (0 : Int) < (n1 : Int) := by omega
        have hrl1 := HB1.out.1
        obtain ⟨ad, rfl, hadb, hadg, hadc⟩ := HB1.out.2.2.2 hn1
        have Hadc := Lib.hid hadc
        clear hadc
        have hnc := HB1.out.2.1
        have hcm : c1 ≤ 9223372036854775807 := by have := HB1.out.2.2.1; unfold maxLen at this; exact this
        obtain ⟨M, hM⟩ : ∃ M, M = (l ++ dn).length := ⟨_, rfl⟩
        obtain ⟨f, hf⟩ : ∃ f, f = M % 64 := ⟨_, rfl⟩
        obtain ⟨c, hc⟩ : ∃ c, c = min n1 (64 - f) := ⟨_, rfl⟩
        have hMb : M + n1 ≤ 1099511627776 := by
          have h := congrArg List.length HD.out
          have h2 := HB.out.1
          rw [List.length_append] at h hM
          have := HN.out
          omega
        have hf64 : f < 64 := by omega
        have hc1 : 1 ≤ c := by omega
        have hcn : c ≤ n1 := by omega
        have hcf : f + c ≤ 64 := by omega
        have hfI : (M : Int) % 64 = (f : Int) := by omega
        have hr64 : (hsF (l ++ dn)).r.length = 64 := hsF_r _
        have hb : Blk wr g 48 (hcells (hsF (l ++ dn)).w (hsF (l ++ dn)).r M) := by rw [hM]; exact HC.out
        have c72 : wr.cell? ⟨g, 72, none⟩ = some (.int .u64 (M : Int)) := (hb.cell 72).trans (hcells_size _ _ _ hr64)
        obtain ⟨CS, hCS⟩ : ∃ CS, CS = (rs.take c).map B8 := ⟨_, rfl⟩
        have hCSl : CS.length = c := by rw [hCS]; simp; omega
        have HCS := Lib.hid hCS
        have HCSl := Lib.hid hCSl
        have HCm := Lib.hid hc
        have Hb := Lib.hid hb
        have HM := Lib.hid hM
        have Hf := Lib.hid hf
        obtain ⟨CL, hCL⟩ : ∃ CL, CL = (hcells (hsF (l ++ dn)).w (hsF (l ++ dn)).r M).toList := ⟨_, rfl⟩
        have HCL := Lib.hid hCL
        have HbL : Hid (Blk wr g 48 CL.toArray) := Lib.hid (by rw [hCL]; exact hb)
        have HCLl : Hid (CL.length = 73) := Lib.hid (by rw [hCL, Array.length_toList, hcells_len _ _ _ hr64])
        clear hM hf hc hb hCS hCSl hCL
        have hsl := rest_slice wr g f hf64
        have K1 : Hid (CS.length = Nat.min n1 (64 - f)) := Lib.hid (by rw [HCSl.out, HCm.out])
        have K2 : Hid (0 < CS.length → some (⟨g, 8 + f, none⟩ : Addr) = some ⟨g, 8 + f, none⟩ ∧ ∃ a, some ad = some a ∧ ∀ j v, CS[j]? = some v → wr.cell? (a.add j) = some v) := Lib.hid (by
          intro _
          refine ⟨rfl, ad, rfl, fun j v hj => ?_⟩
          rw [HCS.out, List.getElem?_map] at hj
          cases hx : (rs.take c)[j]? with
          | none => simp [hx] at hj
          | some x =>
            have hx2 : rs[j]? = some x := by
              rw [List.getElem?_take] at hx
              split at hx
              · exact hx
              · cases hx
            rw [Hadc.out j x hx2]
            simpa [hx] using hj)
        have K3 : Hid (8 + f + CS.length ≤ CL.length) := Lib.hid (by rw [HCSl.out, HCLl.out]; omega)
        have K4 : Hid (∀ v ∈ CS, v.oneCell' = true) := Lib.hid (by rw [HCS.out]; intro u hu; obtain ⟨z, _, rfl⟩ := List.mem_map.1 hu; rfl)
        have Hsl : Hid ((splice (hsF (l ++ dn)).r f (rs.take c)).length = 64) := Lib.hid (by rw [length_splice _ _ _ (by rw [List.length_take, hr64]; omega), hr64])
        have K5 : Hid (∀ w4, Blk w4 g 48 (splice CL (8 + f) CS).toArray → Blk w4 g 48 (hcells (hsF (l ++ dn)).w (splice (hsF (l ++ dn)).r f (rs.take c)) M)) := Lib.hid (by
          intro w4 h4
          rw [HCL.out, HCS.out, hcells_splice _ _ _ _ _ hr64 (by rw [List.length_take]; omega)] at h4
          exact h4)
        have hcI : (c : Int) ≤ (n1 : Int) := by omega
        have hMc : (M : Int) + (c : Int) ≤ 18446744073709551615 := by omega
        obtain ⟨RS_, hRS_⟩ : ∃ R, R = splice (hsF (l ++ dn)).r f (rs.take c) := ⟨_, rfl⟩
        obtain ⟨HW_, hHW_⟩ : ∃ R, R = (hsF (l ++ dn)).w := ⟨_, rfl⟩
        have htl : (rs.take c).length = c := by rw [List.length_take]; omega
        have hput := hashC_put (l ++ dn) (rs.take c) f (by rw [← HM.out]; exact Hf.out) (by omega) (by intro h0; rw [h0] at htl; simp at htl; omega)
        rw [htl, ← HM.out, ← hRS_, ← hHW_, List.append_assoc] at hput
        have hlen : (l ++ (dn ++ rs.take c)).length = M + c := by rw [← List.append_assoc, List.length_append, ← HM.out, htl]
        have KE : Hid (¬ (M + c) % 64 = 0 → ∀ W, Blk W g 48 (hcells HW_ RS_ (M + c)) → HashC W g (l ++ (dn ++ rs.take c))) := Lib.hid (fun h W hb => by
          unfold HashC
          rw [hput.1, hput.2, if_neg h, hlen]
          exact hb)
        have KF : Hid ((M + c) % 64 = 0 → ∀ W, Blk W g 48 (hcells (mixF HW_ RS_) RS_ (M + c)) → HashC W g (l ++ (dn ++ rs.take c))) := Lib.hid (fun h W hb => by
          unfold HashC
          rw [hput.1, hput.2, if_pos h, hlen]
          exact hb)
        have KB : Hid (∀ W, Only (· = g) wr W → ByteSl W (· = g) (some (ad.add c)) (n1 - c) (c1 - c) (rs.drop c)) := Lib.hid (fun W hW => (HB1.out.fromH c hcn (by omega)).only hW (fun _ _ h => h))
        have KB0 : Hid (c1 = c → ∀ W, ByteSl W (· = g) (some ad) 0 0 (rs.drop c)) := Lib.hid (fun h W => by
          rw [List.drop_of_length_le (by omega)]
          exact ByteSl.nil_ _ _ _ _ (by unfold maxLen; omega))
        have KD : Hid ((dn ++ rs.take c) ++ rs.drop c = bs) := Lib.hid (by rw [List.append_assoc, List.take_append_drop]; exact HD.out)
        rw [← hRS_] at Hsl K5
        rw [← hHW_] at K5
        clear hput hlen htl hRS_ hHW_
        by_cases hcap : c1 = c
        · have hcn1 : c = n1 := by omega
          have KB0' : Hid (∀ W, ByteSl W (· = g) (some ad) (n1 - c) 0 (rs.drop c)) := Lib.hid (fun W => by rw [show n1 - c = 0 by omega]; exact KB0.out hcap W)
          clear hcn1
          by_cases hful : (M + c) % 64 = 0
          · have Hful := Lib.hid hful
            have hd : ((((M : Int) + (c : Int)) % 64 == 0)) = true := by simp; omega
            clear hful
            go_wp2_with (with_reducible refine wpList_copy_only rfl (.tmp 29) (.tmp 30) 22 22 rfl 5 Tryd.underlying22 Tryd.sizeU8 (some ⟨g, 8 + f, none⟩) (some ad) (64 - f) (64 - f) n1 c1 rfl rfl g (8 + f) CL 48 HbL.out CS K1.out K2.out K3.out K4.out ?_; intro w4 hb4 ho4; rw [HCSl.out]; have HB4 := Lib.hid (K5.out w4 hb4.out); have c72b : w4.cell? ⟨g, 72, none⟩ = some (.int .u64 (M : Int)) := (HB4.out.cell 72).trans (hcells_size _ _ _ Hsl.out); have f72 := HB4.out.frozen 72; have Ho4 := Lib.hid ho4; clear hb4 ho4)
            obtain ⟨w5, hw5⟩ : ∃ W, w4.setCell ⟨g, 72, none⟩ (.int .u64 ((M : Int) + (c : Int))) = W := ⟨_, rfl⟩
            have HB5 : Hid (Blk w5 g 48 (hcells HW_ RS_ (M + c))) := Lib.hid (by
              rw [← hw5]
              have h := HB4.out.set_ 72 (.int .u64 ((M + c : Nat) : Int))
              rw [hcells_setn _ _ _ _ Hsl.out] at h
              exact h)
            have HO5 : Hid (Only (· = g) wr w5) := Lib.hid (by rw [← hw5]; exact Ho4.out.setCell (p := ⟨g, 72, none⟩) (Or.inl rfl) _)
            rw [hw5]
            clear hw5 HB4 Ho4 c72b f72
            have hra : w5.drew.rangeAt g 8 (RS_.map B8) := hcells_rest w5.drew g _ _ _ _ HB5.out.drew
            have HMX := Lib.hid (mix_any w5.drew g 48 HW_ (RS_.map B8 ++ [Value.int .u64 ((M + c : Nat) : Int)]) RS_ Hsl.out (HT.out.only ((HO.out.trans HO5.out).drew) (by omega) (by omega)) HB5.out.drew hg)
            have HRl : Hid ((RS_.map B8).length = 64) := Lib.hid (by rw [List.length_map]; exact Hsl.out)
            refine wp_region_held_drew (S := fun W => W.rangeAt g 8 (RS_.map B8)) (by kernel_rfl) hra (fun hHeld0 => ?_)
            refine take_yes 0 50 ?_ rfl rfl (by kernel_rfl) (by kernel_rfl) (by kernel_rfl) (fun _ _ _ h => h) (by kernel_rfl) ?_ (by assumption) ?_; rotate_left; (focus (intro w hSw; (try dsimp only at hSw); go_simp; all_goals first | with_reducible rfl)); simp only [Act.put, List.setIfInBounds_toArray, List.set_cons_zero, List.set_cons_succ]
            refine take_yes 1 51 ?_ rfl rfl (by kernel_rfl) (by kernel_rfl) (by kernel_rfl) (fun _ _ _ h => h) (by kernel_rfl) ?_ (by assumption) ?_; rotate_left; (focus (intro w hSw; (try dsimp only at hSw); go_simp; all_goals first | with_reducible rfl)); simp only [Act.put, List.setIfInBounds_toArray, List.set_cons_zero, List.set_cons_succ]
            refine take_yes 2 52 ?_ rfl rfl (by kernel_rfl) (by kernel_rfl) (by kernel_rfl) (fun _ _ _ h => h) (by kernel_rfl) ?_ (by assumption) ?_; rotate_left; (focus (intro w hSw; (try dsimp only at hSw); go_simp; all_goals first | with_reducible rfl)); simp only [Act.put, List.setIfInBounds_toArray, List.set_cons_zero, List.set_cons_succ]
            refine take_yes 3 53 ?_ rfl rfl (by kernel_rfl) (by kernel_rfl) (by kernel_rfl) (fun _ _ _ h => h) (by kernel_rfl) ?_ (by assumption) ?_; rotate_left; (focus (intro w hSw; (try dsimp only at hSw); go_simp; all_goals first | with_reducible rfl)); simp only [Act.put, List.setIfInBounds_toArray, List.set_cons_zero, List.set_cons_succ]
            refine take_yes 4 54 ?_ rfl rfl (by kernel_rfl) (by kernel_rfl) (by kernel_rfl) (fun _ _ _ h => h) (by kernel_rfl) ?_ (by assumption) ?_; rotate_left; (focus (intro w hSw; (try dsimp only at hSw); go_simp; all_goals first | with_reducible rfl)); simp only [Act.put, List.setIfInBounds_toArray, List.set_cons_zero, List.set_cons_succ]
            refine take_yes 5 55 ?_ rfl rfl (by kernel_rfl) (by kernel_rfl) (by kernel_rfl) (fun _ _ _ h => h) (by kernel_rfl) ?_ (by assumption) ?_; rotate_left; (focus (intro w hSw; (try dsimp only at hSw); go_simp; all_goals first | with_reducible rfl)); simp only [Act.put, List.setIfInBounds_toArray, List.set_cons_zero, List.set_cons_succ]
            refine take_yes 6 56 (.agg (RS_.map B8).toArray) rfl rfl (by kernel_rfl) (by kernel_rfl) (by kernel_rfl) (fun _ _ _ h => h) (by kernel_rfl) ?_ (by assumption) ?_
            · intro W hSw
              exact exec_load_rest (.tmp 55) W g _ rfl rfl hSw HRl.out
            simp only [Act.put, List.setIfInBounds_toArray, List.set_cons_zero, List.set_cons_succ]
            refine wpAnyH_ready (rs := [7]) (by kernel_rfl) (by simp) ?_
            refine AllReadyH.cons rfl (fun K hK => ?_) AllReadyH.nil
            go_simp
            refine HMX.out.mono ?_
            rintro e w6 ⟨rfl, hb6, ho6⟩
            have HB6 := Lib.hid hb6
            have HO6 : Hid (Only (· = g) wr w6) := Lib.hid (HO5.out.drew.trans ho6)
            refine hK.out _ _ ((hcells_rest w6 g 48 (mixF HW_ RS_) RS_ (M + c) hb6)) (fun _ => ?_)
            clear hK K
            try simp only [Act.put, List.setIfInBounds_toArray, List.set_cons_zero, List.set_cons_succ]
            refine wpAnyH_done (by kernel_rfl) ?_ _
            clear hb6 ho6 hra hHeld0
            go_wp2
            refine ⟨⟨dn ++ rs.take c, rs.drop c, some ad, n1 - c, 0, KD, rfl, Lib.hid (KB0'.out w6), Lib.hid (KF.out Hful.out w6 HB6.out), Lib.hid (HO.out.trans HO6.out)⟩, ?_⟩
            show n1 - c < n1
            omega
          · have Hful := Lib.hid hful
            have hd : ((((M : Int) + (c : Int)) % 64 == 0)) = false := by simp; omega
            clear hful
            go_wp2_with (with_reducible refine wpList_copy_only rfl (.tmp 29) (.tmp 30) 22 22 rfl 5 Tryd.underlying22 Tryd.sizeU8 (some ⟨g, 8 + f, none⟩) (some ad) (64 - f) (64 - f) n1 c1 rfl rfl g (8 + f) CL 48 HbL.out CS K1.out K2.out K3.out K4.out ?_; intro w4 hb4 ho4; rw [HCSl.out]; have HB4 := Lib.hid (K5.out w4 hb4.out); have c72b : w4.cell? ⟨g, 72, none⟩ = some (.int .u64 (M : Int)) := (HB4.out.cell 72).trans (hcells_size _ _ _ Hsl.out); have f72 := HB4.out.frozen 72; have Ho4 := Lib.hid ho4; clear hb4 ho4)
            obtain ⟨w5, hw5⟩ : ∃ W, w4.setCell ⟨g, 72, none⟩ (.int .u64 ((M : Int) + (c : Int))) = W := ⟨_, rfl⟩
            have HB5 : Hid (Blk w5 g 48 (hcells HW_ RS_ (M + c))) := Lib.hid (by
              rw [← hw5]
              have h := HB4.out.set_ 72 (.int .u64 ((M + c : Nat) : Int))
              rw [hcells_setn _ _ _ _ Hsl.out] at h
              exact h)
            have HO5 : Hid (Only (· = g) wr w5) := Lib.hid (by rw [← hw5]; exact Ho4.out.setCell (p := ⟨g, 72, none⟩) (Or.inl rfl) _)
            rw [hw5]
            clear hw5 HB4 Ho4 c72b f72
            refine ⟨⟨dn ++ rs.take c, rs.drop c, some ad, n1 - c, 0, KD, rfl, Lib.hid (KB0'.out w5), Lib.hid (KE.out Hful.out w5 HB5.out), Lib.hid (HO.out.trans HO5.out)⟩, ?_⟩
            show n1 - c < n1
            omega
        · by_cases hful : (M + c) % 64 = 0
          · have Hful := Lib.hid hful
            have hd : ((((M : Int) + (c : Int)) % 64 == 0)) = true := by simp; omega
            clear hful
            go_wp2_with (with_reducible refine wpList_copy_only rfl (.tmp 29) (.tmp 30) 22 22 rfl 5 Tryd.underlying22 Tryd.sizeU8 (some ⟨g, 8 + f, none⟩) (some ad) (64 - f) (64 - f) n1 c1 rfl rfl g (8 + f) CL 48 HbL.out CS K1.out K2.out K3.out K4.out ?_; intro w4 hb4 ho4; rw [HCSl.out]; have HB4 := Lib.hid (K5.out w4 hb4.out); have c72b : w4.cell? ⟨g, 72, none⟩ = some (.int .u64 (M : Int)) := (HB4.out.cell 72).trans (hcells_size _ _ _ Hsl.out); have f72 := HB4.out.frozen 72; have Ho4 := Lib.hid ho4; clear hb4 ho4)
            obtain ⟨w5, hw5⟩ : ∃ W, w4.setCell ⟨g, 72, none⟩ (.int .u64 ((M : Int) + (c : Int))) = W := ⟨_, rfl⟩
            have HB5 : Hid (Blk w5 g 48 (hcells HW_ RS_ (M + c))) := Lib.hid (by
              rw [← hw5]
              have h := HB4.out.set_ 72 (.int .u64 ((M + c : Nat) : Int))
              rw [hcells_setn _ _ _ _ Hsl.out] at h
              exact h)
            have HO5 : Hid (Only (· = g) wr w5) := Lib.hid (by rw [← hw5]; exact Ho4.out.setCell (p := ⟨g, 72, none⟩) (Or.inl rfl) _)
            rw [hw5]
            clear hw5 HB4 Ho4 c72b f72
            have hra : w5.drew.rangeAt g 8 (RS_.map B8) := hcells_rest w5.drew g _ _ _ _ HB5.out.drew
            have HMX := Lib.hid (mix_any w5.drew g 48 HW_ (RS_.map B8 ++ [Value.int .u64 ((M + c : Nat) : Int)]) RS_ Hsl.out (HT.out.only ((HO.out.trans HO5.out).drew) (by omega) (by omega)) HB5.out.drew hg)
            have HRl : Hid ((RS_.map B8).length = 64) := Lib.hid (by rw [List.length_map]; exact Hsl.out)
            refine wp_region_held_drew (S := fun W => W.rangeAt g 8 (RS_.map B8)) (by kernel_rfl) hra (fun hHeld0 => ?_)
            refine take_yes 0 50 ?_ rfl rfl (by kernel_rfl) (by kernel_rfl) (by kernel_rfl) (fun _ _ _ h => h) (by kernel_rfl) ?_ (by assumption) ?_; rotate_left; (focus (intro w hSw; (try dsimp only at hSw); go_simp; all_goals first | with_reducible rfl)); simp only [Act.put, List.setIfInBounds_toArray, List.set_cons_zero, List.set_cons_succ]
            refine take_yes 1 51 ?_ rfl rfl (by kernel_rfl) (by kernel_rfl) (by kernel_rfl) (fun _ _ _ h => h) (by kernel_rfl) ?_ (by assumption) ?_; rotate_left; (focus (intro w hSw; (try dsimp only at hSw); go_simp; all_goals first | with_reducible rfl)); simp only [Act.put, List.setIfInBounds_toArray, List.set_cons_zero, List.set_cons_succ]
            refine take_yes 2 52 ?_ rfl rfl (by kernel_rfl) (by kernel_rfl) (by kernel_rfl) (fun _ _ _ h => h) (by kernel_rfl) ?_ (by assumption) ?_; rotate_left; (focus (intro w hSw; (try dsimp only at hSw); go_simp; all_goals first | with_reducible rfl)); simp only [Act.put, List.setIfInBounds_toArray, List.set_cons_zero, List.set_cons_succ]
            refine take_yes 3 53 ?_ rfl rfl (by kernel_rfl) (by kernel_rfl) (by kernel_rfl) (fun _ _ _ h => h) (by kernel_rfl) ?_ (by assumption) ?_; rotate_left; (focus (intro w hSw; (try dsimp only at hSw); go_simp; all_goals first | with_reducible rfl)); simp only [Act.put, List.setIfInBounds_toArray, List.set_cons_zero, List.set_cons_succ]
            refine take_yes 4 54 ?_ rfl rfl (by kernel_rfl) (by kernel_rfl) (by kernel_rfl) (fun _ _ _ h => h) (by kernel_rfl) ?_ (by assumption) ?_; rotate_left; (focus (intro w hSw; (try dsimp only at hSw); go_simp; all_goals first | with_reducible rfl)); simp only [Act.put, List.setIfInBounds_toArray, List.set_cons_zero, List.set_cons_succ]
            refine take_yes 5 55 ?_ rfl rfl (by kernel_rfl) (by kernel_rfl) (by kernel_rfl) (fun _ _ _ h => h) (by kernel_rfl) ?_ (by assumption) ?_; rotate_left; (focus (intro w hSw; (try dsimp only at hSw); go_simp; all_goals first | with_reducible rfl)); simp only [Act.put, List.setIfInBounds_toArray, List.set_cons_zero, List.set_cons_succ]
            refine take_yes 6 56 (.agg (RS_.map B8).toArray) rfl rfl (by kernel_rfl) (by kernel_rfl) (by kernel_rfl) (fun _ _ _ h => h) (by kernel_rfl) ?_ (by assumption) ?_
            · intro W hSw
              exact exec_load_rest (.tmp 55) W g _ rfl rfl hSw HRl.out
            simp only [Act.put, List.setIfInBounds_toArray, List.set_cons_zero, List.set_cons_succ]
            refine wpAnyH_ready (rs := [7]) (by kernel_rfl) (by simp) ?_
            refine AllReadyH.cons rfl (fun K hK => ?_) AllReadyH.nil
            go_simp
            refine HMX.out.mono ?_
            rintro e w6 ⟨rfl, hb6, ho6⟩
            have HB6 := Lib.hid hb6
            have HO6 : Hid (Only (· = g) wr w6) := Lib.hid (HO5.out.drew.trans ho6)
            refine hK.out _ _ ((hcells_rest w6 g 48 (mixF HW_ RS_) RS_ (M + c) hb6)) (fun _ => ?_)
            clear hK K
            try simp only [Act.put, List.setIfInBounds_toArray, List.set_cons_zero, List.set_cons_succ]
            refine wpAnyH_done (by kernel_rfl) ?_ _
            clear hb6 ho6 hra hHeld0
            go_wp2
            refine ⟨⟨dn ++ rs.take c, rs.drop c, some (ad.add c), n1 - c, c1 - c, KD, rfl, Lib.hid (KB.out w6 HO6.out), Lib.hid (KF.out Hful.out w6 HB6.out), Lib.hid (HO.out.trans HO6.out)⟩, ?_⟩
            show n1 - c < n1
            omega
          · have Hful := Lib.hid hful
            have hd : ((((M : Int) + (c : Int)) % 64 == 0)) = false := by simp; omega
            clear hful
            go_wp2_with (with_reducible refine wpList_copy_only rfl (.tmp 29) (.tmp 30) 22 22 rfl 5 Tryd.underlying22 Tryd.sizeU8 (some ⟨g, 8 + f, none⟩) (some ad) (64 - f) (64 - f) n1 c1 rfl rfl g (8 + f) CL 48 HbL.out CS K1.out K2.out K3.out K4.out ?_; intro w4 hb4 ho4; rw [HCSl.out]; have HB4 := Lib.hid (K5.out w4 hb4.out); have c72b : w4.cell? ⟨g, 72, none⟩ = some (.int .u64 (M : Int)) := (HB4.out.cell 72).trans (hcells_size _ _ _ Hsl.out); have f72 := HB4.out.frozen 72; have Ho4 := Lib.hid ho4; clear hb4 ho4)
            obtain ⟨w5, hw5⟩ : ∃ W, w4.setCell ⟨g, 72, none⟩ (.int .u64 ((M : Int) + (c : Int))) = W := ⟨_, rfl⟩
            have HB5 : Hid (Blk w5 g 48 (hcells HW_ RS_ (M + c))) := Lib.hid (by
              rw [← hw5]
              have h := HB4.out.set_ 72 (.int .u64 ((M + c : Nat) : Int))
              rw [hcells_setn _ _ _ _ Hsl.out] at h
              exact h)
            have HO5 : Hid (Only (· = g) wr w5) := Lib.hid (by rw [← hw5]; exact Ho4.out.setCell (p := ⟨g, 72, none⟩) (Or.inl rfl) _)
            rw [hw5]
            clear hw5 HB4 Ho4 c72b f72
            refine ⟨⟨dn ++ rs.take c, rs.drop c, some (ad.add c), n1 - c, c1 - c, KD, rfl, Lib.hid (KB.out w5 HO5.out), Lib.hid (KE.out Hful.out w5 HB5.out), Lib.hid (HO.out.trans HO5.out)⟩, ?_⟩
            show n1 - c < n1
            omega
      · have hn0 : n1 = 0 := by omega
        have hD := HD.out
        rw [List.length_eq_zero_iff.1 (HB1.out.1.trans hn0), List.append_nil] at hD
        have HD2 := Lib.hid hD
        clear hD
        go_wp2
        go_end0
        exact ⟨rfl, by have h := HC.out; rw [HD2.out] at h; exact h, HO.out⟩
  · have hN0I : ((N : Int) == 0) = false := by simp; omega
    have HC1 : Hid (HashC w g l) := Lib.hid (by
      unfold HashC
      have h := Hb.out
      rw [HU.out (fun h0 => hN0 (by rw [HN.out, h0]; rfl))] at h
      exact h)
    have HO1 : Hid (Only (· = g) w w) := Lib.hid (Only.refl _ _)
    clear hN0
    go_wp2_with fail
    clear s0 s1 s2 s3 s4 s5 s6 s7 c0 c1 c2 c3 c4 c5 c6 c7 f0 f1 f2 f3 f4 f5 f6 f7 c72 hN0I Hb HU HSt
    go_loopw [1] (fun b wr => ∃ (dn rs : List UInt8) (A1 : Option Addr) (n1 c1 : Nat), Hid (dn ++ rs = bs) ∧ b = .slice A1 n1 c1 ∧ Hid (ByteSl wr (· = g) A1 n1 c1 rs) ∧ Hid (HashC wr g (l ++ dn)) ∧ Hid (Only (· = g) w wr)) (fun b _ => match b with | .slice _ m _ => m | _ => 0)
    case atStart => exact ⟨[], bs, A, n, cap, Lib.hid rfl, rfl, Lib.hid (HB.out.only HO1.out (fun _ _ h => h)), Lib.hid (by rw [List.append_nil]; exact HC1.out), HO1⟩
    case round =>
      obtain ⟨dn, rs, A1, n1, c1, HD, rfl, HB1, HC, HO⟩ := hrel
      clear HC1 HO1
      by_cases hn1 : 0 < n1
      · have hnI : (0 : Int) < (n1 : Int) := by omega
        have hrl1 := HB1.out.1
        obtain ⟨ad, rfl, hadb, hadg, hadc⟩ := HB1.out.2.2.2 hn1
        have Hadc := Lib.hid hadc
        clear hadc
        have hnc := HB1.out.2.1
        have hcm : c1 ≤ 9223372036854775807 := by have := HB1.out.2.2.1; unfold maxLen at this; exact this
        obtain ⟨M, hM⟩ : ∃ M, M = (l ++ dn).length := ⟨_, rfl⟩
        obtain ⟨f, hf⟩ : ∃ f, f = M % 64 := ⟨_, rfl⟩
        obtain ⟨c, hc⟩ : ∃ c, c = min n1 (64 - f) := ⟨_, rfl⟩
        have hMb : M + n1 ≤ 1099511627776 := by
          have h := congrArg List.length HD.out
          have h2 := HB.out.1
          rw [List.length_append] at h hM
          have := HN.out
          omega
        have hf64 : f < 64 := by omega
        have hc1 : 1 ≤ c := by omega
        have hcn : c ≤ n1 := by omega
        have hcf : f + c ≤ 64 := by omega
        have hfI : (M : Int) % 64 = (f : Int) := by omega
        have hr64 : (hsF (l ++ dn)).r.length = 64 := hsF_r _
        have hb : Blk wr g 48 (hcells (hsF (l ++ dn)).w (hsF (l ++ dn)).r M) := by rw [hM]; exact HC.out
        have c72 : wr.cell? ⟨g, 72, none⟩ = some (.int .u64 (M : Int)) := (hb.cell 72).trans (hcells_size _ _ _ hr64)
        obtain ⟨CS, hCS⟩ : ∃ CS, CS = (rs.take c).map B8 := ⟨_, rfl⟩
        have hCSl : CS.length = c := by rw [hCS]; simp; omega
        have HCS := Lib.hid hCS
        have HCSl := Lib.hid hCSl
        have HCm := Lib.hid hc
        have Hb := Lib.hid hb
        have HM := Lib.hid hM
        have Hf := Lib.hid hf
        obtain ⟨CL, hCL⟩ : ∃ CL, CL = (hcells (hsF (l ++ dn)).w (hsF (l ++ dn)).r M).toList := ⟨_, rfl⟩
        have HCL := Lib.hid hCL
        have HbL : Hid (Blk wr g 48 CL.toArray) := Lib.hid (by rw [hCL]; exact hb)
        have HCLl : Hid (CL.length = 73) := Lib.hid (by rw [hCL, Array.length_toList, hcells_len _ _ _ hr64])
        clear hM hf hc hb hCS hCSl hCL
        have hsl := rest_slice wr g f hf64
        have K1 : Hid (CS.length = Nat.min n1 (64 - f)) := Lib.hid (by rw [HCSl.out, HCm.out])
        have K2 : Hid (0 < CS.length → some (⟨g, 8 + f, none⟩ : Addr) = some ⟨g, 8 + f, none⟩ ∧ ∃ a, some ad = some a ∧ ∀ j v, CS[j]? = some v → wr.cell? (a.add j) = some v) := Lib.hid (by
          intro _
          refine ⟨rfl, ad, rfl, fun j v hj => ?_⟩
          rw [HCS.out, List.getElem?_map] at hj
          cases hx : (rs.take c)[j]? with
          | none => simp [hx] at hj
          | some x =>
            have hx2 : rs[j]? = some x := by
              rw [List.getElem?_take] at hx
              split at hx
              · exact hx
              · cases hx
            rw [Hadc.out j x hx2]
            simpa [hx] using hj)
        have K3 : Hid (8 + f + CS.length ≤ CL.length) := Lib.hid (by rw [HCSl.out, HCLl.out]; omega)
        have K4 : Hid (∀ v ∈ CS, v.oneCell' = true) := Lib.hid (by rw [HCS.out]; intro u hu; obtain ⟨z, _, rfl⟩ := List.mem_map.1 hu; rfl)
        have Hsl : Hid ((splice (hsF (l ++ dn)).r f (rs.take c)).length = 64) := Lib.hid (by rw [length_splice _ _ _ (by rw [List.length_take, hr64]; omega), hr64])
        have K5 : Hid (∀ w4, Blk w4 g 48 (splice CL (8 + f) CS).toArray → Blk w4 g 48 (hcells (hsF (l ++ dn)).w (splice (hsF (l ++ dn)).r f (rs.take c)) M)) := Lib.hid (by
          intro w4 h4
          rw [HCL.out, HCS.out, hcells_splice _ _ _ _ _ hr64 (by rw [List.length_take]; omega)] at h4
          exact h4)
        have hcI : (c : Int) ≤ (n1 : Int) := by omega
        have hMc : (M : Int) + (c : Int) ≤ 18446744073709551615 := by omega
        obtain ⟨RS_, hRS_⟩ : ∃ R, R = splice (hsF (l ++ dn)).r f (rs.take c) := ⟨_, rfl⟩
        obtain ⟨HW_, hHW_⟩ : ∃ R, R = (hsF (l ++ dn)).w := ⟨_, rfl⟩
        have htl : (rs.take c).length = c := by rw [List.length_take]; omega
        have hput := hashC_put (l ++ dn) (rs.take c) f (by rw [← HM.out]; exact Hf.out) (by omega) (by intro h0; rw [h0] at htl; simp at htl; omega)
        rw [htl, ← HM.out, ← hRS_, ← hHW_, List.append_assoc] at hput
        have hlen : (l ++ (dn ++ rs.take c)).length = M + c := by rw [← List.append_assoc, List.length_append, ← HM.out, htl]
        have KE : Hid (¬ (M + c) % 64 = 0 → ∀ W, Blk W g 48 (hcells HW_ RS_ (M + c)) → HashC W g (l ++ (dn ++ rs.take c))) := Lib.hid (fun h W hb => by
          unfold HashC
          rw [hput.1, hput.2, if_neg h, hlen]
          exact hb)
        have KF : Hid ((M + c) % 64 = 0 → ∀ W, Blk W g 48 (hcells (mixF HW_ RS_) RS_ (M + c)) → HashC W g (l ++ (dn ++ rs.take c))) := Lib.hid (fun h W hb => by
          unfold HashC
          rw [hput.1, hput.2, if_pos h, hlen]
          exact hb)
        have KB : Hid (∀ W, Only (· = g) wr W → ByteSl W (· = g) (some (ad.add c)) (n1 - c) (c1 - c) (rs.drop c)) := Lib.hid (fun W hW => (HB1.out.fromH c hcn (by omega)).only hW (fun _ _ h => h))
        have KB0 : Hid (c1 = c → ∀ W, ByteSl W (· = g) (some ad) 0 0 (rs.drop c)) := Lib.hid (fun h W => by
          rw [List.drop_of_length_le (by omega)]
          exact ByteSl.nil_ _ _ _ _ (by unfold maxLen; omega))
        have KD : Hid ((dn ++ rs.take c) ++ rs.drop c = bs) := Lib.hid (by rw [List.append_assoc, List.take_append_drop]; exact HD.out)
        rw [← hRS_] at Hsl K5
        rw [← hHW_] at K5
        clear hput hlen htl hRS_ hHW_
        by_cases hcap : c1 = c
        · have hcn1 : c = n1 := by omega
          have KB0' : Hid (∀ W, ByteSl W (· = g) (some ad) (n1 - c) 0 (rs.drop c)) := Lib.hid (fun W => by rw [show n1 - c = 0 by omega]; exact KB0.out hcap W)
          clear hcn1
          by_cases hful : (M + c) % 64 = 0
          · have Hful := Lib.hid hful
            have hd : ((((M : Int) + (c : Int)) % 64 == 0)) = true := by simp; omega
            clear hful
            go_wp2_with (with_reducible refine wpList_copy_only rfl (.tmp 29) (.tmp 30) 22 22 rfl 5 Tryd.underlying22 Tryd.sizeU8 (some ⟨g, 8 + f, none⟩) (some ad) (64 - f) (64 - f) n1 c1 rfl rfl g (8 + f) CL 48 HbL.out CS K1.out K2.out K3.out K4.out ?_; intro w4 hb4 ho4; rw [HCSl.out]; have HB4 := Lib.hid (K5.out w4 hb4.out); have c72b : w4.cell? ⟨g, 72, none⟩ = some (.int .u64 (M : Int)) := (HB4.out.cell 72).trans (hcells_size _ _ _ Hsl.out); have f72 := HB4.out.frozen 72; have Ho4 := Lib.hid ho4; clear hb4 ho4)
            obtain ⟨w5, hw5⟩ : ∃ W, w4.setCell ⟨g, 72, none⟩ (.int .u64 ((M : Int) + (c : Int))) = W := ⟨_, rfl⟩
            have HB5 : Hid (Blk w5 g 48 (hcells HW_ RS_ (M + c))) := Lib.hid (by
              rw [← hw5]
              have h := HB4.out.set_ 72 (.int .u64 ((M + c : Nat) : Int))
              rw [hcells_setn _ _ _ _ Hsl.out] at h
              exact h)
            have HO5 : Hid (Only (· = g) wr w5) := Lib.hid (by rw [← hw5]; exact Ho4.out.setCell (p := ⟨g, 72, none⟩) (Or.inl rfl) _)
            rw [hw5]
            clear hw5 HB4 Ho4 c72b f72
            have hra : w5.drew.rangeAt g 8 (RS_.map B8) := hcells_rest w5.drew g _ _ _ _ HB5.out.drew
            have HMX := Lib.hid (mix_any w5.drew g 48 HW_ (RS_.map B8 ++ [Value.int .u64 ((M + c : Nat) : Int)]) RS_ Hsl.out (HT.out.only ((HO.out.trans HO5.out).drew) (by omega) (by omega)) HB5.out.drew hg)
            have HRl : Hid ((RS_.map B8).length = 64) := Lib.hid (by rw [List.length_map]; exact Hsl.out)
            refine wp_region_held_drew (S := fun W => W.rangeAt g 8 (RS_.map B8)) (by kernel_rfl) hra (fun hHeld0 => ?_)
            refine take_yes 0 50 ?_ rfl rfl (by kernel_rfl) (by kernel_rfl) (by kernel_rfl) (fun _ _ _ h => h) (by kernel_rfl) ?_ (by assumption) ?_; rotate_left; (focus (intro w hSw; (try dsimp only at hSw); go_simp; all_goals first | with_reducible rfl)); simp only [Act.put, List.setIfInBounds_toArray, List.set_cons_zero, List.set_cons_succ]
            refine take_yes 1 51 ?_ rfl rfl (by kernel_rfl) (by kernel_rfl) (by kernel_rfl) (fun _ _ _ h => h) (by kernel_rfl) ?_ (by assumption) ?_; rotate_left; (focus (intro w hSw; (try dsimp only at hSw); go_simp; all_goals first | with_reducible rfl)); simp only [Act.put, List.setIfInBounds_toArray, List.set_cons_zero, List.set_cons_succ]
            refine take_yes 2 52 ?_ rfl rfl (by kernel_rfl) (by kernel_rfl) (by kernel_rfl) (fun _ _ _ h => h) (by kernel_rfl) ?_ (by assumption) ?_; rotate_left; (focus (intro w hSw; (try dsimp only at hSw); go_simp; all_goals first | with_reducible rfl)); simp only [Act.put, List.setIfInBounds_toArray, List.set_cons_zero, List.set_cons_succ]
            refine take_yes 3 53 ?_ rfl rfl (by kernel_rfl) (by kernel_rfl) (by kernel_rfl) (fun _ _ _ h => h) (by kernel_rfl) ?_ (by assumption) ?_; rotate_left; (focus (intro w hSw; (try dsimp only at hSw); go_simp; all_goals first | with_reducible rfl)); simp only [Act.put, List.setIfInBounds_toArray, List.set_cons_zero, List.set_cons_succ]
            refine take_yes 4 54 ?_ rfl rfl (by kernel_rfl) (by kernel_rfl) (by kernel_rfl) (fun _ _ _ h => h) (by kernel_rfl) ?_ (by assumption) ?_; rotate_left; (focus (intro w hSw; (try dsimp only at hSw); go_simp; all_goals first | with_reducible rfl)); simp only [Act.put, List.setIfInBounds_toArray, List.set_cons_zero, List.set_cons_succ]
            refine take_yes 5 55 ?_ rfl rfl (by kernel_rfl) (by kernel_rfl) (by kernel_rfl) (fun _ _ _ h => h) (by kernel_rfl) ?_ (by assumption) ?_; rotate_left; (focus (intro w hSw; (try dsimp only at hSw); go_simp; all_goals first | with_reducible rfl)); simp only [Act.put, List.setIfInBounds_toArray, List.set_cons_zero, List.set_cons_succ]
            refine take_yes 6 56 (.agg (RS_.map B8).toArray) rfl rfl (by kernel_rfl) (by kernel_rfl) (by kernel_rfl) (fun _ _ _ h => h) (by kernel_rfl) ?_ (by assumption) ?_
            · intro W hSw
              exact exec_load_rest (.tmp 55) W g _ rfl rfl hSw HRl.out
            simp only [Act.put, List.setIfInBounds_toArray, List.set_cons_zero, List.set_cons_succ]
            refine wpAnyH_ready (rs := [7]) (by kernel_rfl) (by simp) ?_
            refine AllReadyH.cons rfl (fun K hK => ?_) AllReadyH.nil
            go_simp
            refine HMX.out.mono ?_
            rintro e w6 ⟨rfl, hb6, ho6⟩
            have HB6 := Lib.hid hb6
            have HO6 : Hid (Only (· = g) wr w6) := Lib.hid (HO5.out.drew.trans ho6)
            refine hK.out _ _ ((hcells_rest w6 g 48 (mixF HW_ RS_) RS_ (M + c) hb6)) (fun _ => ?_)
            clear hK K
            try simp only [Act.put, List.setIfInBounds_toArray, List.set_cons_zero, List.set_cons_succ]
            refine wpAnyH_done (by kernel_rfl) ?_ _
            clear hb6 ho6 hra hHeld0
            go_wp2
            refine ⟨⟨dn ++ rs.take c, rs.drop c, some ad, n1 - c, 0, KD, rfl, Lib.hid (KB0'.out w6), Lib.hid (KF.out Hful.out w6 HB6.out), Lib.hid (HO.out.trans HO6.out)⟩, ?_⟩
            show n1 - c < n1
            omega
          · have Hful := Lib.hid hful
            have hd : ((((M : Int) + (c : Int)) % 64 == 0)) = false := by simp; omega
            clear hful
            go_wp2_with (with_reducible refine wpList_copy_only rfl (.tmp 29) (.tmp 30) 22 22 rfl 5 Tryd.underlying22 Tryd.sizeU8 (some ⟨g, 8 + f, none⟩) (some ad) (64 - f) (64 - f) n1 c1 rfl rfl g (8 + f) CL 48 HbL.out CS K1.out K2.out K3.out K4.out ?_; intro w4 hb4 ho4; rw [HCSl.out]; have HB4 := Lib.hid (K5.out w4 hb4.out); have c72b : w4.cell? ⟨g, 72, none⟩ = some (.int .u64 (M : Int)) := (HB4.out.cell 72).trans (hcells_size _ _ _ Hsl.out); have f72 := HB4.out.frozen 72; have Ho4 := Lib.hid ho4; clear hb4 ho4)
            obtain ⟨w5, hw5⟩ : ∃ W, w4.setCell ⟨g, 72, none⟩ (.int .u64 ((M : Int) + (c : Int))) = W := ⟨_, rfl⟩
            have HB5 : Hid (Blk w5 g 48 (hcells HW_ RS_ (M + c))) := Lib.hid (by
              rw [← hw5]
              have h := HB4.out.set_ 72 (.int .u64 ((M + c : Nat) : Int))
              rw [hcells_setn _ _ _ _ Hsl.out] at h
              exact h)
            have HO5 : Hid (Only (· = g) wr w5) := Lib.hid (by rw [← hw5]; exact Ho4.out.setCell (p := ⟨g, 72, none⟩) (Or.inl rfl) _)
            rw [hw5]
            clear hw5 HB4 Ho4 c72b f72
            refine ⟨⟨dn ++ rs.take c, rs.drop c, some ad, n1 - c, 0, KD, rfl, Lib.hid (KB0'.out w5), Lib.hid (KE.out Hful.out w5 HB5.out), Lib.hid (HO.out.trans HO5.out)⟩, ?_⟩
            show n1 - c < n1
            omega
        · by_cases hful : (M + c) % 64 = 0
          · have Hful := Lib.hid hful
            have hd : ((((M : Int) + (c : Int)) % 64 == 0)) = true := by simp; omega
            clear hful
            go_wp2_with (with_reducible refine wpList_copy_only rfl (.tmp 29) (.tmp 30) 22 22 rfl 5 Tryd.underlying22 Tryd.sizeU8 (some ⟨g, 8 + f, none⟩) (some ad) (64 - f) (64 - f) n1 c1 rfl rfl g (8 + f) CL 48 HbL.out CS K1.out K2.out K3.out K4.out ?_; intro w4 hb4 ho4; rw [HCSl.out]; have HB4 := Lib.hid (K5.out w4 hb4.out); have c72b : w4.cell? ⟨g, 72, none⟩ = some (.int .u64 (M : Int)) := (HB4.out.cell 72).trans (hcells_size _ _ _ Hsl.out); have f72 := HB4.out.frozen 72; have Ho4 := Lib.hid ho4; clear hb4 ho4)
            obtain ⟨w5, hw5⟩ : ∃ W, w4.setCell ⟨g, 72, none⟩ (.int .u64 ((M : Int) + (c : Int))) = W := ⟨_, rfl⟩
            have HB5 : Hid (Blk w5 g 48 (hcells HW_ RS_ (M + c))) := Lib.hid (by
              rw [← hw5]
              have h := HB4.out.set_ 72 (.int .u64 ((M + c : Nat) : Int))
              rw [hcells_setn _ _ _ _ Hsl.out] at h
              exact h)
            have HO5 : Hid (Only (· = g) wr w5) := Lib.hid (by rw [← hw5]; exact Ho4.out.setCell (p := ⟨g, 72, none⟩) (Or.inl rfl) _)
            rw [hw5]
            clear hw5 HB4 Ho4 c72b f72
            have hra : w5.drew.rangeAt g 8 (RS_.map B8) := hcells_rest w5.drew g _ _ _ _ HB5.out.drew
            have HMX := Lib.hid (mix_any w5.drew g 48 HW_ (RS_.map B8 ++ [Value.int .u64 ((M + c : Nat) : Int)]) RS_ Hsl.out (HT.out.only ((HO.out.trans HO5.out).drew) (by omega) (by omega)) HB5.out.drew hg)
            have HRl : Hid ((RS_.map B8).length = 64) := Lib.hid (by rw [List.length_map]; exact Hsl.out)
            refine wp_region_held_drew (S := fun W => W.rangeAt g 8 (RS_.map B8)) (by kernel_rfl) hra (fun hHeld0 => ?_)
            refine take_yes 0 50 ?_ rfl rfl (by kernel_rfl) (by kernel_rfl) (by kernel_rfl) (fun _ _ _ h => h) (by kernel_rfl) ?_ (by assumption) ?_; rotate_left; (focus (intro w hSw; (try dsimp only at hSw); go_simp; all_goals first | with_reducible rfl)); simp only [Act.put, List.setIfInBounds_toArray, List.set_cons_zero, List.set_cons_succ]
            refine take_yes 1 51 ?_ rfl rfl (by kernel_rfl) (by kernel_rfl) (by kernel_rfl) (fun _ _ _ h => h) (by kernel_rfl) ?_ (by assumption) ?_; rotate_left; (focus (intro w hSw; (try dsimp only at hSw); go_simp; all_goals first | with_reducible rfl)); simp only [Act.put, List.setIfInBounds_toArray, List.set_cons_zero, List.set_cons_succ]
            refine take_yes 2 52 ?_ rfl rfl (by kernel_rfl) (by kernel_rfl) (by kernel_rfl) (fun _ _ _ h => h) (by kernel_rfl) ?_ (by assumption) ?_; rotate_left; (focus (intro w hSw; (try dsimp only at hSw); go_simp; all_goals first | with_reducible rfl)); simp only [Act.put, List.setIfInBounds_toArray, List.set_cons_zero, List.set_cons_succ]
            refine take_yes 3 53 ?_ rfl rfl (by kernel_rfl) (by kernel_rfl) (by kernel_rfl) (fun _ _ _ h => h) (by kernel_rfl) ?_ (by assumption) ?_; rotate_left; (focus (intro w hSw; (try dsimp only at hSw); go_simp; all_goals first | with_reducible rfl)); simp only [Act.put, List.setIfInBounds_toArray, List.set_cons_zero, List.set_cons_succ]
            refine take_yes 4 54 ?_ rfl rfl (by kernel_rfl) (by kernel_rfl) (by kernel_rfl) (fun _ _ _ h => h) (by kernel_rfl) ?_ (by assumption) ?_; rotate_left; (focus (intro w hSw; (try dsimp only at hSw); go_simp; all_goals first | with_reducible rfl)); simp only [Act.put, List.setIfInBounds_toArray, List.set_cons_zero, List.set_cons_succ]
            refine take_yes 5 55 ?_ rfl rfl (by kernel_rfl) (by kernel_rfl) (by kernel_rfl) (fun _ _ _ h => h) (by kernel_rfl) ?_ (by assumption) ?_; rotate_left; (focus (intro w hSw; (try dsimp only at hSw); go_simp; all_goals first | with_reducible rfl)); simp only [Act.put, List.setIfInBounds_toArray, List.set_cons_zero, List.set_cons_succ]
            refine take_yes 6 56 (.agg (RS_.map B8).toArray) rfl rfl (by kernel_rfl) (by kernel_rfl) (by kernel_rfl) (fun _ _ _ h => h) (by kernel_rfl) ?_ (by assumption) ?_
            · intro W hSw
              exact exec_load_rest (.tmp 55) W g _ rfl rfl hSw HRl.out
            simp only [Act.put, List.setIfInBounds_toArray, List.set_cons_zero, List.set_cons_succ]
            refine wpAnyH_ready (rs := [7]) (by kernel_rfl) (by simp) ?_
            refine AllReadyH.cons rfl (fun K hK => ?_) AllReadyH.nil
            go_simp
            refine HMX.out.mono ?_
            rintro e w6 ⟨rfl, hb6, ho6⟩
            have HB6 := Lib.hid hb6
            have HO6 : Hid (Only (· = g) wr w6) := Lib.hid (HO5.out.drew.trans ho6)
            refine hK.out _ _ ((hcells_rest w6 g 48 (mixF HW_ RS_) RS_ (M + c) hb6)) (fun _ => ?_)
            clear hK K
            try simp only [Act.put, List.setIfInBounds_toArray, List.set_cons_zero, List.set_cons_succ]
            refine wpAnyH_done (by kernel_rfl) ?_ _
            clear hb6 ho6 hra hHeld0
            go_wp2
            refine ⟨⟨dn ++ rs.take c, rs.drop c, some (ad.add c), n1 - c, c1 - c, KD, rfl, Lib.hid (KB.out w6 HO6.out), Lib.hid (KF.out Hful.out w6 HB6.out), Lib.hid (HO.out.trans HO6.out)⟩, ?_⟩
            show n1 - c < n1
            omega
          · have Hful := Lib.hid hful
            have hd : ((((M : Int) + (c : Int)) % 64 == 0)) = false := by simp; omega
            clear hful
            go_wp2_with (with_reducible refine wpList_copy_only rfl (.tmp 29) (.tmp 30) 22 22 rfl 5 Tryd.underlying22 Tryd.sizeU8 (some ⟨g, 8 + f, none⟩) (some ad) (64 - f) (64 - f) n1 c1 rfl rfl g (8 + f) CL 48 HbL.out CS K1.out K2.out K3.out K4.out ?_; intro w4 hb4 ho4; rw [HCSl.out]; have HB4 := Lib.hid (K5.out w4 hb4.out); have c72b : w4.cell? ⟨g, 72, none⟩ = some (.int .u64 (M : Int)) := (HB4.out.cell 72).trans (hcells_size _ _ _ Hsl.out); have f72 := HB4.out.frozen 72; have Ho4 := Lib.hid ho4; clear hb4 ho4)
            obtain ⟨w5, hw5⟩ : ∃ W, w4.setCell ⟨g, 72, none⟩ (.int .u64 ((M : Int) + (c : Int))) = W := ⟨_, rfl⟩
            have HB5 : Hid (Blk w5 g 48 (hcells HW_ RS_ (M + c))) := Lib.hid (by
              rw [← hw5]
              have h := HB4.out.set_ 72 (.int .u64 ((M + c : Nat) : Int))
              rw [hcells_setn _ _ _ _ Hsl.out] at h
              exact h)
            have HO5 : Hid (Only (· = g) wr w5) := Lib.hid (by rw [← hw5]; exact Ho4.out.setCell (p := ⟨g, 72, none⟩) (Or.inl rfl) _)
            rw [hw5]
            clear hw5 HB4 Ho4 c72b f72
            refine ⟨⟨dn ++ rs.take c, rs.drop c, some (ad.add c), n1 - c, c1 - c, KD, rfl, Lib.hid (KB.out w5 HO5.out), Lib.hid (KE.out Hful.out w5 HB5.out), Lib.hid (HO.out.trans HO5.out)⟩, ?_⟩
            show n1 - c < n1
            omega
      · have hn0 : n1 = 0 := by omega
        have hD := HD.out
        rw [List.length_eq_zero_iff.1 (HB1.out.1.trans hn0), List.append_nil] at hD
        have HD2 := Lib.hid hD
        clear hD
        go_wp2
        go_end0
        exact ⟨rfl, by have h := HC.out; rw [HD2.out] at h; exact h, HO.out⟩
end Go.Proofs.YtpcjmicciccihaaDoor
