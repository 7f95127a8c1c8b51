/- The walk over blob's settle, whole. -/
import Derived.Test.YtnhfmcijadficaaGreatDoorZbc
import Derived.Test.YtnhfmcijadficaaGreatDoorZac
namespace Go.Proofs.YtnhfmcijadficaaGreatDoor
set_option maxRecDepth 100000
open Go.RowKit Go.Maps

theorem StoreAt.set_head {w : World} {s mb p c e : Nat} {M : Al Sv} {h : HeadV} {d : Bool} (k : StoreAt w s mb p c e M h d) (x : HeadV) :
    StoreAt ((((w.setCell ⟨s, 2, none⟩ (.int .i64 x.sec)).setCell ⟨s, 3, none⟩ (.int .i64 x.next)).setCell ⟨s, 4, none⟩ (.int .i64 x.left)).setCell ⟨s, 5, none⟩ (.int .u32 x.txn)) s mb p c e M x d ∧
      Only (· = s) w ((((w.setCell ⟨s, 2, none⟩ (.int .i64 x.sec)).setCell ⟨s, 3, none⟩ (.int .i64 x.next)).setCell ⟨s, 4, none⟩ (.int .i64 x.left)).setCell ⟨s, 5, none⟩ (.int .u32 x.txn)) := by
  have hO : Only (· = s) w ((((w.setCell ⟨s, 2, none⟩ (.int .i64 x.sec)).setCell ⟨s, 3, none⟩ (.int .i64 x.next)).setCell ⟨s, 4, none⟩ (.int .i64 x.left)).setCell ⟨s, 5, none⟩ (.int .u32 x.txn)) :=
    ((((Only.refl (· = s) w).setCell (p := ⟨s, 2, none⟩) (Or.inl rfl) _).setCell (p := ⟨s, 3, none⟩) (Or.inl rfl) _).setCell (p := ⟨s, 4, none⟩) (Or.inl rfl) _).setCell (p := ⟨s, 5, none⟩) (Or.inl rfl) _
  refine ⟨⟨?_, k.map.only hO k.ne, k.bl.only hO (fun i _ h => Or.inl h)⟩, hO⟩
  have h1 := (((k.blk.set_ 2 (.int .i64 x.sec)).set_ 3 (.int .i64 x.next)).set_ 4 (.int .i64 x.left)).set_ 5 (.int .u32 x.txn)
  have e : ((((storeC p mb h d).setIfInBounds 2 (.int .i64 x.sec)).setIfInBounds 3 (.int .i64 x.next)).setIfInBounds 4 (.int .i64 x.left)).setIfInBounds 5 (.int .u32 x.txn) = storeC p mb x d := by simp [storeC]
  rw [e] at h1
  exact h1

set_option maxHeartbeats 2000000 in
theorem settle_any (s mb p c e base bi : Nat) (A : Option Addr) (cap : Nat) (K : List Kr) (M : Al Sv) (h0 h : HeadV) (d : Bool) (vs vst : Value) (w : World) (hS : StoreAt w s mb p c e M h0 d) (hK : KeysAt w base bi A cap K) (hM : M.length ≤ 1048576) (hF : FairM M) (hall : ∀ k ∈ K, ∀ x ∈ k.ks, (afind M x).isSome = true)
    (hsb : s < base ∧ mb < base) (hb : base ≤ w.heap.size) (hnK : K.length ≤ 1048576) (hnk : ∀ k ∈ K, k.ks.length ≤ 1048576) :
    Calls Tryz.prog 49 #[.pointer (some ⟨s, 0, none⟩), planV p mb vs (.slice A K.length cap) h vst] w fun e1 w' => e1 = .returned (.tuple #[]) ∧ Settling w' s mb p c e base bi M.length A cap K h d (reSecK 0 (amap Sv.a M) (K.map Kr.ks)) w := by
  obtain ⟨hsec, hnext, hleft, htxn⟩ := h
  unfold planV planC
  simp only
  have HK := Lib.hid hK
  have HA := Lib.hid hall
  have HF := Lib.hid hF
  have HNk := Lib.hid hnk
  have hsl : s < w.heap.size := hS.blk.lt
  have hml : mb < w.heap.size := hS.map.lt
  have hne : mb ≠ s := hS.ne
  have q2 : w.cell? ⟨s, 2, none⟩ = some (.int .i64 h0.sec) := hS.blk.cell 2
  have q3 : w.cell? ⟨s, 3, none⟩ = some (.int .i64 h0.next) := hS.blk.cell 3
  have q4 : w.cell? ⟨s, 4, none⟩ = some (.int .i64 h0.left) := hS.blk.cell 4
  have q5 : w.cell? ⟨s, 5, none⟩ = some (.int .u32 h0.txn) := hS.blk.cell 5
  have r2 := hS.blk.frozen 2
  have r3 := hS.blk.frozen 3
  have r4 := hS.blk.frozen 4
  have r5 := hS.blk.frozen 5
  have hsh := hS.set_head ⟨hsec, hnext, hleft, htxn⟩
  have Hsh := Lib.hid hsh
  have hcapA : K.length ≤ cap := hK.outer.row.2.1
  have hcapA2 : cap ≤ 9223372036854775807 := by have := hK.outer.row.2.2.1; unfold maxLen at this; omega
  clear hS hK hall hF hnk hsh
  go_enter Tryz.func49, Tryz.ntmps49
  go_wp2_with fail
  obtain ⟨w0, hw0⟩ : ∃ w0, w0 = ((((w.setCell ⟨s, 2, none⟩ (.int .i64 hsec)).setCell ⟨s, 3, none⟩ (.int .i64 hnext)).setCell ⟨s, 4, none⟩ (.int .i64 hleft)).setCell ⟨s, 5, none⟩ (.int .u32 htxn)) := ⟨_, rfl⟩
  rw [← hw0] at Hsh ⊢
  have hal := (Below.refl w0.heap.size w0).alloc (Nat.le_refl _) (.cells #[.pointer (some ⟨p, 0, none⟩), .map (some mb), vs, .slice A K.length cap, .int .i64 hsec, .int .i64 hnext, .int .i64 hleft, .int .u32 htxn, vst] 109)
  obtain ⟨w1, hw1⟩ : ∃ w1, w1 = w0.alloc (.cells #[.pointer (some ⟨p, 0, none⟩), .map (some mb), vs, .slice A K.length cap, .int .i64 hsec, .int .i64 hnext, .int .i64 hleft, .int .u32 htxn, vst] 109) := ⟨_, rfl⟩
  rw [← hw1] at hal ⊢
  have hO1 : Only (fun q => q = s ∨ q = mb) w w1 := (Hsh.out.2.mono (T := fun q => q = s ∨ q = mb) (fun _ _ h => Or.inl h)).trans (Only.of_below (S := fun q => q = s ∨ q = mb) hal)
  have HS1 : Hid (Settling w1 s mb p c e base bi M.length A cap K ⟨hsec, hnext, hleft, htxn⟩ d (amap Sv.a M) w) := Lib.hid ⟨⟨M, Hsh.out.1.below hal, rfl, rfl, HF.out, HA.out⟩, HK.out.only hO1 (fun i h1 _ h2 => by omega), hO1⟩
  obtain ⟨X0, hX0⟩ : ∃ X0, X0 = amap Sv.a M := ⟨_, rfl⟩
  obtain ⟨nM, hnM⟩ : ∃ nM, nM = M.length := ⟨_, rfl⟩
  rw [← hX0, ← hnM] at HS1
  rw [← hnM] at hM
  have HX0 := Lib.hid hX0
  have HnM := Lib.hid hnM
  clear hw0 hw1 hal Hsh hO1 HF HA HK q2 q3 q4 q5 r2 r3 r4 r5 hX0 hnM
  go_loopw [16] (fun v wr => ∃ (i : Nat), i ≤ K.length ∧ v = .int .i64 (i : Int) ∧ Hid (Settling wr s mb p c e base bi nM A cap K ⟨hsec, hnext, hleft, htxn⟩ d (reSecK 0 X0 ((K.take i).map Kr.ks)) w)) (fun v _ => K.length - (intOf v).toNat)
  case atStart => exact ⟨0, Nat.zero_le _, rfl, HS1⟩
  case round =>
    obtain ⟨i, hi, rfl, HX⟩ := hrel
    by_cases hlt : i < K.length
    · obtain ⟨k, hk⟩ : ∃ k, K[i]? = some k := ⟨_, List.getElem?_eq_getElem hlt⟩
      obtain ⟨g, rfl⟩ : ∃ g, A = some ⟨g, 0, none⟩ := by
        rcases HX.out.keys.outer.here with hn | ⟨g, cur, he, _⟩
        · have := (HX.out.keys.outer.isNil hn).1
          omega
        · exact ⟨g, he⟩
      have Hk := Lib.hid hk
      obtain ⟨c0, -, hgl⟩ := HX.out.keys.outer.cell1 hk rfl
      have hkl := HNk.out k (List.mem_of_getElem? hk)
      have hsn := reSecK_snoc ((K.take i).map Kr.ks) 0 X0 k.ks
      have htk := take_snoc K i k hk
      have e1 : (K.take i).map Kr.ks ++ [k.ks] = (K.take (i + 1)).map Kr.ks := by rw [htk, List.map_append]; rfl
      rw [e1, List.length_map, List.length_take, Nat.min_eq_left hi, Nat.zero_add] at hsn
      have Hsn := Lib.hid hsn
      obtain ⟨Xi, hXi⟩ : ∃ Xi, Xi = reSecK 0 X0 ((K.take i).map Kr.ks) := ⟨_, rfl⟩
      rw [← hXi] at HX Hsn
      clear hk hsn htk e1 hXi
      go_wp2_with fail
      go_loopw [23] (fun v wr => ∃ (j : Nat), j ≤ k.ks.length ∧ v = .int .i64 (j : Int) ∧ Hid (Settling wr s mb p c e base bi nM (some ⟨g, 0, none⟩) cap K ⟨hsec, hnext, hleft, htxn⟩ d (reSecL (i : Int) Xi (k.ks.take j)) w)) (fun v _ => k.ks.length - (intOf v).toNat)
      case atStart => exact ⟨0, Nat.zero_le _, rfl, HX⟩
      case round =>
        obtain ⟨j, hj, rfl, HY⟩ := hrel
        by_cases hjl : j < k.ks.length
        · have hki := HY.out.keys.inner i k Hk.out
          obtain ⟨b, o, x, hkA, hb, -, hx, hc⟩ := hki.row.at_ hjl
          have d0 := hc 0 (by omega)
          simp only [strC, List.getElem?_cons_zero, Nat.mul_one, Nat.add_zero] at d0
          have htk := take_snoc k.ks j x hx
          have hsn2 := reSecL_snoc (i : Int) Xi (k.ks.take j) x
          rw [← htk] at hsn2
          have Hsn2 := Lib.hid hsn2
          have hx64 : x.length ≤ 64 := by
            obtain ⟨M2, _, _, _, hf2, ha2⟩ := HY.out.st
            have h1 := ha2 k (List.mem_of_getElem? Hk.out) x (List.mem_of_getElem? hx)
            obtain ⟨f, hf⟩ := Option.isSome_iff_exists.1 h1
            exact (hf2 _ (afind_mem hf)).1
          obtain ⟨f, w2, hlook, hput, hS2, hs2⟩ := settle_one s mb p c e base bi nM i (some ⟨g, 0, none⟩) cap K ⟨hsec, hnext, hleft, htxn⟩ d _ w wr.drew x hx64 hM ⟨k, List.mem_of_getElem? Hk.out, List.mem_of_getElem? hx⟩ hsb HY.out.drew
          obtain ⟨fsec, fg, fn, fc, fx⟩ := f
          unfold Sv.v at hlook hput
          simp only at hlook hput
          have hfld := stand_field1 fsec (adr fg) fn fc
          have hs1 : wr.drew.cell? ⟨s, 1, none⟩ = some (.map (some mb)) := by
            obtain ⟨M2, h2, _⟩ := HY.out.drew.st
            exact h2.blk.cell 1
          have HS2 := Lib.hid hS2
          rw [hkA]
          clear hki hc hx htk hsn2 hS2
          go_wp2_with fail
          go_region_held3 (fun W => W.cell? ⟨s, 1, none⟩ = some (.map (some mb))) (first | with_reducible exact hs1 | with_reducible exact hs2) ((fail))
          go_wp2_with fail
          go_roundw
          case rel => exact ⟨j + 1, by omega, by simp, Lib.hid (by rw [Hsn2.out]; exact HS2.out)⟩
          case measure => simp [intOf]; omega
        · have hjn : j = k.ks.length := by omega
          subst hjn
          rw [List.take_length, ← Hsn.out] at HY
          go_wp2_with fail
          go_roundw
          case rel => exact ⟨i + 1, by omega, by simp, HY⟩
          case measure => simp [intOf]; omega
    · have hin : i = K.length := by omega
      subst hin
      rw [List.take_length] at HX
      go_wp2_with fail
      go_end0
      refine ⟨rfl, ?_⟩
      rw [← HX0.out, ← HnM.out]
      exact HX.out

end Go.Proofs.YtnhfmcijadficaaGreatDoor

/- The walk over blob's plan. -/
namespace Go.Proofs.YtnhfmcijadficaaGreatDoor
set_option maxRecDepth 100000
open Go.RowKit Go.Maps

theorem FS.three_lt {w : World} {p c e Z L : Nat} {ss : List (Nat × List UInt8)} (h : FS w p c e Z L ss) {q : Nat} (hq : Three p c e q) : q < w.heap.size := by
  obtain ⟨fl, h1, _⟩ := h
  rcases hq with rfl | rfl | rfl
  · exact h1.hd.lt
  · exact h1.ce.lt
  · exact h1.er.lt

/-- A plan that is stored whole. -/
def setPlan (w : World) (g p mb : Nat) (vs vk : Value) (h : HeadV) (vst : Value) : World :=
  ((((((((w.setCell ⟨g, 0, none⟩ (.pointer (some ⟨p, 0, none⟩))).setCell ⟨g, 1, none⟩ (.map (some mb))).setCell ⟨g, 2, none⟩ vs).setCell ⟨g, 3, none⟩ vk).setCell ⟨g, 4, none⟩ (.int .i64 h.sec)).setCell ⟨g, 5, none⟩ (.int .i64 h.next)).setCell ⟨g, 6, none⟩ (.int .i64 h.left)).setCell ⟨g, 7, none⟩ (.int .u32 h.txn)).setCell ⟨g, 8, none⟩ vst
theorem setPlan_blk {w : World} {g p mb : Nat} {vs vk : Value} {h : HeadV} {vst : Value} {a0 a1 a2 a3 a4 a5 a6 a7 a8 : Value} (hB : Blk w g 109 #[a0, a1, a2, a3, a4, a5, a6, a7, a8]) : Blk (setPlan w g p mb vs vk h vst) g 109 (planC p mb vs vk h vst) := by
  have h1 := ((((((((hB.set_ 0 (.pointer (some ⟨p, 0, none⟩))).set_ 1 (.map (some mb))).set_ 2 vs).set_ 3 vk).set_ 4 (.int .i64 h.sec)).set_ 5 (.int .i64 h.next)).set_ 6 (.int .i64 h.left)).set_ 7 (.int .u32 h.txn)).set_ 8 vst
  simpa [setPlan, planC] using h1
theorem setPlan_only {w : World} {g p mb : Nat} {vs vk : Value} {h : HeadV} {vst : Value} : Only (· = g) w (setPlan w g p mb vs vk h vst) := by
  unfold setPlan
  refine Only.setCell (Only.setCell (Only.setCell (Only.setCell (Only.setCell (Only.setCell (Only.setCell (Only.setCell (Only.setCell (Only.refl (· = g) w) ?_ _) ?_ _) ?_ _) ?_ _) ?_ _) ?_ _) ?_ _) ?_ _) ?_ _ <;> exact Or.inl rfl

set_option maxHeartbeats 4000000 in
theorem plan_now (s mb p c e : Nat) (M : Al Sv) (h : HeadV) (d : Bool) (room : Int) (w : World) (hS : StoreAt w s mb p c e M h d) (ht : takesB h room = true) :
    Calls Tryz.prog 46 #[.pointer (some ⟨s, 0, none⟩), .int .i64 room] w fun e1 w' => e1 = .returned (.tuple #[planV p mb (.slice none 0 0) (.slice none 0 0) h (.slice none 0 0), .int .i64 0]) ∧ Below w.heap.size w w' := by
  obtain ⟨hsec, hnext, hleft, htxn⟩ := h
  unfold planV planC
  simp only
  have HS : Hid (∀ W, Only Empty w W → W.cell? ⟨s, 0, none⟩ = some (.pointer (some ⟨p, 0, none⟩)) ∧ W.cell? ⟨s, 1, none⟩ = some (.map (some mb)) ∧ W.cell? ⟨s, 2, none⟩ = some (.int .i64 hsec) ∧ W.cell? ⟨s, 3, none⟩ = some (.int .i64 hnext) ∧ W.cell? ⟨s, 4, none⟩ = some (.int .i64 hleft) ∧ W.cell? ⟨s, 5, none⟩ = some (.int .u32 htxn)) := Lib.hid (fun W hW => by
    have h1 := hW.blk hS.blk (fun h => h)
    exact ⟨h1.cell 0, h1.cell 1, h1.cell 2, h1.cell 3, h1.cell 4, h1.cell 5⟩)
  have Ht := Lib.hid ht
  have Htk := Lib.hid (takes_any ⟨hsec, hnext, hleft, htxn⟩ room)
  rw [ht] at Htk
  unfold HeadV.v at Htk
  have hsl : s < w.heap.size := hS.blk.lt
  have hal := (Below.refl w.heap.size w).alloc (Nat.le_refl _) (.cells #[.pointer none, .map none, .slice none 0 0, .slice none 0 0, .int .i64 0, .int .i64 0, .int .i64 0, .int .u32 0, .slice none 0 0] 109)
  have hbx := Blk.new w 109 #[.pointer none, .map none, .slice none 0 0, .slice none 0 0, .int .i64 0, .int .i64 0, .int .i64 0, .int .u32 0, .slice none 0 0]
  have Hal := Lib.hid hal
  have Hbx := Lib.hid hbx
  clear hS ht hal hbx
  go_enter Tryz.func46, Tryz.ntmps46
  go_wp2_with fail
  obtain ⟨g, hg⟩ : ∃ g, g = w.heap.size := ⟨_, rfl⟩
  have hs1 := HS.out _ ((Only.of_below (S := Empty) Hal.out).drew)
  obtain ⟨d0, d1, d2, d3, d4, d5⟩ := hs1
  go_region
  have hB := (Blk.new w 109 #[.pointer (some ⟨p, 0, none⟩), .map (some mb), .slice none 0 0, .slice none 0 0, .int .i64 hsec, .int .i64 hnext, .int .i64 hleft, .int .u32 htxn, .slice none 0 0]).drew
  have hb := ((Below.refl w.heap.size w).alloc (Nat.le_refl _) (.cells #[.pointer (some ⟨p, 0, none⟩), .map (some mb), .slice none 0 0, .slice none 0 0, .int .i64 hsec, .int .i64 hnext, .int .i64 hleft, .int .u32 htxn, .slice none 0 0] 109)).drew
  obtain ⟨w1, hw1⟩ : ∃ w1, w1 = (w.alloc (.cells #[.pointer (some ⟨p, 0, none⟩), .map (some mb), .slice none 0 0, .slice none 0 0, .int .i64 hsec, .int .i64 hnext, .int .i64 hleft, .int .u32 htxn, .slice none 0 0] 109)).drew := ⟨_, rfl⟩
  rw [← hw1] at hB hb ⊢
  have q4 : w1.cell? ⟨w.heap.size, 4, none⟩ = some (.int .i64 hsec) := hB.cell 4
  have q5 : w1.cell? ⟨w.heap.size, 5, none⟩ = some (.int .i64 hnext) := hB.cell 5
  have q6 : w1.cell? ⟨w.heap.size, 6, none⟩ = some (.int .i64 hleft) := hB.cell 6
  have q7 : w1.cell? ⟨w.heap.size, 7, none⟩ = some (.int .u32 htxn) := hB.cell 7
  have HB := Lib.hid hB
  have Hb := Lib.hid hb
  clear hB hb hw1 d0 d1 d2 d3 d4 d5 Hal Hbx HS
  go_wp2_with fail
  refine (Htk.out w1).mono ?_
  rintro e2 w2 ⟨rfl, hb2⟩
  have hB2 := HB.out.of (hb2.block _ HB.out.lt)
  have k0 : w2.cell? ⟨w.heap.size, 0, none⟩ = some (.pointer (some ⟨p, 0, none⟩)) := hB2.cell 0
  have k1 : w2.cell? ⟨w.heap.size, 1, none⟩ = some (.map (some mb)) := hB2.cell 1
  have k2 : w2.cell? ⟨w.heap.size, 2, none⟩ = some (.slice none 0 0) := hB2.cell 2
  have k3 : w2.cell? ⟨w.heap.size, 3, none⟩ = some (.slice none 0 0) := hB2.cell 3
  have k4 : w2.cell? ⟨w.heap.size, 4, none⟩ = some (.int .i64 hsec) := hB2.cell 4
  have k5 : w2.cell? ⟨w.heap.size, 5, none⟩ = some (.int .i64 hnext) := hB2.cell 5
  have k6 : w2.cell? ⟨w.heap.size, 6, none⟩ = some (.int .i64 hleft) := hB2.cell 6
  have k7 : w2.cell? ⟨w.heap.size, 7, none⟩ = some (.int .u32 htxn) := hB2.cell 7
  have k8 : w2.cell? ⟨w.heap.size, 8, none⟩ = some (.slice none 0 0) := hB2.cell 8
  have f0 := hB2.frozen 0
  have f1 := hB2.frozen 1
  have f2 := hB2.frozen 2
  have f3 := hB2.frozen 3
  have f4 := hB2.frozen 4
  have f5 := hB2.frozen 5
  have f6 := hB2.frozen 6
  have f7 := hB2.frozen 7
  have f8 := hB2.frozen 8
  have hgl := hB2.lt
  have Hb2 := Lib.hid (Hb.out.trans (hb2.mono Hb.out.size))
  have HB2 := Lib.hid hB2
  clear hB2 hb2 q4 q5 q6 q7 Htk
  go_wp2_with fail
  obtain ⟨w3, hw3⟩ : ∃ w3, w3 = setPlan w2 w.heap.size p mb (.slice none 0 0) (.slice none 0 0) ⟨hsec, hnext, hleft, htxn⟩ (.slice none 0 0) := ⟨_, rfl⟩
  have hB3 : Blk w3 w.heap.size 109 (planC p mb (.slice none 0 0) (.slice none 0 0) ⟨hsec, hnext, hleft, htxn⟩ (.slice none 0 0)) := by
    rw [hw3]
    exact setPlan_blk (HB2.out)
  have hb3 : Below w.heap.size w w3 := Hb2.out.trans (by rw [hw3]; exact setPlan_only.below Hb2.out.size (fun k h1 h2 => by omega))
  unfold setPlan at hw3
  simp only at hw3
  rw [← hw3]
  have k0 : w3.cell? ⟨w.heap.size, 0, none⟩ = some (.pointer (some ⟨p, 0, none⟩)) := hB3.cell 0
  have k1 : w3.cell? ⟨w.heap.size, 1, none⟩ = some (.map (some mb)) := hB3.cell 1
  have k2 : w3.cell? ⟨w.heap.size, 2, none⟩ = some (.slice none 0 0) := hB3.cell 2
  have k3 : w3.cell? ⟨w.heap.size, 3, none⟩ = some (.slice none 0 0) := hB3.cell 3
  have k4 : w3.cell? ⟨w.heap.size, 4, none⟩ = some (.int .i64 hsec) := hB3.cell 4
  have k5 : w3.cell? ⟨w.heap.size, 5, none⟩ = some (.int .i64 hnext) := hB3.cell 5
  have k6 : w3.cell? ⟨w.heap.size, 6, none⟩ = some (.int .i64 hleft) := hB3.cell 6
  have k7 : w3.cell? ⟨w.heap.size, 7, none⟩ = some (.int .u32 htxn) := hB3.cell 7
  have k8 : w3.cell? ⟨w.heap.size, 8, none⟩ = some (.slice none 0 0) := hB3.cell 8
  refine bodyPost_ret (v := .tuple #[.agg #[.pointer (some ⟨p, 0, none⟩), .map (some mb), .slice none 0 0, .slice none 0 0, .int .i64 hsec, .int .i64 hnext, .int .i64 hleft, .int .u32 htxn, .slice none 0 0], .int .i64 0]) ?_ rfl ⟨rfl, hb3⟩
  simp [results, Tryz.results46, go_sem, k0, k1, k2, k3, k4, k5, k6, k7, k8]

theorem setZero {w : World} {g : Nat} {a0 a1 a2 a3 a4 a5 a6 a7 a8 : Value} (hB : Blk w g 109 #[a0, a1, a2, a3, a4, a5, a6, a7, a8]) :
    Blk (((((((((w.setCell ⟨g, 0, none⟩ (.pointer none)).setCell ⟨g, 1, none⟩ (.map none)).setCell ⟨g, 2, none⟩ (.slice none 0 0)).setCell ⟨g, 3, none⟩ (.slice none 0 0)).setCell ⟨g, 4, none⟩ (.int .i64 0)).setCell ⟨g, 5, none⟩ (.int .i64 0)).setCell ⟨g, 6, none⟩ (.int .i64 0)).setCell ⟨g, 7, none⟩ (.int .u32 0)).setCell ⟨g, 8, none⟩ (.slice none 0 0)) g 109 #[.pointer none, .map none, .slice none 0 0, .slice none 0 0, .int .i64 0, .int .i64 0, .int .i64 0, .int .u32 0, .slice none 0 0] ∧
    Only (· = g) w (((((((((w.setCell ⟨g, 0, none⟩ (.pointer none)).setCell ⟨g, 1, none⟩ (.map none)).setCell ⟨g, 2, none⟩ (.slice none 0 0)).setCell ⟨g, 3, none⟩ (.slice none 0 0)).setCell ⟨g, 4, none⟩ (.int .i64 0)).setCell ⟨g, 5, none⟩ (.int .i64 0)).setCell ⟨g, 6, none⟩ (.int .i64 0)).setCell ⟨g, 7, none⟩ (.int .u32 0)).setCell ⟨g, 8, none⟩ (.slice none 0 0)) := by
  have h1 := ((((((((hB.set_ 0 (.pointer none)).set_ 1 (.map none)).set_ 2 (.slice none 0 0)).set_ 3 (.slice none 0 0)).set_ 4 (.int .i64 0)).set_ 5 (.int .i64 0)).set_ 6 (.int .i64 0)).set_ 7 (.int .u32 0)).set_ 8 (.slice none 0 0)
  refine ⟨by simpa using h1, ?_⟩
  refine Only.setCell (Only.setCell (Only.setCell (Only.setCell (Only.setCell (Only.setCell (Only.setCell (Only.setCell (Only.setCell (Only.refl (· = g) w) ?_ _) ?_ _) ?_ _) ?_ _) ?_ _) ?_ _) ?_ _) ?_ _) ?_ _ <;> exact Or.inl rfl
theorem kbsL_64 {M : Al Sv} (hF : FairM M) (S : Nat) : ∀ ks ∈ kbsL M S (M.map (·.1)), ∀ x ∈ ks, x.length ≤ 64 := by
  intro ks hks x hx
  unfold kbsL at hks
  obtain ⟨j, _, rfl⟩ := List.mem_map.1 hks
  obtain ⟨q, hq, rfl⟩ := List.mem_map.1 (List.mem_filter.1 hx).1
  exact (hF q hq).1
theorem KeysAt.lower {w : World} {base base' bi cap : Nat} {A : Option Addr} {K : List Kr} (h : KeysAt w base bi A cap K) (hb : base' ≤ base) : KeysAt w base' bi A cap K :=
  ⟨Nat.le_trans hb h.le, h.outer.lower hb, h.inner, h.apart⟩

/-- How blob's plan ends where room was looked for. -/
def Planned (base p c e mb Z L : Nat) (ss : List (Nat × List UInt8)) (M : Al Sv) (b : Bool) (PF : PV) (KF : List (List (List UInt8))) (w' : World) (e1 : Ending) : Prop :=
  (b = false ∧ e1 = .returned (.tuple #[.agg #[.pointer none, .map none, .slice none 0 0, .slice none 0 0, .int .i64 0, .int .i64 0, .int .i64 0, .int .u32 0, .slice none 0 0], .int .i64 10])) ∨
  (b = true ∧ ∃ g bi KA kcap R P K, e1 = .returned (.tuple #[planV p mb (.slice R.A P.l.length R.cap) (.slice KA ss.length kcap) P.h (.slice R.As P.sts.length R.cs), .int .i64 0]) ∧ PW w' g base bi p c e mb Z L ss M.length M KA ss.length kcap R P K ∧ P.nm = PF ∧ K.map Kr.ks = KF ∧ P.l.length = ss.length ∧ base ≤ g ∧ bi ≤ w'.heap.size)

set_option maxHeartbeats 8000000 in
theorem plan_made (s mb p c e Z L : Nat) (M : Al Sv) (h : HeadV) (d : Bool) (ss : List (Nat × List UInt8)) (room : Int) (b : Bool) (PF : PV) (KF : List (List (List UInt8))) (w : World) (hS : StoreAt w s mb p c e M h d) (hs : FS w p c e Z L ss) (hMark : Mark w) (hM : M.length ≤ 1048576) (hF : FairM M) (hsecs : SecsIn M ss.length)
    (ht : takesB h room = false) (hR : Rounds Z L M room (4 * ss.length) ⟨secsOf ss, h, []⟩ (kbsL M ss.length (M.map (·.1))) b PF KF) :
    Calls Tryz.prog 46 #[.pointer (some ⟨s, 0, none⟩), .int .i64 room] w fun e1 w' => Planned w.heap.size p c e mb Z L ss M b PF KF w' e1 ∧ Below w.heap.size w w' := by
  obtain ⟨hsec, hnext, hleft, htxn⟩ := h
  have HS : Hid (∀ W, Only Empty w W → W.cell? ⟨s, 0, none⟩ = some (.pointer (some ⟨p, 0, none⟩)) ∧ W.cell? ⟨s, 1, none⟩ = some (.map (some mb)) ∧ W.cell? ⟨s, 2, none⟩ = some (.int .i64 hsec) ∧ W.cell? ⟨s, 3, none⟩ = some (.int .i64 hnext) ∧ W.cell? ⟨s, 4, none⟩ = some (.int .i64 hleft) ∧ W.cell? ⟨s, 5, none⟩ = some (.int .u32 htxn)) := Lib.hid (fun W hW => by
    have h1 := hW.blk hS.blk (fun h => h)
    exact ⟨h1.cell 0, h1.cell 1, h1.cell 2, h1.cell 3, h1.cell 4, h1.cell 5⟩)
  have Ht := Lib.hid ht
  have Htk := Lib.hid (takes_any ⟨hsec, hnext, hleft, htxn⟩ room)
  rw [ht] at Htk
  unfold HeadV.v at Htk
  have hsl : s < w.heap.size := hS.blk.lt
  have hal := (Below.refl w.heap.size w).alloc (Nat.le_refl _) (.cells #[.pointer none, .map none, .slice none 0 0, .slice none 0 0, .int .i64 0, .int .i64 0, .int .i64 0, .int .u32 0, .slice none 0 0] 109)
  have hbx := Blk.new w 109 #[.pointer none, .map none, .slice none 0 0, .slice none 0 0, .int .i64 0, .int .i64 0, .int .i64 0, .int .u32 0, .slice none 0 0]
  have Hal := Lib.hid hal
  have Hbx := Lib.hid hbx
  have HStore := Lib.hid hS
  have HFS := Lib.hid hs
  have HM := Lib.hid hMark
  have HFair := Lib.hid hF
  have HSec := Lib.hid hsecs
  have HRo := Lib.hid hR
  have hz := hs.bz
  clear hS hs hMark hF hsecs hR ht hal hbx
  go_enter Tryz.func46, Tryz.ntmps46
  go_wp2_with fail
  obtain ⟨g, hg⟩ : ∃ g, g = w.heap.size := ⟨_, rfl⟩
  have hs1 := HS.out _ ((Only.of_below (S := Empty) Hal.out).drew)
  obtain ⟨d0, d1, d2, d3, d4, d5⟩ := hs1
  go_region
  have hB := (Blk.new w 109 #[.pointer (some ⟨p, 0, none⟩), .map (some mb), .slice none 0 0, .slice none 0 0, .int .i64 hsec, .int .i64 hnext, .int .i64 hleft, .int .u32 htxn, .slice none 0 0]).drew
  have hb := ((Below.refl w.heap.size w).alloc (Nat.le_refl _) (.cells #[.pointer (some ⟨p, 0, none⟩), .map (some mb), .slice none 0 0, .slice none 0 0, .int .i64 hsec, .int .i64 hnext, .int .i64 hleft, .int .u32 htxn, .slice none 0 0] 109)).drew
  obtain ⟨w1, hw1⟩ : ∃ w1, w1 = (w.alloc (.cells #[.pointer (some ⟨p, 0, none⟩), .map (some mb), .slice none 0 0, .slice none 0 0, .int .i64 hsec, .int .i64 hnext, .int .i64 hleft, .int .u32 htxn, .slice none 0 0] 109)).drew := ⟨_, rfl⟩
  rw [← hw1] at hB hb ⊢
  have q4 : w1.cell? ⟨w.heap.size, 4, none⟩ = some (.int .i64 hsec) := hB.cell 4
  have q5 : w1.cell? ⟨w.heap.size, 5, none⟩ = some (.int .i64 hnext) := hB.cell 5
  have q6 : w1.cell? ⟨w.heap.size, 6, none⟩ = some (.int .i64 hleft) := hB.cell 6
  have q7 : w1.cell? ⟨w.heap.size, 7, none⟩ = some (.int .u32 htxn) := hB.cell 7
  have HB := Lib.hid hB
  have Hb := Lib.hid hb
  clear hB hb hw1 d0 d1 d2 d3 d4 d5 Hal Hbx HS
  go_wp2_with fail
  refine (Htk.out w1).mono ?_
  rintro e2 w2 ⟨rfl, hb2⟩
  have hB2 := HB.out.of (hb2.block _ HB.out.lt)
  have Hb2 := Lib.hid (Hb.out.trans (hb2.mono Hb.out.size))
  have hst2 := HStore.out.below Hb2.out
  have s0 : w2.cell? ⟨s, 0, none⟩ = some (.pointer (some ⟨p, 0, none⟩)) := hst2.blk.cell 0
  have hsl2 := hst2.blk.lt
  have Hlook := Lib.hid (look_any p c e Z L ss w2 (HFS.out.below Hb2.out) (HM.out.below Hb2.out))
  obtain ⟨g, hg⟩ : ∃ g, g = w.heap.size := ⟨_, rfl⟩
  rw [← hg] at hB2 ⊢
  have HB2 := Lib.hid hB2
  have Hg := Lib.hid hg
  obtain ⟨n, hn⟩ : ∃ n, n = ss.length := ⟨_, rfl⟩
  rw [← hn] at Hlook hz
  have Hn := Lib.hid hn
  clear hB2 hb2 hst2 hn hg q4 q5 q6 q7 Htk HB Hb
  go_wp2_with fail
  refine Hlook.out.mono ?_
  rintro e3 w3 ⟨⟨A, cap, rfl, hG3⟩, hb3⟩
  have hB3 := HB2.out.of (hb3.block _ HB2.out.lt)
  have HB3 := Lib.hid hB3
  have g2c : w3.cell? ⟨g, 2, none⟩ = some (.slice none 0 0) := hB3.cell 2
  have g2f := hB3.frozen 2
  have g3 := hB3.lt
  have Hb3 := Lib.hid (Hb2.out.trans (hb3.mono Hb2.out.size))
  have HG3 := Lib.hid hG3
  have hB4 := hB3.set_ 2 (.slice A n cap)
  have hO4 : Only (· = g) w3 (w3.setCell ⟨g, 2, none⟩ (.slice A n cap)) := (Only.refl (· = g) w3).setCell (p := ⟨g, 2, none⟩) (Or.inl rfl) _
  have hG4 := hG3.far Sc.cells_len hB3 (by decide) hO4
  have hb4 : Below w.heap.size w (w3.setCell ⟨g, 2, none⟩ (.slice A n cap)) := Hb3.out.trans (hO4.below Hb3.out.size (fun k h1 h2 => by have := Hg.out; omega))
  obtain ⟨w4, hw4⟩ : ∃ w4, w4 = w3.setCell ⟨g, 2, none⟩ (.slice A n cap) := ⟨_, rfl⟩
  rw [← hw4] at hB4 hG4 hb4
  have Hw4 := Lib.hid hw4
  have HB4 := Lib.hid hB4
  have HG4 := Lib.hid hG4
  have Hb4 := Lib.hid hb4
  have Hkb := Lib.hid (keysBy_any s mb p c e Z L M ⟨hsec, hnext, hleft, htxn⟩ d ss w4 (HStore.out.below hb4) (HFS.out.below hb4) hM HFair.out HSec.out)
  rw [← Hn.out] at Hkb
  clear hB3 hb3 hG3 hB4 hO4 hG4 hb4 hw4 Hlook s0 hsl2 HB2
  go_wp2_with fail
  rw [← Hw4.out]
  refine Hkb.out.mono ?_
  rintro e5 w5 ⟨⟨KA, kcap, K, bi, rfl, hK5, hKn, hKs, hbi5⟩, hb5⟩
  have hB5 := HB4.out.of (hb5.block _ HB4.out.lt)
  have h3c : w5.cell? ⟨g, 3, none⟩ = some (.slice none 0 0) := hB5.cell 3
  have h2c : w5.cell? ⟨g, 2, none⟩ = some (.slice A n cap) := hB5.cell 2
  have h3f := hB5.frozen 3
  have g5 := hB5.lt
  have hG5 := HG4.out.below Sc.cells_len hb5
  have hB6 := hB5.set_ 3 (.slice KA n kcap)
  have hO6 : Only (· = g) w5 (w5.setCell ⟨g, 3, none⟩ (.slice KA n kcap)) := (Only.refl (· = g) w5).setCell (p := ⟨g, 3, none⟩) (Or.inl rfl) _
  have hG6 := hG5.far Sc.cells_len hB5 (by decide) hO6
  have hb6 : Below w.heap.size w (w5.setCell ⟨g, 3, none⟩ (.slice KA n kcap)) := (Hb4.out.trans (hb5.mono Hb4.out.size)).trans (hO6.below (by have := Hb4.out.size; have := hb5.size; omega) (fun k h1 h2 => by have := Hg.out; omega))
  have hK6 := hK5.keep (Keep.of_block (E := EP) hB5 (Or.inl rfl) hO6) (by unfold EP; decide) (by unfold EP; decide)
  have h2d : (w5.setCell ⟨g, 3, none⟩ (.slice KA n kcap)).cell? ⟨g, 2, none⟩ = some (.slice A n cap) := by
    rw [hB6.cell]
    rfl
  have hbi6 : bi ≤ (w5.setCell ⟨g, 3, none⟩ (.slice KA n kcap)).heap.size := Nat.le_trans hbi5 hO6.size
  have hPW : PW (w5.setCell ⟨g, 3, none⟩ (.slice KA n kcap)) g w.heap.size bi p c e mb Z L ss M.length M KA n kcap ⟨A, cap, none, 0⟩ ⟨secsOf ss, ⟨hsec, hnext, hleft, htxn⟩, []⟩ K := by
    have hln : (secsOf ss).length = n := by rw [Hn.out]; simp [secsOf]
    refine ⟨⟨?_, ?_, GotR.nil_ _ _ _ _ _⟩, hK6.lower Hb4.out.size, hKn, HStore.out.map.below hb6, ?_, HFS.out.below hb6, fun s hs => by cases hs⟩
    · have h1 := hB6
      simp only [planC, hln]
      exact h1
    · simp only [hln]
      exact hG6.lower (Nat.le_trans Hb2.out.size (Nat.le_refl _))
    · exact (HStore.out.bl.below hb6).only (Only.refl Empty _) (fun _ _ h => h.elim) |> fun h => by
        have h0 : BlobsAt w (PlanT g w.heap.size) M := fun q hq => ⟨(HStore.out.bl q hq).1.mono (fun i h1 h2 => by
          rcases h2 with h2 | h2
          · have := Hg.out; omega
          · omega), (HStore.out.bl q hq).2⟩
        exact h0.below hb6
  have HPW := Lib.hid hPW
  have Hb6 := Lib.hid hb6
  have HKs := Lib.hid hKs
  have HK64 : Hid (∀ k ∈ K, ∀ x ∈ k.ks, x.length ≤ 64) := Lib.hid (fun k hk => kbsL_64 HFair.out n k.ks (by rw [← hKs]; exact List.mem_map_of_mem hk))
  clear hB5 hG5 hB6 hO6 hG6 hb6 hK6 hPW hK5 hKn hKs hb5 Hkb HB4 HG4 hbi5
  go_wp2_with fail
  obtain ⟨w6, hw6⟩ : ∃ w6, w6 = w5.setCell ⟨g, 3, none⟩ (.slice KA n kcap) := ⟨_, rfl⟩
  rw [← hw6] at HPW Hb6 h2d hbi6 ⊢
  have HKs2 : Hid (Rounds Z L M room (4 * n) (⟨secsOf ss, ⟨hsec, hnext, hleft, htxn⟩, []⟩ : PV).nm (K.map Kr.ks) b PF KF) := Lib.hid (by
    rw [HKs.out, Hn.out]
    exact HRo.out)
  have hC : Hid (PC g w.heap.size p c e mb Z L ss M) := Lib.hid ⟨fun q hq => by
    have h1 : q < w.heap.size := by
      exact HFS.out.three_lt hq
    have := Hg.out
    omega, by
    have h1 := HStore.out.map.lt
    have := Hg.out
    omega, HFair.out⟩
  have hnb : n ≤ 64 := hz.2.1
  have hg0 : g ≤ w6.heap.size := by have := HPW.out.plan.blk.lt; omega
  have hgs := Hg.out
  have hlen6 : Hid ((⟨secsOf ss, ⟨hsec, hnext, hleft, htxn⟩, []⟩ : PV).l.length = ss.length) := Lib.hid (by simp [secsOf])
  clear hw6 h3c h2c h3f g5 g2c g2f g3 HKs HRo hgs h2d
  go_loopw [47] (fun v wr => ∃ (i : Nat) (R : PP) (P : PV) (K : List Kr), i ≤ 4 * n ∧ v = .int .i64 (i : Int) ∧ Hid (PW wr g w.heap.size bi p c e mb Z L ss M.length M KA n kcap R P K) ∧ Hid (Rounds Z L M room (4 * n - i) P.nm (K.map Kr.ks) b PF KF) ∧ Hid (P.l.length = ss.length) ∧ Hid (∀ k ∈ K, ∀ x ∈ k.ks, x.length ≤ 64) ∧ Hid (PQ g w.heap.size w6 wr)) (fun v _ => 4 * n - (intOf v).toNat)
  case atStart => exact ⟨0, _, _, K, Nat.zero_le _, rfl, HPW, HKs2, hlen6, HK64, Lib.hid (PQ.refl _ _ _)⟩
  case round =>
    clear HPW HKs2 hlen6 HK64
    obtain ⟨i, R, P, K, hi, rfl, HX, HR, HL, HK, HQ⟩ := hrel
    by_cases hlt : i < 4 * n
    · have hr := HR.out
      rw [show 4 * n - i = (4 * n - (i + 1)) + 1 by omega] at hr
      have Hinv := Lib.hid hr.inv
      have hinv := Hinv.out
      have hszr := HQ.out.size
      clear hr HR
      rcases hinv with ⟨t, hm, rfl⟩ | ⟨t, hm, htk, rfl⟩ | ⟨t, P1, K1, hm, htk, h64, hrest⟩
      · have Hmk := Lib.hid (makeRoom_any g w.heap.size bi p c e mb Z L M.length n kcap t ss M KA R P K false PF KF wr HX.out hC.out hm HL.out Hn.out HK.out (by have := Hg.out; omega) (by omega))
        clear hm Hinv
        go_wp2_with fail
        refine Hmk.out.mono ?_
        rintro e7 w7 ⟨rfl, ⟨R7, P7, K7, hW7, hP7, hK7, hl7⟩, hq7⟩
        have HW7 := Lib.hid hW7
        have HQ7 := Lib.hid (HQ.out.trans hq7)
        have HBl := Lib.hid (Hb6.out.trans (HQ7.out.only.below Hb6.out.size (fun k h1 h2 => by
          rcases h2 with h2 | h2
          · have := Hg.out; omega
          · omega)))
        clear hW7 hP7 hK7 hl7 hq7 Hmk
        have hBz := HW7.out.plan.blk
        have y0 := hBz.frozen 0
        have y1 := hBz.frozen 1
        have y2 := hBz.frozen 2
        have y3 := hBz.frozen 3
        have y4 := hBz.frozen 4
        have y5 := hBz.frozen 5
        have y6 := hBz.frozen 6
        have y7 := hBz.frozen 7
        have y8 := hBz.frozen 8
        have x0 : w7.cell? ⟨g, 0, none⟩ = some (.pointer (some ⟨p, 0, none⟩)) := hBz.cell 0
        have x1 : w7.cell? ⟨g, 1, none⟩ = some (.map (some mb)) := hBz.cell 1
        have x2 := hBz.cell 2
        have x3 := hBz.cell 3
        have x4 := hBz.cell 4
        have x5 := hBz.cell 5
        have x6 := hBz.cell 6
        have x7 := hBz.cell 7
        have x8 := hBz.cell 8
        simp [planC] at x2 x3 x4 x5 x6 x7 x8
        have hglz := hBz.lt
        have HBz := Lib.hid hBz
        clear hBz
        go_wp2_with fail
        obtain ⟨wz, hwz⟩ : ∃ wz, wz = (((((((((w7.setCell ⟨g, 0, none⟩ (.pointer none)).setCell ⟨g, 1, none⟩ (.map none)).setCell ⟨g, 2, none⟩ (.slice none 0 0)).setCell ⟨g, 3, none⟩ (.slice none 0 0)).setCell ⟨g, 4, none⟩ (.int .i64 0)).setCell ⟨g, 5, none⟩ (.int .i64 0)).setCell ⟨g, 6, none⟩ (.int .i64 0)).setCell ⟨g, 7, none⟩ (.int .u32 0)).setCell ⟨g, 8, none⟩ (.slice none 0 0)) := ⟨_, rfl⟩
        have hzz := setZero HBz.out
        rw [← hwz] at hzz ⊢
        have t0 := hzz.1.cell 0
        have t1 := hzz.1.cell 1
        have t2 := hzz.1.cell 2
        have t3 := hzz.1.cell 3
        have t4 := hzz.1.cell 4
        have t5 := hzz.1.cell 5
        have t6 := hzz.1.cell 6
        have t7 := hzz.1.cell 7
        have t8 := hzz.1.cell 8
        simp at t0 t1 t2 t3 t4 t5 t6 t7 t8
        refine bodyPost_ret (v := .tuple #[.agg #[.pointer none, .map none, .slice none 0 0, .slice none 0 0, .int .i64 0, .int .i64 0, .int .i64 0, .int .u32 0, .slice none 0 0], .int .i64 10]) ?_ rfl ⟨Or.inl ⟨rfl, rfl⟩, HBl.out.trans (hzz.2.below HBl.out.size (fun k h1 h2 => by have := Hg.out; omega))⟩
        simp [results, Tryz.results46, go_sem, t0, t1, t2, t3, t4, t5, t6, t7, t8]
      · have Hmk := Lib.hid (makeRoom_any g w.heap.size bi p c e mb Z L M.length n kcap t ss M KA R P K true PF KF wr HX.out hC.out hm HL.out Hn.out HK.out (by have := Hg.out; omega) (by omega))
        have Htk := Lib.hid htk
        clear hm Hinv htk
        go_wp2_with fail
        refine Hmk.out.mono ?_
        rintro e7 w7 ⟨rfl, ⟨R7, P7, K7, hW7, hP7, hK7, hl7⟩, hq7⟩
        have HW7 := Lib.hid hW7
        have HP7 := Lib.hid hP7
        have HK7 := Lib.hid hK7
        have HL7 := Lib.hid hl7
        have HQ7 := Lib.hid (HQ.out.trans hq7)
        have q4 : w7.cell? ⟨g, 4, none⟩ = some (.int .i64 P7.h.sec) := HW7.out.plan.blk.cell 4
        have q5 : w7.cell? ⟨g, 5, none⟩ = some (.int .i64 P7.h.next) := HW7.out.plan.blk.cell 5
        have q6 : w7.cell? ⟨g, 6, none⟩ = some (.int .i64 P7.h.left) := HW7.out.plan.blk.cell 6
        have q7 : w7.cell? ⟨g, 7, none⟩ = some (.int .u32 P7.h.txn) := HW7.out.plan.blk.cell 7
        have hgl7 := HW7.out.plan.blk.lt
        have htk7 : takesB P7.h room = true := by
          have h1 := Htk.out
          rw [← HP7.out] at h1
          exact h1
        have Htake := Lib.hid (takes_any P7.h room w7)
        rw [htk7] at Htake
        unfold HeadV.v at Htake
        clear hW7 hP7 hK7 hl7 hq7 Hmk htk7
        go_wp2_with fail
        refine Htake.out.mono ?_
        rintro e8 w8 ⟨rfl, hb8⟩
        have HW8 := Lib.hid (HW7.out.below hC.out hb8)
        have HQ8 := Lib.hid (HQ7.out.trans (PQ.of_below hb8))
        have hBz := HW8.out.plan.blk
        have x0 : w8.cell? ⟨g, 0, none⟩ = some (.pointer (some ⟨p, 0, none⟩)) := hBz.cell 0
        have x1 : w8.cell? ⟨g, 1, none⟩ = some (.map (some mb)) := hBz.cell 1
        have x2 := hBz.cell 2
        have x3 := hBz.cell 3
        have x4 := hBz.cell 4
        have x5 := hBz.cell 5
        have x6 := hBz.cell 6
        have x7 := hBz.cell 7
        have x8 := hBz.cell 8
        simp [planC] at x2 x3 x4 x5 x6 x7 x8
        have y0 := hBz.frozen 0
        have y1 := hBz.frozen 1
        have y2 := hBz.frozen 2
        have y3 := hBz.frozen 3
        have y4 := hBz.frozen 4
        have y5 := hBz.frozen 5
        have y6 := hBz.frozen 6
        have y7 := hBz.frozen 7
        have y8 := hBz.frozen 8
        have hgl8 := hBz.lt
        have HBz := Lib.hid hBz
        clear hb8 Htake hBz q4 q5 q6 q7
        go_wp2_with fail
        obtain ⟨wz, hwz⟩ : ∃ wz, wz = setPlan w8 g p mb (.slice R7.A P7.l.length R7.cap) (.slice KA n kcap) P7.h (.slice R7.As P7.sts.length R7.cs) := ⟨_, rfl⟩
        have hBz2 : Blk wz g 109 (planC p mb (.slice R7.A P7.l.length R7.cap) (.slice KA n kcap) P7.h (.slice R7.As P7.sts.length R7.cs)) := by
          rw [hwz]
          exact setPlan_blk HBz.out
        have hOz : Only (· = g) w8 wz := by rw [hwz]; exact setPlan_only
        unfold setPlan at hwz
        rw [← hwz]
        have t0 : wz.cell? ⟨g, 0, none⟩ = some (.pointer (some ⟨p, 0, none⟩)) := hBz2.cell 0
        have t1 : wz.cell? ⟨g, 1, none⟩ = some (.map (some mb)) := hBz2.cell 1
        have t2 := hBz2.cell 2
        have t3 := hBz2.cell 3
        have t4 := hBz2.cell 4
        have t5 := hBz2.cell 5
        have t6 := hBz2.cell 6
        have t7 := hBz2.cell 7
        have t8 := hBz2.cell 8
        simp [planC] at t2 t3 t4 t5 t6 t7 t8
        have hKz : Keep EP w8 wz := Keep.of_block HBz.out (Or.inl rfl) hOz
        have hpo : PO g w.heap.size w8 wz := ⟨hOz.mono (fun k _ h2 => Or.inl h2), hKz⟩
        have hPz : PlanAt wz g w.heap.size p mb Z (.slice KA n kcap) R7 P7 := ⟨hBz2, HW8.out.plan.secs.far Sc.cells_len HBz.out (by decide) hOz, HW8.out.plan.sts.far (stp_len p Z) HBz.out (by decide) hOz⟩
        have hWz := HW8.out.po hC.out hpo hPz (fun s hs => Or.inl hs)
        have hQz := HQ8.out.trans hpo.pq
        have HBl : Below w.heap.size w wz := Hb6.out.trans (hQz.only.below Hb6.out.size (fun k h1 h2 => by
          rcases h2 with h2 | h2
          · have := Hg.out; omega
          · omega))
        refine bodyPost_ret (v := .tuple #[planV p mb (.slice R7.A P7.l.length R7.cap) (.slice KA n kcap) P7.h (.slice R7.As P7.sts.length R7.cs), .int .i64 0]) ?_ rfl ⟨Or.inr ⟨rfl, g, bi, KA, kcap, R7, P7, K7, ?_, ?_, HP7.out, HK7.out, HL7.out, by have := Hg.out; omega, by have := hQz.size; omega⟩, HBl⟩
        · simp [results, Tryz.results46, go_sem, t0, t1, t2, t3, t4, t5, t6, t7, t8, planV, planC]
        · rw [← Hn.out]
        · rw [← Hn.out]
          exact hWz
      · have Hmk := Lib.hid (makeRoom_any g w.heap.size bi p c e mb Z L M.length n kcap t ss M KA R P K true P1 K1 wr HX.out hC.out hm HL.out Hn.out HK.out (by have := Hg.out; omega) (by omega))
        have Htk := Lib.hid htk
        have H64 := Lib.hid h64
        have Hrest := Lib.hid hrest
        clear hm Hinv htk h64 hrest
        go_wp2_with fail
        refine Hmk.out.mono ?_
        rintro e7 w7 ⟨rfl, ⟨R7, P7, K7, hW7, hP7, hK7, hl7⟩, hq7⟩
        have HW7 := Lib.hid hW7
        have HP7 := Lib.hid hP7
        have HK7 := Lib.hid hK7
        have HL7 := Lib.hid hl7
        have HQ7 := Lib.hid (HQ.out.trans hq7)
        have q4 : w7.cell? ⟨g, 4, none⟩ = some (.int .i64 P7.h.sec) := HW7.out.plan.blk.cell 4
        have q5 : w7.cell? ⟨g, 5, none⟩ = some (.int .i64 P7.h.next) := HW7.out.plan.blk.cell 5
        have q6 : w7.cell? ⟨g, 6, none⟩ = some (.int .i64 P7.h.left) := HW7.out.plan.blk.cell 6
        have q7 : w7.cell? ⟨g, 7, none⟩ = some (.int .u32 P7.h.txn) := HW7.out.plan.blk.cell 7
        have hgl7 := HW7.out.plan.blk.lt
        have htk7 : takesB P7.h room = false := by
          have h1 := Htk.out
          rw [← HP7.out] at h1
          exact h1
        have Htake := Lib.hid (takes_any P7.h room w7)
        rw [htk7] at Htake
        unfold HeadV.v at Htake
        clear hW7 hP7 hK7 hl7 hq7 Hmk htk7
        go_wp2_with fail
        refine Htake.out.mono ?_
        rintro e8 w8 ⟨rfl, hb8⟩
        have HW8 := Lib.hid (HW7.out.below hC.out hb8)
        have HQ8 := Lib.hid (HQ7.out.trans (PQ.of_below hb8))
        clear hb8 Htake q4 q5 q6 q7 hgl7
        go_wp2_with fail
        go_roundw
        case rel => exact ⟨i + 1, R7, P7, K7, by omega, by simp, HW8, Lib.hid (by rw [HP7.out, HK7.out]; exact Hrest.out), HL7, Lib.hid (fun k hk => H64.out k.ks (by rw [← HK7.out]; exact List.mem_map_of_mem hk)), HQ8⟩
        case measure => simp [intOf]; omega
    · have hin : i = 4 * n := by omega
      have hr := HR.out
      rw [hin, Nat.sub_self] at hr
      have hb0 := hr.zero
      subst hb0
      have HBl := Lib.hid (Hb6.out.trans (HQ.out.only.below Hb6.out.size (fun k h1 h2 => by
        rcases h2 with h2 | h2
        · have := Hg.out; omega
        · omega)))
      have hil : ¬ (i : Int) < 4 * (n : Int) := by omega
      clear hr hin HR
      have hBz := HX.out.plan.blk
      have y0 := hBz.frozen 0
      have y1 := hBz.frozen 1
      have y2 := hBz.frozen 2
      have y3 := hBz.frozen 3
      have y4 := hBz.frozen 4
      have y5 := hBz.frozen 5
      have y6 := hBz.frozen 6
      have y7 := hBz.frozen 7
      have y8 := hBz.frozen 8
      have x0 : wr.cell? ⟨g, 0, none⟩ = some (.pointer (some ⟨p, 0, none⟩)) := hBz.cell 0
      have x1 : wr.cell? ⟨g, 1, none⟩ = some (.map (some mb)) := hBz.cell 1
      have x2 := hBz.cell 2
      have x3 := hBz.cell 3
      have x4 := hBz.cell 4
      have x5 := hBz.cell 5
      have x6 := hBz.cell 6
      have x7 := hBz.cell 7
      have x8 := hBz.cell 8
      simp [planC] at x2 x3 x4 x5 x6 x7 x8
      have hglz := hBz.lt
      have HBz := Lib.hid hBz
      clear hBz
      go_wp2_with fail
      obtain ⟨wz, hwz⟩ : ∃ wz, wz = (((((((((wr.setCell ⟨g, 0, none⟩ (.pointer none)).setCell ⟨g, 1, none⟩ (.map none)).setCell ⟨g, 2, none⟩ (.slice none 0 0)).setCell ⟨g, 3, none⟩ (.slice none 0 0)).setCell ⟨g, 4, none⟩ (.int .i64 0)).setCell ⟨g, 5, none⟩ (.int .i64 0)).setCell ⟨g, 6, none⟩ (.int .i64 0)).setCell ⟨g, 7, none⟩ (.int .u32 0)).setCell ⟨g, 8, none⟩ (.slice none 0 0)) := ⟨_, rfl⟩
      have hzz := setZero HBz.out
      rw [← hwz] at hzz ⊢
      have t0 := hzz.1.cell 0
      have t1 := hzz.1.cell 1
      have t2 := hzz.1.cell 2
      have t3 := hzz.1.cell 3
      have t4 := hzz.1.cell 4
      have t5 := hzz.1.cell 5
      have t6 := hzz.1.cell 6
      have t7 := hzz.1.cell 7
      have t8 := hzz.1.cell 8
      simp at t0 t1 t2 t3 t4 t5 t6 t7 t8
      refine bodyPost_ret (v := .tuple #[.agg #[.pointer none, .map none, .slice none 0 0, .slice none 0 0, .int .i64 0, .int .i64 0, .int .i64 0, .int .u32 0, .slice none 0 0], .int .i64 10]) ?_ rfl ⟨Or.inl ⟨rfl, rfl⟩, HBl.out.trans (hzz.2.below HBl.out.size (fun k h1 h2 => by have := Hg.out; omega))⟩
      simp [results, Tryz.results46, go_sem, t0, t1, t2, t3, t4, t5, t6, t7, t8]

end Go.Proofs.YtnhfmcijadficaaGreatDoor

/- Steps without where they lie; blob's plan, whole: what it leaves for a commit. -/
namespace Go.Proofs.YtnhfmcijadficaaGreatDoor
set_option maxRecDepth 100000
open Go.RowKit Go.Maps

theorem nm_may (l : List Ch) : (∀ f ∈ l.map Ch.nm, f.may = true) ↔ ∀ f ∈ l, f.may = true := by
  simp only [List.mem_map]
  constructor
  · intro h f hf
    exact h f.nm ⟨f, hf, rfl⟩
  · rintro h _ ⟨f, hf, rfl⟩
    exact h f hf
theorem nm_commitB (l : List Ch) (t : Nat) : commitB (l.map Ch.nm) t = commitB l t := by
  unfold commitB recsL
  rw [List.map_map, List.length_map, List.flatMap_append, List.flatMap_append, List.flatMap_map, List.flatMap_map]
  congr 2
theorem nm_run (Z : Nat) (ss : List (Nat × List UInt8)) (s : Stp) : s.nm.run Z ss = s.run Z ss := by
  cases s with
  | lay k o t A n cap l => show ss.set k _ = ss.set k _; rw [nm_commitB]
  | _ => rfl
theorem nm_ok (Z L : Nat) (ss : List (Nat × List UInt8)) (s : Stp) : s.nm.Ok Z L ss ↔ s.Ok Z L ss := by
  cases s with
  | lay k o t A n cap l =>
    show (∃ m xs, ss[k]? = some (m, xs) ∧ (∀ f ∈ l.map Ch.nm, f.may = true) ∧ n ≤ 16 ∧ t ≠ 0 ∧ t ≤ 4294967295 ∧ o + roomL (l.map Ch.nm) ≤ Z ∧ Blank xs o (roomL (l.map Ch.nm))) ↔ ∃ m xs, ss[k]? = some (m, xs) ∧ (∀ f ∈ l, f.may = true) ∧ n ≤ 16 ∧ t ≠ 0 ∧ t ≤ 4294967295 ∧ o + roomL l ≤ Z ∧ Blank xs o (roomL l)
    rw [nm_sz, nm_may]
  | _ => rfl
theorem nm_oks (Z L : Nat) : ∀ (l : List Stp) (ss : List (Nat × List UInt8)), Stp.Oks Z L ss (l.map Stp.nm) → Stp.Oks Z L ss l
  | [], _, _ => trivial
  | s :: l, ss, h => ⟨(nm_ok Z L ss s).1 h.1, nm_oks Z L l _ (by rw [← nm_run]; exact h.2)⟩
theorem nm_runs (Z : Nat) : ∀ (l : List Stp) (ss : List (Nat × List UInt8)), Stp.runs Z ss (l.map Stp.nm) = Stp.runs Z ss l
  | [], _ => rfl
  | s :: l, ss => by
    show Stp.runs Z (s.nm.run Z ss) (l.map Stp.nm) = Stp.runs Z (s.run Z ss) l
    rw [nm_run, nm_runs Z l]

/-- What a plan leaves in memory. -/
structure PR (w : World) (base bi p Z : Nat) (M : Al Sv) (KA : Option Addr) (kn kcap : Nat) (R : PP) (P : PV) (K : List Kr) : Prop where
  secs : GotR Sc.cells 3 96 base w R.A P.l.length R.cap P.l
  sts : GotR (Stp.cells p Z) 1 150 base w R.As P.sts.length R.cs P.sts
  keys : KeysAt w base bi KA kcap K
  kn : K.length = kn
  at_ : ∀ s ∈ P.sts, StAt w base M s
theorem PR.below {w w' : World} {base bi p Z : Nat} {M : Al Sv} {KA : Option Addr} {kn kcap : Nat} {R : PP} {P : PV} {K : List Kr} (h : PR w base bi p Z M KA kn kcap R P K) (b : Below w.heap.size w w') : PR w' base bi p Z M KA kn kcap R P K :=
  ⟨h.secs.below Sc.cells_len b, h.sts.below (stp_len p Z) b, h.keys.below b, h.kn, fun s hs => (h.at_ s hs).pq (g := 0) (PQ.of_below b)⟩

/-- How blob's plan ends where there is room. -/
def PlanEnd (base p mb Z : Nat) (M : Al Sv) (PF : PV) (KF : List (List (List UInt8))) (w' : World) (e1 : Ending) : Prop :=
  ∃ bi KA kn kcap R P K, e1 = .returned (.tuple #[planV p mb (.slice R.A P.l.length R.cap) (.slice KA kn kcap) P.h (.slice R.As P.sts.length R.cs), .int .i64 0]) ∧ PR w' base bi p Z M KA kn kcap R P K ∧ P.nm = PF ∧ K.map Kr.ks = KF ∧ bi ≤ w'.heap.size
/-- What a plan comes to. -/
def PlanM (Z L : Nat) (M : Al Sv) (h : HeadV) (ss : List (Nat × List UInt8)) (room : Int) (PF : PV) (KF : List (List (List UInt8))) : Prop :=
  (takesB h room = true ∧ PF = ⟨[], h, []⟩ ∧ KF = []) ∨ (takesB h room = false ∧ Rounds Z L M room (4 * ss.length) ⟨secsOf ss, h, []⟩ (kbsL M ss.length (M.map (·.1))) true PF KF)

theorem plan_any (s mb p c e Z L : Nat) (M : Al Sv) (h : HeadV) (d : Bool) (ss : List (Nat × List UInt8)) (room : Int) (PF : PV) (KF : List (List (List UInt8))) (w : World) (hS : StoreAt w s mb p c e M h d) (hs : FS w p c e Z L ss) (hMark : Mark w) (hM : M.length ≤ 1048576) (hF : FairM M) (hsecs : SecsIn M ss.length)
    (hR : PlanM Z L M h ss room PF KF) :
    Calls Tryz.prog 46 #[.pointer (some ⟨s, 0, none⟩), .int .i64 room] w fun e1 w' => PlanEnd w.heap.size p mb Z M PF KF w' e1 ∧ Below w.heap.size w w' := by
  rcases hR with ⟨ht, rfl, rfl⟩ | ⟨ht, hR⟩
  · refine (plan_now s mb p c e M h d room w hS ht).mono ?_
    rintro e1 w' ⟨rfl, hb⟩
    refine ⟨⟨w.heap.size, none, 0, 0, ⟨none, 0, none, 0⟩, ⟨[], h, []⟩, [], rfl, ⟨GotR.nil_ _ _ _ _ _, GotR.nil_ _ _ _ _ _, ⟨Nat.le_refl _, GotR.nil_ _ _ _ _ _, fun i k hk => by simp at hk, fun i j a b ha => by simp at ha⟩, rfl, fun s hs => by cases hs⟩, rfl, rfl, hb.size⟩, hb⟩
  · refine (plan_made s mb p c e Z L M h d ss room true PF KF w hS hs hMark hM hF hsecs ht hR).mono ?_
    rintro e1 w' ⟨hp, hb⟩
    refine ⟨?_, hb⟩
    rcases hp with ⟨h0, _⟩ | ⟨_, g, bi, KA, kcap, R, P, K, rfl, hW, hP, hK, hl, hg, hbi⟩
    · cases h0
    · exact ⟨bi, KA, ss.length, kcap, R, P, K, rfl, ⟨hW.plan.secs, hW.plan.sts, hW.keys, hW.kn, hW.sts⟩, hP, hK, hbi⟩

end Go.Proofs.YtnhfmcijadficaaGreatDoor
