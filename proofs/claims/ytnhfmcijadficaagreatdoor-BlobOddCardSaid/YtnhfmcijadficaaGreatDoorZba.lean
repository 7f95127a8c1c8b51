/- The walk over blob's settle, whole. -/
import Derived.Test.YtnhfmcijadficaaGreatDoorZaz
import Derived.Test.YtnhfmcijadficaaGreatDoorZaq
namespace Go.Proofs.YtnhfmcijadficaaGreatDoor
set_option maxRecDepth 100000
open Go.RowKit Go.Maps

theorem StoreAt.set_head {w : World} {s mb p c e : Nat} {M : Al Sv} {h : HeadV} {d : Bool} (k : StoreAt w s mb p c e M h d) (x : HeadV) :
    StoreAt ((((w.setCell ⟨s, 2, none⟩ (.int .i64 x.sec)).setCell ⟨s, 3, none⟩ (.int .i64 x.next)).setCell ⟨s, 4, none⟩ (.int .i64 x.left)).setCell ⟨s, 5, none⟩ (.int .u32 x.txn)) s mb p c e M x d ∧
      Only (· = s) w ((((w.setCell ⟨s, 2, none⟩ (.int .i64 x.sec)).setCell ⟨s, 3, none⟩ (.int .i64 x.next)).setCell ⟨s, 4, none⟩ (.int .i64 x.left)).setCell ⟨s, 5, none⟩ (.int .u32 x.txn)) := by
  have hO : Only (· = s) w ((((w.setCell ⟨s, 2, none⟩ (.int .i64 x.sec)).setCell ⟨s, 3, none⟩ (.int .i64 x.next)).setCell ⟨s, 4, none⟩ (.int .i64 x.left)).setCell ⟨s, 5, none⟩ (.int .u32 x.txn)) :=
    ((((Only.refl (· = s) w).setCell (p := ⟨s, 2, none⟩) (Or.inl rfl) _).setCell (p := ⟨s, 3, none⟩) (Or.inl rfl) _).setCell (p := ⟨s, 4, none⟩) (Or.inl rfl) _).setCell (p := ⟨s, 5, none⟩) (Or.inl rfl) _
  refine ⟨⟨?_, k.map.only hO k.ne, k.bl.only hO (fun i _ h => Or.inl h)⟩, hO⟩
  have h1 := (((k.blk.set_ 2 (.int .i64 x.sec)).set_ 3 (.int .i64 x.next)).set_ 4 (.int .i64 x.left)).set_ 5 (.int .u32 x.txn)
  have e : ((((storeC p mb h d).setIfInBounds 2 (.int .i64 x.sec)).setIfInBounds 3 (.int .i64 x.next)).setIfInBounds 4 (.int .i64 x.left)).setIfInBounds 5 (.int .u32 x.txn) = storeC p mb x d := by simp [storeC]
  rw [e] at h1
  exact h1

set_option maxHeartbeats 2000000 in
theorem settle_any (s mb p c e base bi : Nat) (A : Option Addr) (cap : Nat) (K : List Kr) (M : Al Sv) (h0 h : HeadV) (d : Bool) (vs vst : Value) (w : World) (hS : StoreAt w s mb p c e M h0 d) (hK : KeysAt w base bi A cap K) (hM : M.length ≤ 1048576) (hF : FairM M) (hall : ∀ k ∈ K, ∀ x ∈ k.ks, (afind M x).isSome = true)
    (hsb : s < base ∧ mb < base) (hb : base ≤ w.heap.size) (hnK : K.length ≤ 1048576) (hnk : ∀ k ∈ K, k.ks.length ≤ 1048576) :
    Calls Tryz.prog 49 #[.pointer (some ⟨s, 0, none⟩), planV p mb vs (.slice A K.length cap) h vst] w fun e1 w' => e1 = .returned (.tuple #[]) ∧ Settling w' s mb p c e base bi M.length A cap K h d (reSecK 0 (amap Sv.a M) (K.map Kr.ks)) w := by
  obtain ⟨hsec, hnext, hleft, htxn⟩ := h
  unfold planV planC
  simp only
  have HK := Lib.hid hK
  have HA := Lib.hid hall
  have HF := Lib.hid hF
  have HNk := Lib.hid hnk
  have hsl : s < w.heap.size := hS.blk.lt
  have hml : mb < w.heap.size := hS.map.lt
  have hne : mb ≠ s := hS.ne
  have q2 : w.cell? ⟨s, 2, none⟩ = some (.int .i64 h0.sec) := hS.blk.cell 2
  have q3 : w.cell? ⟨s, 3, none⟩ = some (.int .i64 h0.next) := hS.blk.cell 3
  have q4 : w.cell? ⟨s, 4, none⟩ = some (.int .i64 h0.left) := hS.blk.cell 4
  have q5 : w.cell? ⟨s, 5, none⟩ = some (.int .u32 h0.txn) := hS.blk.cell 5
  have r2 := hS.blk.frozen 2
  have r3 := hS.blk.frozen 3
  have r4 := hS.blk.frozen 4
  have r5 := hS.blk.frozen 5
  have hsh := hS.set_head ⟨hsec, hnext, hleft, htxn⟩
  have Hsh := Lib.hid hsh
  have hcapA : K.length ≤ cap := hK.outer.row.2.1
  have hcapA2 : cap ≤ 9223372036854775807 := by have := hK.outer.row.2.2.1; unfold maxLen at this; omega
  clear hS hK hall hF hnk hsh
  go_enter Tryz.func49, Tryz.ntmps49
  go_wp2_with fail
  obtain ⟨w0, hw0⟩ : ∃ w0, w0 = ((((w.setCell ⟨s, 2, none⟩ (.int .i64 hsec)).setCell ⟨s, 3, none⟩ (.int .i64 hnext)).setCell ⟨s, 4, none⟩ (.int .i64 hleft)).setCell ⟨s, 5, none⟩ (.int .u32 htxn)) := ⟨_, rfl⟩
  rw [← hw0] at Hsh ⊢
  have hal := (Below.refl w0.heap.size w0).alloc (Nat.le_refl _) (.cells #[.pointer (some ⟨p, 0, none⟩), .map (some mb), vs, .slice A K.length cap, .int .i64 hsec, .int .i64 hnext, .int .i64 hleft, .int .u32 htxn, vst] 109)
  obtain ⟨w1, hw1⟩ : ∃ w1, w1 = w0.alloc (.cells #[.pointer (some ⟨p, 0, none⟩), .map (some mb), vs, .slice A K.length cap, .int .i64 hsec, .int .i64 hnext, .int .i64 hleft, .int .u32 htxn, vst] 109) := ⟨_, rfl⟩
  rw [← hw1] at hal ⊢
  have hO1 : Only (fun q => q = s ∨ q = mb) w w1 := (Hsh.out.2.mono (T := fun q => q = s ∨ q = mb) (fun _ _ h => Or.inl h)).trans (Only.of_below (S := fun q => q = s ∨ q = mb) hal)
  have HS1 : Hid (Settling w1 s mb p c e base bi M.length A cap K ⟨hsec, hnext, hleft, htxn⟩ d (amap Sv.a M) w) := Lib.hid ⟨⟨M, Hsh.out.1.below hal, rfl, rfl, HF.out, HA.out⟩, HK.out.only hO1 (fun i h1 _ h2 => by omega), hO1⟩
  obtain ⟨X0, hX0⟩ : ∃ X0, X0 = amap Sv.a M := ⟨_, rfl⟩
  obtain ⟨nM, hnM⟩ : ∃ nM, nM = M.length := ⟨_, rfl⟩
  rw [← hX0, ← hnM] at HS1
  rw [← hnM] at hM
  have HX0 := Lib.hid hX0
  have HnM := Lib.hid hnM
  clear hw0 hw1 hal Hsh hO1 HF HA HK q2 q3 q4 q5 r2 r3 r4 r5 hX0 hnM
  go_loopw [16] (fun v wr => ∃ (i : Nat), i ≤ K.length ∧ v = .int .i64 (i : Int) ∧ Hid (Settling wr s mb p c e base bi nM A cap K ⟨hsec, hnext, hleft, htxn⟩ d (reSecK 0 X0 ((K.take i).map Kr.ks)) w)) (fun v _ => K.length - (intOf v).toNat)
  case atStart => exact ⟨0, Nat.zero_le _, rfl, HS1⟩
  case round =>
    obtain ⟨i, hi, rfl, HX⟩ := hrel
    by_cases hlt : i < K.length
    · obtain ⟨k, hk⟩ : ∃ k, K[i]? = some k := ⟨_, List.getElem?_eq_getElem hlt⟩
      obtain ⟨g, rfl⟩ : ∃ g, A = some ⟨g, 0, none⟩ := by
        rcases HX.out.keys.outer.here with hn | ⟨g, cur, he, _⟩
        · have := (HX.out.keys.outer.isNil hn).1
          omega
        · exact ⟨g, he⟩
      have Hk := Lib.hid hk
      obtain ⟨c0, -, hgl⟩ := HX.out.keys.outer.cell1 hk rfl
      have hkl := HNk.out k (List.mem_of_getElem? hk)
      have hsn := reSecK_snoc ((K.take i).map Kr.ks) 0 X0 k.ks
      have htk := take_snoc K i k hk
      have e1 : (K.take i).map Kr.ks ++ [k.ks] = (K.take (i + 1)).map Kr.ks := by rw [htk, List.map_append]; rfl
      rw [e1, List.length_map, List.length_take, Nat.min_eq_left hi, Nat.zero_add] at hsn
      have Hsn := Lib.hid hsn
      obtain ⟨Xi, hXi⟩ : ∃ Xi, Xi = reSecK 0 X0 ((K.take i).map Kr.ks) := ⟨_, rfl⟩
      rw [← hXi] at HX Hsn
      clear hk hsn htk e1 hXi
      go_wp2_with fail
      go_loopw [23] (fun v wr => ∃ (j : Nat), j ≤ k.ks.length ∧ v = .int .i64 (j : Int) ∧ Hid (Settling wr s mb p c e base bi nM (some ⟨g, 0, none⟩) cap K ⟨hsec, hnext, hleft, htxn⟩ d (reSecL (i : Int) Xi (k.ks.take j)) w)) (fun v _ => k.ks.length - (intOf v).toNat)
      case atStart => exact ⟨0, Nat.zero_le _, rfl, HX⟩
      case round =>
        obtain ⟨j, hj, rfl, HY⟩ := hrel
        by_cases hjl : j < k.ks.length
        · have hki := HY.out.keys.inner i k Hk.out
          obtain ⟨b, o, x, hkA, hb, -, hx, hc⟩ := hki.row.at_ hjl
          have d0 := hc 0 (by omega)
          simp only [strC, List.getElem?_cons_zero, Nat.mul_one, Nat.add_zero] at d0
          have htk := take_snoc k.ks j x hx
          have hsn2 := reSecL_snoc (i : Int) Xi (k.ks.take j) x
          rw [← htk] at hsn2
          have Hsn2 := Lib.hid hsn2
          have hx64 : x.length ≤ 64 := by
            obtain ⟨M2, _, _, _, hf2, ha2⟩ := HY.out.st
            have h1 := ha2 k (List.mem_of_getElem? Hk.out) x (List.mem_of_getElem? hx)
            obtain ⟨f, hf⟩ := Option.isSome_iff_exists.1 h1
            exact (hf2 _ (afind_mem hf)).1
          obtain ⟨f, w2, hlook, hput, hS2, hs2⟩ := settle_one s mb p c e base bi nM i (some ⟨g, 0, none⟩) cap K ⟨hsec, hnext, hleft, htxn⟩ d _ w wr.drew x hx64 hM ⟨k, List.mem_of_getElem? Hk.out, List.mem_of_getElem? hx⟩ hsb HY.out.drew
          obtain ⟨fsec, fg, fn, fc, fx⟩ := f
          unfold Sv.v at hlook hput
          simp only at hlook hput
          have hfld := stand_field1 fsec (adr fg) fn fc
          have hs1 : wr.drew.cell? ⟨s, 1, none⟩ = some (.map (some mb)) := by
            obtain ⟨M2, h2, _⟩ := HY.out.drew.st
            exact h2.blk.cell 1
          have HS2 := Lib.hid hS2
          rw [hkA]
          clear hki hc hx htk hsn2 hS2
          go_wp2_with fail
          go_region_held3 (fun W => W.cell? ⟨s, 1, none⟩ = some (.map (some mb))) (first | with_reducible exact hs1 | with_reducible exact hs2) ((fail))
          go_wp2_with fail
          go_roundw
          case rel => exact ⟨j + 1, by omega, by simp, Lib.hid (by rw [Hsn2.out]; exact HS2.out)⟩
          case measure => simp [intOf]; omega
        · have hjn : j = k.ks.length := by omega
          subst hjn
          rw [List.take_length, ← Hsn.out] at HY
          go_wp2_with fail
          go_roundw
          case rel => exact ⟨i + 1, by omega, by simp, HY⟩
          case measure => simp [intOf]; omega
    · have hin : i = K.length := by omega
      subst hin
      rw [List.take_length] at HX
      go_wp2_with fail
      go_end0
      refine ⟨rfl, ?_⟩
      rw [← HX0.out, ← HnM.out]
      exact HX.out

end Go.Proofs.YtnhfmcijadficaaGreatDoor

/- The walks over blob's letGo and a plan's letGo. -/
namespace Go.Proofs.YtnhfmcijadficaaGreatDoor
set_option maxRecDepth 100000
open Go.RowKit

/-- The steps by which a sector is let go. -/
def goSts (L i : Nat) (s : Sc) : List Stp := if (L : Int) ≤ s.er then [.void i] else [.void i, .erase i]
/-- A plan behind them. -/
def PV.letGo (P : PV) (L i : Nat) (s : Sc) : PV := ⟨P.l.set i (if (L : Int) ≤ s.er then ⟨1, 0, s.er⟩ else ⟨0, 0, s.er + 1⟩), P.h, P.sts ++ goSts L i s⟩

set_option maxHeartbeats 1000000 in
theorem letGo_any (p c e Z L i : Nat) (s : Sc) (ss : List (Nat × List UInt8)) (w : World) (hs : FS w p c e Z L ss) :
    Calls Tryz.prog 42 #[.pointer (some ⟨p, 0, none⟩), .int .i64 (i : Int), .agg #[.int .i64 s.st, .int .u32 s.q, .int .i64 s.er]] w fun e1 w' => (∃ b, e1 = .returned (.slice (some ⟨b, 0, none⟩) (goSts L i s).length (goSts L i s).length) ∧ RowSl (Stp.cells p Z) 1 w' Empty (some ⟨b, 0, none⟩) (goSts L i s).length (goSts L i s).length (goSts L i s)) ∧ Below w.heap.size w w' := by
  obtain ⟨st, q, er⟩ := s
  simp only
  have hg := geo_field2 (ss.length : Int) (Z : Int) (L : Int)
  have HS := Lib.hid hs
  have HC : Hid (∀ W, Only Empty ((w.alloc (.cells #[.int .i64 st, .int .u32 q, .int .i64 er] 96)).alloc (.cells #[.pointer (some ⟨p, 0, none⟩), .int .i64 (i : Int), .int .u32 0] 152)) W → W.cell? ⟨w.heap.size, 2, none⟩ = some (.int .i64 er)) :=
    Lib.hid (fun W hW => (hW.blk ((Blk.new w 96 #[.int .i64 st, .int .u32 q, .int .i64 er]).alloc _) (fun h => h)).cell 2)
  have HB2 : Hid (∀ W, Only Empty ((w.alloc (.cells #[.int .i64 st, .int .u32 q, .int .i64 er] 96)).alloc (.cells #[.pointer (some ⟨p, 0, none⟩), .int .i64 (i : Int), .int .u32 0] 152)) W → FS W p c e Z L ss ∧ Below w.heap.size w W ∧ Blk W (w.heap.size + 1) 152 #[.pointer (some ⟨p, 0, none⟩), .int .i64 (i : Int), .int .u32 0]) :=
    Lib.hid (fun W hW => by
      have h1 := (Below.refl w.heap.size w).alloc (Nat.le_refl _) (.cells #[.int .i64 st, .int .u32 q, .int .i64 er] 96)
      have h2 := h1.alloc (by simp) (.cells #[.pointer (some ⟨p, 0, none⟩), .int .i64 (i : Int), .int .u32 0] 152)
      have h3 : Below w.heap.size w W := h2.trans (hW.below (by simp; omega) (fun _ _ h => h))
      have h4 := hW.blk (Blk.new (w.alloc (.cells #[.int .i64 st, .int .u32 q, .int .i64 er] 96)) 152 #[.pointer (some ⟨p, 0, none⟩), .int .i64 (i : Int), .int .u32 0]) (fun h => h)
      exact ⟨hs.below h3, h3, by simpa using h4⟩)
  clear hs
  go_enter Tryz.func42, Tryz.ntmps42
  go_wp2_with fail
  have hD := (Only.refl Empty ((w.alloc (.cells #[.int .i64 st, .int .u32 q, .int .i64 er] 96)).alloc (.cells #[.pointer (some ⟨p, 0, none⟩), .int .i64 (i : Int), .int .u32 0] 152))).drew
  have hs1 := HC.out _ hD
  have HD := Lib.hid hD
  clear hD
  first | (go_region_held3 (fun W => W.cell? ⟨w.heap.size, 2, none⟩ = some (.int .i64 er)) (first | with_reducible exact hs1 | with_reducible exact hs10)
    ((go_at_call 39; (with_reducible refine ((HB2.out _ HD.out).1.geo).mono ?_); rintro e10 w10 ⟨rfl, hb10⟩; have hO10 := HD.out.trans (Only.of_below (S := Empty) hb10); have hs10 := HC.out _ hO10))) | fail
  have hB := HB2.out _ hO10
  have hc := hB.2.2
  have t0 := hc.cell 0
  have t1 := hc.cell 1
  have t2 := hc.cell 2
  have hml := hc.lt
  simp at t0 t1 t2
  have HB := Lib.hid hB.2.1
  clear hb10 hO10 hs10 hs1 hB hc HD HB2 HC
  by_cases hL : (L : Int) ≤ er
  · have hL2 : ¬ er < (L : Int) := by omega
    have He : Hid (goSts L i ⟨st, q, er⟩ = [.void i]) := Lib.hid (if_pos hL)
    have Hr := Lib.hid (RowSl.lit (stp_len p Z) w10 Empty 150 [.void i] 1 [Stp.v p Z (.void i)] rfl rfl (by decide) (fun h => h))
    have Hal := Lib.hid ((Below.refl w10.heap.size w10).alloc (Nat.le_refl _) (.cells #[Stp.v p Z (.void i)] 150))
    go_wp2_with fail
    go_ret
    refine ⟨⟨w10.heap.size, ?_, ?_⟩, HB.out.trans (Hal.out.mono HB.out.size)⟩
    · rw [He.out]; rfl
    · rw [He.out]; exact Hr.out
  · have hL2 : er < (L : Int) := by omega
    have He : Hid (goSts L i ⟨st, q, er⟩ = [.void i, .erase i]) := Lib.hid (if_neg hL)
    have Hr := Lib.hid (RowSl.lit (stp_len p Z) w10 Empty 150 [.void i, .erase i] 2 [Stp.v p Z (.void i), Stp.v p Z (.erase i)] rfl rfl (by decide) (fun h => h))
    have Hal := Lib.hid ((Below.refl w10.heap.size w10).alloc (Nat.le_refl _) (.cells #[Stp.v p Z (.void i), Stp.v p Z (.erase i)] 150))
    go_wp2_with fail
    go_ret
    refine ⟨⟨w10.heap.size, ?_, ?_⟩, HB.out.trans (Hal.out.mono HB.out.size)⟩
    · rw [He.out]; rfl
    · rw [He.out]; exact Hr.out

section
variable {w w' : World} {g base p mb Z : Nat} {vk : Value} {R : PP} {P : PV}
/-- append of steps that lie in a row, as an equation; what is then stored. -/
theorem PlanAt.steps_run (h : PlanAt w g base p mb Z vk R P) {b n : Nat} {l : List Stp} (hrow : RowSl (Stp.cells p Z) 1 w Empty (some ⟨b, 0, none⟩) n n l) (hn : P.sts.length + n ≤ 16777216) (hbase : base ≤ w.heap.size) :
    ∃ As cs w2, (Builtin.append_ #[93, 93] 93 #[.slice R.As P.sts.length R.cs, .slice (some ⟨b, 0, none⟩) n n]).run Tryz.prog w = .ok (.slice As (P.sts.length + n) cs) w2 ∧
      PlanAt (w2.setCell ⟨g, 8, none⟩ (.slice As (P.sts.length + n) cs)) g base p mb Z vk { R with As := As, cs := cs } { P with sts := P.sts ++ l } ∧ PO g base w (w2.setCell ⟨g, 8, none⟩ (.slice As (P.sts.length + n) cs)) ∧ PO g base w w2 ∧
      Blk w2 g 109 (planC p mb (.slice R.A P.l.length R.cap) vk P.h (.slice R.As P.sts.length R.cs)) ∧ GotR Sc.cells 3 96 base w2 R.A P.l.length R.cap P.l := by
  obtain ⟨As, cs, w2, hr, hG, hgr, hro⟩ := run_append_rows (stp_len p Z) (stp_one p Z) (by decide) 93 150 _ 8 Tryz.underlying93 Tryz.infoStep (by simp [Value.cells]) (by decide) 93 base R.As P.sts.length R.cs P.sts h.sts _ n n l hrow hn hbase
  have h2 := h.grow_steps (w' := w2) (row := (Value.slice R.As P.sts.length R.cs).ownBlock) (fun q h => h) hgr
  have e : (P.sts ++ l).length = P.sts.length + n := by rw [List.length_append, hrow.1]
  have h3 := plan_steps (R := R) (P := P) h2.1 h2.2 (As := As) (cs := cs) (sts := P.sts ++ l) (by rw [e]; exact hG)
  rw [e] at h3
  have hO1 : PO g base w w2 := ⟨Only.of_grown hgr (fun k e _ => Or.inr (hro k e)), by
    rcases h.sts.own.2 with ⟨hnil, _⟩ | ⟨g', cap', cur, hv, hbase, hb, _⟩
    · rw [hnil] at hgr
      exact Keep.of_empty (Only.of_grown hgr (fun k e _ => by cases e))
    · have hB : Blk w g' 150 cur := hb
      rw [hv] at hgr
      exact Keep.of_block hB (Or.inr (Or.inr rfl)) (Only.of_grown hgr (fun k e _ => by cases e; rfl))⟩
  exact ⟨As, cs, w2, hr, h3.1, hO1.trans h3.2, hO1, h2.1, h2.2⟩
end

end Go.Proofs.YtnhfmcijadficaaGreatDoor

/- The walk over a plan's letGo. (Printed by gen/gen_ky.py.) -/
namespace Go.Proofs.YtnhfmcijadficaaGreatDoor
set_option maxRecDepth 100000
open Go.RowKit

set_option maxHeartbeats 4000000 in
theorem pLetGo_any (g base p c e mb Z L : Nat) (vk : Value) (R : PP) (P : PV) (i : Nat) (s : Sc) (ss : List (Nat × List UInt8)) (w : World) (hP : PlanAt w g base p mb Z vk R P) (hs : FS w p c e Z L ss) (hTh : ∀ q, Three p c e q → q < base ∧ q ≠ g) (hn : P.l.length ≤ 64) (hst : P.sts.length ≤ 1000000)
    (hbase : base ≤ w.heap.size) (hi : P.l[i]? = some s) (her : 0 ≤ s.er ∧ s.er ≤ 2097152) :
    Calls Tryz.prog 165 #[.pointer (some ⟨g, 0, none⟩), .int .i64 (i : Int)] w fun e1 w' => e1 = .returned (.tuple #[]) ∧ (∃ R', PlanAt w' g base p mb Z vk R' (P.letGo L i s)) ∧ PO g base w w' := by
  obtain ⟨A, cap, As, cs⟩ := R
  have hilt : i < P.l.length := (List.getElem?_eq_some_iff.1 hi).1
  obtain ⟨b, cur, hA, hb, hB, hbg, hcl⟩ := hP.gs hilt
  simp only at hA
  subst hA
  obtain ⟨st, q, er⟩ := s
  simp only at her
  have hcapm : P.l.length ≤ cap := hP.secs.row.2.1
  obtain ⟨m, hm⟩ : ∃ m, m = P.l.length := ⟨_, rfl⟩
  obtain ⟨k, hk⟩ : ∃ k, k = P.sts.length := ⟨_, rfl⟩
  obtain ⟨n2, hn2⟩ : ∃ n2, n2 = (goSts L i ⟨st, q, er⟩).length := ⟨_, rfl⟩
  have hn22 : n2 ≤ 2 := by rw [hn2]; unfold goSts; split <;> simp
  have Hm := Lib.hid hm
  have Hk := Lib.hid hk
  have Hn2 := Lib.hid hn2
  have hsD := hs.of (Only.refl Empty w).drew (fun h => h) (fun h => h) (fun h => h)
  have Hlg := Lib.hid (letGo_any p c e Z L i ⟨st, q, er⟩ ss w.drew hsD)
  rw [← hn2] at Hlg
  simp only at Hlg
  have HP1 := Lib.hid hP.drew
  have HSS : Hid (∀ W {vst : Value}, PO g base w.drew W → Blk W g 109 (planC p mb (.slice (some ⟨b, 0, none⟩) P.l.length cap) vk P.h vst) → GotR Sc.cells 3 96 base W (some ⟨b, 0, none⟩) P.l.length cap P.l → W.cell? ⟨g, 0, none⟩ = some (.pointer (some ⟨p, 0, none⟩)) ∧ W.cell? ⟨g, 2, none⟩ = some (.slice (some ⟨b, 0, none⟩) m cap) ∧ W.cell? ⟨b, i * 3, none⟩ = some (.int .i64 st) ∧ W.cell? ⟨b, i * 3 + 1, none⟩ = some (.int .u32 q) ∧ W.cell? ⟨b, i * 3 + 2, none⟩ = some (.int .i64 er)) := Lib.hid (fun W vst _ h1 h2 => by
    obtain ⟨b2, o2, he2, _, _, hc⟩ := h2.row.2.2.2 (by omega)
    cases he2
    have d0 := hc i _ hi 0 (by omega)
    have d1 := hc i _ hi 1 (by omega)
    have d2 := hc i _ hi 2 (by omega)
    simp [Sc.cells] at d0 d1 d2
    exact ⟨h1.cell 0, by rw [hm]; exact h1.cell 2, d0, d1, d2⟩)
  have hs1 := HSS.out w.drew (PO.refl _ _ _) HP1.out.blk HP1.out.secs
  have c8 : w.drew.cell? ⟨g, 8, none⟩ = some (.slice As k cs) := by rw [hk]; exact HP1.out.blk.cell 8
  have hgl : g < w.drew.heap.size := HP1.out.blk.lt
  have hst2 : k ≤ 1000000 := by rw [hk]; exact hst
  have him : i < m := by rw [hm]; exact hilt
  have hmcap : m ≤ cap := by rw [hm]; exact hcapm
  have hit : i * 3 ≤ 192 := by omega
  have Hrest : Hid (∀ W R2, PlanAt W g base p mb Z vk R2 { P with sts := P.sts ++ goSts L i ⟨st, q, er⟩ } → PO g base w.drew W → True) := Lib.hid (fun _ _ _ _ => trivial)
  have HS := Lib.hid hsD
  have HTh := Lib.hid hTh
  have Hi := Lib.hid hi
  clear hTh hP hs hi hB hcl hm hk hn2 hilt hcapm hst hsD hn
  go_enter Tryz.func165, Tryz.ntmps165
  go_wp2_with fail
  refine wp_region_held_drew (S := fun W => W.cell? ⟨g, 0, none⟩ = some (.pointer (some ⟨p, 0, none⟩)) ∧ W.cell? ⟨g, 2, none⟩ = some (.slice (some ⟨b, 0, none⟩) m cap) ∧ W.cell? ⟨b, i * 3, none⟩ = some (.int .i64 st) ∧ W.cell? ⟨b, i * 3 + 1, none⟩ = some (.int .u32 q) ∧ W.cell? ⟨b, i * 3 + 2, none⟩ = some (.int .i64 er)) (by kernel_rfl) hs1 (fun hHeld => ?_)
  refine take_yes 0 5 ?_ rfl rfl (by kernel_rfl) (by kernel_rfl) (by kernel_rfl) (fun _ _ _ h => h) (by kernel_rfl) ?_ (by assumption) ?_; rotate_left; (focus (intro w hSw; (try dsimp only at hSw); go_simp; all_goals with_reducible rfl)); simp only [Act.put, List.setIfInBounds_toArray, List.set_cons_zero, List.set_cons_succ]
  refine take_yes 1 6 ?_ rfl rfl (by kernel_rfl) (by kernel_rfl) (by kernel_rfl) (fun _ _ _ h => h) (by kernel_rfl) ?_ (by assumption) ?_; rotate_left; (focus (intro w hSw; (try dsimp only at hSw); go_simp; all_goals with_reducible rfl)); simp only [Act.put, List.setIfInBounds_toArray, List.set_cons_zero, List.set_cons_succ]
  refine take_yes 2 7 ?_ rfl rfl (by kernel_rfl) (by kernel_rfl) (by kernel_rfl) (fun _ _ _ h => h) (by kernel_rfl) ?_ (by assumption) ?_; rotate_left; (focus (intro w hSw; (try dsimp only at hSw); go_simp; all_goals with_reducible rfl)); simp only [Act.put, List.setIfInBounds_toArray, List.set_cons_zero, List.set_cons_succ]
  refine take_yes 3 8 ?_ rfl rfl (by kernel_rfl) (by kernel_rfl) (by kernel_rfl) (fun _ _ _ h => h) (by kernel_rfl) ?_ (by assumption) ?_; rotate_left; (focus (intro w hSw; (try dsimp only at hSw); go_simp; all_goals with_reducible rfl)); simp only [Act.put, List.setIfInBounds_toArray, List.set_cons_zero, List.set_cons_succ]
  refine take_yes 5 10 ?_ rfl rfl (by kernel_rfl) (by kernel_rfl) (by kernel_rfl) (fun _ _ _ h => h) (by kernel_rfl) ?_ (by assumption) ?_; rotate_left; (focus (intro w hSw; (try dsimp only at hSw); go_simp; all_goals with_reducible rfl)); simp only [Act.put, List.setIfInBounds_toArray, List.set_cons_zero, List.set_cons_succ]
  refine take_yes 6 11 ?_ rfl rfl (by kernel_rfl) (by kernel_rfl) (by kernel_rfl) (fun _ _ _ h => h) (by kernel_rfl) ?_ (by assumption) ?_; rotate_left; (focus (intro w hSw; (try dsimp only at hSw); go_simp; all_goals with_reducible rfl)); simp only [Act.put, List.setIfInBounds_toArray, List.set_cons_zero, List.set_cons_succ]
  refine take_yes 7 12 ?_ rfl rfl (by kernel_rfl) (by kernel_rfl) (by kernel_rfl) (fun _ _ _ h => h) (by kernel_rfl) ?_ (by assumption) ?_; rotate_left; (focus (intro w hSw; (try dsimp only at hSw); go_simp; all_goals with_reducible rfl)); simp only [Act.put, List.setIfInBounds_toArray, List.set_cons_zero, List.set_cons_succ]
  refine take_yes 8 13 ?_ rfl rfl (by kernel_rfl) (by kernel_rfl) (by kernel_rfl) (fun _ _ _ h => h) (by kernel_rfl) ?_ (by assumption) ?_; rotate_left; (focus (intro w hSw; (try dsimp only at hSw); go_simp; all_goals with_reducible rfl)); simp only [Act.put, List.setIfInBounds_toArray, List.set_cons_zero, List.set_cons_succ]
  refine take_yes 9 14 ?_ rfl rfl (by kernel_rfl) (by kernel_rfl) (by kernel_rfl) (fun _ _ _ h => h) (by kernel_rfl) ?_ (by assumption) ?_; rotate_left; (focus (intro w hSw; (try dsimp only at hSw); go_simp; all_goals with_reducible rfl)); simp only [Act.put, List.setIfInBounds_toArray, List.set_cons_zero, List.set_cons_succ]
  refine take_yes 10 15 ?_ rfl rfl (by kernel_rfl) (by kernel_rfl) (by kernel_rfl) (fun _ _ _ h => h) (by kernel_rfl) ?_ (by assumption) ?_; rotate_left; (focus (intro w hSw; (try dsimp only at hSw); go_simp; all_goals with_reducible rfl)); simp only [Act.put, List.setIfInBounds_toArray, List.set_cons_zero, List.set_cons_succ]
  refine take_yes 11 16 ?_ rfl rfl (by kernel_rfl) (by kernel_rfl) (by kernel_rfl) (fun _ _ _ h => h) (by kernel_rfl) ?_ (by assumption) ?_; rotate_left; (focus (intro w hSw; (try dsimp only at hSw); go_simp; all_goals with_reducible rfl)); simp only [Act.put, List.setIfInBounds_toArray, List.set_cons_zero, List.set_cons_succ]
  refine take_yes 12 17 ?_ rfl rfl (by kernel_rfl) (by kernel_rfl) (by kernel_rfl) (fun _ _ _ h => h) (by kernel_rfl) ?_ (by assumption) ?_; rotate_left; (focus (intro w hSw; (try dsimp only at hSw); go_simp; all_goals with_reducible rfl)); simp only [Act.put, List.setIfInBounds_toArray, List.set_cons_zero, List.set_cons_succ]
  refine take_yes 13 18 ?_ rfl rfl (by kernel_rfl) (by kernel_rfl) (by kernel_rfl) (fun _ _ _ h => h) (by kernel_rfl) ?_ (by assumption) ?_; rotate_left; (focus (intro w hSw; (try dsimp only at hSw); go_simp; all_goals with_reducible rfl)); simp only [Act.put, List.setIfInBounds_toArray, List.set_cons_zero, List.set_cons_succ]
  refine take_yes 14 19 ?_ rfl rfl (by kernel_rfl) (by kernel_rfl) (by kernel_rfl) (fun _ _ _ h => h) (by kernel_rfl) ?_ (by assumption) ?_; rotate_left; (focus (intro w hSw; (try dsimp only at hSw); go_simp; all_goals with_reducible rfl)); simp only [Act.put, List.setIfInBounds_toArray, List.set_cons_zero, List.set_cons_succ]
  refine take_yes 15 20 ?_ rfl rfl (by kernel_rfl) (by kernel_rfl) (by kernel_rfl) (fun _ _ _ h => h) (by kernel_rfl) ?_ (by assumption) ?_; rotate_left; (focus (intro w hSw; (try dsimp only at hSw); go_simp; all_goals with_reducible rfl)); simp only [Act.put, List.setIfInBounds_toArray, List.set_cons_zero, List.set_cons_succ]
  refine take_yes 16 21 ?_ rfl rfl (by kernel_rfl) (by kernel_rfl) (by kernel_rfl) (fun _ _ _ h => h) (by kernel_rfl) ?_ (by assumption) ?_; rotate_left; (focus (intro w hSw; (try dsimp only at hSw); go_simp; all_goals with_reducible rfl)); simp only [Act.put, List.setIfInBounds_toArray, List.set_cons_zero, List.set_cons_succ]
  refine wpAnyH_ready (rs := [4, 17]) (by kernel_rfl) (by simp) ?_
  refine AllReadyH.cons rfl (fun K hK => ?_) (AllReadyH.cons rfl (fun K hK => ?_) AllReadyH.nil)
  · go_simp
    refine hK.out _ _ hs1 (fun _ => ?_)
    clear hK K
    try simp only [Act.put, List.setIfInBounds_toArray, List.set_cons_zero, List.set_cons_succ]
    refine wpAnyH_ready (rs := [17]) (by kernel_rfl) (by simp) ?_
    refine AllReadyH.cons rfl (fun K hK => ?_) AllReadyH.nil
    go_simp
    go_at_call 42
    (with_reducible refine Hlg.out.mono ?_)
    rintro e10 w10 ⟨⟨b10, rfl, hrow10⟩, hb10⟩
    have HP10 := Lib.hid (HP1.out.below hb10)
    have HO10 := Lib.hid (PO.of_below (g := g) (base := base) hb10)
    obtain ⟨As2, cs2, w11, hrun, hP11, hO11, hO11b, hB11, hG11⟩ := HP10.out.steps_run hrow10 (by have := Hk.out; omega) (Nat.le_trans hbase hb10.size)
    simp only at hrun hP11 hO11 hO11b hB11 hG11
    rw [← Hk.out] at hrun hP11 hO11
    rw [← Hk.out] at hB11
    have HP11 := Lib.hid hP11
    have HO11 := Lib.hid (HO10.out.trans hO11)
    have hs10 := HSS.out _ (HO10.out) HP10.out.blk HP10.out.secs
    have hs11 := HSS.out _ (HO10.out.trans hO11b) (by rw [Hk.out] at hB11; exact hB11) hG11
    have hs12 := HSS.out _ HO11.out HP11.out.blk (HP11.out.secs)
    have c8b : w11.cell? ⟨g, 8, none⟩ = some (.slice As k cs) := hB11.cell 8
    have f8b := hB11.frozen 8
    have hgl11 := hB11.lt
    have c8a : w10.cell? ⟨g, 8, none⟩ = some (.slice As k cs) := by rw [Hk.out]; exact HP10.out.blk.cell 8
    clear hrow10 hb10 hP11 hO11 hO11b hB11 hG11
    go_wp2_with fail
    refine hK.out _ _ hs10 (fun _ => ?_)
    clear hK K
    try simp only [Act.put, List.setIfInBounds_toArray, List.set_cons_zero, List.set_cons_succ]
    refine wpAnyH_ready (rs := [18]) (by kernel_rfl) (by simp) ?_
    refine AllReadyH.cons rfl (fun K hK => ?_) AllReadyH.nil
    refine step_append_eq (ts := 93) rfl (.tmp 9) (.tmp 22) rfl rfl rfl rfl hrun ?_
    refine hK.out _ _ hs11 (fun _ => ?_)
    clear hK K
    try simp only [Act.put, List.setIfInBounds_toArray, List.set_cons_zero, List.set_cons_succ]
    refine take_yes 19 24 ?_ rfl rfl (by kernel_rfl) (by kernel_rfl) (by kernel_rfl) (fun _ _ _ h => h) (by kernel_rfl) ?_ (by assumption) ?_; rotate_left; (focus (intro w hSw; (try dsimp only at hSw); go_simp; all_goals with_reducible rfl)); simp only [Act.put, List.setIfInBounds_toArray, List.set_cons_zero, List.set_cons_succ]
    refine take_yes 20 25 ?_ rfl rfl (by kernel_rfl) (by kernel_rfl) (by kernel_rfl) (fun _ _ _ h => h) (by kernel_rfl) ?_ (by assumption) ?_; rotate_left; (focus (intro w hSw; (try dsimp only at hSw); go_simp; all_goals with_reducible rfl)); simp only [Act.put, List.setIfInBounds_toArray, List.set_cons_zero, List.set_cons_succ]
    refine wpAnyH_ready (rs := [21]) (by kernel_rfl) (by simp) ?_
    refine AllReadyH.cons rfl (fun K hK => ?_) AllReadyH.nil
    go_simp
    refine hK.out _ _ (hs12) (fun _ => ?_)
    clear hK K
    try simp only [Act.put, List.setIfInBounds_toArray, List.set_cons_zero, List.set_cons_succ]
    refine wpAnyH_done (by kernel_rfl) ?_ _
    obtain ⟨w12, h12⟩ : ∃ w12, w12 = w11.setCell ⟨g, 8, none⟩ (.slice As2 (k + n2) cs2) := ⟨_, rfl⟩
    rw [← h12] at HP11 HO11 ⊢
    clear h12 hrun hs10 hs11 hs12 c8b f8b hgl11 c8a HP10 HO10
    have Hend := Lib.hid (Hrest.out w12 _ HP11.out HO11.out)
    have d0 : w12.cell? ⟨g, 2, none⟩ = some (.slice (some ⟨b, 0, none⟩) m cap) := by rw [Hm.out]; exact HP11.out.blk.cell 2
    obtain ⟨bq, cur, hA, hb2, hB, hbg2, hcl⟩ := HP11.out.gs (i := i) (by rw [← Hm.out]; exact him)
    cases hA
    have d1 := hcl _ Hi.out 2 (by omega)
    simp [Sc.cells] at d1
    have HB := Lib.hid hB
    clear hcl hB Hend hbg2 hb2
    go_wp2_with fail
    have HF12 := Lib.hid (HS.out.plan HO11.out HTh.out)
    have Hlim := Lib.hid (limit_any g p c e Z L _ ss w12 HP11.out.blk rfl HF12.out)
    refine Hlim.out.mono ?_
    rintro e13 w13 ⟨rfl, hb13⟩
    have HP13 := Lib.hid (HP11.out.below hb13)
    have HO13 := Lib.hid (HO11.out.trans (PO.of_below (g := g) (base := base) hb13))
    have HB13 := Lib.hid (HB.out.of (hb13.block b HB.out.lt))
    have f0 := HB13.out.frozen (i * 3)
    have f1 := HB13.out.frozen (i * 3 + 1)
    have f2 := HB13.out.frozen (i * 3 + 2)
    have d0 : w13.cell? ⟨g, 2, none⟩ = some (.slice (some ⟨b, 0, none⟩) m cap) := by rw [Hm.out]; exact HP13.out.blk.cell 2
    have hs13 := HSS.out w13 HO13.out HP13.out.blk HP13.out.secs
    obtain ⟨-, -, d1, d2, d3⟩ := hs13
    have hbl := HB13.out.lt
    have hilt : i < P.l.length := by rw [← Hm.out]; exact him
    by_cases hL : (L : Int) ≤ er
    · have hL2 : ¬ er < (L : Int) := by omega
      have hset := HP13.out.set_sec (i := i) hilt rfl hb HB13.out ⟨1, 0, er⟩
      have Hset := Lib.hid hset
      have HL := Lib.hid hL
      clear hb13 hset Hlim hL
      go_wp2_with fail
      go_end0
      refine ⟨rfl, ?_, ((PO.refl g base w).drew.trans HO13.out).trans Hset.out.2⟩
      have h2 := Hset.out.1
      exact ⟨_, by unfold PV.letGo; rw [if_pos (show (L : Int) ≤ er by have := HL.out; omega)]; exact h2⟩
    · have hL2 : er < (L : Int) := by omega
      have hset := HP13.out.set_sec (i := i) hilt rfl hb HB13.out ⟨0, 0, er + 1⟩
      have Hset := Lib.hid hset
      have HL := Lib.hid hL
      clear hb13 hset Hlim hL
      go_wp2_with fail
      go_end0
      refine ⟨rfl, ?_, ((PO.refl g base w).drew.trans HO13.out).trans Hset.out.2⟩
      have h2 := Hset.out.1
      exact ⟨_, by unfold PV.letGo; rw [if_neg (show ¬ (L : Int) ≤ er by have := HL.out; omega)]; exact h2⟩

  · go_simp
    go_at_call 42
    (with_reducible refine Hlg.out.mono ?_)
    rintro e10 w10 ⟨⟨b10, rfl, hrow10⟩, hb10⟩
    have HP10 := Lib.hid (HP1.out.below hb10)
    have HO10 := Lib.hid (PO.of_below (g := g) (base := base) hb10)
    obtain ⟨As2, cs2, w11, hrun, hP11, hO11, hO11b, hB11, hG11⟩ := HP10.out.steps_run hrow10 (by have := Hk.out; omega) (Nat.le_trans hbase hb10.size)
    simp only at hrun hP11 hO11 hO11b hB11 hG11
    rw [← Hk.out] at hrun hP11 hO11
    rw [← Hk.out] at hB11
    have HP11 := Lib.hid hP11
    have HO11 := Lib.hid (HO10.out.trans hO11)
    have hs10 := HSS.out _ (HO10.out) HP10.out.blk HP10.out.secs
    have hs11 := HSS.out _ (HO10.out.trans hO11b) (by rw [Hk.out] at hB11; exact hB11) hG11
    have hs12 := HSS.out _ HO11.out HP11.out.blk (HP11.out.secs)
    have c8b : w11.cell? ⟨g, 8, none⟩ = some (.slice As k cs) := hB11.cell 8
    have f8b := hB11.frozen 8
    have hgl11 := hB11.lt
    have c8a : w10.cell? ⟨g, 8, none⟩ = some (.slice As k cs) := by rw [Hk.out]; exact HP10.out.blk.cell 8
    clear hrow10 hb10 hP11 hO11 hO11b hB11 hG11
    go_wp2_with fail
    refine hK.out _ _ hs10 (fun _ => ?_)
    clear hK K
    try simp only [Act.put, List.setIfInBounds_toArray, List.set_cons_zero, List.set_cons_succ]
    refine wpAnyH_ready (rs := [4]) (by kernel_rfl) (by simp) ?_
    refine AllReadyH.cons rfl (fun K hK => ?_) AllReadyH.nil
    go_simp
    refine hK.out _ _ (hs10) (fun _ => ?_)
    clear hK K
    try simp only [Act.put, List.setIfInBounds_toArray, List.set_cons_zero, List.set_cons_succ]
    refine wpAnyH_ready (rs := [18]) (by kernel_rfl) (by simp) ?_
    refine AllReadyH.cons rfl (fun K hK => ?_) AllReadyH.nil
    refine step_append_eq (ts := 93) rfl (.tmp 9) (.tmp 22) rfl rfl rfl rfl hrun ?_
    refine hK.out _ _ hs11 (fun _ => ?_)
    clear hK K
    try simp only [Act.put, List.setIfInBounds_toArray, List.set_cons_zero, List.set_cons_succ]
    refine take_yes 19 24 ?_ rfl rfl (by kernel_rfl) (by kernel_rfl) (by kernel_rfl) (fun _ _ _ h => h) (by kernel_rfl) ?_ (by assumption) ?_; rotate_left; (focus (intro w hSw; (try dsimp only at hSw); go_simp; all_goals with_reducible rfl)); simp only [Act.put, List.setIfInBounds_toArray, List.set_cons_zero, List.set_cons_succ]
    refine take_yes 20 25 ?_ rfl rfl (by kernel_rfl) (by kernel_rfl) (by kernel_rfl) (fun _ _ _ h => h) (by kernel_rfl) ?_ (by assumption) ?_; rotate_left; (focus (intro w hSw; (try dsimp only at hSw); go_simp; all_goals with_reducible rfl)); simp only [Act.put, List.setIfInBounds_toArray, List.set_cons_zero, List.set_cons_succ]
    refine wpAnyH_ready (rs := [21]) (by kernel_rfl) (by simp) ?_
    refine AllReadyH.cons rfl (fun K hK => ?_) AllReadyH.nil
    go_simp
    refine hK.out _ _ (hs12) (fun _ => ?_)
    clear hK K
    try simp only [Act.put, List.setIfInBounds_toArray, List.set_cons_zero, List.set_cons_succ]
    refine wpAnyH_done (by kernel_rfl) ?_ _
    obtain ⟨w12, h12⟩ : ∃ w12, w12 = w11.setCell ⟨g, 8, none⟩ (.slice As2 (k + n2) cs2) := ⟨_, rfl⟩
    rw [← h12] at HP11 HO11 ⊢
    clear h12 hrun hs10 hs11 hs12 c8b f8b hgl11 c8a HP10 HO10
    have Hend := Lib.hid (Hrest.out w12 _ HP11.out HO11.out)
    have d0 : w12.cell? ⟨g, 2, none⟩ = some (.slice (some ⟨b, 0, none⟩) m cap) := by rw [Hm.out]; exact HP11.out.blk.cell 2
    obtain ⟨bq, cur, hA, hb2, hB, hbg2, hcl⟩ := HP11.out.gs (i := i) (by rw [← Hm.out]; exact him)
    cases hA
    have d1 := hcl _ Hi.out 2 (by omega)
    simp [Sc.cells] at d1
    have HB := Lib.hid hB
    clear hcl hB Hend hbg2 hb2
    go_wp2_with fail
    have HF12 := Lib.hid (HS.out.plan HO11.out HTh.out)
    have Hlim := Lib.hid (limit_any g p c e Z L _ ss w12 HP11.out.blk rfl HF12.out)
    refine Hlim.out.mono ?_
    rintro e13 w13 ⟨rfl, hb13⟩
    have HP13 := Lib.hid (HP11.out.below hb13)
    have HO13 := Lib.hid (HO11.out.trans (PO.of_below (g := g) (base := base) hb13))
    have HB13 := Lib.hid (HB.out.of (hb13.block b HB.out.lt))
    have f0 := HB13.out.frozen (i * 3)
    have f1 := HB13.out.frozen (i * 3 + 1)
    have f2 := HB13.out.frozen (i * 3 + 2)
    have d0 : w13.cell? ⟨g, 2, none⟩ = some (.slice (some ⟨b, 0, none⟩) m cap) := by rw [Hm.out]; exact HP13.out.blk.cell 2
    have hs13 := HSS.out w13 HO13.out HP13.out.blk HP13.out.secs
    obtain ⟨-, -, d1, d2, d3⟩ := hs13
    have hbl := HB13.out.lt
    have hilt : i < P.l.length := by rw [← Hm.out]; exact him
    by_cases hL : (L : Int) ≤ er
    · have hL2 : ¬ er < (L : Int) := by omega
      have hset := HP13.out.set_sec (i := i) hilt rfl hb HB13.out ⟨1, 0, er⟩
      have Hset := Lib.hid hset
      have HL := Lib.hid hL
      clear hb13 hset Hlim hL
      go_wp2_with fail
      go_end0
      refine ⟨rfl, ?_, ((PO.refl g base w).drew.trans HO13.out).trans Hset.out.2⟩
      have h2 := Hset.out.1
      exact ⟨_, by unfold PV.letGo; rw [if_pos (show (L : Int) ≤ er by have := HL.out; omega)]; exact h2⟩
    · have hL2 : er < (L : Int) := by omega
      have hset := HP13.out.set_sec (i := i) hilt rfl hb HB13.out ⟨0, 0, er + 1⟩
      have Hset := Lib.hid hset
      have HL := Lib.hid hL
      clear hb13 hset Hlim hL
      go_wp2_with fail
      go_end0
      refine ⟨rfl, ?_, ((PO.refl g base w).drew.trans HO13.out).trans Hset.out.2⟩
      have h2 := Hset.out.1
      exact ⟨_, by unfold PV.letGo; rw [if_neg (show ¬ (L : Int) ≤ er by have := HL.out; omega)]; exact h2⟩

end Go.Proofs.YtnhfmcijadficaaGreatDoor
