/- The walk over blob's plan. -/
import Derived.Test.YtidbipbangifbaaGreatDoorZbh
import Derived.Test.YtidbipbangifbaaGreatDoorZbf
import Derived.Test.YtidbipbangifbaaGreatDoorZaw
import Derived.Test.YtidbipbangifbaaGreatDoorZbg
namespace Go.Proofs.YtidbipbangifbaaGreatDoor
set_option maxRecDepth 100000
open Go.RowKit Go.Maps

theorem FS.three_lt {w : World} {p c e Z L : Nat} {ss : List (Nat × List UInt8)} (h : FS w p c e Z L ss) {q : Nat} (hq : Three p c e q) : q < w.heap.size := by
  obtain ⟨fl, h1, _⟩ := h
  rcases hq with rfl | rfl | rfl
  · exact h1.hd.lt
  · exact h1.ce.lt
  · exact h1.er.lt

/-- A plan that is stored whole. -/
def setPlan (w : World) (g p mb : Nat) (vs vk : Value) (h : HeadV) (vst : Value) : World :=
  ((((((((w.setCell ⟨g, 0, none⟩ (.pointer (some ⟨p, 0, none⟩))).setCell ⟨g, 1, none⟩ (.map (some mb))).setCell ⟨g, 2, none⟩ vs).setCell ⟨g, 3, none⟩ vk).setCell ⟨g, 4, none⟩ (.int .i64 h.sec)).setCell ⟨g, 5, none⟩ (.int .i64 h.next)).setCell ⟨g, 6, none⟩ (.int .i64 h.left)).setCell ⟨g, 7, none⟩ (.int .u32 h.txn)).setCell ⟨g, 8, none⟩ vst
theorem setPlan_blk {w : World} {g p mb : Nat} {vs vk : Value} {h : HeadV} {vst : Value} {a0 a1 a2 a3 a4 a5 a6 a7 a8 : Value} (hB : Blk w g 144 #[a0, a1, a2, a3, a4, a5, a6, a7, a8]) : Blk (setPlan w g p mb vs vk h vst) g 144 (planC p mb vs vk h vst) := by
  have h1 := ((((((((hB.set_ 0 (.pointer (some ⟨p, 0, none⟩))).set_ 1 (.map (some mb))).set_ 2 vs).set_ 3 vk).set_ 4 (.int .i64 h.sec)).set_ 5 (.int .i64 h.next)).set_ 6 (.int .i64 h.left)).set_ 7 (.int .u32 h.txn)).set_ 8 vst
  simpa [setPlan, planC] using h1
theorem setPlan_only {w : World} {g p mb : Nat} {vs vk : Value} {h : HeadV} {vst : Value} : Only (· = g) w (setPlan w g p mb vs vk h vst) := by
  unfold setPlan
  refine Only.setCell (Only.setCell (Only.setCell (Only.setCell (Only.setCell (Only.setCell (Only.setCell (Only.setCell (Only.setCell (Only.refl (· = g) w) ?_ _) ?_ _) ?_ _) ?_ _) ?_ _) ?_ _) ?_ _) ?_ _) ?_ _ <;> exact Or.inl rfl

set_option maxHeartbeats 4000000 in
theorem plan_now (s mb p c e : Nat) (M : Al Sv) (h : HeadV) (d : Bool) (room : Int) (w : World) (hS : StoreAt w s mb p c e M h d) (ht : takesB h room = true) :
    Calls Tryz.prog 76 #[.pointer (some ⟨s, 0, none⟩), .int .i64 room] w fun e1 w' => e1 = .returned (.tuple #[planV p mb (.slice none 0 0) (.slice none 0 0) h (.slice none 0 0), .int .i64 0]) ∧ Below w.heap.size w w' := by
  obtain ⟨hsec, hnext, hleft, htxn⟩ := h
  unfold planV planC
  simp only
  have HS : Hid (∀ W, Only Empty w W → W.cell? ⟨s, 0, none⟩ = some (.pointer (some ⟨p, 0, none⟩)) ∧ W.cell? ⟨s, 1, none⟩ = some (.map (some mb)) ∧ W.cell? ⟨s, 2, none⟩ = some (.int .i64 hsec) ∧ W.cell? ⟨s, 3, none⟩ = some (.int .i64 hnext) ∧ W.cell? ⟨s, 4, none⟩ = some (.int .i64 hleft) ∧ W.cell? ⟨s, 5, none⟩ = some (.int .u32 htxn)) := Lib.hid (fun W hW => by
    have h1 := hW.blk hS.blk (fun h => h)
    exact ⟨h1.cell 0, h1.cell 1, h1.cell 2, h1.cell 3, h1.cell 4, h1.cell 5⟩)
  have Ht := Lib.hid ht
  have Htk := Lib.hid (takes_any ⟨hsec, hnext, hleft, htxn⟩ room)
  rw [ht] at Htk
  unfold HeadV.v at Htk
  have hsl : s < w.heap.size := hS.blk.lt
  have hal := (Below.refl w.heap.size w).alloc (Nat.le_refl _) (.cells #[.pointer none, .map none, .slice none 0 0, .slice none 0 0, .int .i64 0, .int .i64 0, .int .i64 0, .int .u32 0, .slice none 0 0] 144)
  have hbx := Blk.new w 144 #[.pointer none, .map none, .slice none 0 0, .slice none 0 0, .int .i64 0, .int .i64 0, .int .i64 0, .int .u32 0, .slice none 0 0]
  have Hal := Lib.hid hal
  have Hbx := Lib.hid hbx
  clear hS ht hal hbx
  go_enter Tryz.func76, Tryz.ntmps76
  go_wp2_with fail
  obtain ⟨g, hg⟩ : ∃ g, g = w.heap.size := ⟨_, rfl⟩
  have hs1 := HS.out _ ((Only.of_below (S := Empty) Hal.out).drew)
  obtain ⟨d0, d1, d2, d3, d4, d5⟩ := hs1
  go_region
  have hB := (Blk.new w 144 #[.pointer (some ⟨p, 0, none⟩), .map (some mb), .slice none 0 0, .slice none 0 0, .int .i64 hsec, .int .i64 hnext, .int .i64 hleft, .int .u32 htxn, .slice none 0 0]).drew
  have hb := ((Below.refl w.heap.size w).alloc (Nat.le_refl _) (.cells #[.pointer (some ⟨p, 0, none⟩), .map (some mb), .slice none 0 0, .slice none 0 0, .int .i64 hsec, .int .i64 hnext, .int .i64 hleft, .int .u32 htxn, .slice none 0 0] 144)).drew
  obtain ⟨w1, hw1⟩ : ∃ w1, w1 = (w.alloc (.cells #[.pointer (some ⟨p, 0, none⟩), .map (some mb), .slice none 0 0, .slice none 0 0, .int .i64 hsec, .int .i64 hnext, .int .i64 hleft, .int .u32 htxn, .slice none 0 0] 144)).drew := ⟨_, rfl⟩
  rw [← hw1] at hB hb ⊢
  have q4 : w1.cell? ⟨w.heap.size, 4, none⟩ = some (.int .i64 hsec) := hB.cell 4
  have q5 : w1.cell? ⟨w.heap.size, 5, none⟩ = some (.int .i64 hnext) := hB.cell 5
  have q6 : w1.cell? ⟨w.heap.size, 6, none⟩ = some (.int .i64 hleft) := hB.cell 6
  have q7 : w1.cell? ⟨w.heap.size, 7, none⟩ = some (.int .u32 htxn) := hB.cell 7
  have HB := Lib.hid hB
  have Hb := Lib.hid hb
  clear hB hb hw1 d0 d1 d2 d3 d4 d5 Hal Hbx HS
  go_wp2_with fail
  refine (Htk.out w1).mono ?_
  rintro e2 w2 ⟨rfl, hb2⟩
  have hB2 := HB.out.of (hb2.block _ HB.out.lt)
  have k0 : w2.cell? ⟨w.heap.size, 0, none⟩ = some (.pointer (some ⟨p, 0, none⟩)) := hB2.cell 0
  have k1 : w2.cell? ⟨w.heap.size, 1, none⟩ = some (.map (some mb)) := hB2.cell 1
  have k2 : w2.cell? ⟨w.heap.size, 2, none⟩ = some (.slice none 0 0) := hB2.cell 2
  have k3 : w2.cell? ⟨w.heap.size, 3, none⟩ = some (.slice none 0 0) := hB2.cell 3
  have k4 : w2.cell? ⟨w.heap.size, 4, none⟩ = some (.int .i64 hsec) := hB2.cell 4
  have k5 : w2.cell? ⟨w.heap.size, 5, none⟩ = some (.int .i64 hnext) := hB2.cell 5
  have k6 : w2.cell? ⟨w.heap.size, 6, none⟩ = some (.int .i64 hleft) := hB2.cell 6
  have k7 : w2.cell? ⟨w.heap.size, 7, none⟩ = some (.int .u32 htxn) := hB2.cell 7
  have k8 : w2.cell? ⟨w.heap.size, 8, none⟩ = some (.slice none 0 0) := hB2.cell 8
  have f0 := hB2.frozen 0
  have f1 := hB2.frozen 1
  have f2 := hB2.frozen 2
  have f3 := hB2.frozen 3
  have f4 := hB2.frozen 4
  have f5 := hB2.frozen 5
  have f6 := hB2.frozen 6
  have f7 := hB2.frozen 7
  have f8 := hB2.frozen 8
  have hgl := hB2.lt
  have Hb2 := Lib.hid (Hb.out.trans (hb2.mono Hb.out.size))
  have HB2 := Lib.hid hB2
  clear hB2 hb2 q4 q5 q6 q7 Htk
  go_wp2_with fail
  obtain ⟨w3, hw3⟩ : ∃ w3, w3 = setPlan w2 w.heap.size p mb (.slice none 0 0) (.slice none 0 0) ⟨hsec, hnext, hleft, htxn⟩ (.slice none 0 0) := ⟨_, rfl⟩
  have hB3 : Blk w3 w.heap.size 144 (planC p mb (.slice none 0 0) (.slice none 0 0) ⟨hsec, hnext, hleft, htxn⟩ (.slice none 0 0)) := by
    rw [hw3]
    exact setPlan_blk (HB2.out)
  have hb3 : Below w.heap.size w w3 := Hb2.out.trans (by rw [hw3]; exact setPlan_only.below Hb2.out.size (fun k h1 h2 => by omega))
  unfold setPlan at hw3
  simp only at hw3
  rw [← hw3]
  have k0 : w3.cell? ⟨w.heap.size, 0, none⟩ = some (.pointer (some ⟨p, 0, none⟩)) := hB3.cell 0
  have k1 : w3.cell? ⟨w.heap.size, 1, none⟩ = some (.map (some mb)) := hB3.cell 1
  have k2 : w3.cell? ⟨w.heap.size, 2, none⟩ = some (.slice none 0 0) := hB3.cell 2
  have k3 : w3.cell? ⟨w.heap.size, 3, none⟩ = some (.slice none 0 0) := hB3.cell 3
  have k4 : w3.cell? ⟨w.heap.size, 4, none⟩ = some (.int .i64 hsec) := hB3.cell 4
  have k5 : w3.cell? ⟨w.heap.size, 5, none⟩ = some (.int .i64 hnext) := hB3.cell 5
  have k6 : w3.cell? ⟨w.heap.size, 6, none⟩ = some (.int .i64 hleft) := hB3.cell 6
  have k7 : w3.cell? ⟨w.heap.size, 7, none⟩ = some (.int .u32 htxn) := hB3.cell 7
  have k8 : w3.cell? ⟨w.heap.size, 8, none⟩ = some (.slice none 0 0) := hB3.cell 8
  refine bodyPost_ret (v := .tuple #[.agg #[.pointer (some ⟨p, 0, none⟩), .map (some mb), .slice none 0 0, .slice none 0 0, .int .i64 hsec, .int .i64 hnext, .int .i64 hleft, .int .u32 htxn, .slice none 0 0], .int .i64 0]) ?_ rfl ⟨rfl, hb3⟩
  simp [results, Tryz.results76, go_sem, k0, k1, k2, k3, k4, k5, k6, k7, k8]

theorem setZero {w : World} {g : Nat} {a0 a1 a2 a3 a4 a5 a6 a7 a8 : Value} (hB : Blk w g 144 #[a0, a1, a2, a3, a4, a5, a6, a7, a8]) :
    Blk (((((((((w.setCell ⟨g, 0, none⟩ (.pointer none)).setCell ⟨g, 1, none⟩ (.map none)).setCell ⟨g, 2, none⟩ (.slice none 0 0)).setCell ⟨g, 3, none⟩ (.slice none 0 0)).setCell ⟨g, 4, none⟩ (.int .i64 0)).setCell ⟨g, 5, none⟩ (.int .i64 0)).setCell ⟨g, 6, none⟩ (.int .i64 0)).setCell ⟨g, 7, none⟩ (.int .u32 0)).setCell ⟨g, 8, none⟩ (.slice none 0 0)) g 144 #[.pointer none, .map none, .slice none 0 0, .slice none 0 0, .int .i64 0, .int .i64 0, .int .i64 0, .int .u32 0, .slice none 0 0] ∧
    Only (· = g) w (((((((((w.setCell ⟨g, 0, none⟩ (.pointer none)).setCell ⟨g, 1, none⟩ (.map none)).setCell ⟨g, 2, none⟩ (.slice none 0 0)).setCell ⟨g, 3, none⟩ (.slice none 0 0)).setCell ⟨g, 4, none⟩ (.int .i64 0)).setCell ⟨g, 5, none⟩ (.int .i64 0)).setCell ⟨g, 6, none⟩ (.int .i64 0)).setCell ⟨g, 7, none⟩ (.int .u32 0)).setCell ⟨g, 8, none⟩ (.slice none 0 0)) := by
  have h1 := ((((((((hB.set_ 0 (.pointer none)).set_ 1 (.map none)).set_ 2 (.slice none 0 0)).set_ 3 (.slice none 0 0)).set_ 4 (.int .i64 0)).set_ 5 (.int .i64 0)).set_ 6 (.int .i64 0)).set_ 7 (.int .u32 0)).set_ 8 (.slice none 0 0)
  refine ⟨by simpa using h1, ?_⟩
  refine Only.setCell (Only.setCell (Only.setCell (Only.setCell (Only.setCell (Only.setCell (Only.setCell (Only.setCell (Only.setCell (Only.refl (· = g) w) ?_ _) ?_ _) ?_ _) ?_ _) ?_ _) ?_ _) ?_ _) ?_ _) ?_ _ <;> exact Or.inl rfl
theorem kbsL_64 {M : Al Sv} (hF : FairM M) (S : Nat) : ∀ ks ∈ kbsL M S (M.map (·.1)), ∀ x ∈ ks, x.length ≤ 64 := by
  intro ks hks x hx
  unfold kbsL at hks
  obtain ⟨j, _, rfl⟩ := List.mem_map.1 hks
  obtain ⟨q, hq, rfl⟩ := List.mem_map.1 (List.mem_filter.1 hx).1
  exact (hF q hq).1
theorem KeysAt.lower {w : World} {base base' bi cap : Nat} {A : Option Addr} {K : List Kr} (h : KeysAt w base bi A cap K) (hb : base' ≤ base) : KeysAt w base' bi A cap K :=
  ⟨Nat.le_trans hb h.le, h.outer.lower hb, h.inner, h.apart⟩

/-- How blob's plan ends where room was looked for. -/
def Planned (base p c e mb Z L : Nat) (ss : List (Nat × List UInt8)) (M : Al Sv) (b : Bool) (PF : PV) (KF : List (List (List UInt8))) (w' : World) (e1 : Ending) : Prop :=
  (b = false ∧ e1 = .returned (.tuple #[.agg #[.pointer none, .map none, .slice none 0 0, .slice none 0 0, .int .i64 0, .int .i64 0, .int .i64 0, .int .u32 0, .slice none 0 0], .int .i64 10])) ∨
  (b = true ∧ ∃ g bi KA kcap R P K, e1 = .returned (.tuple #[planV p mb (.slice R.A P.l.length R.cap) (.slice KA ss.length kcap) P.h (.slice R.As P.sts.length R.cs), .int .i64 0]) ∧ PW w' g base bi p c e mb Z L ss M.length M KA ss.length kcap R P K ∧ P.nm = PF ∧ K.map Kr.ks = KF ∧ P.l.length = ss.length ∧ base ≤ g ∧ bi ≤ w'.heap.size)

set_option maxHeartbeats 8000000 in
theorem plan_made (s mb p c e Z L : Nat) (M : Al Sv) (h : HeadV) (d : Bool) (ss : List (Nat × List UInt8)) (room : Int) (b : Bool) (PF : PV) (KF : List (List (List UInt8))) (w : World) (hS : StoreAt w s mb p c e M h d) (hs : FS w p c e Z L ss) (hMark : Mark w) (hM : M.length ≤ 1048576) (hF : FairM M) (hsecs : SecsIn M ss.length)
    (ht : takesB h room = false) (hR : Rounds Z L M room (4 * ss.length) ⟨secsOf ss, h, []⟩ (kbsL M ss.length (M.map (·.1))) b PF KF) :
    Calls Tryz.prog 76 #[.pointer (some ⟨s, 0, none⟩), .int .i64 room] w fun e1 w' => Planned w.heap.size p c e mb Z L ss M b PF KF w' e1 ∧ Below w.heap.size w w' := by
  obtain ⟨hsec, hnext, hleft, htxn⟩ := h
  have HS : Hid (∀ W, Only Empty w W → W.cell? ⟨s, 0, none⟩ = some (.pointer (some ⟨p, 0, none⟩)) ∧ W.cell? ⟨s, 1, none⟩ = some (.map (some mb)) ∧ W.cell? ⟨s, 2, none⟩ = some (.int .i64 hsec) ∧ W.cell? ⟨s, 3, none⟩ = some (.int .i64 hnext) ∧ W.cell? ⟨s, 4, none⟩ = some (.int .i64 hleft) ∧ W.cell? ⟨s, 5, none⟩ = some (.int .u32 htxn)) := Lib.hid (fun W hW => by
    have h1 := hW.blk hS.blk (fun h => h)
    exact ⟨h1.cell 0, h1.cell 1, h1.cell 2, h1.cell 3, h1.cell 4, h1.cell 5⟩)
  have Ht := Lib.hid ht
  have Htk := Lib.hid (takes_any ⟨hsec, hnext, hleft, htxn⟩ room)
  rw [ht] at Htk
  unfold HeadV.v at Htk
  have hsl : s < w.heap.size := hS.blk.lt
  have hal := (Below.refl w.heap.size w).alloc (Nat.le_refl _) (.cells #[.pointer none, .map none, .slice none 0 0, .slice none 0 0, .int .i64 0, .int .i64 0, .int .i64 0, .int .u32 0, .slice none 0 0] 144)
  have hbx := Blk.new w 144 #[.pointer none, .map none, .slice none 0 0, .slice none 0 0, .int .i64 0, .int .i64 0, .int .i64 0, .int .u32 0, .slice none 0 0]
  have Hal := Lib.hid hal
  have Hbx := Lib.hid hbx
  have HStore := Lib.hid hS
  have HFS := Lib.hid hs
  have HM := Lib.hid hMark
  have HFair := Lib.hid hF
  have HSec := Lib.hid hsecs
  have HRo := Lib.hid hR
  have hz := hs.bz
  clear hS hs hMark hF hsecs hR ht hal hbx
  go_enter Tryz.func76, Tryz.ntmps76
  go_wp2_with fail
  obtain ⟨g, hg⟩ : ∃ g, g = w.heap.size := ⟨_, rfl⟩
  have hs1 := HS.out _ ((Only.of_below (S := Empty) Hal.out).drew)
  obtain ⟨d0, d1, d2, d3, d4, d5⟩ := hs1
  go_region
  have hB := (Blk.new w 144 #[.pointer (some ⟨p, 0, none⟩), .map (some mb), .slice none 0 0, .slice none 0 0, .int .i64 hsec, .int .i64 hnext, .int .i64 hleft, .int .u32 htxn, .slice none 0 0]).drew
  have hb := ((Below.refl w.heap.size w).alloc (Nat.le_refl _) (.cells #[.pointer (some ⟨p, 0, none⟩), .map (some mb), .slice none 0 0, .slice none 0 0, .int .i64 hsec, .int .i64 hnext, .int .i64 hleft, .int .u32 htxn, .slice none 0 0] 144)).drew
  obtain ⟨w1, hw1⟩ : ∃ w1, w1 = (w.alloc (.cells #[.pointer (some ⟨p, 0, none⟩), .map (some mb), .slice none 0 0, .slice none 0 0, .int .i64 hsec, .int .i64 hnext, .int .i64 hleft, .int .u32 htxn, .slice none 0 0] 144)).drew := ⟨_, rfl⟩
  rw [← hw1] at hB hb ⊢
  have q4 : w1.cell? ⟨w.heap.size, 4, none⟩ = some (.int .i64 hsec) := hB.cell 4
  have q5 : w1.cell? ⟨w.heap.size, 5, none⟩ = some (.int .i64 hnext) := hB.cell 5
  have q6 : w1.cell? ⟨w.heap.size, 6, none⟩ = some (.int .i64 hleft) := hB.cell 6
  have q7 : w1.cell? ⟨w.heap.size, 7, none⟩ = some (.int .u32 htxn) := hB.cell 7
  have HB := Lib.hid hB
  have Hb := Lib.hid hb
  clear hB hb hw1 d0 d1 d2 d3 d4 d5 Hal Hbx HS
  go_wp2_with fail
  refine (Htk.out w1).mono ?_
  rintro e2 w2 ⟨rfl, hb2⟩
  have hB2 := HB.out.of (hb2.block _ HB.out.lt)
  have Hb2 := Lib.hid (Hb.out.trans (hb2.mono Hb.out.size))
  have hst2 := HStore.out.below Hb2.out
  have s0 : w2.cell? ⟨s, 0, none⟩ = some (.pointer (some ⟨p, 0, none⟩)) := hst2.blk.cell 0
  have hsl2 := hst2.blk.lt
  have Hlook := Lib.hid (look_any p c e Z L ss w2 (HFS.out.below Hb2.out) (HM.out.below Hb2.out))
  obtain ⟨g, hg⟩ : ∃ g, g = w.heap.size := ⟨_, rfl⟩
  rw [← hg] at hB2 ⊢
  have HB2 := Lib.hid hB2
  have Hg := Lib.hid hg
  obtain ⟨n, hn⟩ : ∃ n, n = ss.length := ⟨_, rfl⟩
  rw [← hn] at Hlook hz
  have Hn := Lib.hid hn
  clear hB2 hb2 hst2 hn hg q4 q5 q6 q7 Htk HB Hb
  go_wp2_with fail
  refine Hlook.out.mono ?_
  rintro e3 w3 ⟨⟨A, cap, rfl, hG3⟩, hb3⟩
  have hB3 := HB2.out.of (hb3.block _ HB2.out.lt)
  have HB3 := Lib.hid hB3
  have g2c : w3.cell? ⟨g, 2, none⟩ = some (.slice none 0 0) := hB3.cell 2
  have g2f := hB3.frozen 2
  have g3 := hB3.lt
  have Hb3 := Lib.hid (Hb2.out.trans (hb3.mono Hb2.out.size))
  have HG3 := Lib.hid hG3
  have hB4 := hB3.set_ 2 (.slice A n cap)
  have hO4 : Only (· = g) w3 (w3.setCell ⟨g, 2, none⟩ (.slice A n cap)) := (Only.refl (· = g) w3).setCell (p := ⟨g, 2, none⟩) (Or.inl rfl) _
  have hG4 := hG3.far Sc.cells_len hB3 (by decide) hO4
  have hb4 : Below w.heap.size w (w3.setCell ⟨g, 2, none⟩ (.slice A n cap)) := Hb3.out.trans (hO4.below Hb3.out.size (fun k h1 h2 => by have := Hg.out; omega))
  obtain ⟨w4, hw4⟩ : ∃ w4, w4 = w3.setCell ⟨g, 2, none⟩ (.slice A n cap) := ⟨_, rfl⟩
  rw [← hw4] at hB4 hG4 hb4
  have Hw4 := Lib.hid hw4
  have HB4 := Lib.hid hB4
  have HG4 := Lib.hid hG4
  have Hb4 := Lib.hid hb4
  have Hkb := Lib.hid (keysBy_any s mb p c e Z L M ⟨hsec, hnext, hleft, htxn⟩ d ss w4 (HStore.out.below hb4) (HFS.out.below hb4) hM HFair.out HSec.out)
  rw [← Hn.out] at Hkb
  clear hB3 hb3 hG3 hB4 hO4 hG4 hb4 hw4 Hlook s0 hsl2 HB2
  go_wp2_with fail
  rw [← Hw4.out]
  refine Hkb.out.mono ?_
  rintro e5 w5 ⟨⟨KA, kcap, K, bi, rfl, hK5, hKn, hKs, hbi5⟩, hb5⟩
  have hB5 := HB4.out.of (hb5.block _ HB4.out.lt)
  have h3c : w5.cell? ⟨g, 3, none⟩ = some (.slice none 0 0) := hB5.cell 3
  have h2c : w5.cell? ⟨g, 2, none⟩ = some (.slice A n cap) := hB5.cell 2
  have h3f := hB5.frozen 3
  have g5 := hB5.lt
  have hG5 := HG4.out.below Sc.cells_len hb5
  have hB6 := hB5.set_ 3 (.slice KA n kcap)
  have hO6 : Only (· = g) w5 (w5.setCell ⟨g, 3, none⟩ (.slice KA n kcap)) := (Only.refl (· = g) w5).setCell (p := ⟨g, 3, none⟩) (Or.inl rfl) _
  have hG6 := hG5.far Sc.cells_len hB5 (by decide) hO6
  have hb6 : Below w.heap.size w (w5.setCell ⟨g, 3, none⟩ (.slice KA n kcap)) := (Hb4.out.trans (hb5.mono Hb4.out.size)).trans (hO6.below (by have := Hb4.out.size; have := hb5.size; omega) (fun k h1 h2 => by have := Hg.out; omega))
  have hK6 := hK5.keep (Keep.of_block (E := EP) hB5 (Or.inl rfl) hO6) (by unfold EP; decide) (by unfold EP; decide)
  have h2d : (w5.setCell ⟨g, 3, none⟩ (.slice KA n kcap)).cell? ⟨g, 2, none⟩ = some (.slice A n cap) := by
    rw [hB6.cell]
    rfl
  have hbi6 : bi ≤ (w5.setCell ⟨g, 3, none⟩ (.slice KA n kcap)).heap.size := Nat.le_trans hbi5 hO6.size
  have hPW : PW (w5.setCell ⟨g, 3, none⟩ (.slice KA n kcap)) g w.heap.size bi p c e mb Z L ss M.length M KA n kcap ⟨A, cap, none, 0⟩ ⟨secsOf ss, ⟨hsec, hnext, hleft, htxn⟩, []⟩ K := by
    have hln : (secsOf ss).length = n := by rw [Hn.out]; simp [secsOf]
    refine ⟨⟨?_, ?_, GotR.nil_ _ _ _ _ _⟩, hK6.lower Hb4.out.size, hKn, HStore.out.map.below hb6, ?_, HFS.out.below hb6, fun s hs => by cases hs⟩
    · have h1 := hB6
      simp only [planC, hln]
      exact h1
    · simp only [hln]
      exact hG6.lower (Nat.le_trans Hb2.out.size (Nat.le_refl _))
    · exact (HStore.out.bl.below hb6).only (Only.refl Empty _) (fun _ _ h => h.elim) |> fun h => by
        have h0 : BlobsAt w (PlanT g w.heap.size) M := fun q hq => ⟨(HStore.out.bl q hq).1.mono (fun i h1 h2 => by
          rcases h2 with h2 | h2
          · have := Hg.out; omega
          · omega), (HStore.out.bl q hq).2⟩
        exact h0.below hb6
  have HPW := Lib.hid hPW
  have Hb6 := Lib.hid hb6
  have HKs := Lib.hid hKs
  have HK64 : Hid (∀ k ∈ K, ∀ x ∈ k.ks, x.length ≤ 64) := Lib.hid (fun k hk => kbsL_64 HFair.out n k.ks (by rw [← hKs]; exact List.mem_map_of_mem hk))
  clear hB5 hG5 hB6 hO6 hG6 hb6 hK6 hPW hK5 hKn hKs hb5 Hkb HB4 HG4 hbi5
  go_wp2_with fail
  obtain ⟨w6, hw6⟩ : ∃ w6, w6 = w5.setCell ⟨g, 3, none⟩ (.slice KA n kcap) := ⟨_, rfl⟩
  rw [← hw6] at HPW Hb6 h2d hbi6 ⊢
  have HKs2 : Hid (Rounds Z L M room (4 * n) (⟨secsOf ss, ⟨hsec, hnext, hleft, htxn⟩, []⟩ : PV).nm (K.map Kr.ks) b PF KF) := Lib.hid (by
    rw [HKs.out, Hn.out]
    exact HRo.out)
  have hC : Hid (PC g w.heap.size p c e mb Z L ss M) := Lib.hid ⟨fun q hq => by
    have h1 : q < w.heap.size := by
      exact HFS.out.three_lt hq
    have := Hg.out
    omega, by
    have h1 := HStore.out.map.lt
    have := Hg.out
    omega, HFair.out⟩
  have hnb : n ≤ 64 := hz.2.1
  have hg0 : g ≤ w6.heap.size := by have := HPW.out.plan.blk.lt; omega
  have hgs := Hg.out
  have hlen6 : Hid ((⟨secsOf ss, ⟨hsec, hnext, hleft, htxn⟩, []⟩ : PV).l.length = ss.length) := Lib.hid (by simp [secsOf])
  clear hw6 h3c h2c h3f g5 g2c g2f g3 HKs HRo hgs h2d
  go_loopw [47] (fun v wr => ∃ (i : Nat) (R : PP) (P : PV) (K : List Kr), i ≤ 4 * n ∧ v = .int .i64 (i : Int) ∧ Hid (PW wr g w.heap.size bi p c e mb Z L ss M.length M KA n kcap R P K) ∧ Hid (Rounds Z L M room (4 * n - i) P.nm (K.map Kr.ks) b PF KF) ∧ Hid (P.l.length = ss.length) ∧ Hid (∀ k ∈ K, ∀ x ∈ k.ks, x.length ≤ 64) ∧ Hid (PQ g w.heap.size w6 wr)) (fun v _ => 4 * n - (intOf v).toNat)
  case atStart => exact ⟨0, _, _, K, Nat.zero_le _, rfl, HPW, HKs2, hlen6, HK64, Lib.hid (PQ.refl _ _ _)⟩
  case round =>
    clear HPW HKs2 hlen6 HK64
    obtain ⟨i, R, P, K, hi, rfl, HX, HR, HL, HK, HQ⟩ := hrel
    by_cases hlt : i < 4 * n
    · have hr := HR.out
      rw [show 4 * n - i = (4 * n - (i + 1)) + 1 by omega] at hr
      have Hinv := Lib.hid hr.inv
      have hinv := Hinv.out
      have hszr := HQ.out.size
      clear hr HR
      rcases hinv with ⟨t, hm, rfl⟩ | ⟨t, hm, htk, rfl⟩ | ⟨t, P1, K1, hm, htk, h64, hrest⟩
      · have Hmk := Lib.hid (makeRoom_any g w.heap.size bi p c e mb Z L M.length n kcap t ss M KA R P K false PF KF wr HX.out hC.out hm HL.out Hn.out HK.out (by have := Hg.out; omega) (by omega))
        clear hm Hinv
        go_wp2_with fail
        refine Hmk.out.mono ?_
        rintro e7 w7 ⟨rfl, ⟨R7, P7, K7, hW7, hP7, hK7, hl7⟩, hq7⟩
        have HW7 := Lib.hid hW7
        have HQ7 := Lib.hid (HQ.out.trans hq7)
        have HBl := Lib.hid (Hb6.out.trans (HQ7.out.only.below Hb6.out.size (fun k h1 h2 => by
          rcases h2 with h2 | h2
          · have := Hg.out; omega
          · omega)))
        clear hW7 hP7 hK7 hl7 hq7 Hmk
        have hBz := HW7.out.plan.blk
        have y0 := hBz.frozen 0
        have y1 := hBz.frozen 1
        have y2 := hBz.frozen 2
        have y3 := hBz.frozen 3
        have y4 := hBz.frozen 4
        have y5 := hBz.frozen 5
        have y6 := hBz.frozen 6
        have y7 := hBz.frozen 7
        have y8 := hBz.frozen 8
        have x0 : w7.cell? ⟨g, 0, none⟩ = some (.pointer (some ⟨p, 0, none⟩)) := hBz.cell 0
        have x1 : w7.cell? ⟨g, 1, none⟩ = some (.map (some mb)) := hBz.cell 1
        have x2 := hBz.cell 2
        have x3 := hBz.cell 3
        have x4 := hBz.cell 4
        have x5 := hBz.cell 5
        have x6 := hBz.cell 6
        have x7 := hBz.cell 7
        have x8 := hBz.cell 8
        simp [planC] at x2 x3 x4 x5 x6 x7 x8
        have hglz := hBz.lt
        have HBz := Lib.hid hBz
        clear hBz
        go_wp2_with fail
        obtain ⟨wz, hwz⟩ : ∃ wz, wz = (((((((((w7.setCell ⟨g, 0, none⟩ (.pointer none)).setCell ⟨g, 1, none⟩ (.map none)).setCell ⟨g, 2, none⟩ (.slice none 0 0)).setCell ⟨g, 3, none⟩ (.slice none 0 0)).setCell ⟨g, 4, none⟩ (.int .i64 0)).setCell ⟨g, 5, none⟩ (.int .i64 0)).setCell ⟨g, 6, none⟩ (.int .i64 0)).setCell ⟨g, 7, none⟩ (.int .u32 0)).setCell ⟨g, 8, none⟩ (.slice none 0 0)) := ⟨_, rfl⟩
        have hzz := setZero HBz.out
        rw [← hwz] at hzz ⊢
        have t0 := hzz.1.cell 0
        have t1 := hzz.1.cell 1
        have t2 := hzz.1.cell 2
        have t3 := hzz.1.cell 3
        have t4 := hzz.1.cell 4
        have t5 := hzz.1.cell 5
        have t6 := hzz.1.cell 6
        have t7 := hzz.1.cell 7
        have t8 := hzz.1.cell 8
        simp at t0 t1 t2 t3 t4 t5 t6 t7 t8
        refine bodyPost_ret (v := .tuple #[.agg #[.pointer none, .map none, .slice none 0 0, .slice none 0 0, .int .i64 0, .int .i64 0, .int .i64 0, .int .u32 0, .slice none 0 0], .int .i64 10]) ?_ rfl ⟨Or.inl ⟨rfl, rfl⟩, HBl.out.trans (hzz.2.below HBl.out.size (fun k h1 h2 => by have := Hg.out; omega))⟩
        simp [results, Tryz.results76, go_sem, t0, t1, t2, t3, t4, t5, t6, t7, t8]
      · have Hmk := Lib.hid (makeRoom_any g w.heap.size bi p c e mb Z L M.length n kcap t ss M KA R P K true PF KF wr HX.out hC.out hm HL.out Hn.out HK.out (by have := Hg.out; omega) (by omega))
        have Htk := Lib.hid htk
        clear hm Hinv htk
        go_wp2_with fail
        refine Hmk.out.mono ?_
        rintro e7 w7 ⟨rfl, ⟨R7, P7, K7, hW7, hP7, hK7, hl7⟩, hq7⟩
        have HW7 := Lib.hid hW7
        have HP7 := Lib.hid hP7
        have HK7 := Lib.hid hK7
        have HL7 := Lib.hid hl7
        have HQ7 := Lib.hid (HQ.out.trans hq7)
        have q4 : w7.cell? ⟨g, 4, none⟩ = some (.int .i64 P7.h.sec) := HW7.out.plan.blk.cell 4
        have q5 : w7.cell? ⟨g, 5, none⟩ = some (.int .i64 P7.h.next) := HW7.out.plan.blk.cell 5
        have q6 : w7.cell? ⟨g, 6, none⟩ = some (.int .i64 P7.h.left) := HW7.out.plan.blk.cell 6
        have q7 : w7.cell? ⟨g, 7, none⟩ = some (.int .u32 P7.h.txn) := HW7.out.plan.blk.cell 7
        have hgl7 := HW7.out.plan.blk.lt
        have htk7 : takesB P7.h room = true := by
          have h1 := Htk.out
          rw [← HP7.out] at h1
          exact h1
        have Htake := Lib.hid (takes_any P7.h room w7)
        rw [htk7] at Htake
        unfold HeadV.v at Htake
        clear hW7 hP7 hK7 hl7 hq7 Hmk htk7
        go_wp2_with fail
        refine Htake.out.mono ?_
        rintro e8 w8 ⟨rfl, hb8⟩
        have HW8 := Lib.hid (HW7.out.below hC.out hb8)
        have HQ8 := Lib.hid (HQ7.out.trans (PQ.of_below hb8))
        have hBz := HW8.out.plan.blk
        have x0 : w8.cell? ⟨g, 0, none⟩ = some (.pointer (some ⟨p, 0, none⟩)) := hBz.cell 0
        have x1 : w8.cell? ⟨g, 1, none⟩ = some (.map (some mb)) := hBz.cell 1
        have x2 := hBz.cell 2
        have x3 := hBz.cell 3
        have x4 := hBz.cell 4
        have x5 := hBz.cell 5
        have x6 := hBz.cell 6
        have x7 := hBz.cell 7
        have x8 := hBz.cell 8
        simp [planC] at x2 x3 x4 x5 x6 x7 x8
        have y0 := hBz.frozen 0
        have y1 := hBz.frozen 1
        have y2 := hBz.frozen 2
        have y3 := hBz.frozen 3
        have y4 := hBz.frozen 4
        have y5 := hBz.frozen 5
        have y6 := hBz.frozen 6
        have y7 := hBz.frozen 7
        have y8 := hBz.frozen 8
        have hgl8 := hBz.lt
        have HBz := Lib.hid hBz
        clear hb8 Htake hBz q4 q5 q6 q7
        go_wp2_with fail
        obtain ⟨wz, hwz⟩ : ∃ wz, wz = setPlan w8 g p mb (.slice R7.A P7.l.length R7.cap) (.slice KA n kcap) P7.h (.slice R7.As P7.sts.length R7.cs) := ⟨_, rfl⟩
        have hBz2 : Blk wz g 144 (planC p mb (.slice R7.A P7.l.length R7.cap) (.slice KA n kcap) P7.h (.slice R7.As P7.sts.length R7.cs)) := by
          rw [hwz]
          exact setPlan_blk HBz.out
        have hOz : Only (· = g) w8 wz := by rw [hwz]; exact setPlan_only
        unfold setPlan at hwz
        rw [← hwz]
        have t0 : wz.cell? ⟨g, 0, none⟩ = some (.pointer (some ⟨p, 0, none⟩)) := hBz2.cell 0
        have t1 : wz.cell? ⟨g, 1, none⟩ = some (.map (some mb)) := hBz2.cell 1
        have t2 := hBz2.cell 2
        have t3 := hBz2.cell 3
        have t4 := hBz2.cell 4
        have t5 := hBz2.cell 5
        have t6 := hBz2.cell 6
        have t7 := hBz2.cell 7
        have t8 := hBz2.cell 8
        simp [planC] at t2 t3 t4 t5 t6 t7 t8
        have hKz : Keep EP w8 wz := Keep.of_block HBz.out (Or.inl rfl) hOz
        have hpo : PO g w.heap.size w8 wz := ⟨hOz.mono (fun k _ h2 => Or.inl h2), hKz⟩
        have hPz : PlanAt wz g w.heap.size p mb Z (.slice KA n kcap) R7 P7 := ⟨hBz2, HW8.out.plan.secs.far Sc.cells_len HBz.out (by decide) hOz, HW8.out.plan.sts.far (stp_len p Z) HBz.out (by decide) hOz⟩
        have hWz := HW8.out.po hC.out hpo hPz (fun s hs => Or.inl hs)
        have hQz := HQ8.out.trans hpo.pq
        have HBl : Below w.heap.size w wz := Hb6.out.trans (hQz.only.below Hb6.out.size (fun k h1 h2 => by
          rcases h2 with h2 | h2
          · have := Hg.out; omega
          · omega))
        refine bodyPost_ret (v := .tuple #[planV p mb (.slice R7.A P7.l.length R7.cap) (.slice KA n kcap) P7.h (.slice R7.As P7.sts.length R7.cs), .int .i64 0]) ?_ rfl ⟨Or.inr ⟨rfl, g, bi, KA, kcap, R7, P7, K7, ?_, ?_, HP7.out, HK7.out, HL7.out, by have := Hg.out; omega, by have := hQz.size; omega⟩, HBl⟩
        · simp [results, Tryz.results76, go_sem, t0, t1, t2, t3, t4, t5, t6, t7, t8, planV, planC]
        · rw [← Hn.out]
        · rw [← Hn.out]
          exact hWz
      · have Hmk := Lib.hid (makeRoom_any g w.heap.size bi p c e mb Z L M.length n kcap t ss M KA R P K true P1 K1 wr HX.out hC.out hm HL.out Hn.out HK.out (by have := Hg.out; omega) (by omega))
        have Htk := Lib.hid htk
        have H64 := Lib.hid h64
        have Hrest := Lib.hid hrest
        clear hm Hinv htk h64 hrest
        go_wp2_with fail
        refine Hmk.out.mono ?_
        rintro e7 w7 ⟨rfl, ⟨R7, P7, K7, hW7, hP7, hK7, hl7⟩, hq7⟩
        have HW7 := Lib.hid hW7
        have HP7 := Lib.hid hP7
        have HK7 := Lib.hid hK7
        have HL7 := Lib.hid hl7
        have HQ7 := Lib.hid (HQ.out.trans hq7)
        have q4 : w7.cell? ⟨g, 4, none⟩ = some (.int .i64 P7.h.sec) := HW7.out.plan.blk.cell 4
        have q5 : w7.cell? ⟨g, 5, none⟩ = some (.int .i64 P7.h.next) := HW7.out.plan.blk.cell 5
        have q6 : w7.cell? ⟨g, 6, none⟩ = some (.int .i64 P7.h.left) := HW7.out.plan.blk.cell 6
        have q7 : w7.cell? ⟨g, 7, none⟩ = some (.int .u32 P7.h.txn) := HW7.out.plan.blk.cell 7
        have hgl7 := HW7.out.plan.blk.lt
        have htk7 : takesB P7.h room = false := by
          have h1 := Htk.out
          rw [← HP7.out] at h1
          exact h1
        have Htake := Lib.hid (takes_any P7.h room w7)
        rw [htk7] at Htake
        unfold HeadV.v at Htake
        clear hW7 hP7 hK7 hl7 hq7 Hmk htk7
        go_wp2_with fail
        refine Htake.out.mono ?_
        rintro e8 w8 ⟨rfl, hb8⟩
        have HW8 := Lib.hid (HW7.out.below hC.out hb8)
        have HQ8 := Lib.hid (HQ7.out.trans (PQ.of_below hb8))
        clear hb8 Htake q4 q5 q6 q7 hgl7
        go_wp2_with fail
        go_roundw
        case rel => exact ⟨i + 1, R7, P7, K7, by omega, by simp, HW8, Lib.hid (by rw [HP7.out, HK7.out]; exact Hrest.out), HL7, Lib.hid (fun k hk => H64.out k.ks (by rw [← HK7.out]; exact List.mem_map_of_mem hk)), HQ8⟩
        case measure => simp [intOf]; omega
    · have hin : i = 4 * n := by omega
      have hr := HR.out
      rw [hin, Nat.sub_self] at hr
      have hb0 := hr.zero
      subst hb0
      have HBl := Lib.hid (Hb6.out.trans (HQ.out.only.below Hb6.out.size (fun k h1 h2 => by
        rcases h2 with h2 | h2
        · have := Hg.out; omega
        · omega)))
      have hil : ¬ (i : Int) < 4 * (n : Int) := by omega
      clear hr hin HR
      have hBz := HX.out.plan.blk
      have y0 := hBz.frozen 0
      have y1 := hBz.frozen 1
      have y2 := hBz.frozen 2
      have y3 := hBz.frozen 3
      have y4 := hBz.frozen 4
      have y5 := hBz.frozen 5
      have y6 := hBz.frozen 6
      have y7 := hBz.frozen 7
      have y8 := hBz.frozen 8
      have x0 : wr.cell? ⟨g, 0, none⟩ = some (.pointer (some ⟨p, 0, none⟩)) := hBz.cell 0
      have x1 : wr.cell? ⟨g, 1, none⟩ = some (.map (some mb)) := hBz.cell 1
      have x2 := hBz.cell 2
      have x3 := hBz.cell 3
      have x4 := hBz.cell 4
      have x5 := hBz.cell 5
      have x6 := hBz.cell 6
      have x7 := hBz.cell 7
      have x8 := hBz.cell 8
      simp [planC] at x2 x3 x4 x5 x6 x7 x8
      have hglz := hBz.lt
      have HBz := Lib.hid hBz
      clear hBz
      go_wp2_with fail
      obtain ⟨wz, hwz⟩ : ∃ wz, wz = (((((((((wr.setCell ⟨g, 0, none⟩ (.pointer none)).setCell ⟨g, 1, none⟩ (.map none)).setCell ⟨g, 2, none⟩ (.slice none 0 0)).setCell ⟨g, 3, none⟩ (.slice none 0 0)).setCell ⟨g, 4, none⟩ (.int .i64 0)).setCell ⟨g, 5, none⟩ (.int .i64 0)).setCell ⟨g, 6, none⟩ (.int .i64 0)).setCell ⟨g, 7, none⟩ (.int .u32 0)).setCell ⟨g, 8, none⟩ (.slice none 0 0)) := ⟨_, rfl⟩
      have hzz := setZero HBz.out
      rw [← hwz] at hzz ⊢
      have t0 := hzz.1.cell 0
      have t1 := hzz.1.cell 1
      have t2 := hzz.1.cell 2
      have t3 := hzz.1.cell 3
      have t4 := hzz.1.cell 4
      have t5 := hzz.1.cell 5
      have t6 := hzz.1.cell 6
      have t7 := hzz.1.cell 7
      have t8 := hzz.1.cell 8
      simp at t0 t1 t2 t3 t4 t5 t6 t7 t8
      refine bodyPost_ret (v := .tuple #[.agg #[.pointer none, .map none, .slice none 0 0, .slice none 0 0, .int .i64 0, .int .i64 0, .int .i64 0, .int .u32 0, .slice none 0 0], .int .i64 10]) ?_ rfl ⟨Or.inl ⟨rfl, rfl⟩, HBl.out.trans (hzz.2.below HBl.out.size (fun k h1 h2 => by have := Hg.out; omega))⟩
      simp [results, Tryz.results76, go_sem, t0, t1, t2, t3, t4, t5, t6, t7, t8]

end Go.Proofs.YtidbipbangifbaaGreatDoor

/- Steps without where they lie; blob's plan, whole: what it leaves for a commit. -/
namespace Go.Proofs.YtidbipbangifbaaGreatDoor
set_option maxRecDepth 100000
open Go.RowKit Go.Maps

theorem nm_may (l : List Ch) : (∀ f ∈ l.map Ch.nm, f.may = true) ↔ ∀ f ∈ l, f.may = true := by
  simp only [List.mem_map]
  constructor
  · intro h f hf
    exact h f.nm ⟨f, hf, rfl⟩
  · rintro h _ ⟨f, hf, rfl⟩
    exact h f hf
theorem nm_commitB (l : List Ch) (t : Nat) : commitB (l.map Ch.nm) t = commitB l t := by
  unfold commitB recsL
  rw [List.map_map, List.length_map, List.flatMap_append, List.flatMap_append, List.flatMap_map, List.flatMap_map]
  congr 2
theorem nm_run (Z : Nat) (ss : List (Nat × List UInt8)) (s : Stp) : s.nm.run Z ss = s.run Z ss := by
  cases s with
  | lay k o t A n cap l => show ss.set k _ = ss.set k _; rw [nm_commitB]
  | _ => rfl
theorem nm_ok (Z L : Nat) (ss : List (Nat × List UInt8)) (s : Stp) : s.nm.Ok Z L ss ↔ s.Ok Z L ss := by
  cases s with
  | lay k o t A n cap l =>
    show (∃ m xs, ss[k]? = some (m, xs) ∧ (∀ f ∈ l.map Ch.nm, f.may = true) ∧ n ≤ 16 ∧ t ≠ 0 ∧ t ≤ 4294967295 ∧ o + roomL (l.map Ch.nm) ≤ Z ∧ Blank xs o (roomL (l.map Ch.nm))) ↔ ∃ m xs, ss[k]? = some (m, xs) ∧ (∀ f ∈ l, f.may = true) ∧ n ≤ 16 ∧ t ≠ 0 ∧ t ≤ 4294967295 ∧ o + roomL l ≤ Z ∧ Blank xs o (roomL l)
    rw [nm_sz, nm_may]
  | _ => rfl
theorem nm_oks (Z L : Nat) : ∀ (l : List Stp) (ss : List (Nat × List UInt8)), Stp.Oks Z L ss (l.map Stp.nm) → Stp.Oks Z L ss l
  | [], _, _ => trivial
  | s :: l, ss, h => ⟨(nm_ok Z L ss s).1 h.1, nm_oks Z L l _ (by rw [← nm_run]; exact h.2)⟩
theorem nm_runs (Z : Nat) : ∀ (l : List Stp) (ss : List (Nat × List UInt8)), Stp.runs Z ss (l.map Stp.nm) = Stp.runs Z ss l
  | [], _ => rfl
  | s :: l, ss => by
    show Stp.runs Z (s.nm.run Z ss) (l.map Stp.nm) = Stp.runs Z (s.run Z ss) l
    rw [nm_run, nm_runs Z l]

/-- What a plan leaves in memory. -/
structure PR (w : World) (base bi p Z : Nat) (M : Al Sv) (KA : Option Addr) (kn kcap : Nat) (R : PP) (P : PV) (K : List Kr) : Prop where
  secs : GotR Sc.cells 3 81 base w R.A P.l.length R.cap P.l
  sts : GotR (Stp.cells p Z) 1 132 base w R.As P.sts.length R.cs P.sts
  keys : KeysAt w base bi KA kcap K
  kn : K.length = kn
  at_ : ∀ s ∈ P.sts, StAt w base M s
theorem PR.below {w w' : World} {base bi p Z : Nat} {M : Al Sv} {KA : Option Addr} {kn kcap : Nat} {R : PP} {P : PV} {K : List Kr} (h : PR w base bi p Z M KA kn kcap R P K) (b : Below w.heap.size w w') : PR w' base bi p Z M KA kn kcap R P K :=
  ⟨h.secs.below Sc.cells_len b, h.sts.below (stp_len p Z) b, h.keys.below b, h.kn, fun s hs => (h.at_ s hs).pq (g := 0) (PQ.of_below b)⟩

/-- How blob's plan ends where there is room. -/
def PlanEnd (base p mb Z : Nat) (M : Al Sv) (PF : PV) (KF : List (List (List UInt8))) (w' : World) (e1 : Ending) : Prop :=
  ∃ bi KA kn kcap R P K, e1 = .returned (.tuple #[planV p mb (.slice R.A P.l.length R.cap) (.slice KA kn kcap) P.h (.slice R.As P.sts.length R.cs), .int .i64 0]) ∧ PR w' base bi p Z M KA kn kcap R P K ∧ P.nm = PF ∧ K.map Kr.ks = KF ∧ bi ≤ w'.heap.size
/-- What a plan comes to. -/
def PlanM (Z L : Nat) (M : Al Sv) (h : HeadV) (ss : List (Nat × List UInt8)) (room : Int) (PF : PV) (KF : List (List (List UInt8))) : Prop :=
  (takesB h room = true ∧ PF = ⟨[], h, []⟩ ∧ KF = []) ∨ (takesB h room = false ∧ Rounds Z L M room (4 * ss.length) ⟨secsOf ss, h, []⟩ (kbsL M ss.length (M.map (·.1))) true PF KF)

theorem plan_any (s mb p c e Z L : Nat) (M : Al Sv) (h : HeadV) (d : Bool) (ss : List (Nat × List UInt8)) (room : Int) (PF : PV) (KF : List (List (List UInt8))) (w : World) (hS : StoreAt w s mb p c e M h d) (hs : FS w p c e Z L ss) (hMark : Mark w) (hM : M.length ≤ 1048576) (hF : FairM M) (hsecs : SecsIn M ss.length)
    (hR : PlanM Z L M h ss room PF KF) :
    Calls Tryz.prog 76 #[.pointer (some ⟨s, 0, none⟩), .int .i64 room] w fun e1 w' => PlanEnd w.heap.size p mb Z M PF KF w' e1 ∧ Below w.heap.size w w' := by
  rcases hR with ⟨ht, rfl, rfl⟩ | ⟨ht, hR⟩
  · refine (plan_now s mb p c e M h d room w hS ht).mono ?_
    rintro e1 w' ⟨rfl, hb⟩
    refine ⟨⟨w.heap.size, none, 0, 0, ⟨none, 0, none, 0⟩, ⟨[], h, []⟩, [], rfl, ⟨GotR.nil_ _ _ _ _ _, GotR.nil_ _ _ _ _ _, ⟨Nat.le_refl _, GotR.nil_ _ _ _ _ _, fun i k hk => by simp at hk, fun i j a b ha => by simp at ha⟩, rfl, fun s hs => by cases hs⟩, rfl, rfl, hb.size⟩, hb⟩
  · refine (plan_made s mb p c e Z L M h d ss room true PF KF w hS hs hMark hM hF hsecs ht hR).mono ?_
    rintro e1 w' ⟨hp, hb⟩
    refine ⟨?_, hb⟩
    rcases hp with ⟨h0, _⟩ | ⟨_, g, bi, KA, kcap, R, P, K, rfl, hW, hP, hK, hl, hg, hbi⟩
    · cases h0
    · exact ⟨bi, KA, ss.length, kcap, R, P, K, rfl, ⟨hW.plan.secs, hW.plan.sts, hW.keys, hW.kn, hW.sts⟩, hP, hK, hbi⟩

end Go.Proofs.YtidbipbangifbaaGreatDoor

/- The walk over blob's Commit, where it is done. -/
namespace Go.Proofs.YtidbipbangifbaaGreatDoor
set_option maxRecDepth 100000
open Go.RowKit Go.Maps

theorem refuC_zero {l : List Ch} {b : Nat} (h : refuC l b = 0) : l.length ≠ 0 ∧ l.length ≤ 16 ∧ (∀ f ∈ l, f.may = true) ∧ dupB l = false ∧ roomL l ≤ b / 2 := by
  unfold refuC at h
  split at h
  · cases h
  · rename_i h1
    split at h
    · cases h
    · rename_i h2
      split at h
      · cases h
      · rename_i h3
        refine ⟨by omega, by omega, fun f hf => ?_, by simpa using h2, by omega⟩
        have h4 : ¬ l.any (fun f => !f.may) = true := fun h => h1 (Or.inr (Or.inr h))
        rw [List.any_eq_true] at h4
        cases hm : f.may
        · exact absurd ⟨f, hf, by simp [hm]⟩ h4
        · rfl

/-- A store's map behind a commit's changes. -/
def applyL (X : Al (Int × List UInt8)) (l : List Ch) (k : Int) : Al (Int × List UInt8) := l.foldl (fun X f => applyA X f k) X
theorem applyL_snoc (X : Al (Int × List UInt8)) (l : List Ch) (f : Ch) (k : Int) : applyL X (l ++ [f]) k = applyA (applyL X l k) f k := by simp [applyL, List.foldl_append]

/-- A commit that is done. -/
def Done (s mb p c e Z L : Nat) (M : Al Sv) (ss : List (Nat × List UInt8)) (n : Nat) (l : List Ch) (PF : PV) (KF : List (List (List UInt8))) (k o t : Nat) (w w' : World) (e1 : Ending) : Prop :=
  e1 = .returned (.int .i64 0) ∧ (∃ M', StoreAt w' s mb p c e M' (PF.laid k o t none n 0 (l.map Ch.nm)).h false ∧ amap Sv.a M' = applyL (reSecK 0 (amap Sv.a M) KF) l (k : Int) ∧ M'.length ≤ M.length + n) ∧ FS w' p c e Z L (Stp.runs Z ss (PF.sts ++ [.lay k o t none n 0 (l.map Ch.nm)])) ∧ Only (Mut s mb p c e) w w'

set_option maxHeartbeats 8000000 in
theorem commit_done (s mb p c e Z L : Nat) (M : Al Sv) (h : HeadV) (ss : List (Nat × List UInt8)) (A : Option Addr) (n cap : Nat) (l : List Ch) (PF : PV) (KF : List (List (List UInt8))) (k o t : Nat) (w : World) (hS : StoreAt w s mb p c e M h false) (hs : FS w p c e Z L ss) (hMark : Mark w) (hM : M.length ≤ 1048500) (hF : FairM M) (hsecs : SecsIn M ss.length)
    (hC : Chs w (Mut s mb p c e) A n cap l) (hn : n ≤ 1048576) (href : refuC l (Z - 12) = 0) (hplan : PlanM Z L M h ss (roomL l : Int) PF KF) (hhd : HdOk Z PF.h k o t) (hst : PF.sts.length ≤ 1000000) (hoks : Stp.Oks Z L ss (PF.sts ++ [.lay k o t none n 0 (l.map Ch.nm)])) (hkf : ∀ ks ∈ KF, ks.length ≤ 1048576 ∧ ∀ x ∈ ks, (afind M x).isSome = true) (hkl : KF.length ≤ 64)
    (hT : ∀ q, Three p c e q → q ≠ s ∧ q ≠ mb) (hp0 : ¬ Three p c e 0) :
    Calls Tryz.prog 42 #[.pointer (some ⟨s, 0, none⟩), .slice A n cap] w fun e1 w' => Done s mb p c e Z L M ss n l PF KF k o t w w' e1 := by
  have hz := hs.bz
  have hr0 := refuC_zero href
  have hln : l.length = n := hC.1
  have hfair := fair_of hr0.2.2.1
  have hl16 : n ≤ 16 := by omega
  have hl0 : 0 < n := by omega
  have hrl := roomL_le l hfair
  rw [hln] at hrl
  have Hdown := Lib.hid (down_any s p mb h false w hS.blk)
  have s0 : w.cell? ⟨s, 0, none⟩ = some (.pointer (some ⟨p, 0, none⟩)) := hS.blk.cell 0
  have hsl := hS.blk.lt
  have Hbe := Lib.hid (behind_any p c e Z L ss w hs)
  have Hre := Lib.hid (fun W (hW : Below w.heap.size w W) => refusal_any A n cap l (Z - 12) W ((hC.below hW).mono (T := Empty) (fun _ _ h => h.elim)) (by omega) hn)
  rw [href] at Hre
  have Hro := Lib.hid (fun W (hW : Below w.heap.size w W) => roomOf_any A n cap l W ((hC.below hW).mono (T := Empty) (fun _ _ h => h.elim)) hfair (by omega))
  obtain ⟨V, hV⟩ : ∃ V, V = Z - 12 := ⟨_, rfl⟩
  obtain ⟨RM, hRM⟩ : ∃ RM, RM = roomL l := ⟨_, rfl⟩
  rw [← hV] at Hbe Hre
  rw [← hRM] at Hro hplan hrl
  have HS := Lib.hid hS
  have HFS := Lib.hid hs
  have HMk := Lib.hid hMark
  have HF := Lib.hid hF
  have HSec := Lib.hid hsecs
  have HC := Lib.hid hC
  have Hplan := Lib.hid hplan
  have Hhd := Lib.hid hhd
  have Hoks := Lib.hid hoks
  have Hkf := Lib.hid hkf
  have HT := Lib.hid hT
  have Hp0 := Lib.hid hp0
  have HRM := Lib.hid hRM
  have Hln := Lib.hid hln
  have Hr0 := Lib.hid hr0
  have Hfair := Lib.hid hfair
  have hcapn : n ≤ cap := hC.2.1
  have hcap2 : cap ≤ 9223372036854775807 := by have := hC.2.2.1; unfold maxLen at this; omega
  clear hS hs hMark hF hsecs hC href hplan hhd hoks hkf hT hp0 hV hRM hln hr0 hfair
  go_enter Tryz.func42, Tryz.ntmps42
  go_wp2_with fail
  refine Hdown.out.mono ?_
  rintro e1 w1 ⟨rfl, rfl⟩
  clear Hdown
  go_wp2_with fail
  refine Hbe.out.mono ?_
  rintro e2 w2 ⟨rfl, hb2⟩
  have Hb2 := Lib.hid hb2
  clear hb2 Hbe
  go_wp2_with fail
  refine (Hre.out w2 Hb2.out).mono ?_
  rintro e3 w3 ⟨rfl, hb3⟩
  have Hb3 := Lib.hid (Hb2.out.trans (hb3.mono Hb2.out.size))
  clear hb3 Hre
  go_wp2_with fail
  refine (Hro.out w3 Hb3.out).mono ?_
  rintro e4 w4 ⟨rfl, hb4⟩
  have Hb4 := Lib.hid (Hb3.out.trans (hb4.mono Hb3.out.size))
  clear hb4 Hro
  go_wp2_with fail
  have Hpl := Lib.hid (plan_any s mb p c e Z L M h false ss (RM : Int) PF KF w4 (HS.out.below Hb4.out) (HFS.out.below Hb4.out) (HMk.out.below Hb4.out) (by omega) HF.out HSec.out Hplan.out)
  refine Hpl.out.mono ?_
  rintro e5 w5 ⟨⟨bi, KA, kn, kcap, R, P, K, rfl, hPR, hP, hK, hbi⟩, hb5⟩
  have hbase5 : w4.heap.size ≤ w5.heap.size := hb5.size
  have Hb5 := Lib.hid (Hb4.out.trans (hb5.mono Hb4.out.size))
  have HPR := Lib.hid hPR
  have HP := Lib.hid hP
  have HK := Lib.hid hK
  clear hb5 Hpl hPR hP hK s0 hsl
  unfold planV planC
  go_wp2_with fail
  obtain ⟨base, hbs⟩ : ∃ base, base = w4.heap.size := ⟨_, rfl⟩
  obtain ⟨g5, hg5⟩ : ∃ g5, g5 = w5.heap.size := ⟨_, rfl⟩
  have hwb : w.heap.size ≤ base := by rw [hbs]; exact Hb4.out.size
  have hal := (Below.refl w5.heap.size w5).alloc (Nat.le_refl _) (.cells #[.pointer (some ⟨p, 0, none⟩), .map (some mb), .slice R.A P.l.length R.cap, .slice KA kn kcap, .int .i64 P.h.sec, .int .i64 P.h.next, .int .i64 P.h.left, .int .u32 P.h.txn, .slice R.As P.sts.length R.cs] 144)
  have hbx := Blk.new w5 144 #[.pointer (some ⟨p, 0, none⟩), .map (some mb), .slice R.A P.l.length R.cap, .slice KA kn kcap, .int .i64 P.h.sec, .int .i64 P.h.next, .int .i64 P.h.left, .int .u32 P.h.txn, .slice R.As P.sts.length R.cs]
  obtain ⟨w6, hw6⟩ : ∃ w6, w6 = w5.alloc (.cells #[.pointer (some ⟨p, 0, none⟩), .map (some mb), .slice R.A P.l.length R.cap, .slice KA kn kcap, .int .i64 P.h.sec, .int .i64 P.h.next, .int .i64 P.h.left, .int .u32 P.h.txn, .slice R.As P.sts.length R.cs] 144) := ⟨_, rfl⟩
  rw [← hw6] at hal hbx ⊢
  rw [← hg5] at hbx
  rw [← hbs] at hbase5 HPR
  have HPR6 := Lib.hid (HPR.out.below hal)
  have hg5b : base ≤ g5 := by rw [hg5]; exact hbase5
  have hb6 : Below w.heap.size w w6 := Hb5.out.trans (hal.mono Hb5.out.size)
  have hPA6 : PlanAt w6 g5 base p mb Z (.slice KA kn kcap) R P := ⟨hbx, HPR6.out.secs, HPR6.out.sts⟩
  have h5s : w5.heap.size ≤ w6.heap.size := hal.size
  have hbase6 : base ≤ w6.heap.size := by omega
  have hthree : ∀ q, Three p c e q → q < w.heap.size := fun q hq => HFS.out.three_lt hq
  have hMutlt : ∀ q, Mut s mb p c e q → q < w.heap.size := fun q hq => by
    rcases hq with rfl | rfl | hq
    · exact HS.out.blk.lt
    · exact HS.out.map.lt
    · exact hthree q hq
  have HSx : Hid (∀ W, PO g5 base w6 W → StoreAt W s mb p c e M h false ∧ FS W p c e Z L ss ∧ Mark W ∧ Chs W (fun q => Mut s mb p c e q ∨ base ≤ q) A n cap l ∧ BlobsAt W (fun q => Mut s mb p c e q ∨ base ≤ q) M) := Lib.hid (fun W hW => by
    have hnT : ∀ q, q < w.heap.size → ¬ PlanT g5 base q := fun q h1 h2 => by rcases h2 with h2 | h2 <;> omega
    have hS6 := HS.out.below hb6
    have hchs : Chs w (fun q => Mut s mb p c e q ∨ base ≤ q) A n cap l := HC.out.mono (fun i h1 h2 => by
      rcases h2 with h2 | h2
      · exact h2
      · omega)
    have hbl : BlobsAt w (fun q => Mut s mb p c e q ∨ base ≤ q) M := fun q hq => ⟨(HS.out.bl q hq).1.mono (fun i h1 h2 => by
      rcases h2 with h2 | h2
      · exact h2
      · omega), (HS.out.bl q hq).2⟩
    have hTS : ∀ i, PlanT g5 base i → (Mut s mb p c e i ∨ base ≤ i) := fun i h2 => by
      rcases h2 with h2 | h2
      · exact Or.inr (by omega)
      · exact Or.inr h2
    have hbl2 := (hbl.below hb6).only hW.only (fun i _ h2 => hTS i h2)
    refine ⟨⟨hW.only.blk hS6.blk (hnT s HS.out.blk.lt), hS6.map.only hW.only (hnT mb HS.out.map.lt), fun q hq => ⟨(hbl2 q hq).1.mono (fun i _ h2 => Or.inl h2), (hbl2 q hq).2⟩⟩, ?_, ?_, (hchs.below hb6).only hW.only (fun i _ h2 => hTS i h2), hbl2⟩
    · exact (HFS.out.below hb6).of hW.only (hnT p (hthree p (Or.inl rfl))) (hnT c (hthree c (Or.inr (Or.inl rfl)))) (hnT e (hthree e (Or.inr (Or.inr rfl))))
    · exact (HMk.out.below hb6).only hW.only (hnT 0 (by have := hthree p (Or.inl rfl); omega)))
  have hPh : P.h = PF.h := by rw [← HP.out]; rfl
  have hPs : P.sts.map Stp.nm = PF.sts := by rw [← HP.out]; rfl
  have hPsl : P.sts.length ≤ 1000000 := by
    have h1 := congrArg List.length hPs
    rw [List.length_map] at h1
    omega
  have hd := Hhd.out
  rw [← hPh] at hd
  have Hlay := Lib.hid (pLay_any g5 base p mb Z _ R P k o t A n cap l w6 hPA6 Hln.out (fun W hW => (HSx.out W hW).2.2.2.1.mono (T := Empty) (fun _ _ h => h.elim)) Hfair.out (by omega) hPsl hbase6 hd.next hd.txn hd.t0 hd.t1 hd.far ⟨hd.l0, hd.l1⟩)
  have HPs := Lib.hid hPs
  have HPh := Lib.hid hPh
  have Hb6 := Lib.hid hb6
  have Hthree := Lib.hid hthree
  have HMutlt := Lib.hid hMutlt
  have Hhd2 := Lib.hid hd
  have Hg5 := Lib.hid hg5
  have hpoR : Hid (∀ W, PO g5 base w6 W → PR W base bi p Z M KA kn kcap R P K → True) := Lib.hid (fun _ _ _ => trivial)
  clear hpoR hal hbx hw6 hPA6 hPh hPs hd hb6 hthree hMutlt hg5 hbs
  rw [← Hg5.out]
  refine Hlay.out.mono ?_
  rintro e7 w7 ⟨rfl, ⟨R7, hP7⟩, hO7⟩
  have HP7 := Lib.hid hP7
  have HO7 := Lib.hid hO7
  have c8 : w7.cell? ⟨g5, 8, none⟩ = some (.slice R7.As (P.laid k o t A n cap l).sts.length R7.cs) := hP7.blk.cell 8
  obtain ⟨n1, hn1⟩ : ∃ n1, n1 = (P.laid k o t A n cap l).sts.length := ⟨_, rfl⟩
  have hg7 := hP7.blk.lt
  have Hdo : Hid (Calls Tryz.prog 32 #[.slice R7.As (P.laid k o t A n cap l).sts.length R7.cs] w7 fun e1 w' => StepOk p c e Z L (Stp.runs Z ss (P.laid k o t A n cap l).sts) w7 w' e1) := Lib.hid (by
    have hx := HSx.out w7 hO7
    have hnTh : ∀ i, base ≤ i → ¬ Three p c e i := fun i h1 h2 => by have := Hthree.out i h2; omega
    refine do_any (ss := ss) R7.As _ R7.cs _ w7 hx.2.1 (hP7.sts.out (fun i h1 _ h2 => hnTh i h1 h2)) (fun st hst => ?_) (nm_oks Z L _ ss ?_) hx.2.2.1 Hp0.out
    · rcases List.mem_append.1 hst with h1 | h1
      · have h2 := (HPR6.out.at_ st h1).pq hO7.pq
        cases st with
        | lay k2 o2 t2 A2 n2 c2 l2 =>
          obtain ⟨hG, F, rfl⟩ := h2
          have hr := hG.out (S := Three p c e) (fun i h1 _ h2 => hnTh i h1 h2)
          refine ⟨hr.1, hr.2.1, hr.2.2.1, hr.2.2.2, fun f hf => ?_⟩
          obtain ⟨x, _, rfl⟩ := List.mem_map.1 hf
          have h3 := BlobsAt.at_ hx.2.2.2.2 x
          exact ⟨h3.1.mono (fun i _ h4 => Or.inl (Or.inr (Or.inr h4))), h3.2⟩
        | _ => trivial
      · rw [List.mem_singleton.1 h1]
        exact hx.2.2.2.1.mono (fun i _ h2 => Or.inl (Or.inr (Or.inr h2)))
    · show Stp.Oks Z L ss ((P.sts ++ [_]).map Stp.nm)
      rw [List.map_append, HPs.out]
      exact Hoks.out)
  rw [← hn1] at c8 Hdo
  have Hn1 := Lib.hid hn1
  clear hP7 hO7 hn1 Hlay
  go_wp2_with fail
  refine Hdo.out.mono ?_
  rintro e8 w8 ⟨rfl, hF8, hO8⟩
  have hB8 : Blk w8 g5 144 (planC p mb (.slice R7.A (P.laid k o t A n cap l).l.length R7.cap) (.slice KA kn kcap) (P.laid k o t A n cap l).h (.slice R7.As (P.laid k o t A n cap l).sts.length R7.cs)) := hO8.blk HP7.out.blk (fun h1 => by have := Hthree.out g5 h1; omega)
  rw [← Hn1.out] at hB8
  obtain ⟨P1, hP1⟩ : ∃ P1, P1 = P.laid k o t A n cap l := ⟨_, rfl⟩
  rw [← hP1] at hB8
  have hx7 := HSx.out w7 HO7.out
  have hS8 : StoreAt w8 s mb p c e M h false := by
    refine ⟨hO8.blk hx7.1.blk (fun h1 => (HT.out s h1).1 rfl), hx7.1.map.only hO8 (fun h1 => (HT.out mb h1).2 rfl), hx7.1.bl.only hO8 (fun i _ h1 => Or.inr (Or.inr h1))⟩
  have hC8 : Chs w8 (fun q => Mut s mb p c e q ∨ base ≤ q) A n cap l := hx7.2.2.2.1.only hO8 (fun i _ h1 => Or.inl (Or.inr (Or.inr h1)))
  have hK8 : KeysAt w8 base bi KA kcap K := (HPR6.out.keys.keep HO7.out.keep (by unfold EP; decide) (by unfold EP; decide)).only hO8 (fun i h1 _ h2 => by have := Hthree.out i h2; omega)
  have h0 : w8.cell? ⟨g5, 0, none⟩ = some (.pointer (some ⟨p, 0, none⟩)) := hB8.cell 0
  have h1 : w8.cell? ⟨g5, 1, none⟩ = some (.map (some mb)) := hB8.cell 1
  have h2 : w8.cell? ⟨g5, 2, none⟩ = some (.slice R7.A P1.l.length R7.cap) := hB8.cell 2
  have h3 : w8.cell? ⟨g5, 3, none⟩ = some (.slice KA kn kcap) := hB8.cell 3
  have h4 : w8.cell? ⟨g5, 4, none⟩ = some (.int .i64 P1.h.sec) := hB8.cell 4
  have h5 : w8.cell? ⟨g5, 5, none⟩ = some (.int .i64 P1.h.next) := hB8.cell 5
  have h6 : w8.cell? ⟨g5, 6, none⟩ = some (.int .i64 P1.h.left) := hB8.cell 6
  have h7 : w8.cell? ⟨g5, 7, none⟩ = some (.int .u32 P1.h.txn) := hB8.cell 7
  have h8 : w8.cell? ⟨g5, 8, none⟩ = some (.slice R7.As n1 R7.cs) := hB8.cell 8
  have hg8 := hB8.lt
  have hsz8 : base ≤ w8.heap.size := by have := HO7.out.size; have := hO8.size; omega
  have hkn : K.length = kn := HPR6.out.kn
  have hKF : ∀ kr ∈ K, kr.ks.length ≤ 1048576 ∧ ∀ x ∈ kr.ks, (afind M x).isSome = true := fun kr hkr => Hkf.out kr.ks (by rw [← HK.out]; exact List.mem_map_of_mem hkr)
  have hset := settle_any s mb p c e base bi KA kcap K M h P1.h false (.slice R7.A P1.l.length R7.cap) (.slice R7.As n1 R7.cs) w8 hS8 hK8 (by omega) HF.out (fun kr h1 x h2 => (hKF kr h1).2 x h2) ⟨by have := HMutlt.out s (Or.inl rfl); omega, by have := HMutlt.out mb (Or.inr (Or.inl rfl)); omega⟩ hsz8 (by
    have e : K.length = KF.length := by rw [← HK.out, List.length_map]
    omega) (fun kr h1 => (hKF kr h1).1)
  rw [hkn] at hset
  unfold planV planC at hset
  have Hset := Lib.hid hset
  have HB8 := Lib.hid hB8
  have HF8 := Lib.hid hF8
  have HO8 := Lib.hid hO8
  have HC8 := Lib.hid hC8
  have HP1 := Lib.hid hP1
  clear hset hB8 hF8 hO8 hC8 hS8 hK8 hx7 hkn hKF c8 hg7 Hdo hP1
  go_wp2_with fail
  refine Hset.out.mono ?_
  rintro e9 w9 ⟨rfl, hse⟩
  obtain ⟨⟨M9, hM9, hX9, hl9, hf9, -⟩, -, hO9⟩ := hse
  have hb9 : Blk w9 g5 144 _ := hO9.blk HB8.out (fun h1 => by
    rcases h1 with h1 | h1
    · have := HMutlt.out s (Or.inl rfl); omega
    · have := HMutlt.out mb (Or.inr (Or.inl rfl)); omega)
  have hC9 : Chs w9 (fun q => Mut s mb p c e q ∨ base ≤ q) A n cap l := HC8.out.only hO9 (fun i _ h1 => Or.inl (by
    rcases h1 with h1 | h1
    · exact Or.inl h1
    · exact Or.inr (Or.inl h1)))
  have hsec1 : P1.h.sec = (k : Int) := by rw [HP1.out]; exact Hhd2.out.sec
  have hF9 : FS w9 p c e Z L (Stp.runs Z ss P1.sts) := by
    rw [HP1.out]
    refine HF8.out.of hO9 (fun h1 => ?_) (fun h1 => ?_) (fun h1 => ?_)
    · rcases h1 with h1 | h1
      · exact (HT.out p (Or.inl rfl)).1 h1
      · exact (HT.out p (Or.inl rfl)).2 h1
    · rcases h1 with h1 | h1
      · exact (HT.out c (Or.inr (Or.inl rfl))).1 h1
      · exact (HT.out c (Or.inr (Or.inl rfl))).2 h1
    · rcases h1 with h1 | h1
      · exact (HT.out e (Or.inr (Or.inr rfl))).1 h1
      · exact (HT.out e (Or.inr (Or.inr rfl))).2 h1
  have HOw : Hid (Only (Mut s mb p c e) w w9) := Lib.hid (by
    have a1 : Only (Mut s mb p c e) w w6 := Only.of_below Hb6.out
    have a2 : Only (Mut s mb p c e) w w7 := a1.trans' HO7.out.only (fun i hi h1 => by
      rcases h1 with h1 | h1
      · omega
      · omega)
    have a3 : Only (Mut s mb p c e) w w8 := a2.trans (HO8.out.mono (fun i _ h1 => Or.inr (Or.inr h1)))
    exact a3.trans (hO9.mono (fun i _ h1 => by
      rcases h1 with h1 | h1
      · exact Or.inl h1
      · exact Or.inr (Or.inl h1))))
  have HM9 := Lib.hid hM9
  have HX9 := Lib.hid hX9
  have Hl9 := Lib.hid hl9
  have HB9 := Lib.hid hb9
  have HC9 := Lib.hid hC9
  have HF9 := Lib.hid hF9
  have Hsec1 := Lib.hid hsec1
  have hsz9 : base ≤ w9.heap.size := by have := hO9.size; omega
  clear hM9 hX9 hl9 hf9 hO9 hb9 hC9 hF9 hsec1 Hset h0 h1 h2 h3 h4 h5 h6 h7 h8 hg8
  go_wp2_with fail
  go_loopw [46] (fun v wr => ∃ (i : Nat) (Mi : Al Sv), i ≤ n ∧ v = .int .i64 (i : Int) ∧ Hid (StoreAt wr s mb p c e Mi P1.h false) ∧ Hid (amap Sv.a Mi = applyL (reSecK 0 (amap Sv.a M) KF) (l.take i) (k : Int) ∧ Mi.length ≤ M.length + i) ∧ Hid (Only (· = mb) w9 wr)) (fun v _ => n - (intOf v).toNat)
  case atStart => exact ⟨0, M9, Nat.zero_le _, rfl, HM9, Lib.hid ⟨by rw [HX9.out, HK.out]; rfl, by have := Hl9.out; omega⟩, Lib.hid (Only.refl _ _)⟩
  case round =>
    obtain ⟨i, Mi, hi, rfl, HSi, HXi, HOi⟩ := hrel
    have hCi : Chs wr (fun q => Mut s mb p c e q ∨ base ≤ q) A n cap l := HC9.out.only HOi.out (fun i _ h1 => Or.inl (Or.inr (Or.inl h1)))
    by_cases hlt : i < n
    · obtain ⟨b, o2, f, rfl, hb, hbS, hf, hc⟩ := hCi.at_ hlt
      have hmb : mb < w.heap.size := HMutlt.out mb (Or.inr (Or.inl rfl))
      have hfm := Hr0.out.2.2.1 f (List.mem_of_getElem? hf)
      have hff := f.may_fair hfm
      have hbf := hCi.2.2.2.2 f (List.mem_of_getElem? hf)
      have htk := take_snoc l i f hf
      have hal := (Below.refl wr.heap.size wr).alloc (Nat.le_refl _) (.cells #[.bool f.del, .string f.s, .slice f.A f.n f.cap] 103)
      have hB5 : Blk wr g5 144 _ := HOi.out.blk HB9.out (fun h1 => by omega)
      have q4 : wr.cell? ⟨g5, 4, none⟩ = some (.int .i64 P1.h.sec) := hB5.cell 4
      rw [Hsec1.out] at q4
      have hg5r := hB5.lt
      have hwr9 := HOi.out.size
      have hap := apply_any s mb p c e Mi P1.h false f (k : Int) (wr.alloc (.cells #[.bool f.del, .string f.s, .slice f.A f.n f.cap] 103)) (HSi.out.below hal) ⟨(hbf.1.only (Only.of_below (S := Empty) hal) (fun _ _ h => h.elim)).mono (fun i _ h1 => Or.inl h1), hbf.2⟩ hff (by have := HXi.out.2; omega) (fun h1 => (HT.out s h1).1 rfl) (fun q h1 h2 => by have := HMutlt.out q h2; have h3 := hal.size; omega)
      unfold Ch.v at hap
      have Hap := Lib.hid hap
      have Htk := Lib.hid htk
      have Hal := Lib.hid hal
      have c0 : wr.cell? ⟨b, o2 + i * 3, none⟩ = some (.bool f.del) := hc 0 (by omega)
      have c1 : wr.cell? ⟨b, o2 + i * 3 + 1, none⟩ = some (.string f.s) := hc 1 (by omega)
      have c2 : wr.cell? ⟨b, o2 + i * 3 + 2, none⟩ = some (.slice f.A f.n f.cap) := hc 2 (by omega)
      clear hCi hc hf hbf htk hap hal hB5 hfm hff
      go_wp2_with fail
      refine Hap.out.mono ?_
      rintro e10 w10 ⟨rfl, ⟨Mj, hMj, hXj, hlj⟩, hOj⟩
      have HSj := Lib.hid hMj
      have HXj := Lib.hid hXj
      have HOj := Lib.hid ((HOi.out.trans (Only.of_below (S := (· = mb)) Hal.out)).trans hOj)
      clear hMj hXj hOj Hap c0 c1 c2 q4
      go_wp2_with fail
      go_roundw
      case rel => exact ⟨i + 1, Mj, by omega, by simp, HSj, Lib.hid ⟨by rw [HXj.out, HXi.out.1, Htk.out, applyL_snoc], by have := HXi.out.2; omega⟩, HOj⟩
      case measure => simp [intOf]; omega
    · have hin : i = n := by omega
      have ht : l.take i = l := List.take_of_length_le (by have := Hln.out; omega)
      rw [ht] at HXi
      clear hCi
      go_wp2_with fail
      go_ret
      have hnm : P1.nm = PF.laid k o t none n 0 (l.map Ch.nm) := by rw [HP1.out, PV.laid_nm, HP.out]
      refine ⟨rfl, ⟨Mi, ?_, HXi.out.1, by rw [← hin]; exact HXi.out.2⟩, ?_, HOw.out.trans (HOi.out.mono (fun i _ h1 => Or.inr (Or.inl h1)))⟩
      · rw [← hnm]
        exact HSi.out
      · have ee : PF.sts ++ [Stp.lay k o t none n 0 (l.map Ch.nm)] = P1.sts.map Stp.nm := by
          show (PF.laid k o t none n 0 (l.map Ch.nm)).sts = P1.nm.sts
          rw [hnm]
        rw [ee, nm_runs]
        exact HF9.out.of HOi.out (fun h1 => (HT.out p (Or.inl rfl)).2 h1) (fun h1 => (HT.out c (Or.inr (Or.inl rfl))).2 h1) (fun h1 => (HT.out _ (Or.inr (Or.inr rfl))).2 h1)

end Go.Proofs.YtidbipbangifbaaGreatDoor

/- A plan's steps against the flash: what the plan tells of its sectors is what they are behind its steps. -/
namespace Go.Proofs.YtidbipbangifbaaGreatDoor
set_option maxRecDepth 100000
open Go.RowKit Go.Maps

/-- Sectors of a flash. -/
def WFs (Z L : Nat) (ss : List (Nat × List UInt8)) : Prop := ∀ x ∈ ss, x.2.length = Z ∧ x.1 ≤ L
theorem WFs.at_ {Z L : Nat} {ss : List (Nat × List UInt8)} (h : WFs Z L ss) {i m : Nat} {xs : List UInt8} (hi : ss[i]? = some (m, xs)) : xs.length = Z ∧ m ≤ L := h _ (List.mem_of_getElem? hi)
theorem WFs.set {Z L : Nat} {ss : List (Nat × List UInt8)} (h : WFs Z L ss) (i m : Nat) (xs : List UInt8) (h1 : xs.length = Z) (h2 : m ≤ L) : WFs Z L (ss.set i (m, xs)) := by
  intro x hx
  rcases List.mem_or_eq_of_mem_set hx with h3 | rfl
  · exact h x h3
  · exact ⟨h1, h2⟩
theorem WFs.of_fs {w : World} {p c e Z L : Nat} {ss : List (Nat × List UInt8)} (h : FS w p c e Z L ss) : WFs Z L ss := by
  intro x hx
  obtain ⟨i, hi, rfl⟩ := List.mem_iff_getElem.1 hx
  have h1 : ss[i]? = some (ss[i].1, ss[i].2) := List.getElem?_eq_getElem hi
  exact ⟨h.len h1, h.le h1⟩

structure Sim (Z L : Nat) (ss0 : List (Nat × List UInt8)) (P : PV) : Prop where
  ok : Stp.Oks Z L ss0 P.sts
  l : P.l = secsOf (Stp.runs Z ss0 P.sts)
  wf : WFs Z L (Stp.runs Z ss0 P.sts)
/-- A head in whose sector there is room. -/
structure HLive (Z : Nat) (ss : List (Nat × List UInt8)) (h : HeadV) (k o : Nat) : Prop where
  sec : h.sec = (k : Int)
  next : h.next = ((k * Z + o : Nat) : Int)
  left : h.left = ((Z - o : Nat) : Int)
  le : o ≤ Z
  ge : 12 ≤ o
  t0 : 0 ≤ h.txn
  t1 : h.txn ≤ 4294967295
  at_ : ∃ m xs, ss[k]? = some (m, xs) ∧ stU xs = true ∧ Blank xs o (Z - o)
def HInv (Z : Nat) (ss : List (Nat × List UInt8)) (h : HeadV) : Prop := h = ⟨0, 0, 0, 0⟩ ∨ ∃ k o, HLive Z ss h k o

section
variable {Z L : Nat} {ss0 : List (Nat × List UInt8)} {P : PV}
theorem Sim.len (h : Sim Z L ss0 P) : P.l.length = ss0.length := by rw [h.l, secsOf_len, Stp.runs_len]
theorem Sim.opens {i : Nat} (hb : best (opensB (L : Int)) Sc.er P.l P.l.length = some i) : ∃ s, P.l[i]? = some s ∧ opensB (L : Int) s = true := by
  have h1 := best_is (opensB (L : Int)) Sc.er P.l P.l.length (Nat.le_refl _)
  rw [hb] at h1
  exact ⟨_, h1.2.choose_spec.1, h1.2.choose_spec.2.1⟩
theorem opensB_st {L : Nat} {s : Sc} (h : opensB (L : Int) s = true) : s.st = 0 ∨ (s.st = 1 ∧ s.er < (L : Int)) := by
  unfold opensB at h
  simpa using h

theorem Sim.opened (h : Sim Z L ss0 P) (hz : 12 ≤ Z) {i : Nat} {s : Sc} (hb : best (opensB (L : Int)) Sc.er P.l P.l.length = some i) (hi : P.l[i]? = some s) (hq : ¬ lastQ P.l = 4294967295) :
    Sim Z L ss0 (P.opened i Z s) ∧ HLive Z (Stp.runs Z ss0 (P.opened i Z s).sts) (P.opened i Z s).h i 12 ∧ s.st ≠ 2 := by
  obtain ⟨s2, hs2, ho⟩ := Sim.opens hb
  rw [hi] at hs2
  cases hs2
  have hst := opensB_st ho
  have hl := h.l
  rw [hl] at hi
  obtain ⟨m, xs, hx, rfl⟩ := secsOf_at hi
  simp only at hst
  have hwf := h.wf.at_ hx
  have hQ := lastQ_le P.l (by rw [hl]; exact secsOf_q _)
  have hu : stU xs = false := by
    rcases stS_cases xs with ⟨h1, _⟩ | ⟨_, h2, _⟩ | ⟨_, h2, _⟩
    · rw [h1] at hst; omega
    · exact h2
    · exact h2
  have hml : ¬ xs.count 255 = xs.length → m < L := fun hne => by
    rcases stS_cases xs with ⟨h1, _⟩ | ⟨_, _, h2⟩ | ⟨h1, _⟩
    · rw [h1] at hst; omega
    · exact absurd h2 hne
    · rw [h1] at hst; omega
  obtain ⟨q, hqq⟩ : ∃ q : Nat, q = (lastQ P.l + 1).toNat := ⟨_, rfl⟩
  have hq1 : (q : Int) = lastQ P.l + 1 := by omega
  have hq2 : q ≤ 4294967295 := by omega
  have hop := open_st Z q hz hq2
  have hrun : Stp.runs Z ss0 (P.sts ++ [Stp.open_ i q]) = (Stp.runs Z ss0 P.sts).set i (if xs.count 255 = xs.length then m else m + 1, openB Z q) := by
    rw [Stp.runs_snoc]
    show List.set _ i _ = _
    rw [Stp.at_eq hx]
  have hil : i < (Stp.runs Z ss0 P.sts).length := (List.getElem?_eq_some_iff.1 hx).1
  have hopd : P.opened i Z ⟨stS xs, stQ xs, (m : Int)⟩ = ⟨P.l.set i ⟨2, lastQ P.l + 1, if stS xs = 1 then (m : Int) + 1 else (m : Int)⟩, ⟨(i : Int), ((i * Z + 12 : Nat) : Int), ((Z - 12 : Nat) : Int), 0⟩, P.sts ++ [Stp.open_ i q]⟩ := by
    unfold PV.opened
    rw [hqq]
  rw [hopd]
  refine ⟨⟨h.ok.app ⟨⟨m, xs, hx, hu, hml, hq2⟩, trivial⟩, ?_, ?_⟩, ⟨rfl, rfl, rfl, hz, Nat.le_refl _, Int.le_refl _, (by show (0 : Int) ≤ 4294967295; omega), ?_⟩, ?_⟩
  · show P.l.set i _ = _
    rw [hrun, secsOf_set, ← hl]
    congr 1
    show _ = (⟨stS (openB Z q), stQ (openB Z q), _⟩ : Sc)
    rw [hop.2.2, hop.2.1, hq1]
    rcases stS_cases xs with ⟨h1, _⟩ | ⟨h1, _, h2⟩ | ⟨h1, _, h2⟩
    · rw [h1] at hst; omega
    · rw [h1, if_pos h2, if_neg (by decide)]
    · rw [h1, if_neg h2, if_pos rfl]; simp
  · rw [hrun]
    refine h.wf.set _ _ _ (openB_all Z q hz).1 ?_
    split
    · exact hwf.2
    · rename_i h1
      have := hml h1
      omega
  · rw [hrun, List.getElem?_set_self hil]
    refine ⟨_, _, rfl, hop.1, fun j h1 h2 => ?_⟩
    rw [(openB_all Z q hz).2, if_neg (by omega), if_neg (by omega), if_pos (by omega)]
  · show stS xs ≠ 2
    intro h1
    rw [h1] at hst
    omega

/-- Lists whose blobs have their length. -/
def BlobLen (l : List Ch) : Prop := ∀ f ∈ l, f.rB.length = f.rN
theorem commitB_len (l : List Ch) (t : Nat) (h : BlobLen l) : (commitB l t).length = roomL l := by
  unfold commitB
  rw [flat_len, recsL_sum]
  intro r hr
  unfold recsL at hr
  rcases List.mem_append.1 hr with h1 | h1
  · obtain ⟨f, hf, rfl⟩ := List.mem_map.1 h1
    exact h f hf
  · rw [List.mem_singleton.1 h1]
    rfl

theorem Sim.laid (h : Sim Z L ss0 P) {k o : Nat} (hl : HLive Z (Stp.runs Z ss0 P.sts) P.h k o) (l : List Ch) (n t : Nat) (hm : ∀ f ∈ l, f.may = true) (hb : BlobLen l) (hn : n ≤ 16) (hr : o + roomL l ≤ Z) (ht : P.h.txn + 1 = (t : Int)) (ht1 : P.h.txn ≤ 4294901759) :
    Sim Z L ss0 (P.laid k o t none n 0 l) ∧ HLive Z (Stp.runs Z ss0 (P.laid k o t none n 0 l).sts) (P.laid k o t none n 0 l).h k (o + roomL l) := by
  obtain ⟨m, xs, hx, hu, hbl⟩ := hl.at_
  have hwf := h.wf.at_ hx
  have hge := hl.ge
  have ht0 := hl.t0
  have hcl := commitB_len l t hb
  have hrun : Stp.runs Z ss0 (P.sts ++ [Stp.lay k o t none n 0 l]) = (Stp.runs Z ss0 P.sts).set k (m, splice xs o (commitB l t)) := by
    rw [Stp.runs_snoc]
    show List.set _ k _ = _
    rw [Stp.at_eq hx]
  have hkl : k < (Stp.runs Z ss0 P.sts).length := (List.getElem?_eq_some_iff.1 hx).1
  have hfit : o + (commitB l t).length ≤ xs.length := by omega
  have hst := lay_st xs (commitB l t) o hge hfit
  refine ⟨⟨h.ok.app ⟨⟨m, xs, hx, hm, hn, by omega, by omega, hr, fun j h1 h2 => hbl j h1 (by omega)⟩, trivial⟩, ?_, ?_⟩, ⟨hl.sec, ?_, ?_, hr, by omega, ?_, ?_, ?_⟩⟩
  · show P.l = secsOf (Stp.runs Z ss0 (P.sts ++ [Stp.lay k o t none n 0 l]))
    rw [hrun, secsOf_set, h.l]
    have e : secOf (m, splice xs o (commitB l t)) = secOf (m, xs) := by
      show (⟨stS _, stQ _, _⟩ : Sc) = ⟨stS _, stQ _, _⟩
      rw [hst.2, stS_used (hst.1.trans hu), stS_used hu]
    rw [e]
    apply List.ext_getElem?
    intro j
    rw [List.getElem?_set]
    split
    · rename_i h1
      subst h1
      rw [if_pos (by rw [secsOf_len]; exact hkl)]
      unfold secsOf
      rw [List.getElem?_map, hx]
      rfl
    · rfl
  · show WFs Z L (Stp.runs Z ss0 (P.sts ++ [Stp.lay k o t none n 0 l]))
    rw [hrun]
    exact h.wf.set _ _ _ (by rw [splice_len _ _ _ hfit]; exact hwf.1) hwf.2
  · show P.h.next + (roomL l : Int) = _
    rw [hl.next]
    omega
  · show P.h.left - (roomL l : Int) = _
    rw [hl.left]
    omega
  · show 0 ≤ P.h.txn + 1
    omega
  · show P.h.txn + 1 ≤ _
    omega
  · show ∃ m xs, (Stp.runs Z ss0 (P.sts ++ [Stp.lay k o t none n 0 l]))[k]? = some (m, xs) ∧ _
    rw [hrun, List.getElem?_set_self hkl]
    refine ⟨_, _, rfl, hst.1.trans hu, ?_⟩
    have h1 := hbl.behind (commitB l t) (by omega) (by omega)
    rw [hcl] at h1
    have e : Z - o - roomL l = Z - (o + roomL l) := by omega
    rw [e] at h1
    exact h1

theorem Sim.letGo (h : Sim Z L ss0 P) (hz : 12 ≤ Z) {i : Nat} {s : Sc} (hi : P.l[i]? = some s) (hs : s.st = 2) :
    Sim Z L ss0 (P.letGo L i s) ∧ ∀ j, j ≠ i → (Stp.runs Z ss0 (P.letGo L i s).sts)[j]? = (Stp.runs Z ss0 P.sts)[j]? := by
  have hl := h.l
  rw [hl] at hi
  obtain ⟨m, xs, hx, rfl⟩ := secsOf_at hi
  have hwf := h.wf.at_ hx
  have hil : i < (Stp.runs Z ss0 P.sts).length := (List.getElem?_eq_some_iff.1 hx).1
  have hv := void_st xs (by omega)
  have hrun1 : Stp.run Z (Stp.runs Z ss0 P.sts) (.void i) = (Stp.runs Z ss0 P.sts).set i (m, splice xs 9 [0]) := by
    show List.set _ i _ = _
    rw [Stp.at_eq hx]
  have hvl : (splice xs 9 [0]).length = Z := by rw [splice_len _ _ _ (by simp; omega)]; exact hwf.1
  by_cases hL : (L : Int) ≤ (m : Int)
  · have hgo : P.letGo L i ⟨stS xs, stQ xs, (m : Int)⟩ = ⟨P.l.set i ⟨1, 0, (m : Int)⟩, P.h, P.sts ++ [Stp.void i]⟩ := by
      unfold PV.letGo goSts
      rw [if_pos hL, if_pos hL]
    have hrun : Stp.runs Z ss0 (P.sts ++ [Stp.void i]) = (Stp.runs Z ss0 P.sts).set i (m, splice xs 9 [0]) := by rw [Stp.runs_snoc, hrun1]
    rw [hgo]
    refine ⟨⟨h.ok.app ⟨⟨m, xs, hx⟩, trivial⟩, ?_, ?_⟩, fun j hj => ?_⟩
    · show P.l.set i _ = _
      rw [hrun, secsOf_set, ← hl]
      congr 1
      show _ = (⟨stS _, stQ _, _⟩ : Sc)
      rw [hv.2.2, hv.2.1]
    · show WFs Z L (Stp.runs Z ss0 (P.sts ++ [Stp.void i]))
      rw [hrun]
      exact h.wf.set _ _ _ hvl hwf.2
    · show (Stp.runs Z ss0 (P.sts ++ [Stp.void i]))[j]? = _
      rw [hrun, List.getElem?_set_ne (fun e => hj e.symm)]
  · have hgo : P.letGo L i ⟨stS xs, stQ xs, (m : Int)⟩ = ⟨P.l.set i ⟨0, 0, (m : Int) + 1⟩, P.h, P.sts ++ [Stp.void i, Stp.erase i]⟩ := by
      unfold PV.letGo goSts
      rw [if_neg hL, if_neg hL]
    have hb := blank_st Z hz
    have hx1 : ((Stp.runs Z ss0 P.sts).set i (m, splice xs 9 [0]))[i]? = some (m, splice xs 9 [0]) := List.getElem?_set_self hil
    have hrun : Stp.runs Z ss0 (P.sts ++ [Stp.void i, Stp.erase i]) = (Stp.runs Z ss0 P.sts).set i (m + 1, List.replicate Z 255) := by
      rw [Stp.runs_app]
      show Stp.run Z (Stp.run Z (Stp.runs Z ss0 P.sts) (.void i)) (.erase i) = _
      rw [hrun1]
      show List.set _ i _ = _
      rw [Stp.at_eq hx1, List.set_set]
    rw [hgo]
    refine ⟨⟨h.ok.app ⟨⟨m, xs, hx⟩, ⟨m, splice xs 9 [0], by rw [hrun1]; exact hx1, by omega⟩, trivial⟩, ?_, ?_⟩, fun j hj => ?_⟩
    · show P.l.set i _ = _
      rw [hrun, secsOf_set, ← hl]
      congr 1
      show _ = (⟨stS _, stQ _, ((m + 1 : Nat) : Int)⟩ : Sc)
      rw [hb.2.2, hb.2.1]
      simp
    · show WFs Z L (Stp.runs Z ss0 (P.sts ++ [Stp.void i, Stp.erase i]))
      rw [hrun]
      exact h.wf.set _ _ _ (by simp) (by omega)
    · show (Stp.runs Z ss0 (P.sts ++ [Stp.void i, Stp.erase i]))[j]? = _
      rw [hrun, List.getElem?_set_ne (fun e => hj e.symm)]
end

end Go.Proofs.YtidbipbangifbaaGreatDoor

/- Making room always comes to an end: the plain half. -/
namespace Go.Proofs.YtidbipbangifbaaGreatDoor
set_option maxRecDepth 100000
open Go.RowKit Go.Maps

structure Geo (Z L S : Nat) : Prop where
  z0 : 64 ≤ Z
  z1 : Z ≤ 65536
  s : S ≤ 64
  sz : S * Z ≤ 4194304
  l1 : L ≤ 1048576
/-- What a key must be so that its put may be laid. -/
def KeyOk (M : Al Sv) (k : List UInt8) : Prop := k.length ≤ 64 ∧ (keyCh M k).may = true ∧ (afind M k).isSome = true
def LenM (M : Al Sv) : Prop := ∀ q ∈ M, q.2.xs.length = q.2.n
theorem LenM.svAt {M : Al Sv} (h : LenM M) (k : List UInt8) : (svAt M k).xs.length = (svAt M k).n := by
  unfold Go.Proofs.YtidbipbangifbaaGreatDoor.svAt
  cases hf : afind M k with
  | none => rfl
  | some f => exact h _ (afind_mem hf)
def AllK (q : List UInt8 → Prop) (K : List (List (List UInt8))) : Prop := ∀ ks ∈ K, ∀ x ∈ ks, q x
def total (K : List (List (List UInt8))) : Nat := (K.map List.length).sum

theorem countP_set {α : Type} (p : α → Bool) (l : List α) (i : Nat) (x s : α) (hi : l[i]? = some s) : (l.set i x).countP p + (if p s then 1 else 0) = l.countP p + (if p x then 1 else 0) := by
  induction l generalizing i with
  | nil => simp at hi
  | cons a l ih =>
    cases i with
    | zero =>
      simp at hi
      subst hi
      rw [List.set_cons_zero, List.countP_cons, List.countP_cons]
      omega
    | succ i =>
      simp at hi
      rw [List.set_cons_succ, List.countP_cons, List.countP_cons]
      have := ih i hi
      omega
theorem total_set (K : List (List (List UInt8))) (i : Nat) (kk x : List (List UInt8)) (hi : K[i]? = some kk) : total (K.set i x) + kk.length = total K + x.length := by
  unfold total
  induction K generalizing i with
  | nil => simp at hi
  | cons a l ih =>
    cases i with
    | zero =>
      simp at hi
      subst hi
      rw [List.set_cons_zero, List.map_cons, List.map_cons, List.sum_cons, List.sum_cons]
      omega
    | succ i =>
      simp at hi
      rw [List.set_cons_succ, List.map_cons, List.map_cons, List.sum_cons, List.sum_cons]
      have := ih i hi
      omega
theorem total_le {K : List (List (List UInt8))} {i : Nat} {kk : List (List UInt8)} (hi : K[i]? = some kk) : kk.length ≤ total K := by
  have := total_set K i kk [] hi
  simp at this
  omega
theorem AllK.set {q : List UInt8 → Prop} {K : List (List (List UInt8))} (h : AllK q K) (i : Nat) {x : List (List UInt8)} (hx : ∀ y ∈ x, q y) : AllK q (K.set i x) := by
  intro ks hks
  rcases List.mem_or_eq_of_mem_set hks with h1 | rfl
  · exact h ks h1
  · exact hx

theorem takes_mono {h : HeadV} {a b : Int} (hab : b ≤ a) (ht : takesB h a = true) : takesB h b = true := by
  unfold takesB at ht ⊢
  simp at ht ⊢
  omega
theorem fitL_takes (M : Al Sv) (h : HeadV) : ∀ (ks : List (List UInt8)) (r : Nat), fitL M h r ks ≠ [] → takesB h ((r + ((fitL M h r ks).map fun k => (keyCh M k).sz).sum : Nat) : Int) = true
  | [], _, hne => absurd rfl hne
  | k :: ks, r, hne => by
    unfold fitL at hne ⊢
    split at hne
    · rename_i h1
      rw [if_pos h1, List.map_cons, List.sum_cons]
      by_cases he : fitL M h (r + (keyCh M k).sz) ks = []
      · rw [he]
        simpa using h1
      · have h2 := fitL_takes M h ks (r + (keyCh M k).sz) he
        have e : r + ((keyCh M k).sz + ((fitL M h (r + (keyCh M k).sz) ks).map fun k => (keyCh M k).sz).sum) = r + (keyCh M k).sz + ((fitL M h (r + (keyCh M k).sz) ks).map fun k => (keyCh M k).sz).sum := by omega
        rw [e]
        exact h2
    · exact absurd rfl hne
theorem fit_takes (M : Al Sv) (h : HeadV) (ks : List (List UInt8)) (hne : fit M h ks ≠ []) : takesB h (roomL ((fit M h ks).map (keyCh M)) : Int) = true := by
  have h1 := fitL_takes M h (ks.take 16) 16 hne
  unfold roomL
  rw [List.map_map]
  exact h1

theorem takes_live {Z : Nat} {ss : List (Nat × List UInt8)} {h : HeadV} {room : Int} (hh : HInv Z ss h) (hr : 0 < room) (ht : takesB h room = true) : h.txn ≤ 4294901759 ∧ room ≤ h.left ∧ ∃ k o, HLive Z ss h k o := by
  unfold takesB at ht
  simp at ht
  rcases hh with rfl | hl
  · simp at ht
    omega
  · exact ⟨ht.1, ht.2, hl⟩

section
variable {Z L : Nat} {ss0 : List (Nat × List UInt8)} {M : Al Sv}
theorem Sim.bd {P : PV} (h : Sim Z L ss0 P) (hg : Geo Z L ss0.length) (hst : P.sts.length ≤ 1000000) : Bd P := by
  refine ⟨by rw [h.l]; exact secsOf_q _, by rw [h.len]; exact hg.s, hst, fun s hs => ?_⟩
  rw [h.l] at hs
  unfold secsOf at hs
  obtain ⟨x, hx, rfl⟩ := List.mem_map.1 hs
  have h1 := (h.wf x hx).2
  have h2 := hg.l1
  show 0 ≤ (x.1 : Int) ∧ (x.1 : Int) ≤ 2097152
  omega
theorem HLive.hdOk {h : HeadV} {k o : Nat} {ss : List (Nat × List UInt8)} (hl : HLive Z ss h k o) (hg : Geo Z L ss.length) (ht : h.txn ≤ 4294901759) : HdOk Z h k o (h.txn + 1).toNat := by
  obtain ⟨m, xs, hx, _⟩ := hl.at_
  have hk : k < ss.length := (List.getElem?_eq_some_iff.1 hx).1
  have h0 := hl.t0
  have h1 : (k + 1) * Z ≤ ss.length * Z := Nat.mul_le_mul_right _ hk
  have h2 := hg.sz
  have h3 := hl.le
  have h4 := hg.z1
  rw [Nat.add_mul, Nat.one_mul] at h1
  refine ⟨hl.sec, hl.next, by omega, h0, ht, by omega, ?_, ?_⟩
  · rw [hl.left]; omega
  · rw [hl.left]; omega

/-- Sector i stays used and isn't the head. -/
structure Away (Z : Nat) (ss : List (Nat × List UInt8)) (i : Nat) (P : PV) : Prop where
  used : ∃ s, P.l[i]? = some s ∧ s.st = 2
  hd : P.h = ⟨0, 0, 0, 0⟩ ∨ ∃ k o, HLive Z ss P.h k o ∧ k ≠ i

theorem Away.inv {ss : List (Nat × List UInt8)} {i : Nat} {P : PV} (h : Away Z ss i P) : HInv Z ss P.h := by
  rcases h.hd with h1 | ⟨k, o, h1, _⟩
  · exact Or.inl h1
  · exact Or.inr ⟨k, o, h1⟩

theorem opened_oc {P : PV} {i : Nat} {s : Sc} (hi : P.l[i]? = some s) (ho : opensB (L : Int) s = true) : (P.opened i Z s).l.countP (opensB (L : Int)) + 1 = P.l.countP (opensB (L : Int)) := by
  have h1 := countP_set (opensB (L : Int)) P.l i ⟨2, lastQ P.l + 1, if s.st = 1 then s.er + 1 else s.er⟩ s hi
  have h2 : opensB (L : Int) ⟨2, lastQ P.l + 1, if s.st = 1 then s.er + 1 else s.er⟩ = false := by unfold opensB; simp
  rw [ho, h2] at h1
  simpa [PV.opened] using h1

theorem again_ex (hg : Geo Z L ss0.length) (hlm : LenM M) (i : Nat) : ∀ (f : Nat) (P : PV) (K : List (List (List UInt8))) (ks : List (List UInt8)), P.l.countP (opensB (L : Int)) + ks.length ≤ f →
    Sim Z L ss0 P → Away Z (Stp.runs Z ss0 P.sts) i P → K.length = ss0.length → AllK (KeyOk M) K → (∀ x ∈ ks, KeyOk M x) → total K + ks.length ≤ 1000000 → P.sts.length + P.l.countP (opensB (L : Int)) + ks.length ≤ 1000000 →
    ∃ t b P' K', Again Z L M t P K ks b P' K' ∧ Sim Z L ss0 P' ∧ Away Z (Stp.runs Z ss0 P'.sts) i P' ∧ K'.length = ss0.length ∧ AllK (KeyOk M) K' ∧ total K' ≤ total K + ks.length ∧ (b = true → total K' = total K + ks.length) ∧ P'.sts.length + P'.l.countP (opensB (L : Int)) ≤ P.sts.length + P.l.countP (opensB (L : Int)) + ks.length ∧ P'.l.countP (opensB (L : Int)) ≤ P.l.countP (opensB (L : Int)) := by
  intro f
  induction f with
  | zero =>
    intro P K ks hf hs ha hk hK hx ht hst
    have : ks = [] := List.eq_nil_of_length_eq_zero (by omega)
    subst this
    exact ⟨0, true, P, K, .done P K, hs, ha, hk, hK, by simp, fun _ => by simp, by simp, Nat.le_refl _⟩
  | succ f ih =>
    intro P K ks hf hs ha hk hK hx ht hst
    by_cases hne : ks = []
    · subst hne
      exact ⟨0, true, P, K, .done P K, hs, ha, hk, hK, by simp, fun _ => by simp, by simp, Nat.le_refl _⟩
    · have hbd := hs.bd hg (by omega)
      by_cases hF : fit M P.h ks = []
      · by_cases hno : best (opensB (L : Int)) Sc.er P.l P.l.length = none ∨ lastQ P.l = 4294967295
        · exact ⟨0, false, P, K, .stuck P K ks hne hF ⟨hno, hbd⟩, hs, ha, hk, hK, by omega, (fun h => by cases h), by omega, Nat.le_refl _⟩
        · obtain ⟨j, hj⟩ : ∃ j, best (opensB (L : Int)) Sc.er P.l P.l.length = some j := by
            cases hq : best (opensB (L : Int)) Sc.er P.l P.l.length with
            | none => exact absurd (Or.inl hq) hno
            | some j => exact ⟨j, rfl⟩
          obtain ⟨s, hjs, hos⟩ := Sim.opens hj
          have hq : ¬ lastQ P.l = 4294967295 := fun h => hno (Or.inr h)
          obtain ⟨hs2, hl2, hn2⟩ := hs.opened (by have := hg.z0; omega) hj hjs hq
          have hoc := opened_oc (Z := Z) hjs hos
          have hij : j ≠ i := by
            rintro rfl
            obtain ⟨s', hs', h2⟩ := ha.used
            rw [hjs] at hs'
            cases hs'
            exact hn2 h2
          have hsl : (P.opened j Z s).sts.length = P.sts.length + 1 := by simp [PV.opened]
          obtain ⟨t, b, P', K', h1, h2, h3, h4, h5, h6, h7, h8, h9⟩ := ih (P.opened j Z s) K ks (by omega) hs2 ⟨by
            obtain ⟨s', hs', h2⟩ := ha.used
            exact ⟨s', by show (P.l.set j _)[i]? = _; rw [List.getElem?_set_ne hij]; exact hs', h2⟩, Or.inr ⟨j, 12, hl2, hij⟩⟩ hk hK hx ht (by omega)
          exact ⟨t + 1, b, P', K', .opened t P K ks b P' K' j s hne hF ⟨hj, hjs, hq, hbd⟩ h1, h2, h3, h4, h5, h6, h7, by omega, by omega⟩
      · have htk := fit_takes M P.h ks hF
        obtain ⟨ht1, hroom, k, o, hl⟩ := takes_live ha.inv (by unfold roomL; omega) htk
        have hki : k ≠ i := by
          rcases ha.hd with h0 | ⟨k2, o2, h2, h3⟩
          · have := hl.left
            rw [h0] at hroom
            simp at hroom
            unfold roomL at hroom
            omega
          · have e1 := hl.sec
            have e2 := h2.sec
            omega
        obtain ⟨hft1, hft2, hft3⟩ := fit_take M P.h ks
        have hhd := hl.hdOk (by rw [Stp.runs_len]; exact hg) ht1
        obtain ⟨m, xs, hx2, _⟩ := hl.at_
        have hkl : k < K.length := by rw [hk, ← Stp.runs_len Z P.sts]; exact (List.getElem?_eq_some_iff.1 hx2).1
        obtain ⟨kk, hkk⟩ : ∃ kk, K[k]? = some kk := ⟨_, List.getElem?_eq_getElem hkl⟩
        have hkkl := total_le hkk
        have hfx : ∀ x ∈ fit M P.h ks, KeyOk M x := fun x hx2 => hx x (by rw [hft1] at hx2; exact List.mem_of_mem_take hx2)
        have hnmm : ((fit M P.h ks).map fun x => (keyCh M x).nm) = ((fit M P.h ks).map (keyCh M)).map Ch.nm := by rw [List.map_map]; rfl
        have hmay : ∀ c ∈ ((fit M P.h ks).map fun x => (keyCh M x).nm), c.may = true := by
          rw [hnmm, nm_may]
          intro c hc
          obtain ⟨x, hx3, rfl⟩ := List.mem_map.1 hc
          exact (hfx x hx3).2.1
        have hbl : BlobLen ((fit M P.h ks).map fun x => (keyCh M x).nm) := by
          intro c hc
          obtain ⟨x, hx3, rfl⟩ := List.mem_map.1 hc
          exact hlm.svAt x
        have hrm : roomL ((fit M P.h ks).map fun x => (keyCh M x).nm) = roomL ((fit M P.h ks).map (keyCh M)) := by rw [hnmm, nm_sz]
        have hleft := hl.left
        have hfl : 0 < (fit M P.h ks).length := List.length_pos_iff.2 hF
        obtain ⟨hs2, hl2⟩ := hs.laid hl _ (fit M P.h ks).length _ hmay hbl hft3 (by rw [hrm]; have := hl.le; omega) hhd.txn ht1
        have hts := total_set K k kk (kk ++ fit M P.h ks) hkk
        rw [List.length_append] at hts
        have hsl : ∀ t, (P.laid k o t none (fit M P.h ks).length 0 ((fit M P.h ks).map fun x => (keyCh M x).nm)).sts.length = P.sts.length + 1 := fun t => by simp [PV.laid]
        have hdl : (ks.drop (fit M P.h ks).length).length = ks.length - (fit M P.h ks).length := List.length_drop
        obtain ⟨t, b, P', K', h1, h2, h3, h4, h5, h6, h7, h8, h9⟩ := ih (P.laid k o (P.h.txn + 1).toNat none (fit M P.h ks).length 0 ((fit M P.h ks).map fun x => (keyCh M x).nm)) (K.set k (kk ++ fit M P.h ks)) (ks.drop (fit M P.h ks).length)
          (by show P.l.countP _ + _ ≤ f; omega) hs2 ⟨ha.used, Or.inr ⟨k, _, hl2, hki⟩⟩ (by rw [List.length_set]; exact hk)
          (hK.set k (fun y hy => by
            rcases List.mem_append.1 hy with h1 | h1
            · exact hK kk (List.mem_of_getElem? hkk) y h1
            · exact hfx y h1)) (fun x hx3 => hx x (List.mem_of_mem_drop hx3)) (by omega) (by rw [hsl]; show P.sts.length + 1 + P.l.countP _ + _ ≤ _; omega)
        rw [hsl] at h8
        have hll : (P.laid k o (P.h.txn + 1).toNat none (fit M P.h ks).length 0 ((fit M P.h ks).map fun x => (keyCh M x).nm)).l = P.l := rfl
        rw [hll] at h8 h9
        exact ⟨t + 1, b, P', K', .lay t P K ks b P' K' k o _ kk hne hF hhd hbd hkk (by omega) h1, h2, h3, h4, h5, by omega, fun hb => by have := h7 hb; omega, by omega, h9⟩

theorem unhead_away {P : PV} {i : Nat} {s : Sc} (hh : HInv Z (Stp.runs Z ss0 P.sts) P.h) (hi : P.l[i]? = some s) (h2 : s.st = 2) : Away Z (Stp.runs Z ss0 (P.unhead i).sts) i (P.unhead i) := by
  rw [PV.unhead_sts]
  refine ⟨⟨s, by rw [PV.unhead_l]; exact hi, h2⟩, ?_⟩
  unfold PV.unhead
  by_cases he : (i : Int) = P.h.sec
  · rw [if_pos he]
    exact Or.inl rfl
  · rw [if_neg he]
    rcases hh with h | ⟨k, o, h⟩
    · exact Or.inl h
    · refine Or.inr ⟨k, o, h, ?_⟩
      rintro rfl
      exact he h.sec.symm
theorem Sim.unhead {P : PV} (h : Sim Z L ss0 P) (i : Nat) : Sim Z L ss0 (P.unhead i) := by
  refine ⟨by rw [PV.unhead_sts]; exact h.ok, by rw [PV.unhead_sts, PV.unhead_l]; exact h.l, by rw [PV.unhead_sts]; exact h.wf⟩

/-- What a plan keeps from round to round. -/
structure RInv (Z L : Nat) (ss0 : List (Nat × List UInt8)) (M : Al Sv) (N : Nat) (P : PV) (K : List (List (List UInt8))) : Prop where
  sim : Sim Z L ss0 P
  hd : HInv Z (Stp.runs Z ss0 P.sts) P.h
  kl : K.length = ss0.length
  key : AllK (KeyOk M) K
  tot : total K ≤ N

theorem letGo_st (L i : Nat) (s : Sc) : (goSts L i s).length ≤ 2 := by unfold goSts; split <;> simp
theorem letGo_oc {P : PV} {i : Nat} {s : Sc} (hi : P.l[i]? = some s) : (P.letGo L i s).l.countP (opensB (L : Int)) ≤ P.l.countP (opensB (L : Int)) + 1 := by
  have h1 := countP_set (opensB (L : Int)) P.l i (if (L : Int) ≤ s.er then ⟨1, 0, s.er⟩ else ⟨0, 0, s.er + 1⟩) s hi
  have b1 : ∀ b : Bool, (if b = true then 1 else 0 : Nat) ≤ 1 := fun b => by cases b <;> simp
  have h2 := b1 (opensB (L : Int) (if (L : Int) ≤ s.er then ⟨1, 0, s.er⟩ else ⟨0, 0, s.er + 1⟩))
  show (P.l.set i _).countP _ ≤ _
  omega

theorem clean_ex (hg : Geo Z L ss0.length) (hlm : LenM M) {N : Nat} (hN : N ≤ 3000) (P : PV) (K : List (List (List UInt8))) (h : RInv Z L ss0 M N P K) (hst : P.sts.length ≤ 990000) :
    ∃ t b P' K', Clean Z L M t P K b P' K' ∧ (b = true → RInv Z L ss0 M N P' K' ∧ P'.sts.length ≤ P.sts.length + (66 + N)) := by
  have hoc : P.l.countP (opensB (L : Int)) ≤ 64 := Nat.le_trans List.countP_le_length (by rw [h.sim.len]; exact hg.s)
  cases hb : best usedB Sc.q P.l P.l.length with
  | none => exact ⟨0, false, P, K, Or.inl ⟨hb, rfl, rfl, rfl⟩, fun h => by cases h⟩
  | some i =>
    have hbi := best_is usedB Sc.q P.l P.l.length (Nat.le_refl _)
    rw [hb] at hbi
    obtain ⟨hil, s, hs, hus, _⟩ := hbi
    have hs2 : s.st = 2 := by unfold usedB at hus; simpa using hus
    obtain ⟨kk, hkk⟩ : ∃ kk, K[i]? = some kk := ⟨_, List.getElem?_eq_getElem (by rw [h.kl, ← h.sim.len]; exact hil)⟩
    have hts := total_set K i kk [] hkk
    have htot := h.tot
    simp only [List.length_nil, Nat.add_zero] at hts
    have ha := unhead_away h.hd hs hs2
    obtain ⟨t, b, P2, K2, h1, h2, h3, h4, h5, h6, h7, h8, h9⟩ := again_ex hg hlm i _ (P.unhead i) (K.set i []) kk (Nat.le_refl _) (h.sim.unhead i) ha (by rw [List.length_set]; exact h.kl) (h.key.set i (fun y hy => by cases hy)) (fun x hx => h.key kk (List.mem_of_getElem? hkk) x hx) (by omega) (by rw [PV.unhead_sts, PV.unhead_l]; omega)
    rw [PV.unhead_sts, PV.unhead_l] at h8
    cases b with
    | false => exact ⟨t, false, P2, K2, Or.inr ⟨i, kk, false, P2, K2, hb, hkk, h1, Or.inl ⟨rfl, rfl, rfl, rfl⟩⟩, fun h => by cases h⟩
    | true =>
      obtain ⟨s3, hs3, hs4⟩ := h3.used
      have hbd := h2.bd hg (by omega)
      obtain ⟨hsl, hfar⟩ := h2.letGo (by have := hg.z0; omega) hs3 hs4
      have hgl := letGo_st L i s3
      have hsts : (P2.letGo L i s3).sts.length = P2.sts.length + (goSts L i s3).length := by simp [PV.letGo]
      refine ⟨t, true, P2.letGo L i s3, K2, Or.inr ⟨i, kk, true, P2, K2, hb, hkk, h1, Or.inr ⟨rfl, rfl, ⟨s3, hs3, hbd, rfl⟩, rfl⟩⟩, fun _ => ⟨⟨hsl, ?_, h4, h5, by omega⟩, by omega⟩⟩
      rcases h3.hd with h0 | ⟨k, o, hl, hki⟩
      · exact Or.inl h0
      · refine Or.inr ⟨k, o, hl.sec, hl.next, hl.left, hl.le, hl.ge, hl.t0, hl.t1, ?_⟩
        obtain ⟨m, xs, hx, hr⟩ := hl.at_
        exact ⟨m, xs, by rw [hfar k hki]; exact hx, hr⟩

theorem makeRoom_ex (hg : Geo Z L ss0.length) (hlm : LenM M) {N : Nat} (hN : N ≤ 3000) (P : PV) (K : List (List (List UInt8))) (h : RInv Z L ss0 M N P K) (hst : P.sts.length ≤ 990000) :
    ∃ t b P' K', MakeRoom Z L M t P K b P' K' ∧ (b = true → RInv Z L ss0 M N P' K' ∧ P'.sts.length ≤ P.sts.length + (66 + N)) := by
  by_cases h2 : 2 ≤ P.l.countP (opensB (L : Int))
  · have hbd := h.sim.bd hg (by omega)
    by_cases hno : best (opensB (L : Int)) Sc.er P.l P.l.length = none ∨ lastQ P.l = 4294967295
    · exact ⟨0, false, P, K, Or.inr (Or.inl ⟨h2, ⟨hno, hbd⟩, rfl, rfl, rfl⟩), fun h => by cases h⟩
    · obtain ⟨j, hj⟩ : ∃ j, best (opensB (L : Int)) Sc.er P.l P.l.length = some j := by
        cases hq : best (opensB (L : Int)) Sc.er P.l P.l.length with
        | none => exact absurd (Or.inl hq) hno
        | some j => exact ⟨j, rfl⟩
      obtain ⟨s, hjs, hos⟩ := Sim.opens hj
      have hq : ¬ lastQ P.l = 4294967295 := fun h => hno (Or.inr h)
      obtain ⟨hs2, hl2, hn2⟩ := h.sim.opened (by have := hg.z0; omega) hj hjs hq
      refine ⟨0, true, P.opened j Z s, K, Or.inl ⟨h2, j, s, ⟨hj, hjs, hq, hbd⟩, rfl, rfl, rfl⟩, fun _ => ⟨⟨hs2, Or.inr ⟨j, 12, hl2⟩, h.kl, h.key, h.tot⟩, ?_⟩⟩
      have : (P.opened j Z s).sts.length = P.sts.length + 1 := by simp [PV.opened]
      omega
  · obtain ⟨t, b, P', K', h1, h3⟩ := clean_ex hg hlm hN P K h hst
    exact ⟨t, b, P', K', Or.inr (Or.inr ⟨by omega, h1⟩), h3⟩

theorem rounds_ex (hg : Geo Z L ss0.length) (hlm : LenM M) {N : Nat} (hN : N ≤ 3000) (room : Int) : ∀ (n : Nat) (P : PV) (K : List (List (List UInt8))), RInv Z L ss0 M N P K → P.sts.length + n * (66 + N) ≤ 990000 →
    ∃ b P' K', Rounds Z L M room n P K b P' K' ∧ (b = true → RInv Z L ss0 M N P' K' ∧ P'.sts.length ≤ 1000000 ∧ takesB P'.h room = true)
  | 0, P, K, _, _ => ⟨false, P, K, .out P K, fun h => by cases h⟩
  | n + 1, P, K, h, hst => by
    have hmul : (n + 1) * (66 + N) = n * (66 + N) + (66 + N) := by rw [Nat.add_mul, Nat.one_mul]
    obtain ⟨t, b, P1, K1, h1, h2⟩ := makeRoom_ex hg hlm hN P K h (by omega)
    cases b with
    | false => exact ⟨false, P1, K1, .no n t P K P1 K1 h1, fun h => by cases h⟩
    | true =>
      obtain ⟨h3, h4⟩ := h2 rfl
      cases htk : takesB P1.h room with
      | true => exact ⟨true, P1, K1, .yes n t P K P1 K1 h1 htk, fun _ => ⟨h3, by omega, htk⟩⟩
      | false =>
        obtain ⟨b, P', K', h5, h6⟩ := rounds_ex hg hlm hN room n P1 K1 h3 (by omega)
        exact ⟨b, P', K', .more n t P K P1 K1 b P' K' h1 htk (fun ks hks x hx => (h3.key ks hks x hx).1) h5, h6⟩
end

end Go.Proofs.YtidbipbangifbaaGreatDoor
