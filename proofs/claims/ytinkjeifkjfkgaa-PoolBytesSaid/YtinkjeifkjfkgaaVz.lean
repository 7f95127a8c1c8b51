/- The walk over the document's Bytes (layer 11), of a pool that may be. -/
import Derived.Test.YtinkjeifkjfkgaaVy
namespace Go.Proofs.Ytinkjeifkjfkgaa
set_option maxRecDepth 100000
open Go.RowKit

theorem slice_of_own {w : World} {base m : Nat} {v : Value} {zs : List UInt8} (h : w.ownsRow base 5 1 v m (zs.map B8)) : ∃ A c, v = .slice A m c ∧ ByteSl w Empty A m c zs ∧ (A = none → m = 0 ∧ c = 0) := by
  obtain ⟨A, c, rfl, hB, -⟩ := ByteSl.of_own (S := Empty) h (fun _ _ _ h => h)
  refine ⟨A, c, rfl, hB, fun e => ?_⟩
  subst e
  rcases h.2 with ⟨e, h0⟩ | ⟨g, c', cur, e, _⟩
  · cases e
    exact ⟨rfl, rfl⟩
  · cases e

/-- What the loop of the document's Bytes stands on: bytes of its own, the constant in a block of its own. -/
structure RB (w : World) (q : Nat) (c : Cst) (v : Value) (m : Nat) (zs : List UInt8) (W : World) : Prop where
  own : W.ownsRow w.heap.size 5 1 v m (zs.map B8)
  kc : Blk W q 41 c.cells.toArray
  below : Below w.heap.size w W
theorem RB.put {w W W' : World} {q : Nat} {c : Cst} {v v' : Value} {m m' : Nat} {zs zs' : List UInt8} (h : RB w q c v m zs W) (ho : W'.ownsRow W.heap.size 5 1 v' m' (zs'.map B8)) (hb : Below W.heap.size W W') : RB w q c v' m' zs' W' :=
  ⟨own_base ho h.below.size, h.kc.of (hb.block _ h.kc.lt), h.below.trans (hb.mono h.below.size)⟩
theorem RB.app {w W W' : World} {q : Nat} {c : Cst} {v v' : Value} {m m' : Nat} {zs zs' : List UInt8} (h : RB w q c v m zs W) (ho : W'.ownsRow w.heap.size 5 1 v' m' (zs'.map B8)) (hg : W.grownBy W' v.ownBlock) : RB w q c v' m' zs' W' := by
  have hr : ∀ k, v.ownBlock = some k → w.heap.size ≤ k ∧ k ≠ q := fun k hk => by
    rcases h.own.2 with ⟨e, _⟩ | ⟨g', c2, cur, e, hb, hB, -⟩
    · rw [e] at hk
      cases hk
    · rw [e] at hk
      cases hk
      exact ⟨hb, Blk.ne_ hB h.kc (by decide)⟩
  exact ⟨ho, (Only.of_grown (S := fun k => v.ownBlock = some k) hg (fun k e _ => e)).blk h.kc (fun e => (hr q e).2 rfl), below_grown h.below h.below.size hg (fun k hk => (hr k hk).1)⟩
theorem RB.only {w W W' : World} {q : Nat} {c : Cst} {v : Value} {m : Nat} {zs : List UInt8} (h : RB w q c v m zs W) (k : Only Empty W W') : RB w q c v m zs W' :=
  ⟨own_only h.own k (fun _ _ _ h => h), k.blk h.kc (fun h => h), h.below.trans (k.below h.below.size (fun _ _ h => h))⟩

set_option maxHeartbeats 8000000 in
theorem refBytes_any (A : Option Addr) (n cap : Nat) (l : List Cst) (w : World) (hP : PoolSl w A n cap l) (hc : checkF l = true) (hB : (poolB l).length ≤ 1000000) :
    Calls Try.prog 12 #[.slice A n cap] w fun e w' => (∃ A2 c2, e = .returned (.slice A2 (poolB l).length c2) ∧ ByteSl w' Empty A2 (poolB l).length c2 (poolB l)) ∧ Below w.heap.size w w' := by
  have hl := hP.1
  have hn : n ≤ 1024 ∧ 1 ≤ n := by
    unfold checkF at hc
    rw [Bool.and_assoc, Bool.and_eq_true] at hc
    have := of_decide_eq_true hc.1
    omega
  have HP := Lib.hid hP
  have HC := Lib.hid hc
  have HBl := Lib.hid hB
  have Hl := Lib.hid hl
  have hwn : IntKind.u64.wrap (n : Int) = (n : Int) := by rw [IntKind.wrap_u64]; omega
  have CP : Hid (∀ (A : Option Addr) (m cap v k : Nat) (xs : List UInt8) (W : World), ByteSl W Empty A m cap xs → (A = none → m = 0 ∧ cap = 0) → v ≤ 18446744073709551615 → 1 ≤ k → k ≤ 8 → m ≤ 1048576 → Calls Try.prog 26 #[.slice A m cap, .int .u64 (v : Int), .int .i64 (k : Int)] W fun e w' => (∃ u, e = .returned u ∧ w'.ownsRow W.heap.size 5 1 u (m + k) ((xs ++ putL v k).map B8)) ∧ Below W.heap.size W w') :=
    Lib.hid (fun A m cap v k xs W hB hA hv h1 h2 hm => refPut_yes A m cap xs v k W hB hA hv h1 h2 hm)
  have HU := Lib.hid u64_le
  clear hP hc hB hl
  go_enter Try.func12, Try.ntmps12
  go_wp2_with fail
  refine (CP.out none 0 0 n 2 [] w (ByteSl.nil_ _ _ _ _ (by unfold maxLen; omega)) (fun _ => ⟨rfl, rfl⟩) (by omega) (by omega) (by omega) (by omega)).mono ?_
  rintro e w1 ⟨⟨u, rfl, ho1⟩, hb1⟩
  rw [Nat.zero_add, List.nil_append] at ho1
  have HO1 := Lib.hid ho1
  have HB1 := Lib.hid hb1
  clear ho1 hb1
  go_wp2
  go_loopw [3, 12] (fun v a wr => ∃ k : Nat, k ≤ n ∧ a = .int .i64 (k : Int) ∧ Hid (wr.ownsRow w.heap.size 5 1 v (2 + ((l.take k).flatMap cB).length) ((putL n 2 ++ (l.take k).flatMap cB).map B8)) ∧ Hid (Below w.heap.size w wr)) (fun _ a _ => n - (intOf a).toNat)
  case atStart => exact ⟨0, Nat.zero_le _, rfl, Lib.hid (by simpa using HO1.out), HB1⟩
  case round =>
    obtain ⟨k, hk, rfl, HOk, HBk⟩ := hrel
    by_cases hlt : k < n
    · obtain ⟨b, o, c, rfl, hc, hb, h0, h1, h2, h3, h4⟩ := pool_at (HP.out.below HBk.out) hlt
      have htk := take_flat cB l k c hc
      have hB := HBl.out
      unfold poolB at hB
      rw [Hl.out, List.length_append, putL_len] at hB
      have hle1 := take_flat_le cB l (k + 1)
      rw [htk, List.length_append] at hle1
      obtain ⟨Av, cv, rfl, -, -⟩ := slice_of_own HOk.out
      have HR1 : Hid (RB w wr.heap.size c (.slice Av (2 + ((l.take k).flatMap cB).length) cv) (2 + ((l.take k).flatMap cB).length) (putL n 2 ++ (l.take k).flatMap cB) (wr.alloc (.cells c.cells.toArray 41))) := Lib.hid ⟨own_alloc HOk.out _, Blk.new _ _ _, HBk.out.alloc HBk.out.size _⟩
      rcases may_cases HC.out k c hc with ⟨_, hz⟩ | ⟨_, hfit⟩
      · subst hz
        have hcb : cB zeroC = [] := rfl
        have HT : Hid ((l.take (k + 1)).flatMap cB = (l.take k).flatMap cB) := Lib.hid (by rw [htk, hcb, List.append_nil])
        simp only [zeroC] at h0 h1 h2 h3 h4
        clear htk hcb hB hle1 hc
        go_wp2
        go_roundw
        case rel => exact ⟨k + 1, by omega, by go_num, by rw [HT.out]; exact Lib.hid HR1.out.own, Lib.hid HR1.out.below⟩
        case measure => simp [intOf]; omega
      · have hcb : cB c = constB c := by unfold cB; rw [if_neg hfit.tag]
        rw [hcb] at htk hle1
        have hT : (l.take (k + 1)).flatMap cB = (l.take k).flatMap cB ++ constB c := htk
        have hpt := hfit.part
        have hft := hfit.form
        have hcs := hfit.text
        have hca := hfit.a
        have hcbb := hfit.b
        obtain ⟨m, hm⟩ : ∃ m, 2 + ((l.take k).flatMap cB).length = m := ⟨_, rfl⟩
        obtain ⟨zs, hzs⟩ : ∃ zs, putL n 2 ++ (l.take k).flatMap cB = zs := ⟨_, rfl⟩
        rw [hm, hzs] at HR1
        have hm6 : m + (constB c).length ≤ 1000000 := by omega
        have HT : Hid (∀ m' (zs' : List UInt8), m' = m + (constB c).length → zs' = zs ++ constB c → 2 + ((l.take (k + 1)).flatMap cB).length = m' ∧ putL n 2 ++ (l.take (k + 1)).flatMap cB = zs') := Lib.hid (fun m' zs' e1 e2 => by
          rw [hT, e1, e2, ← hm, ← hzs, List.length_append]
          exact ⟨by omega, by rw [List.append_assoc]⟩)
        have Hm := Lib.hid hm
        rw [hm]
        clear hm hzs htk hcb hB hle1 hc hfit hT HOk
        obtain ⟨t, a, b', nn, s⟩ := c
        simp only at h0 h1 h2 h3 h4 hcs hca hcbb hft
        rcases tag_ways t with rfl | rfl | rfl | rfl | rfl | rfl | rfl | rfl | hno
        · have HE : Hid (constB ⟨1, a, b', nn, s⟩ = putL (bits64 1) 1 ++ putL s.length 2 ++ s) := Lib.hid (by unfold constB; simp [formF])
          have HLn : Hid ((constB ⟨1, a, b', nn, s⟩).length = 1 + 2 + s.length) := Lib.hid (by rw [HE.out]; simp [putL_len]; omega)
          rw [HLn.out] at hm6
          have HY : Hid (∀ W : World, ByteSl (W.alloc (.cells #[.int .u8 1] 5)) Empty (some ⟨W.heap.size, 0, none⟩) 1 1 [1]) := Lib.hid (fun W => ByteSl.lit W Empty [1] 1 rfl (fun h => h) (by unfold maxLen; omega))
          have hYs := HY.out (wr.alloc (.cells (⟨1, a, b', nn, s⟩ : Cst).cells.toArray 41))
          rw [show (wr.alloc (.cells (⟨1, a, b', nn, s⟩ : Cst).cells.toArray 41)).heap.size = wr.heap.size + 1 by simp] at hYs
          have HYs := Lib.hid hYs
          clear hYs
          have hput : putL (bits64 1) 1 = [1] := by decide
          rw [hput] at HE
          have hsz : (strB s).size = s.length := strB_size s
          have hUa := u64_wrap a
          have hUb := u64_wrap b'
          have hUn := u64_wrap nn
          have hUs : IntKind.u64.wrap (s.length : Int) = (s.length : Int) := by rw [IntKind.wrap_u64]; omega
          clear hpt hft hput
          go_wp2_with (at_builtin; refine wpList_append_bytes rfl (.tmp 19) (.tmp 23) rfl w.heap.size (.slice Av m cv) rfl m zs (HR1.out.only ((Only.refl _ _).alloc _)).own (some ⟨wr.heap.size + 1, 0, none⟩) 1 1 [1] Empty rfl (HYs.out) (fun h => by cases h) (by omega) (HR1.out.only ((Only.refl _ _).alloc _)).below.size ?_; intro v2 w2 ho2 hg2 _; obtain ⟨A2, c2, rfl, hB2, hn2⟩ := slice_of_own ho2; have HR2 := Lib.hid ((HR1.out.only ((Only.refl _ _).alloc (.cells #[.int .u8 1] 5))).app ho2 hg2); have HB2 := Lib.hid hB2; have HN2 := Lib.hid hn2; have a0 : w2.cell? ⟨wr.heap.size, 0, none⟩ = some (.int .i64 1) := HR2.out.kc.cell 0; have a1 : w2.cell? ⟨wr.heap.size, 1, none⟩ = some (.int .i64 a) := HR2.out.kc.cell 1; have a2 : w2.cell? ⟨wr.heap.size, 2, none⟩ = some (.int .i64 b') := HR2.out.kc.cell 2; have a3 : w2.cell? ⟨wr.heap.size, 3, none⟩ = some (.int .i64 nn) := HR2.out.kc.cell 3; have a4 : w2.cell? ⟨wr.heap.size, 4, none⟩ = some (.string (strB s)) := HR2.out.kc.cell 4; clear ho2 hg2 hB2 hn2)
          refine wp_region_held_drew (S := fun W => W.cell? ⟨wr.heap.size, 4, none⟩ = some (.string (strB s))) (by kernel_rfl) a4 (fun hHeld0 => ?_)
          refine take_yes 0 38 ?_ rfl rfl (by kernel_rfl) (by kernel_rfl) (by kernel_rfl) (fun _ _ _ h => h) (by kernel_rfl) ?_ (by assumption) ?_; rotate_left; (focus (intro w hSw; (try dsimp only at hSw); go_simp; all_goals first | with_reducible rfl)); simp only [Act.put, List.setIfInBounds_toArray, List.set_cons_zero, List.set_cons_succ]
          refine take_yes 1 39 ?_ rfl rfl (by kernel_rfl) (by kernel_rfl) (by kernel_rfl) (fun _ _ _ h => h) (by kernel_rfl) ?_ (by assumption) ?_; rotate_left; (focus (intro w hSw; (try dsimp only at hSw); go_simp; all_goals first | with_reducible rfl)); simp only [Act.put, List.setIfInBounds_toArray, List.set_cons_zero, List.set_cons_succ]
          refine take_yes 2 40 ?_ rfl rfl (by kernel_rfl) (by kernel_rfl) (by kernel_rfl) (fun _ _ _ h => h) (by kernel_rfl) ?_ (by assumption) ?_; rotate_left; (focus (intro w hSw; (try dsimp only at hSw); go_simp; all_goals first | with_reducible rfl)); simp only [Act.put, List.setIfInBounds_toArray, List.set_cons_zero, List.set_cons_succ]
          refine take_yes 3 41 ?_ rfl rfl (by kernel_rfl) (by kernel_rfl) (by kernel_rfl) (fun _ _ _ h => h) (by kernel_rfl) ?_ (by assumption) ?_; rotate_left; (focus (intro w hSw; (try dsimp only at hSw); go_simp; all_goals first | with_reducible rfl)); simp only [Act.put, List.setIfInBounds_toArray, List.set_cons_zero, List.set_cons_succ]
          refine take_yes 4 42 ?_ rfl rfl (by kernel_rfl) (by kernel_rfl) (by kernel_rfl) (fun _ _ _ h => h) (by kernel_rfl) ?_ (by assumption) ?_; rotate_left; (focus (intro w hSw; (try dsimp only at hSw); go_simp; all_goals first | with_reducible rfl)); simp only [Act.put, List.setIfInBounds_toArray, List.set_cons_zero, List.set_cons_succ]
          refine take_yes 6 44 ?_ rfl rfl (by kernel_rfl) (by kernel_rfl) (by kernel_rfl) (fun _ _ _ h => h) (by kernel_rfl) ?_ (by assumption) ?_; rotate_left; (focus (intro w hSw; (try dsimp only at hSw); go_simp; all_goals first | with_reducible rfl)); simp only [Act.put, List.setIfInBounds_toArray, List.set_cons_zero, List.set_cons_succ]
          refine take_yes 7 45 ?_ rfl rfl (by kernel_rfl) (by kernel_rfl) (by kernel_rfl) (fun _ _ _ h => h) (by kernel_rfl) ?_ (by assumption) ?_; rotate_left; (focus (intro w hSw; (try dsimp only at hSw); go_simp; all_goals first | with_reducible rfl)); simp only [Act.put, List.setIfInBounds_toArray, List.set_cons_zero, List.set_cons_succ]
          refine wpAnyH_ready (rs := [5]) (by kernel_rfl) (by simp) ?_
          refine AllReadyH.cons rfl (fun K hK => ?_) AllReadyH.nil
          go_simp
          go_at_call 26
          (refine (CP.out A2 (m + 1) c2 s.length 2 (zs ++ [1]) _ (HB2.out.only (Only.refl Empty _).drew (fun _ _ h => h)) HN2.out (by omega) (by omega) (by omega) (by omega)).mono ?_)
          rintro e w3 ⟨⟨v3, rfl, ho3⟩, hb3⟩
          have HR3 := Lib.hid ((HR2.out.only (Only.refl Empty _).drew).put ho3 hb3)
          have b4 : w3.cell? ⟨wr.heap.size, 4, none⟩ = some (.string (strB s)) := HR3.out.kc.cell 4
          clear ho3 hb3
          go_wp2_with fail
          refine hK.out _ _ (b4) (fun _ => ?_)
          clear hK K
          try simp only [Act.put, List.setIfInBounds_toArray, List.set_cons_zero, List.set_cons_succ]
          refine wpAnyH_ready (rs := [8]) (by kernel_rfl) (by simp) ?_
          refine AllReadyH.cons rfl (fun K hK => ?_) AllReadyH.nil
          refine step_append_str rfl (.tmp 43) (.tmp 45) rfl w.heap.size v3 rfl (m + 1 + 2) (zs ++ [1] ++ putL s.length 2) HR3.out.own (strB s) rfl (by rw [hsz]; omega) HR3.out.below.size ?_
          intro v4' w4 ho4 hg4 _
          rw [hsz] at ho4
          have hE0 : (strB s).data.toList = s := rfl
          rw [hE0] at ho4
          obtain ⟨A4, c4, rfl, -, -⟩ := slice_of_own ho4
          have HR4 := Lib.hid (HR3.out.app ho4 hg4)
          have d4 : w4.cell? ⟨wr.heap.size, 4, none⟩ = some (.string (strB s)) := HR4.out.kc.cell 4
          clear ho4 hg4
          refine hK.out _ _ (d4) (fun _ => ?_)
          clear hK K
          try simp only [Act.put, List.setIfInBounds_toArray, List.set_cons_zero, List.set_cons_succ]
          refine take_yes 9 3 ?_ rfl rfl (by kernel_rfl) (by kernel_rfl) (by kernel_rfl) (fun _ _ _ h => h) (by kernel_rfl) ?_ (by assumption) ?_; rotate_left; (focus (intro w hSw; (try dsimp only at hSw); go_simp; all_goals first | with_reducible rfl)); simp only [Act.put, List.setIfInBounds_toArray, List.set_cons_zero, List.set_cons_succ]
          refine wpAnyH_done (by kernel_rfl) ?_ _
          obtain ⟨e1, e2⟩ := HT.out (m + 1 + 2 + s.length) (zs ++ [1] ++ putL s.length 2 ++ s) (by have h := HLn.out; omega) (by rw [HE.out]; simp only [List.append_assoc])
          have HF : Hid (w4.ownsRow w.heap.size 5 1 (.slice A4 (m + 1 + 2 + s.length) c4) (2 + ((l.take (k + 1)).flatMap cB).length) ((putL n 2 ++ (l.take (k + 1)).flatMap cB).map B8)) := Lib.hid (by rw [e1, e2]; exact HR4.out.own)
          clear e1 e2
          go_wp2
          go_roundw
          case rel => exact ⟨k + 1, by omega, by go_num, HF, Lib.hid HR4.out.below⟩
          case measure => simp [intOf]; omega
        · have HE : Hid (constB ⟨3, a, b', nn, s⟩ = putL (bits64 3) 1 ++ putL (bits64 nn) 4) := Lib.hid (by unfold constB; simp [formF])
          have HLn : Hid ((constB ⟨3, a, b', nn, s⟩).length = 1 + 4) := Lib.hid (by rw [HE.out]; simp [putL_len])
          rw [HLn.out] at hm6
          have HY : Hid (∀ W : World, ByteSl (W.alloc (.cells #[.int .u8 3] 5)) Empty (some ⟨W.heap.size, 0, none⟩) 1 1 [3]) := Lib.hid (fun W => ByteSl.lit W Empty [3] 1 rfl (fun h => h) (by unfold maxLen; omega))
          have hYs := HY.out (wr.alloc (.cells (⟨3, a, b', nn, s⟩ : Cst).cells.toArray 41))
          rw [show (wr.alloc (.cells (⟨3, a, b', nn, s⟩ : Cst).cells.toArray 41)).heap.size = wr.heap.size + 1 by simp] at hYs
          have HYs := Lib.hid hYs
          clear hYs
          have hput : putL (bits64 3) 1 = [3] := by decide
          rw [hput] at HE
          have hsz : (strB s).size = s.length := strB_size s
          have hUa := u64_wrap a
          have hUb := u64_wrap b'
          have hUn := u64_wrap nn
          have hUs : IntKind.u64.wrap (s.length : Int) = (s.length : Int) := by rw [IntKind.wrap_u64]; omega
          clear hpt hft hput
          go_wp2_with (at_builtin; refine wpList_append_bytes rfl (.tmp 19) (.tmp 23) rfl w.heap.size (.slice Av m cv) rfl m zs (HR1.out.only ((Only.refl _ _).alloc _)).own (some ⟨wr.heap.size + 1, 0, none⟩) 1 1 [3] Empty rfl (HYs.out) (fun h => by cases h) (by omega) (HR1.out.only ((Only.refl _ _).alloc _)).below.size ?_; intro v2 w2 ho2 hg2 _; obtain ⟨A2, c2, rfl, hB2, hn2⟩ := slice_of_own ho2; have HR2 := Lib.hid ((HR1.out.only ((Only.refl _ _).alloc (.cells #[.int .u8 3] 5))).app ho2 hg2); have HB2 := Lib.hid hB2; have HN2 := Lib.hid hn2; have a0 : w2.cell? ⟨wr.heap.size, 0, none⟩ = some (.int .i64 3) := HR2.out.kc.cell 0; have a1 : w2.cell? ⟨wr.heap.size, 1, none⟩ = some (.int .i64 a) := HR2.out.kc.cell 1; have a2 : w2.cell? ⟨wr.heap.size, 2, none⟩ = some (.int .i64 b') := HR2.out.kc.cell 2; have a3 : w2.cell? ⟨wr.heap.size, 3, none⟩ = some (.int .i64 nn) := HR2.out.kc.cell 3; have a4 : w2.cell? ⟨wr.heap.size, 4, none⟩ = some (.string (strB s)) := HR2.out.kc.cell 4; clear ho2 hg2 hB2 hn2)
          refine (CP.out A2 (m + 1) c2 (bits64 nn) 4 (zs ++ [3]) _ HB2.out HN2.out (HU.out _) (by omega) (by omega) (by omega)).mono ?_
          rintro e w3 ⟨⟨v3, rfl, ho3⟩, hb3⟩
          obtain ⟨A3, c3, rfl, hB3, hn3⟩ := slice_of_own ho3
          have HR3 := Lib.hid (HR2.out.put ho3 hb3)
          clear ho3 hb3 hB3 hn3
          obtain ⟨e1, e2⟩ := HT.out (m + 1 + 4) (zs ++ [3] ++ putL (bits64 nn) 4) (by have h := HLn.out; omega) (by rw [HE.out]; simp only [List.append_assoc])
          have HF : Hid (w3.ownsRow w.heap.size 5 1 (.slice A3 (m + 1 + 4) c3) (2 + ((l.take (k + 1)).flatMap cB).length) ((putL n 2 ++ (l.take (k + 1)).flatMap cB).map B8)) := Lib.hid (by rw [e1, e2]; exact HR3.out.own)
          clear e1 e2
          go_wp2
          go_roundw
          case rel => exact ⟨k + 1, by omega, by go_num, HF, Lib.hid HR3.out.below⟩
          case measure => simp [intOf]; omega
        · have HE : Hid (constB ⟨5, a, b', nn, s⟩ = putL (bits64 5) 1 ++ putL (bits64 nn) 8) := Lib.hid (by unfold constB; simp [formF])
          have HLn : Hid ((constB ⟨5, a, b', nn, s⟩).length = 1 + 8) := Lib.hid (by rw [HE.out]; simp [putL_len])
          rw [HLn.out] at hm6
          have HY : Hid (∀ W : World, ByteSl (W.alloc (.cells #[.int .u8 5] 5)) Empty (some ⟨W.heap.size, 0, none⟩) 1 1 [5]) := Lib.hid (fun W => ByteSl.lit W Empty [5] 1 rfl (fun h => h) (by unfold maxLen; omega))
          have hYs := HY.out (wr.alloc (.cells (⟨5, a, b', nn, s⟩ : Cst).cells.toArray 41))
          rw [show (wr.alloc (.cells (⟨5, a, b', nn, s⟩ : Cst).cells.toArray 41)).heap.size = wr.heap.size + 1 by simp] at hYs
          have HYs := Lib.hid hYs
          clear hYs
          have hput : putL (bits64 5) 1 = [5] := by decide
          rw [hput] at HE
          have hsz : (strB s).size = s.length := strB_size s
          have hUa := u64_wrap a
          have hUb := u64_wrap b'
          have hUn := u64_wrap nn
          have hUs : IntKind.u64.wrap (s.length : Int) = (s.length : Int) := by rw [IntKind.wrap_u64]; omega
          clear hpt hft hput
          go_wp2_with (at_builtin; refine wpList_append_bytes rfl (.tmp 19) (.tmp 23) rfl w.heap.size (.slice Av m cv) rfl m zs (HR1.out.only ((Only.refl _ _).alloc _)).own (some ⟨wr.heap.size + 1, 0, none⟩) 1 1 [5] Empty rfl (HYs.out) (fun h => by cases h) (by omega) (HR1.out.only ((Only.refl _ _).alloc _)).below.size ?_; intro v2 w2 ho2 hg2 _; obtain ⟨A2, c2, rfl, hB2, hn2⟩ := slice_of_own ho2; have HR2 := Lib.hid ((HR1.out.only ((Only.refl _ _).alloc (.cells #[.int .u8 5] 5))).app ho2 hg2); have HB2 := Lib.hid hB2; have HN2 := Lib.hid hn2; have a0 : w2.cell? ⟨wr.heap.size, 0, none⟩ = some (.int .i64 5) := HR2.out.kc.cell 0; have a1 : w2.cell? ⟨wr.heap.size, 1, none⟩ = some (.int .i64 a) := HR2.out.kc.cell 1; have a2 : w2.cell? ⟨wr.heap.size, 2, none⟩ = some (.int .i64 b') := HR2.out.kc.cell 2; have a3 : w2.cell? ⟨wr.heap.size, 3, none⟩ = some (.int .i64 nn) := HR2.out.kc.cell 3; have a4 : w2.cell? ⟨wr.heap.size, 4, none⟩ = some (.string (strB s)) := HR2.out.kc.cell 4; clear ho2 hg2 hB2 hn2)
          refine (CP.out A2 (m + 1) c2 (bits64 nn) 8 (zs ++ [5]) _ HB2.out HN2.out (HU.out _) (by omega) (by omega) (by omega)).mono ?_
          rintro e w3 ⟨⟨v3, rfl, ho3⟩, hb3⟩
          obtain ⟨A3, c3, rfl, hB3, hn3⟩ := slice_of_own ho3
          have HR3 := Lib.hid (HR2.out.put ho3 hb3)
          clear ho3 hb3 hB3 hn3
          obtain ⟨e1, e2⟩ := HT.out (m + 1 + 8) (zs ++ [5] ++ putL (bits64 nn) 8) (by have h := HLn.out; omega) (by rw [HE.out]; simp only [List.append_assoc])
          have HF : Hid (w3.ownsRow w.heap.size 5 1 (.slice A3 (m + 1 + 8) c3) (2 + ((l.take (k + 1)).flatMap cB).length) ((putL n 2 ++ (l.take (k + 1)).flatMap cB).map B8)) := Lib.hid (by rw [e1, e2]; exact HR3.out.own)
          clear e1 e2
          go_wp2
          go_roundw
          case rel => exact ⟨k + 1, by omega, by go_num, HF, Lib.hid HR3.out.below⟩
          case measure => simp [intOf]; omega
        · have HE : Hid (constB ⟨7, a, b', nn, s⟩ = putL (bits64 7) 1 ++ putL (bits64 a) 2) := Lib.hid (by unfold constB; simp [formF])
          have HLn : Hid ((constB ⟨7, a, b', nn, s⟩).length = 1 + 2) := Lib.hid (by rw [HE.out]; simp [putL_len])
          rw [HLn.out] at hm6
          have HY : Hid (∀ W : World, ByteSl (W.alloc (.cells #[.int .u8 7] 5)) Empty (some ⟨W.heap.size, 0, none⟩) 1 1 [7]) := Lib.hid (fun W => ByteSl.lit W Empty [7] 1 rfl (fun h => h) (by unfold maxLen; omega))
          have hYs := HY.out (wr.alloc (.cells (⟨7, a, b', nn, s⟩ : Cst).cells.toArray 41))
          rw [show (wr.alloc (.cells (⟨7, a, b', nn, s⟩ : Cst).cells.toArray 41)).heap.size = wr.heap.size + 1 by simp] at hYs
          have HYs := Lib.hid hYs
          clear hYs
          have hput : putL (bits64 7) 1 = [7] := by decide
          rw [hput] at HE
          have hsz : (strB s).size = s.length := strB_size s
          have hUa := u64_wrap a
          have hUb := u64_wrap b'
          have hUn := u64_wrap nn
          have hUs : IntKind.u64.wrap (s.length : Int) = (s.length : Int) := by rw [IntKind.wrap_u64]; omega
          clear hpt hft hput
          go_wp2_with (at_builtin; refine wpList_append_bytes rfl (.tmp 19) (.tmp 23) rfl w.heap.size (.slice Av m cv) rfl m zs (HR1.out.only ((Only.refl _ _).alloc _)).own (some ⟨wr.heap.size + 1, 0, none⟩) 1 1 [7] Empty rfl (HYs.out) (fun h => by cases h) (by omega) (HR1.out.only ((Only.refl _ _).alloc _)).below.size ?_; intro v2 w2 ho2 hg2 _; obtain ⟨A2, c2, rfl, hB2, hn2⟩ := slice_of_own ho2; have HR2 := Lib.hid ((HR1.out.only ((Only.refl _ _).alloc (.cells #[.int .u8 7] 5))).app ho2 hg2); have HB2 := Lib.hid hB2; have HN2 := Lib.hid hn2; have a0 : w2.cell? ⟨wr.heap.size, 0, none⟩ = some (.int .i64 7) := HR2.out.kc.cell 0; have a1 : w2.cell? ⟨wr.heap.size, 1, none⟩ = some (.int .i64 a) := HR2.out.kc.cell 1; have a2 : w2.cell? ⟨wr.heap.size, 2, none⟩ = some (.int .i64 b') := HR2.out.kc.cell 2; have a3 : w2.cell? ⟨wr.heap.size, 3, none⟩ = some (.int .i64 nn) := HR2.out.kc.cell 3; have a4 : w2.cell? ⟨wr.heap.size, 4, none⟩ = some (.string (strB s)) := HR2.out.kc.cell 4; clear ho2 hg2 hB2 hn2)
          refine (CP.out A2 (m + 1) c2 (bits64 a) 2 (zs ++ [7]) _ HB2.out HN2.out (HU.out _) (by omega) (by omega) (by omega)).mono ?_
          rintro e w3 ⟨⟨v3, rfl, ho3⟩, hb3⟩
          obtain ⟨A3, c3, rfl, hB3, hn3⟩ := slice_of_own ho3
          have HR3 := Lib.hid (HR2.out.put ho3 hb3)
          clear ho3 hb3 hB3 hn3
          obtain ⟨e1, e2⟩ := HT.out (m + 1 + 2) (zs ++ [7] ++ putL (bits64 a) 2) (by have h := HLn.out; omega) (by rw [HE.out]; simp only [List.append_assoc])
          have HF : Hid (w3.ownsRow w.heap.size 5 1 (.slice A3 (m + 1 + 2) c3) (2 + ((l.take (k + 1)).flatMap cB).length) ((putL n 2 ++ (l.take (k + 1)).flatMap cB).map B8)) := Lib.hid (by rw [e1, e2]; exact HR3.out.own)
          clear e1 e2
          go_wp2
          go_roundw
          case rel => exact ⟨k + 1, by omega, by go_num, HF, Lib.hid HR3.out.below⟩
          case measure => simp [intOf]; omega
        · have HE : Hid (constB ⟨8, a, b', nn, s⟩ = putL (bits64 8) 1 ++ putL (bits64 a) 2) := Lib.hid (by unfold constB; simp [formF])
          have HLn : Hid ((constB ⟨8, a, b', nn, s⟩).length = 1 + 2) := Lib.hid (by rw [HE.out]; simp [putL_len])
          rw [HLn.out] at hm6
          have HY : Hid (∀ W : World, ByteSl (W.alloc (.cells #[.int .u8 8] 5)) Empty (some ⟨W.heap.size, 0, none⟩) 1 1 [8]) := Lib.hid (fun W => ByteSl.lit W Empty [8] 1 rfl (fun h => h) (by unfold maxLen; omega))
          have hYs := HY.out (wr.alloc (.cells (⟨8, a, b', nn, s⟩ : Cst).cells.toArray 41))
          rw [show (wr.alloc (.cells (⟨8, a, b', nn, s⟩ : Cst).cells.toArray 41)).heap.size = wr.heap.size + 1 by simp] at hYs
          have HYs := Lib.hid hYs
          clear hYs
          have hput : putL (bits64 8) 1 = [8] := by decide
          rw [hput] at HE
          have hsz : (strB s).size = s.length := strB_size s
          have hUa := u64_wrap a
          have hUb := u64_wrap b'
          have hUn := u64_wrap nn
          have hUs : IntKind.u64.wrap (s.length : Int) = (s.length : Int) := by rw [IntKind.wrap_u64]; omega
          clear hpt hft hput
          go_wp2_with (at_builtin; refine wpList_append_bytes rfl (.tmp 19) (.tmp 23) rfl w.heap.size (.slice Av m cv) rfl m zs (HR1.out.only ((Only.refl _ _).alloc _)).own (some ⟨wr.heap.size + 1, 0, none⟩) 1 1 [8] Empty rfl (HYs.out) (fun h => by cases h) (by omega) (HR1.out.only ((Only.refl _ _).alloc _)).below.size ?_; intro v2 w2 ho2 hg2 _; obtain ⟨A2, c2, rfl, hB2, hn2⟩ := slice_of_own ho2; have HR2 := Lib.hid ((HR1.out.only ((Only.refl _ _).alloc (.cells #[.int .u8 8] 5))).app ho2 hg2); have HB2 := Lib.hid hB2; have HN2 := Lib.hid hn2; have a0 : w2.cell? ⟨wr.heap.size, 0, none⟩ = some (.int .i64 8) := HR2.out.kc.cell 0; have a1 : w2.cell? ⟨wr.heap.size, 1, none⟩ = some (.int .i64 a) := HR2.out.kc.cell 1; have a2 : w2.cell? ⟨wr.heap.size, 2, none⟩ = some (.int .i64 b') := HR2.out.kc.cell 2; have a3 : w2.cell? ⟨wr.heap.size, 3, none⟩ = some (.int .i64 nn) := HR2.out.kc.cell 3; have a4 : w2.cell? ⟨wr.heap.size, 4, none⟩ = some (.string (strB s)) := HR2.out.kc.cell 4; clear ho2 hg2 hB2 hn2)
          refine (CP.out A2 (m + 1) c2 (bits64 a) 2 (zs ++ [8]) _ HB2.out HN2.out (HU.out _) (by omega) (by omega) (by omega)).mono ?_
          rintro e w3 ⟨⟨v3, rfl, ho3⟩, hb3⟩
          obtain ⟨A3, c3, rfl, hB3, hn3⟩ := slice_of_own ho3
          have HR3 := Lib.hid (HR2.out.put ho3 hb3)
          clear ho3 hb3 hB3 hn3
          obtain ⟨e1, e2⟩ := HT.out (m + 1 + 2) (zs ++ [8] ++ putL (bits64 a) 2) (by have h := HLn.out; omega) (by rw [HE.out]; simp only [List.append_assoc])
          have HF : Hid (w3.ownsRow w.heap.size 5 1 (.slice A3 (m + 1 + 2) c3) (2 + ((l.take (k + 1)).flatMap cB).length) ((putL n 2 ++ (l.take (k + 1)).flatMap cB).map B8)) := Lib.hid (by rw [e1, e2]; exact HR3.out.own)
          clear e1 e2
          go_wp2
          go_roundw
          case rel => exact ⟨k + 1, by omega, by go_num, HF, Lib.hid HR3.out.below⟩
          case measure => simp [intOf]; omega
        · have HE : Hid (constB ⟨9, a, b', nn, s⟩ = putL (bits64 9) 1 ++ putL (bits64 a) 2 ++ putL (bits64 b') 2) := Lib.hid (by unfold constB; simp [formF])
          have HLn : Hid ((constB ⟨9, a, b', nn, s⟩).length = 1 + 2 + 2) := Lib.hid (by rw [HE.out]; simp [putL_len])
          rw [HLn.out] at hm6
          have HY : Hid (∀ W : World, ByteSl (W.alloc (.cells #[.int .u8 9] 5)) Empty (some ⟨W.heap.size, 0, none⟩) 1 1 [9]) := Lib.hid (fun W => ByteSl.lit W Empty [9] 1 rfl (fun h => h) (by unfold maxLen; omega))
          have hYs := HY.out (wr.alloc (.cells (⟨9, a, b', nn, s⟩ : Cst).cells.toArray 41))
          rw [show (wr.alloc (.cells (⟨9, a, b', nn, s⟩ : Cst).cells.toArray 41)).heap.size = wr.heap.size + 1 by simp] at hYs
          have HYs := Lib.hid hYs
          clear hYs
          have hput : putL (bits64 9) 1 = [9] := by decide
          rw [hput] at HE
          have hsz : (strB s).size = s.length := strB_size s
          have hUa := u64_wrap a
          have hUb := u64_wrap b'
          have hUn := u64_wrap nn
          have hUs : IntKind.u64.wrap (s.length : Int) = (s.length : Int) := by rw [IntKind.wrap_u64]; omega
          clear hpt hft hput
          go_wp2_with (at_builtin; refine wpList_append_bytes rfl (.tmp 19) (.tmp 23) rfl w.heap.size (.slice Av m cv) rfl m zs (HR1.out.only ((Only.refl _ _).alloc _)).own (some ⟨wr.heap.size + 1, 0, none⟩) 1 1 [9] Empty rfl (HYs.out) (fun h => by cases h) (by omega) (HR1.out.only ((Only.refl _ _).alloc _)).below.size ?_; intro v2 w2 ho2 hg2 _; obtain ⟨A2, c2, rfl, hB2, hn2⟩ := slice_of_own ho2; have HR2 := Lib.hid ((HR1.out.only ((Only.refl _ _).alloc (.cells #[.int .u8 9] 5))).app ho2 hg2); have HB2 := Lib.hid hB2; have HN2 := Lib.hid hn2; have a0 : w2.cell? ⟨wr.heap.size, 0, none⟩ = some (.int .i64 9) := HR2.out.kc.cell 0; have a1 : w2.cell? ⟨wr.heap.size, 1, none⟩ = some (.int .i64 a) := HR2.out.kc.cell 1; have a2 : w2.cell? ⟨wr.heap.size, 2, none⟩ = some (.int .i64 b') := HR2.out.kc.cell 2; have a3 : w2.cell? ⟨wr.heap.size, 3, none⟩ = some (.int .i64 nn) := HR2.out.kc.cell 3; have a4 : w2.cell? ⟨wr.heap.size, 4, none⟩ = some (.string (strB s)) := HR2.out.kc.cell 4; clear ho2 hg2 hB2 hn2)
          refine wp_region_held_drew (S := fun W => W.cell? ⟨wr.heap.size, 1, none⟩ = some (.int .i64 a) ∧ W.cell? ⟨wr.heap.size, 2, none⟩ = some (.int .i64 b')) (by kernel_rfl) ⟨a1, a2⟩ (fun hHeld0 => ?_)
          refine take_yes 0 27 ?_ rfl rfl (by kernel_rfl) (by kernel_rfl) (by kernel_rfl) (fun _ _ _ h => h) (by kernel_rfl) ?_ (by assumption) ?_; rotate_left; (focus (intro w hSw; (try dsimp only at hSw); go_simp; all_goals first | with_reducible rfl)); simp only [Act.put, List.setIfInBounds_toArray, List.set_cons_zero, List.set_cons_succ]
          refine take_yes 1 28 ?_ rfl rfl (by kernel_rfl) (by kernel_rfl) (by kernel_rfl) (fun _ _ _ h => h) (by kernel_rfl) ?_ (by assumption) ?_; rotate_left; (focus (intro w hSw; (try dsimp only at hSw); go_simp; all_goals first | with_reducible rfl)); simp only [Act.put, List.setIfInBounds_toArray, List.set_cons_zero, List.set_cons_succ]
          refine take_yes 2 29 ?_ rfl rfl (by kernel_rfl) (by kernel_rfl) (by kernel_rfl) (fun _ _ _ h => h) (by kernel_rfl) ?_ (by assumption) ?_; rotate_left; (focus (intro w hSw; (try dsimp only at hSw); go_simp; all_goals first | with_reducible rfl)); simp only [Act.put, List.setIfInBounds_toArray, List.set_cons_zero, List.set_cons_succ]
          refine take_yes 3 30 ?_ rfl rfl (by kernel_rfl) (by kernel_rfl) (by kernel_rfl) (fun _ _ _ h => h) (by kernel_rfl) ?_ (by assumption) ?_; rotate_left; (focus (intro w hSw; (try dsimp only at hSw); go_simp; all_goals first | with_reducible rfl)); simp only [Act.put, List.setIfInBounds_toArray, List.set_cons_zero, List.set_cons_succ]
          refine take_yes 5 32 ?_ rfl rfl (by kernel_rfl) (by kernel_rfl) (by kernel_rfl) (fun _ _ _ h => h) (by kernel_rfl) ?_ (by assumption) ?_; rotate_left; (focus (intro w hSw; (try dsimp only at hSw); go_simp; all_goals first | with_reducible rfl)); simp only [Act.put, List.setIfInBounds_toArray, List.set_cons_zero, List.set_cons_succ]
          refine take_yes 6 33 ?_ rfl rfl (by kernel_rfl) (by kernel_rfl) (by kernel_rfl) (fun _ _ _ h => h) (by kernel_rfl) ?_ (by assumption) ?_; rotate_left; (focus (intro w hSw; (try dsimp only at hSw); go_simp; all_goals first | with_reducible rfl)); simp only [Act.put, List.setIfInBounds_toArray, List.set_cons_zero, List.set_cons_succ]
          refine take_yes 7 34 ?_ rfl rfl (by kernel_rfl) (by kernel_rfl) (by kernel_rfl) (fun _ _ _ h => h) (by kernel_rfl) ?_ (by assumption) ?_; rotate_left; (focus (intro w hSw; (try dsimp only at hSw); go_simp; all_goals first | with_reducible rfl)); simp only [Act.put, List.setIfInBounds_toArray, List.set_cons_zero, List.set_cons_succ]
          refine wpAnyH_ready (rs := [4]) (by kernel_rfl) (by simp) ?_
          refine AllReadyH.cons rfl (fun K hK => ?_) AllReadyH.nil
          go_simp
          go_at_call 26
          (refine (CP.out A2 (m + 1) c2 (bits64 a) 2 (zs ++ [9]) _ (HB2.out.only (Only.refl Empty _).drew (fun _ _ h => h)) HN2.out (HU.out _) (by omega) (by omega) (by omega)).mono ?_)
          rintro e w3 ⟨⟨v3, rfl, ho3⟩, hb3⟩
          obtain ⟨A3, c3, rfl, hB3, hn3⟩ := slice_of_own ho3
          have HR3 := Lib.hid ((HR2.out.only (Only.refl Empty _).drew).put ho3 hb3)
          have HB3 := Lib.hid hB3
          have HN3 := Lib.hid hn3
          have f1 : w3.cell? ⟨wr.heap.size, 1, none⟩ = some (.int .i64 a) := HR3.out.kc.cell 1
          have f2 : w3.cell? ⟨wr.heap.size, 2, none⟩ = some (.int .i64 b') := HR3.out.kc.cell 2
          clear ho3 hb3 hB3 hn3
          go_wp2_with fail
          refine hK.out _ _ (⟨f1, f2⟩) (fun _ => ?_)
          clear hK K
          try simp only [Act.put, List.setIfInBounds_toArray, List.set_cons_zero, List.set_cons_succ]
          refine wpAnyH_ready (rs := [8]) (by kernel_rfl) (by simp) ?_
          refine AllReadyH.cons rfl (fun K hK => ?_) AllReadyH.nil
          go_simp
          go_at_call 26
          (refine (CP.out A3 (m + 1 + 2) c3 (bits64 b') 2 (zs ++ [9] ++ putL (bits64 a) 2) _ HB3.out HN3.out (HU.out _) (by omega) (by omega) (by omega)).mono ?_)
          rintro e w4 ⟨⟨v4, rfl, ho4⟩, hb4⟩
          obtain ⟨A4, c4, rfl, hB4, hn4⟩ := slice_of_own ho4
          have HR4 := Lib.hid (HR3.out.put ho4 hb4)
          have g1 : w4.cell? ⟨wr.heap.size, 1, none⟩ = some (.int .i64 a) := HR4.out.kc.cell 1
          have g2 : w4.cell? ⟨wr.heap.size, 2, none⟩ = some (.int .i64 b') := HR4.out.kc.cell 2
          clear ho4 hb4 hB4 hn4
          go_wp2_with fail
          refine hK.out _ _ (⟨g1, g2⟩) (fun _ => ?_)
          clear hK K
          try simp only [Act.put, List.setIfInBounds_toArray, List.set_cons_zero, List.set_cons_succ]
          refine take_yes 9 3 ?_ rfl rfl (by kernel_rfl) (by kernel_rfl) (by kernel_rfl) (fun _ _ _ h => h) (by kernel_rfl) ?_ (by assumption) ?_; rotate_left; (focus (intro w hSw; (try dsimp only at hSw); go_simp; all_goals first | with_reducible rfl)); simp only [Act.put, List.setIfInBounds_toArray, List.set_cons_zero, List.set_cons_succ]
          refine wpAnyH_done (by kernel_rfl) ?_ _
          obtain ⟨e1, e2⟩ := HT.out (m + 1 + 2 + 2) (zs ++ [9] ++ putL (bits64 a) 2 ++ putL (bits64 b') 2) (by have h := HLn.out; omega) (by rw [HE.out]; simp only [List.append_assoc])
          have HF : Hid (w4.ownsRow w.heap.size 5 1 (.slice A4 (m + 1 + 2 + 2) c4) (2 + ((l.take (k + 1)).flatMap cB).length) ((putL n 2 ++ (l.take (k + 1)).flatMap cB).map B8)) := Lib.hid (by rw [e1, e2]; exact HR4.out.own)
          clear e1 e2
          go_wp2
          go_roundw
          case rel => exact ⟨k + 1, by omega, by go_num, HF, Lib.hid HR4.out.below⟩
          case measure => simp [intOf]; omega
        · have HE : Hid (constB ⟨10, a, b', nn, s⟩ = putL (bits64 10) 1 ++ putL (bits64 a) 2 ++ putL (bits64 b') 2) := Lib.hid (by unfold constB; simp [formF])
          have HLn : Hid ((constB ⟨10, a, b', nn, s⟩).length = 1 + 2 + 2) := Lib.hid (by rw [HE.out]; simp [putL_len])
          rw [HLn.out] at hm6
          have HY : Hid (∀ W : World, ByteSl (W.alloc (.cells #[.int .u8 10] 5)) Empty (some ⟨W.heap.size, 0, none⟩) 1 1 [10]) := Lib.hid (fun W => ByteSl.lit W Empty [10] 1 rfl (fun h => h) (by unfold maxLen; omega))
          have hYs := HY.out (wr.alloc (.cells (⟨10, a, b', nn, s⟩ : Cst).cells.toArray 41))
          rw [show (wr.alloc (.cells (⟨10, a, b', nn, s⟩ : Cst).cells.toArray 41)).heap.size = wr.heap.size + 1 by simp] at hYs
          have HYs := Lib.hid hYs
          clear hYs
          have hput : putL (bits64 10) 1 = [10] := by decide
          rw [hput] at HE
          have hsz : (strB s).size = s.length := strB_size s
          have hUa := u64_wrap a
          have hUb := u64_wrap b'
          have hUn := u64_wrap nn
          have hUs : IntKind.u64.wrap (s.length : Int) = (s.length : Int) := by rw [IntKind.wrap_u64]; omega
          clear hpt hft hput
          go_wp2_with (at_builtin; refine wpList_append_bytes rfl (.tmp 19) (.tmp 23) rfl w.heap.size (.slice Av m cv) rfl m zs (HR1.out.only ((Only.refl _ _).alloc _)).own (some ⟨wr.heap.size + 1, 0, none⟩) 1 1 [10] Empty rfl (HYs.out) (fun h => by cases h) (by omega) (HR1.out.only ((Only.refl _ _).alloc _)).below.size ?_; intro v2 w2 ho2 hg2 _; obtain ⟨A2, c2, rfl, hB2, hn2⟩ := slice_of_own ho2; have HR2 := Lib.hid ((HR1.out.only ((Only.refl _ _).alloc (.cells #[.int .u8 10] 5))).app ho2 hg2); have HB2 := Lib.hid hB2; have HN2 := Lib.hid hn2; have a0 : w2.cell? ⟨wr.heap.size, 0, none⟩ = some (.int .i64 10) := HR2.out.kc.cell 0; have a1 : w2.cell? ⟨wr.heap.size, 1, none⟩ = some (.int .i64 a) := HR2.out.kc.cell 1; have a2 : w2.cell? ⟨wr.heap.size, 2, none⟩ = some (.int .i64 b') := HR2.out.kc.cell 2; have a3 : w2.cell? ⟨wr.heap.size, 3, none⟩ = some (.int .i64 nn) := HR2.out.kc.cell 3; have a4 : w2.cell? ⟨wr.heap.size, 4, none⟩ = some (.string (strB s)) := HR2.out.kc.cell 4; clear ho2 hg2 hB2 hn2)
          refine wp_region_held_drew (S := fun W => W.cell? ⟨wr.heap.size, 1, none⟩ = some (.int .i64 a) ∧ W.cell? ⟨wr.heap.size, 2, none⟩ = some (.int .i64 b')) (by kernel_rfl) ⟨a1, a2⟩ (fun hHeld0 => ?_)
          refine take_yes 0 27 ?_ rfl rfl (by kernel_rfl) (by kernel_rfl) (by kernel_rfl) (fun _ _ _ h => h) (by kernel_rfl) ?_ (by assumption) ?_; rotate_left; (focus (intro w hSw; (try dsimp only at hSw); go_simp; all_goals first | with_reducible rfl)); simp only [Act.put, List.setIfInBounds_toArray, List.set_cons_zero, List.set_cons_succ]
          refine take_yes 1 28 ?_ rfl rfl (by kernel_rfl) (by kernel_rfl) (by kernel_rfl) (fun _ _ _ h => h) (by kernel_rfl) ?_ (by assumption) ?_; rotate_left; (focus (intro w hSw; (try dsimp only at hSw); go_simp; all_goals first | with_reducible rfl)); simp only [Act.put, List.setIfInBounds_toArray, List.set_cons_zero, List.set_cons_succ]
          refine take_yes 2 29 ?_ rfl rfl (by kernel_rfl) (by kernel_rfl) (by kernel_rfl) (fun _ _ _ h => h) (by kernel_rfl) ?_ (by assumption) ?_; rotate_left; (focus (intro w hSw; (try dsimp only at hSw); go_simp; all_goals first | with_reducible rfl)); simp only [Act.put, List.setIfInBounds_toArray, List.set_cons_zero, List.set_cons_succ]
          refine take_yes 3 30 ?_ rfl rfl (by kernel_rfl) (by kernel_rfl) (by kernel_rfl) (fun _ _ _ h => h) (by kernel_rfl) ?_ (by assumption) ?_; rotate_left; (focus (intro w hSw; (try dsimp only at hSw); go_simp; all_goals first | with_reducible rfl)); simp only [Act.put, List.setIfInBounds_toArray, List.set_cons_zero, List.set_cons_succ]
          refine take_yes 5 32 ?_ rfl rfl (by kernel_rfl) (by kernel_rfl) (by kernel_rfl) (fun _ _ _ h => h) (by kernel_rfl) ?_ (by assumption) ?_; rotate_left; (focus (intro w hSw; (try dsimp only at hSw); go_simp; all_goals first | with_reducible rfl)); simp only [Act.put, List.setIfInBounds_toArray, List.set_cons_zero, List.set_cons_succ]
          refine take_yes 6 33 ?_ rfl rfl (by kernel_rfl) (by kernel_rfl) (by kernel_rfl) (fun _ _ _ h => h) (by kernel_rfl) ?_ (by assumption) ?_; rotate_left; (focus (intro w hSw; (try dsimp only at hSw); go_simp; all_goals first | with_reducible rfl)); simp only [Act.put, List.setIfInBounds_toArray, List.set_cons_zero, List.set_cons_succ]
          refine take_yes 7 34 ?_ rfl rfl (by kernel_rfl) (by kernel_rfl) (by kernel_rfl) (fun _ _ _ h => h) (by kernel_rfl) ?_ (by assumption) ?_; rotate_left; (focus (intro w hSw; (try dsimp only at hSw); go_simp; all_goals first | with_reducible rfl)); simp only [Act.put, List.setIfInBounds_toArray, List.set_cons_zero, List.set_cons_succ]
          refine wpAnyH_ready (rs := [4]) (by kernel_rfl) (by simp) ?_
          refine AllReadyH.cons rfl (fun K hK => ?_) AllReadyH.nil
          go_simp
          go_at_call 26
          (refine (CP.out A2 (m + 1) c2 (bits64 a) 2 (zs ++ [10]) _ (HB2.out.only (Only.refl Empty _).drew (fun _ _ h => h)) HN2.out (HU.out _) (by omega) (by omega) (by omega)).mono ?_)
          rintro e w3 ⟨⟨v3, rfl, ho3⟩, hb3⟩
          obtain ⟨A3, c3, rfl, hB3, hn3⟩ := slice_of_own ho3
          have HR3 := Lib.hid ((HR2.out.only (Only.refl Empty _).drew).put ho3 hb3)
          have HB3 := Lib.hid hB3
          have HN3 := Lib.hid hn3
          have f1 : w3.cell? ⟨wr.heap.size, 1, none⟩ = some (.int .i64 a) := HR3.out.kc.cell 1
          have f2 : w3.cell? ⟨wr.heap.size, 2, none⟩ = some (.int .i64 b') := HR3.out.kc.cell 2
          clear ho3 hb3 hB3 hn3
          go_wp2_with fail
          refine hK.out _ _ (⟨f1, f2⟩) (fun _ => ?_)
          clear hK K
          try simp only [Act.put, List.setIfInBounds_toArray, List.set_cons_zero, List.set_cons_succ]
          refine wpAnyH_ready (rs := [8]) (by kernel_rfl) (by simp) ?_
          refine AllReadyH.cons rfl (fun K hK => ?_) AllReadyH.nil
          go_simp
          go_at_call 26
          (refine (CP.out A3 (m + 1 + 2) c3 (bits64 b') 2 (zs ++ [10] ++ putL (bits64 a) 2) _ HB3.out HN3.out (HU.out _) (by omega) (by omega) (by omega)).mono ?_)
          rintro e w4 ⟨⟨v4, rfl, ho4⟩, hb4⟩
          obtain ⟨A4, c4, rfl, hB4, hn4⟩ := slice_of_own ho4
          have HR4 := Lib.hid (HR3.out.put ho4 hb4)
          have g1 : w4.cell? ⟨wr.heap.size, 1, none⟩ = some (.int .i64 a) := HR4.out.kc.cell 1
          have g2 : w4.cell? ⟨wr.heap.size, 2, none⟩ = some (.int .i64 b') := HR4.out.kc.cell 2
          clear ho4 hb4 hB4 hn4
          go_wp2_with fail
          refine hK.out _ _ (⟨g1, g2⟩) (fun _ => ?_)
          clear hK K
          try simp only [Act.put, List.setIfInBounds_toArray, List.set_cons_zero, List.set_cons_succ]
          refine take_yes 9 3 ?_ rfl rfl (by kernel_rfl) (by kernel_rfl) (by kernel_rfl) (fun _ _ _ h => h) (by kernel_rfl) ?_ (by assumption) ?_; rotate_left; (focus (intro w hSw; (try dsimp only at hSw); go_simp; all_goals first | with_reducible rfl)); simp only [Act.put, List.setIfInBounds_toArray, List.set_cons_zero, List.set_cons_succ]
          refine wpAnyH_done (by kernel_rfl) ?_ _
          obtain ⟨e1, e2⟩ := HT.out (m + 1 + 2 + 2) (zs ++ [10] ++ putL (bits64 a) 2 ++ putL (bits64 b') 2) (by have h := HLn.out; omega) (by rw [HE.out]; simp only [List.append_assoc])
          have HF : Hid (w4.ownsRow w.heap.size 5 1 (.slice A4 (m + 1 + 2 + 2) c4) (2 + ((l.take (k + 1)).flatMap cB).length) ((putL n 2 ++ (l.take (k + 1)).flatMap cB).map B8)) := Lib.hid (by rw [e1, e2]; exact HR4.out.own)
          clear e1 e2
          go_wp2
          go_roundw
          case rel => exact ⟨k + 1, by omega, by go_num, HF, Lib.hid HR4.out.below⟩
          case measure => simp [intOf]; omega
        · have HE : Hid (constB ⟨12, a, b', nn, s⟩ = putL (bits64 12) 1 ++ putL (bits64 a) 2 ++ putL (bits64 b') 2) := Lib.hid (by unfold constB; simp [formF])
          have HLn : Hid ((constB ⟨12, a, b', nn, s⟩).length = 1 + 2 + 2) := Lib.hid (by rw [HE.out]; simp [putL_len])
          rw [HLn.out] at hm6
          have HY : Hid (∀ W : World, ByteSl (W.alloc (.cells #[.int .u8 12] 5)) Empty (some ⟨W.heap.size, 0, none⟩) 1 1 [12]) := Lib.hid (fun W => ByteSl.lit W Empty [12] 1 rfl (fun h => h) (by unfold maxLen; omega))
          have hYs := HY.out (wr.alloc (.cells (⟨12, a, b', nn, s⟩ : Cst).cells.toArray 41))
          rw [show (wr.alloc (.cells (⟨12, a, b', nn, s⟩ : Cst).cells.toArray 41)).heap.size = wr.heap.size + 1 by simp] at hYs
          have HYs := Lib.hid hYs
          clear hYs
          have hput : putL (bits64 12) 1 = [12] := by decide
          rw [hput] at HE
          have hsz : (strB s).size = s.length := strB_size s
          have hUa := u64_wrap a
          have hUb := u64_wrap b'
          have hUn := u64_wrap nn
          have hUs : IntKind.u64.wrap (s.length : Int) = (s.length : Int) := by rw [IntKind.wrap_u64]; omega
          clear hpt hft hput
          go_wp2_with (at_builtin; refine wpList_append_bytes rfl (.tmp 19) (.tmp 23) rfl w.heap.size (.slice Av m cv) rfl m zs (HR1.out.only ((Only.refl _ _).alloc _)).own (some ⟨wr.heap.size + 1, 0, none⟩) 1 1 [12] Empty rfl (HYs.out) (fun h => by cases h) (by omega) (HR1.out.only ((Only.refl _ _).alloc _)).below.size ?_; intro v2 w2 ho2 hg2 _; obtain ⟨A2, c2, rfl, hB2, hn2⟩ := slice_of_own ho2; have HR2 := Lib.hid ((HR1.out.only ((Only.refl _ _).alloc (.cells #[.int .u8 12] 5))).app ho2 hg2); have HB2 := Lib.hid hB2; have HN2 := Lib.hid hn2; have a0 : w2.cell? ⟨wr.heap.size, 0, none⟩ = some (.int .i64 12) := HR2.out.kc.cell 0; have a1 : w2.cell? ⟨wr.heap.size, 1, none⟩ = some (.int .i64 a) := HR2.out.kc.cell 1; have a2 : w2.cell? ⟨wr.heap.size, 2, none⟩ = some (.int .i64 b') := HR2.out.kc.cell 2; have a3 : w2.cell? ⟨wr.heap.size, 3, none⟩ = some (.int .i64 nn) := HR2.out.kc.cell 3; have a4 : w2.cell? ⟨wr.heap.size, 4, none⟩ = some (.string (strB s)) := HR2.out.kc.cell 4; clear ho2 hg2 hB2 hn2)
          refine wp_region_held_drew (S := fun W => W.cell? ⟨wr.heap.size, 1, none⟩ = some (.int .i64 a) ∧ W.cell? ⟨wr.heap.size, 2, none⟩ = some (.int .i64 b')) (by kernel_rfl) ⟨a1, a2⟩ (fun hHeld0 => ?_)
          refine take_yes 0 27 ?_ rfl rfl (by kernel_rfl) (by kernel_rfl) (by kernel_rfl) (fun _ _ _ h => h) (by kernel_rfl) ?_ (by assumption) ?_; rotate_left; (focus (intro w hSw; (try dsimp only at hSw); go_simp; all_goals first | with_reducible rfl)); simp only [Act.put, List.setIfInBounds_toArray, List.set_cons_zero, List.set_cons_succ]
          refine take_yes 1 28 ?_ rfl rfl (by kernel_rfl) (by kernel_rfl) (by kernel_rfl) (fun _ _ _ h => h) (by kernel_rfl) ?_ (by assumption) ?_; rotate_left; (focus (intro w hSw; (try dsimp only at hSw); go_simp; all_goals first | with_reducible rfl)); simp only [Act.put, List.setIfInBounds_toArray, List.set_cons_zero, List.set_cons_succ]
          refine take_yes 2 29 ?_ rfl rfl (by kernel_rfl) (by kernel_rfl) (by kernel_rfl) (fun _ _ _ h => h) (by kernel_rfl) ?_ (by assumption) ?_; rotate_left; (focus (intro w hSw; (try dsimp only at hSw); go_simp; all_goals first | with_reducible rfl)); simp only [Act.put, List.setIfInBounds_toArray, List.set_cons_zero, List.set_cons_succ]
          refine take_yes 3 30 ?_ rfl rfl (by kernel_rfl) (by kernel_rfl) (by kernel_rfl) (fun _ _ _ h => h) (by kernel_rfl) ?_ (by assumption) ?_; rotate_left; (focus (intro w hSw; (try dsimp only at hSw); go_simp; all_goals first | with_reducible rfl)); simp only [Act.put, List.setIfInBounds_toArray, List.set_cons_zero, List.set_cons_succ]
          refine take_yes 5 32 ?_ rfl rfl (by kernel_rfl) (by kernel_rfl) (by kernel_rfl) (fun _ _ _ h => h) (by kernel_rfl) ?_ (by assumption) ?_; rotate_left; (focus (intro w hSw; (try dsimp only at hSw); go_simp; all_goals first | with_reducible rfl)); simp only [Act.put, List.setIfInBounds_toArray, List.set_cons_zero, List.set_cons_succ]
          refine take_yes 6 33 ?_ rfl rfl (by kernel_rfl) (by kernel_rfl) (by kernel_rfl) (fun _ _ _ h => h) (by kernel_rfl) ?_ (by assumption) ?_; rotate_left; (focus (intro w hSw; (try dsimp only at hSw); go_simp; all_goals first | with_reducible rfl)); simp only [Act.put, List.setIfInBounds_toArray, List.set_cons_zero, List.set_cons_succ]
          refine take_yes 7 34 ?_ rfl rfl (by kernel_rfl) (by kernel_rfl) (by kernel_rfl) (fun _ _ _ h => h) (by kernel_rfl) ?_ (by assumption) ?_; rotate_left; (focus (intro w hSw; (try dsimp only at hSw); go_simp; all_goals first | with_reducible rfl)); simp only [Act.put, List.setIfInBounds_toArray, List.set_cons_zero, List.set_cons_succ]
          refine wpAnyH_ready (rs := [4]) (by kernel_rfl) (by simp) ?_
          refine AllReadyH.cons rfl (fun K hK => ?_) AllReadyH.nil
          go_simp
          go_at_call 26
          (refine (CP.out A2 (m + 1) c2 (bits64 a) 2 (zs ++ [12]) _ (HB2.out.only (Only.refl Empty _).drew (fun _ _ h => h)) HN2.out (HU.out _) (by omega) (by omega) (by omega)).mono ?_)
          rintro e w3 ⟨⟨v3, rfl, ho3⟩, hb3⟩
          obtain ⟨A3, c3, rfl, hB3, hn3⟩ := slice_of_own ho3
          have HR3 := Lib.hid ((HR2.out.only (Only.refl Empty _).drew).put ho3 hb3)
          have HB3 := Lib.hid hB3
          have HN3 := Lib.hid hn3
          have f1 : w3.cell? ⟨wr.heap.size, 1, none⟩ = some (.int .i64 a) := HR3.out.kc.cell 1
          have f2 : w3.cell? ⟨wr.heap.size, 2, none⟩ = some (.int .i64 b') := HR3.out.kc.cell 2
          clear ho3 hb3 hB3 hn3
          go_wp2_with fail
          refine hK.out _ _ (⟨f1, f2⟩) (fun _ => ?_)
          clear hK K
          try simp only [Act.put, List.setIfInBounds_toArray, List.set_cons_zero, List.set_cons_succ]
          refine wpAnyH_ready (rs := [8]) (by kernel_rfl) (by simp) ?_
          refine AllReadyH.cons rfl (fun K hK => ?_) AllReadyH.nil
          go_simp
          go_at_call 26
          (refine (CP.out A3 (m + 1 + 2) c3 (bits64 b') 2 (zs ++ [12] ++ putL (bits64 a) 2) _ HB3.out HN3.out (HU.out _) (by omega) (by omega) (by omega)).mono ?_)
          rintro e w4 ⟨⟨v4, rfl, ho4⟩, hb4⟩
          obtain ⟨A4, c4, rfl, hB4, hn4⟩ := slice_of_own ho4
          have HR4 := Lib.hid (HR3.out.put ho4 hb4)
          have g1 : w4.cell? ⟨wr.heap.size, 1, none⟩ = some (.int .i64 a) := HR4.out.kc.cell 1
          have g2 : w4.cell? ⟨wr.heap.size, 2, none⟩ = some (.int .i64 b') := HR4.out.kc.cell 2
          clear ho4 hb4 hB4 hn4
          go_wp2_with fail
          refine hK.out _ _ (⟨g1, g2⟩) (fun _ => ?_)
          clear hK K
          try simp only [Act.put, List.setIfInBounds_toArray, List.set_cons_zero, List.set_cons_succ]
          refine take_yes 9 3 ?_ rfl rfl (by kernel_rfl) (by kernel_rfl) (by kernel_rfl) (fun _ _ _ h => h) (by kernel_rfl) ?_ (by assumption) ?_; rotate_left; (focus (intro w hSw; (try dsimp only at hSw); go_simp; all_goals first | with_reducible rfl)); simp only [Act.put, List.setIfInBounds_toArray, List.set_cons_zero, List.set_cons_succ]
          refine wpAnyH_done (by kernel_rfl) ?_ _
          obtain ⟨e1, e2⟩ := HT.out (m + 1 + 2 + 2) (zs ++ [12] ++ putL (bits64 a) 2 ++ putL (bits64 b') 2) (by have h := HLn.out; omega) (by rw [HE.out]; simp only [List.append_assoc])
          have HF : Hid (w4.ownsRow w.heap.size 5 1 (.slice A4 (m + 1 + 2 + 2) c4) (2 + ((l.take (k + 1)).flatMap cB).length) ((putL n 2 ++ (l.take (k + 1)).flatMap cB).map B8)) := Lib.hid (by rw [e1, e2]; exact HR4.out.own)
          clear e1 e2
          go_wp2
          go_roundw
          case rel => exact ⟨k + 1, by omega, by go_num, HF, Lib.hid HR4.out.below⟩
          case measure => simp [intOf]; omega
        · exact absurd (formF_no hno) hft
    · obtain rfl : k = n := by omega
      have hpool : putL k 2 ++ (l.take k).flatMap cB = poolB l := by
        unfold poolB
        rw [← Hl.out, List.take_length]
      have hlen : 2 + ((l.take k).flatMap cB).length = (poolB l).length := by rw [← hpool, List.length_append, putL_len]
      have hO := HOk.out
      rw [hpool, hlen] at hO
      obtain ⟨A2, c2, rfl, hB2, -⟩ := slice_of_own hO
      have HB2 := Lib.hid hB2
      clear hpool hlen hO hB2
      go_wp2
      go_ret
      exact ⟨⟨A2, c2, rfl, HB2.out⟩, HBk.out⟩

end Go.Proofs.Ytinkjeifkjfkgaa
