/- The walk over pool.Check. -/
import Derived.Test.YtendpbklcgiafaaZal
import Derived.Test.YtendpbklcgiafaaZab
import Derived.Test.YtendpbklcgiafaaZac
namespace Go.Proofs.Ytendpbklcgiafaa
set_option maxRecDepth 100000
open Go.RowKit

theorem mayStand_any (A : Option Addr) (n cap k : Nat) (l : List Cst) (w : World) (hP : PoolSl w A n cap l) (hn : n ≤ 1000000) (hok : ∀ c ∈ l, c.ok) (hk : k < n) :
    Calls Try.prog 91 #[.slice A n cap, .int .i64 (k : Int)] w fun e w' => e = .returned (.bool (mayF l k)) ∧ Below w.heap.size w w' := by
  have hl := hP.1
  by_cases hz : k = 0 ∨ (l[k - 1]?.map (·.tag)) = some 5
  · exact mayStand_empty A n cap k l w hP hn hk hz
  · have h0 : k ≠ 0 := fun h => hz (.inl h)
    have hd : l[k - 1]? = some l[k - 1] := List.getElem?_eq_getElem (by omega)
    have hc : l[k]? = some l[k] := List.getElem?_eq_getElem (by omega)
    have hd5 : l[k - 1].tag ≠ 5 := fun h => hz (.inr (by rw [hd]; simp [h]))
    by_cases hf : formF l[k].tag = noFrm
    · exact mayStand_no A n cap k l w hP hn hk h0 _ hd hd5 _ hc hf
    · exact mayStand_form A n cap k l w hP hn hok hk h0 _ hd hd5 _ hc hf

/-- Check's error. -/
noncomputable def checkC (l : List Cst) : Int := if checkF l = true then 0 else 8
theorem checkF_len {l : List Cst} (h : ¬ (1 ≤ l.length ∧ l.length ≤ 1024)) : checkF l = false := by
  unfold checkF
  rw [decide_eq_false h]
  rfl
theorem checkF_at {l : List Cst} (k : Nat) (hk : k < l.length) (h : mayF l k = false) : checkF l = false := by
  unfold checkF
  rw [Bool.and_assoc, Bool.and_eq_false_iff]
  right
  rw [Bool.and_eq_false_iff]
  left
  rw [← Bool.not_eq_true, List.all_eq_true]
  intro hA
  have := hA k (List.mem_range.mpr hk)
  rw [h] at this
  cases this

theorem check_any (A : Option Addr) (n cap : Nat) (l : List Cst) (w : World) (hP : PoolSl w A n cap l) (hn : n ≤ 1000000) (hok : ∀ c ∈ l, c.ok) :
    Calls Try.prog 87 #[.slice A n cap] w fun e w' => e = .returned (.int .i64 (checkC l)) ∧ Below w.heap.size w w' := by
  have CI : Hid (Calls Try.prog 90 #[.int .i64 (n : Int)] w fun e w' => e = .returned (.bool (decide (1 ≤ (n : Int) ∧ (n : Int) ≤ 1024))) ∧ w = w') := Lib.hid (isCount_any n w)
  have hl := hP.1
  by_cases hlen : 1 ≤ n ∧ n ≤ 1024
  · rw [decide_eq_true (by omega)] at CI
    have HP := Lib.hid hP
    have HOK := Lib.hid hok
    have Hl := Lib.hid hl
    have CM : Hid (∀ k W, k < n → Below w.heap.size w W → Calls Try.prog 91 #[.slice A n cap, .int .i64 (k : Int)] W fun e w' => e = .returned (.bool (mayF l k)) ∧ Below W.heap.size W w') :=
      Lib.hid (fun k W hk hb => mayStand_any A n cap k l W (hP.below hb) hn hok hk)
    have HEall : Hid ((∀ k, k < n → mayF l k = true) → checkF l = (lastTag l != 5)) := Lib.hid (fun h => by
      unfold checkF
      rw [decide_eq_true (by omega), List.all_eq_true.mpr (fun k hk => h k (by rw [List.mem_range] at hk; omega))]
      rfl)
    clear hP hok hl
    go_enter Try.func87, Try.ntmps87
    go_wp2_with fail
    refine CI.out.mono ?_
    rintro e w1 ⟨rfl, rfl⟩
    go_wp2
    go_loopw [2, 10] (fun a b wr => ∃ k : Nat, k ≤ n ∧ a = .int .i64 0 ∧ b = .int .i64 (k : Int) ∧ Hid (∀ j, j < k → mayF l j = true) ∧ Hid (Below w.heap.size w wr)) (fun _ b _ => n - (intOf b).toNat)
    case atStart => exact ⟨0, Nat.zero_le _, rfl, rfl, Lib.hid (fun j hj => by omega), Lib.hid (Below.refl _ _)⟩
    case round =>
      obtain ⟨k, hk, rfl, rfl, HA, HB⟩ := hrel
      by_cases hlt : k < n
      · cases hm : mayF l k with
        | true =>
          have HA2 : Hid (∀ j, j < k + 1 → mayF l j = true) := Lib.hid (fun j hj => by
            by_cases h : j = k
            · rw [h]; exact hm
            · exact HA.out j (by omega))
          have C := Lib.hid (CM.out k wr hlt HB.out)
          rw [hm] at C
          clear hm
          go_wp2_with fail
          refine C.out.mono ?_
          rintro e w2 ⟨rfl, hb2⟩
          have HB2 := Lib.hid (HB.out.trans (hb2.mono HB.out.size))
          clear hb2
          go_wp2
          go_roundw
          case rel => exact ⟨k + 1, by omega, rfl, by go_num, HA2, HB2⟩
          case measure => simp [intOf]; omega
        | false =>
          have HE : Hid (checkC l = 8) := Lib.hid (by unfold checkC; rw [checkF_at k (by rw [Hl.out]; exact hlt) hm]; rfl)
          have C := Lib.hid (CM.out k wr hlt HB.out)
          rw [hm] at C
          clear hm
          go_wp2_with fail
          refine C.out.mono ?_
          rintro e w2 ⟨rfl, hb2⟩
          have HB2 := Lib.hid (HB.out.trans (hb2.mono HB.out.size))
          clear hb2
          go_wp2
          go_ret
          exact ⟨by rw [HE.out]; rfl, HB2.out⟩
      · obtain rfl : k = n := by omega
        have hce : checkF l = (lastTag l != 5) := HEall.out HA.out
        obtain ⟨b, o, c, rfl, hc, hb, h0, -⟩ := pool_at (HP.out.below HB.out) (show k - 1 < k by omega)
        have hlast : lastTag l = c.tag := by
          have := lastTag_at l (by rw [Hl.out]; omega)
          rw [Hl.out, hc] at this
          simpa using this.symm
        have HE : Hid (checkC l = if c.tag == 5 then 8 else 0) := Lib.hid (by
          unfold checkC
          rw [hce, hlast]
          by_cases h : c.tag = 5 <;> simp [h])
        have hkt : ((k : Int) - 1).toNat = k - 1 := by omega
        obtain ⟨T, hT⟩ : ∃ T, (c.tag == 5) = T := ⟨_, rfl⟩
        rw [hT] at HE
        clear hce hlast hc
        cases T with
        | true =>
          go_wp2
          go_ret
          exact ⟨by rw [HE.out]; rfl, HB.out⟩
        | false =>
          go_wp2
          go_ret
          exact ⟨by rw [HE.out]; rfl, HB.out⟩
  · rw [decide_eq_false (by omega)] at CI
    have HE : Hid (checkC l = 8) := Lib.hid (by unfold checkC; rw [checkF_len (by omega)]; rfl)
    clear hP hok hl hlen
    go_enter Try.func87, Try.ntmps87
    go_wp2_with fail
    refine CI.out.mono ?_
    rintro e w1 ⟨rfl, rfl⟩
    go_wp2
    go_ret
    exact ⟨by rw [HE.out]; rfl, Below.refl _ _⟩

end Go.Proofs.Ytendpbklcgiafaa

/- The walks over a pool's writer: number, constant. -/
namespace Go.Proofs.Ytendpbklcgiafaa
set_option maxRecDepth 100000
open Go.RowKit

/-- The types of a writer's own blocks. -/
def EW (t : TypeId) : Prop := t = 150 ∨ t = 5
/-- What a writer's calls do. -/
structure WO (g base : Nat) (w w' : World) : Prop where
  only : Only (fun q => q = g ∨ base ≤ q) w w'
  keep : Keep EW w w'
theorem WO.trans {g base : Nat} {a b c : World} (h : WO g base a b) (k : WO g base b c) : WO g base a c := ⟨h.only.trans k.only, h.keep.trans k.keep⟩
theorem WO.of_empty {g base : Nat} {a b : World} (h : Only Empty a b) : WO g base a b := ⟨h.mono (fun _ _ h => h.elim), Keep.of_empty h⟩
theorem WO.of_below {g base : Nat} {a b : World} (h : Below a.heap.size a b) : WO g base a b := WO.of_empty (Only.of_below h)
/-- A writer that has written zs, in a row made since base. -/
structure WrA (w : World) (g base m : Nat) (B : Option Addr) (c : Nat) (zs : List UInt8) : Prop where
  blk : Blk w g 150 #[.slice B m c]
  own : w.ownsRow base 5 1 (.slice B m c) m (zs.map B8)
  le : base ≤ w.heap.size
def Wr (w : World) (g base m : Nat) (zs : List UInt8) : Prop := ∃ B c, WrA w g base m B c zs

theorem WrA.only {w w' : World} {g base m c : Nat} {B : Option Addr} {zs : List UInt8} (h : WrA w g base m B c zs) (k : Only Empty w w') : WrA w' g base m B c zs :=
  ⟨k.blk h.blk (fun h => h), own_only h.own k (fun _ _ _ h => h), Nat.le_trans h.le k.size⟩
theorem WrA.set {w1 w2 : World} {g base m m' c c' : Nat} {B B' : Option Addr} {zs zs' : List UInt8} (h : WrA w1 g base m B c zs) (hg : w1.grownBy w2 (Value.slice B m c).ownBlock) (hown : w2.ownsRow base 5 1 (.slice B' m' c') m' (zs'.map B8)) :
    WrA (w2.setCell ⟨g, 0, none⟩ (.slice B' m' c')) g base m' B' c' zs' ∧ Blk w2 g 150 #[.slice B m c] ∧ WO g base w1 (w2.setCell ⟨g, 0, none⟩ (.slice B' m' c')) ∧ Keep EW w1 w2 := by
  have hrow : ∀ q, (Value.slice B m c).ownBlock = some q → base ≤ q ∧ ∃ cur, Blk w1 q 5 cur := by
    intro q hq
    rcases h.own.2 with ⟨e, _⟩ | ⟨g', c2, cur, e, hb, hB, -⟩
    · cases e
      cases hq
    · cases e
      cases hq
      exact ⟨hb, cur, hB⟩
  have hO : Only (fun q => (Value.slice B m c).ownBlock = some q) w1 w2 := Only.of_grown hg (fun k e _ => e)
  have hne : ∀ q, (Value.slice B m c).ownBlock = some q → q ≠ g := fun q hq => by
    obtain ⟨_, cur, hB⟩ := hrow q hq
    exact Blk.ne_ hB h.blk (by decide)
  have hblk : Blk w2 g 150 #[.slice B m c] := hO.blk h.blk (fun e => hne g e rfl)
  have hset : Only (· = g) w2 (w2.setCell ⟨g, 0, none⟩ (.slice B' m' c')) := (Only.refl (· = g) w2).setCell (p := ⟨g, 0, none⟩) (Or.inl rfl) _
  have hK1 : Keep EW w1 w2 := by
    intro q t cs hq ht
    refine hO.blk hq (fun e => ?_)
    obtain ⟨_, cur, hB⟩ := hrow q e
    have hq' : w1.heap[q]? = _ := hq
    have hB' : w1.heap[q]? = _ := hB
    rw [hq'] at hB'
    cases hB'
    exact ht (Or.inr rfl)
  refine ⟨⟨hblk.set_ 0 _, ?_, ?_⟩, hblk, ⟨?_, hK1.trans (Keep.of_block hblk (Or.inl rfl) hset)⟩, hK1⟩
  · refine ⟨hown.1, ?_⟩
    rcases hown.2 with h0 | ⟨g', c2, cur, e, hb, hB, r⟩
    · exact Or.inl h0
    · exact Or.inr ⟨g', c2, cur, e, hb, hset.blk hB (Blk.ne_ hB hblk (by decide)), r⟩
  · have := h.le
    have := hO.size
    have := hset.size
    omega
  · exact (hO.mono (fun q _ e => Or.inr (hrow q e).1)).trans (hset.mono (fun q _ e => Or.inl e))

theorem wrNumber_any (g base m v n : Nat) (zs : List UInt8) (w : World) (hW : Wr w g base m zs) (hv : v ≤ 18446744073709551615) (h1 : 1 ≤ n) (h2 : n ≤ 8) (hm : m ≤ 8000000) :
    Calls Try.prog 88 #[.pointer (some ⟨g, 0, none⟩), .int .u64 (v : Int), .int .i64 (n : Int)] w fun e w' => e = .returned (.tuple #[]) ∧ Wr w' g base (m + n) (zs ++ putL v n) ∧ WO g base w w' := by
  obtain ⟨B, c, hA⟩ := hW
  have HA := Lib.hid hA
  have CP : Hid (∀ W, Calls Try.prog 84 #[.slice none 0 0, .int .u64 (v : Int), .int .i64 (n : Int)] W fun e w' => (∃ A2 c2, e = .returned (.slice A2 n c2) ∧ ByteSl w' Empty A2 n c2 (putL v n) ∧ (A2 = none → n = 0 ∧ c2 = 0)) ∧ Below W.heap.size W w') := Lib.hid (fun W =>
    (put_yes none 0 0 [] v n W (ByteSl.nil_ _ _ _ _ (by unfold maxLen; omega)) hv h1 h2 (by omega)).mono fun e w' ⟨⟨u, he, ho⟩, hb⟩ => by
      rw [Nat.zero_add, List.nil_append] at ho
      obtain ⟨A2, c2, rfl, hB2, hg⟩ := ByteSl.of_own (S := Empty) ho (fun _ _ _ h => h)
      refine ⟨⟨A2, c2, he, hB2, fun e => ?_⟩, hb⟩
      obtain ⟨_, h, _⟩ := hg (by omega)
      rw [e] at h
      cases h)
  have hc0 : w.cell? ⟨g, 0, none⟩ = some (.slice B m c) := hA.blk.cell 0
  have hgl := hA.blk.lt
  clear hA
  go_enter Try.func88, Try.ntmps88
  go_wp2_with fail
  refine wp_region_held_drew (S := fun _ => True) (by kernel_rfl) trivial (fun hHeld0 => ?_)
  refine take_yes 0 6 ?_ rfl rfl (by kernel_rfl) (by kernel_rfl) (by kernel_rfl) (fun _ _ _ h => h) (by kernel_rfl) ?_ (by assumption) ?_; rotate_left; (focus (intro w hSw; (try dsimp only at hSw); go_simp; all_goals first | with_reducible rfl)); simp only [Act.put, List.setIfInBounds_toArray, List.set_cons_zero, List.set_cons_succ]
  refine take_yes 1 7 ?_ rfl rfl (by kernel_rfl) (by kernel_rfl) (by kernel_rfl) (fun _ _ _ h => h) (by kernel_rfl) ?_ (by assumption) ?_; rotate_left; (focus (intro w hSw; (try dsimp only at hSw); go_simp; all_goals first | with_reducible rfl)); simp only [Act.put, List.setIfInBounds_toArray, List.set_cons_zero, List.set_cons_succ]
  refine take_yes 2 8 ?_ rfl rfl (by kernel_rfl) (by kernel_rfl) (by kernel_rfl) (fun _ _ _ h => h) (by kernel_rfl) ?_ (by assumption) ?_; rotate_left; (focus (intro w hSw; (try dsimp only at hSw); go_simp; all_goals first | with_reducible rfl)); simp only [Act.put, List.setIfInBounds_toArray, List.set_cons_zero, List.set_cons_succ]
  refine take_yes 3 9 ?_ rfl rfl (by kernel_rfl) (by kernel_rfl) (by kernel_rfl) (fun _ _ _ h => h) (by kernel_rfl) ?_ (by assumption) ?_; rotate_left; (focus (intro w hSw; (try dsimp only at hSw); go_simp; all_goals first | with_reducible rfl)); simp only [Act.put, List.setIfInBounds_toArray, List.set_cons_zero, List.set_cons_succ]
  refine take_yes 5 11 ?_ rfl rfl (by kernel_rfl) (by kernel_rfl) (by kernel_rfl) (fun _ _ _ h => h) (by kernel_rfl) ?_ (by assumption) ?_; rotate_left; (focus (intro w hSw; (try dsimp only at hSw); go_simp; all_goals first | with_reducible rfl)); simp only [Act.put, List.setIfInBounds_toArray, List.set_cons_zero, List.set_cons_succ]
  refine take_yes 6 12 ?_ rfl rfl (by kernel_rfl) (by kernel_rfl) (by kernel_rfl) (fun _ _ _ h => h) (by kernel_rfl) ?_ (by assumption) ?_; rotate_left; (focus (intro w hSw; (try dsimp only at hSw); go_simp; all_goals first | with_reducible rfl)); simp only [Act.put, List.setIfInBounds_toArray, List.set_cons_zero, List.set_cons_succ]
  refine wpAnyH_ready (rs := [4, 7]) (by kernel_rfl) (by simp) ?_
  refine AllReadyH.cons rfl (fun K hK => ?_) (AllReadyH.cons rfl (fun K hK => ?_) AllReadyH.nil)
  · go_simp
    refine hK.out _ _ (trivial) (fun _ => ?_)
    clear hK K
    try simp only [Act.put, List.setIfInBounds_toArray, List.set_cons_zero, List.set_cons_succ]
    refine wpAnyH_ready (rs := [7]) (by kernel_rfl) (by simp) ?_
    refine AllReadyH.cons rfl (fun K hK => ?_) AllReadyH.nil
    go_simp
    go_at_call 84; (with_reducible refine (CP.out _).mono ?_); rintro e10 w10 ⟨⟨A2, c2, rfl, hB2, hn2⟩, hb10⟩
    have HA10 := Lib.hid (HA.out.only (((Only.refl Empty w).drew).trans (Only.of_below hb10)))
    have hc10 : w10.cell? ⟨g, 0, none⟩ = some (.slice B m c) := HA10.out.blk.cell 0
    go_wp2_with fail
    refine hK.out _ _ (trivial) (fun _ => ?_)
    clear hK K
    try simp only [Act.put, List.setIfInBounds_toArray, List.set_cons_zero, List.set_cons_succ]
    refine wpAnyH_ready (rs := [8]) (by kernel_rfl) (by simp) ?_
    refine AllReadyH.cons rfl (fun K hK => ?_) AllReadyH.nil
    obtain ⟨v', w2, hrun, hown, hgr, -⟩ := run_append_bytes (w := w10) 31 base (.slice B m c) m zs HA10.out.own A2 n c2 (putL v n) Empty hB2 hn2 (by omega) HA10.out.le
    obtain ⟨B', c', rfl, -⟩ := ByteSl.of_own (S := Empty) hown (fun _ _ _ h => h)
    obtain ⟨hA3, hblk2, hWO, -⟩ := HA10.out.set hgr hown
    have HA3 := Lib.hid hA3
    have HWO := Lib.hid hWO
    have hg0 := hblk2.cell 0
    have hgf := hblk2.frozen 0
    have hgl2 := hblk2.lt
    clear hA3 hWO hblk2 hown hgr
    refine step_append_eq (ts := 31) rfl (.tmp 10) (.tmp 13) rfl rfl rfl rfl hrun ?_
    refine hK.out _ _ (trivial) (fun _ => ?_)
    clear hK K
    try simp only [Act.put, List.setIfInBounds_toArray, List.set_cons_zero, List.set_cons_succ]
    refine take_yes 9 15 ?_ rfl rfl (by kernel_rfl) (by kernel_rfl) (by kernel_rfl) (fun _ _ _ h => h) (by kernel_rfl) ?_ (by assumption) ?_; rotate_left; (focus (intro w hSw; (try dsimp only at hSw); go_simp; all_goals first | with_reducible rfl)); simp only [Act.put, List.setIfInBounds_toArray, List.set_cons_zero, List.set_cons_succ]
    refine take_yes 10 16 ?_ rfl rfl (by kernel_rfl) (by kernel_rfl) (by kernel_rfl) (fun _ _ _ h => h) (by kernel_rfl) ?_ (by assumption) ?_; rotate_left; (focus (intro w hSw; (try dsimp only at hSw); go_simp; all_goals first | with_reducible rfl)); simp only [Act.put, List.setIfInBounds_toArray, List.set_cons_zero, List.set_cons_succ]
    refine wpAnyH_ready (rs := [11]) (by kernel_rfl) (by simp) ?_
    refine AllReadyH.cons rfl (fun K hK => ?_) AllReadyH.nil
    go_simp
    refine hK.out _ _ (trivial) (fun _ => ?_)
    clear hK K
    try simp only [Act.put, List.setIfInBounds_toArray, List.set_cons_zero, List.set_cons_succ]
    refine wpAnyH_done (by kernel_rfl) ?_ _
    go_wp2
    go_end0
    exact ⟨rfl, ⟨B', c', HA3.out⟩, (WO.of_empty (Only.refl _ _).drew).trans ((WO.of_below hb10).trans HWO.out)⟩
  · go_simp
    go_at_call 84; (with_reducible refine (CP.out _).mono ?_); rintro e10 w10 ⟨⟨A2, c2, rfl, hB2, hn2⟩, hb10⟩
    have HA10 := Lib.hid (HA.out.only (((Only.refl Empty w).drew).trans (Only.of_below hb10)))
    have hc10 : w10.cell? ⟨g, 0, none⟩ = some (.slice B m c) := HA10.out.blk.cell 0
    go_wp2_with fail
    refine hK.out _ _ (trivial) (fun _ => ?_)
    clear hK K
    try simp only [Act.put, List.setIfInBounds_toArray, List.set_cons_zero, List.set_cons_succ]
    refine wpAnyH_ready (rs := [4]) (by kernel_rfl) (by simp) ?_
    refine AllReadyH.cons rfl (fun K hK => ?_) AllReadyH.nil
    go_simp
    refine hK.out _ _ (trivial) (fun _ => ?_)
    clear hK K
    try simp only [Act.put, List.setIfInBounds_toArray, List.set_cons_zero, List.set_cons_succ]
    refine wpAnyH_ready (rs := [8]) (by kernel_rfl) (by simp) ?_
    refine AllReadyH.cons rfl (fun K hK => ?_) AllReadyH.nil
    obtain ⟨v', w2, hrun, hown, hgr, -⟩ := run_append_bytes (w := w10) 31 base (.slice B m c) m zs HA10.out.own A2 n c2 (putL v n) Empty hB2 hn2 (by omega) HA10.out.le
    obtain ⟨B', c', rfl, -⟩ := ByteSl.of_own (S := Empty) hown (fun _ _ _ h => h)
    obtain ⟨hA3, hblk2, hWO, -⟩ := HA10.out.set hgr hown
    have HA3 := Lib.hid hA3
    have HWO := Lib.hid hWO
    have hg0 := hblk2.cell 0
    have hgf := hblk2.frozen 0
    have hgl2 := hblk2.lt
    clear hA3 hWO hblk2 hown hgr
    refine step_append_eq (ts := 31) rfl (.tmp 10) (.tmp 13) rfl rfl rfl rfl hrun ?_
    refine hK.out _ _ (trivial) (fun _ => ?_)
    clear hK K
    try simp only [Act.put, List.setIfInBounds_toArray, List.set_cons_zero, List.set_cons_succ]
    refine take_yes 9 15 ?_ rfl rfl (by kernel_rfl) (by kernel_rfl) (by kernel_rfl) (fun _ _ _ h => h) (by kernel_rfl) ?_ (by assumption) ?_; rotate_left; (focus (intro w hSw; (try dsimp only at hSw); go_simp; all_goals first | with_reducible rfl)); simp only [Act.put, List.setIfInBounds_toArray, List.set_cons_zero, List.set_cons_succ]
    refine take_yes 10 16 ?_ rfl rfl (by kernel_rfl) (by kernel_rfl) (by kernel_rfl) (fun _ _ _ h => h) (by kernel_rfl) ?_ (by assumption) ?_; rotate_left; (focus (intro w hSw; (try dsimp only at hSw); go_simp; all_goals first | with_reducible rfl)); simp only [Act.put, List.setIfInBounds_toArray, List.set_cons_zero, List.set_cons_succ]
    refine wpAnyH_ready (rs := [11]) (by kernel_rfl) (by simp) ?_
    refine AllReadyH.cons rfl (fun K hK => ?_) AllReadyH.nil
    go_simp
    refine hK.out _ _ (trivial) (fun _ => ?_)
    clear hK K
    try simp only [Act.put, List.setIfInBounds_toArray, List.set_cons_zero, List.set_cons_succ]
    refine wpAnyH_done (by kernel_rfl) ?_ _
    go_wp2
    go_end0
    exact ⟨rfl, ⟨B', c', HA3.out⟩, (WO.of_empty (Only.refl _ _).drew).trans ((WO.of_below hb10).trans HWO.out)⟩

end Go.Proofs.Ytendpbklcgiafaa

/- The walk over a pool's writer.constant. -/
namespace Go.Proofs.Ytendpbklcgiafaa
set_option maxRecDepth 100000
open Go.RowKit

/-- A constant's bytes. -/
def constB (c : Cst) : List UInt8 := putL (bits64 c.tag) 1 ++ (if (formF c.tag).text = true then putL c.s.length 2 ++ c.s else []) ++ (if (formF c.tag).num ≠ 0 then putL (bits64 c.n) (formF c.tag).num.toNat else []) ++
  (if (formF c.tag).a ≠ 0 then putL (bits64 c.a) 2 else []) ++ (if (formF c.tag).b ≠ 0 then putL (bits64 c.b) 2 else [])

/-- What a walk over constant stands on. -/
structure WrC (w : World) (g base q : Nat) (c : Cst) (f : Frm) (m : Nat) (zs : List UInt8) (W : World) : Prop where
  wr : Wr W g base m zs
  kc : Blk W w.heap.size 30 c.cells.toArray
  kf : Blk W q 155 #[.bool f.text, .int .i64 f.num, .int .i64 f.a, .int .i64 f.b]
  wo : WO g base w W
theorem EW_const : ¬ EW 30 := by unfold EW; decide
theorem EW_form : ¬ EW 155 := by unfold EW; decide
theorem WrC.next {w W W' : World} {g base q m m' : Nat} {c : Cst} {f : Frm} {zs zs' : List UInt8} (h : WrC w g base q c f m zs W) (hW : Wr W' g base m' zs') (k : WO g base W W') : WrC w g base q c f m' zs' W' :=
  ⟨hW, k.keep _ _ _ h.kc EW_const, k.keep _ _ _ h.kf EW_form, h.wo.trans k⟩

theorem WrC.start {w w1 : World} {g base m : Nat} {c : Cst} {zs : List UInt8} (h : Wr w g base m zs) (hb : Below (w.alloc (.cells c.cells.toArray 30)).heap.size (w.alloc (.cells c.cells.toArray 30)) w1) (f : Frm) :
    WrC w g base w1.heap.size c f m zs (w1.alloc (.cells #[.bool f.text, .int .i64 f.num, .int .i64 f.a, .int .i64 f.b] 155)) := by
  obtain ⟨B, c', hA⟩ := h
  have h1 : Only Empty w (w1.alloc (.cells #[.bool f.text, .int .i64 f.num, .int .i64 f.a, .int .i64 f.b] 155)) := (((Only.refl Empty w).alloc _).trans (Only.of_below hb)).alloc _
  refine ⟨⟨B, c', hA.only h1⟩, ((Blk.new w 30 c.cells.toArray).of (hb.block _ (by simp))).alloc _, Blk.new _ _ _, WO.of_empty h1⟩

set_option maxHeartbeats 4000000 in
theorem wrConstant_any (g base m : Nat) (c : Cst) (zs : List UInt8) (w : World) (hW : Wr w g base m zs) (hm : m + c.s.length ≤ 7000000) (hg : g < w.heap.size) :
    Calls Try.prog 89 #[.pointer (some ⟨g, 0, none⟩), c.v] w fun e w' => e = .returned (.tuple #[]) ∧ Wr w' g base (m + (constB c).length) (zs ++ constB c) ∧ WO g base w w' := by
  obtain ⟨l, hl⟩ : ∃ l, c.s.length = l := ⟨_, rfl⟩
  rw [hl] at hm
  have HW := Lib.hid hW
  have CF : ∀ W, Calls Try.prog 92 #[.int .i64 c.tag] W fun e w' => e = .returned (formF c.tag).v ∧ Below W.heap.size W w' := fun W => formOf_any c.tag W
  have HUt := u64_wrap c.tag
  have HUn := u64_wrap c.n
  have HUa := u64_wrap c.a
  have HUb := u64_wrap c.b
  have hsz : (strB c.s).size = l := by rw [strB_size, hl]
  have HUl : IntKind.u64.wrap (l : Int) = (l : Int) := by rw [IntKind.wrap_u64]; omega
  have CN : Hid (∀ (m v n : Nat) (zs : List UInt8) (W : World), Wr W g base m zs → v ≤ 18446744073709551615 → 1 ≤ n → n ≤ 8 → m ≤ 8000000 → Calls Try.prog 88 #[.pointer (some ⟨g, 0, none⟩), .int .u64 (v : Int), .int .i64 (n : Int)] W fun e w' => e = .returned (.tuple #[]) ∧ Wr w' g base (m + n) (zs ++ putL v n) ∧ WO g base W w') :=
    Lib.hid (fun m v n zs W h h0 h1 h2 h3 => wrNumber_any g base m v n zs W h h0 h1 h2 h3)
  have HU := Lib.hid u64_le
  rcases form_ways c.tag with hf | hf | hf | hf | hf | hf | hf
  · have HE : Hid (constB c = putL (bits64 c.tag) 1 ++ putL l 2 ++ c.s) := Lib.hid (by unfold constB; rw [hf]; simp [hl])
    have HL : Hid ((constB c).length = 1 + 2 + l) := Lib.hid (by rw [HE.out]; simp [putL_len, hl]; omega)
    rw [hf] at CF
    have CF := Lib.hid CF
    simp only [Frm.v] at CF
    clear hf hW
    have Hl := Lib.hid hl
    clear hl
    simp only [Cst.v]
    go_enter Try.func89, Try.ntmps89
    go_wp2_with fail
    refine (CF.out _).mono ?_
    rintro e w1 ⟨rfl, hb1⟩
    have HC1 := Lib.hid (WrC.start HW.out hb1 ⟨true, 0, 0, 0⟩)
    clear hb1
    have a0_1 : (w1.alloc (.cells #[.bool true, .int .i64 0, .int .i64 0, .int .i64 0] 155)).cell? ⟨w.heap.size, 0, none⟩ = some (.int .i64 c.tag) := HC1.out.kc.cell 0
    have a1_1 : (w1.alloc (.cells #[.bool true, .int .i64 0, .int .i64 0, .int .i64 0] 155)).cell? ⟨w.heap.size, 1, none⟩ = some (.int .i64 c.a) := HC1.out.kc.cell 1
    have a2_1 : (w1.alloc (.cells #[.bool true, .int .i64 0, .int .i64 0, .int .i64 0] 155)).cell? ⟨w.heap.size, 2, none⟩ = some (.int .i64 c.b) := HC1.out.kc.cell 2
    have a3_1 : (w1.alloc (.cells #[.bool true, .int .i64 0, .int .i64 0, .int .i64 0] 155)).cell? ⟨w.heap.size, 3, none⟩ = some (.int .i64 c.n) := HC1.out.kc.cell 3
    have a4_1 : (w1.alloc (.cells #[.bool true, .int .i64 0, .int .i64 0, .int .i64 0] 155)).cell? ⟨w.heap.size, 4, none⟩ = some (.string (strB c.s)) := HC1.out.kc.cell 4
    go_wp2_with fail
    refine (CN.out (m) (bits64 c.tag) 1 (zs) _ HC1.out.wr (HU.out _) (by omega) (by omega) (by omega)).mono ?_
    rintro e w2 ⟨rfl, hw2, ho2⟩
    have HC2 := Lib.hid (HC1.out.next hw2 ho2)
    clear hw2 ho2 a0_1 a1_1 a2_1 a3_1 a4_1
    have a0_2 : w2.cell? ⟨w.heap.size, 0, none⟩ = some (.int .i64 c.tag) := HC2.out.kc.cell 0
    have a1_2 : w2.cell? ⟨w.heap.size, 1, none⟩ = some (.int .i64 c.a) := HC2.out.kc.cell 1
    have a2_2 : w2.cell? ⟨w.heap.size, 2, none⟩ = some (.int .i64 c.b) := HC2.out.kc.cell 2
    have a3_2 : w2.cell? ⟨w.heap.size, 3, none⟩ = some (.int .i64 c.n) := HC2.out.kc.cell 3
    have a4_2 : w2.cell? ⟨w.heap.size, 4, none⟩ = some (.string (strB c.s)) := HC2.out.kc.cell 4
    have b0_2 : w2.cell? ⟨w1.heap.size, 0, none⟩ = some (.bool true) := HC2.out.kf.cell 0
    have b1_2 : w2.cell? ⟨w1.heap.size, 1, none⟩ = some (.int .i64 0) := HC2.out.kf.cell 1
    have b2_2 : w2.cell? ⟨w1.heap.size, 2, none⟩ = some (.int .i64 0) := HC2.out.kf.cell 2
    have b3_2 : w2.cell? ⟨w1.heap.size, 3, none⟩ = some (.int .i64 0) := HC2.out.kf.cell 3
    go_wp2_with fail
    refine (CN.out (m + 1) (l) 2 (zs ++ putL (bits64 c.tag) 1) _ HC2.out.wr (by omega) (by omega) (by omega) (by omega)).mono ?_
    rintro e w3 ⟨rfl, hw3, ho3⟩
    have HC3 := Lib.hid (HC2.out.next hw3 ho3)
    clear hw3 ho3 a0_2 a1_2 a2_2 a3_2 a4_2 b0_2 b1_2 b2_2 b3_2
    have a0_3 : w3.cell? ⟨w.heap.size, 0, none⟩ = some (.int .i64 c.tag) := HC3.out.kc.cell 0
    have a1_3 : w3.cell? ⟨w.heap.size, 1, none⟩ = some (.int .i64 c.a) := HC3.out.kc.cell 1
    have a2_3 : w3.cell? ⟨w.heap.size, 2, none⟩ = some (.int .i64 c.b) := HC3.out.kc.cell 2
    have a3_3 : w3.cell? ⟨w.heap.size, 3, none⟩ = some (.int .i64 c.n) := HC3.out.kc.cell 3
    have a4_3 : w3.cell? ⟨w.heap.size, 4, none⟩ = some (.string (strB c.s)) := HC3.out.kc.cell 4
    have b0_3 : w3.cell? ⟨w1.heap.size, 0, none⟩ = some (.bool true) := HC3.out.kf.cell 0
    have b1_3 : w3.cell? ⟨w1.heap.size, 1, none⟩ = some (.int .i64 0) := HC3.out.kf.cell 1
    have b2_3 : w3.cell? ⟨w1.heap.size, 2, none⟩ = some (.int .i64 0) := HC3.out.kf.cell 2
    have b3_3 : w3.cell? ⟨w1.heap.size, 3, none⟩ = some (.int .i64 0) := HC3.out.kf.cell 3
    obtain ⟨B, cp, hA⟩ := HC3.out.wr
    have HA := Lib.hid hA
    have hc0 : w3.cell? ⟨g, 0, none⟩ = some (.slice B (m + 1 + 2) cp) := hA.blk.cell 0
    clear hA
    go_wp2_with fail
    refine wp_region_held_drew (S := fun W => W.cell? ⟨w.heap.size, 4, none⟩ = some (.string (strB c.s))) (by kernel_rfl) a4_3 (fun hHeld0 => ?_)
    refine take_yes 0 21 ?_ rfl rfl (by kernel_rfl) (by kernel_rfl) (by kernel_rfl) (fun _ _ _ h => h) (by kernel_rfl) ?_ (by assumption) ?_; rotate_left; (focus (intro w hSw; (try dsimp only at hSw); go_simp; all_goals first | with_reducible rfl)); simp only [Act.put, List.setIfInBounds_toArray, List.set_cons_zero, List.set_cons_succ]
    refine take_yes 1 22 ?_ rfl rfl (by kernel_rfl) (by kernel_rfl) (by kernel_rfl) (fun _ _ _ h => h) (by kernel_rfl) ?_ (by assumption) ?_; rotate_left; (focus (intro w hSw; (try dsimp only at hSw); go_simp; all_goals first | with_reducible rfl)); simp only [Act.put, List.setIfInBounds_toArray, List.set_cons_zero, List.set_cons_succ]
    refine take_yes 2 23 ?_ rfl rfl (by kernel_rfl) (by kernel_rfl) (by kernel_rfl) (fun _ _ _ h => h) (by kernel_rfl) ?_ (by assumption) ?_; rotate_left; (focus (intro w hSw; (try dsimp only at hSw); go_simp; all_goals first | with_reducible rfl)); simp only [Act.put, List.setIfInBounds_toArray, List.set_cons_zero, List.set_cons_succ]
    refine take_yes 3 24 ?_ rfl rfl (by kernel_rfl) (by kernel_rfl) (by kernel_rfl) (fun _ _ _ h => h) (by kernel_rfl) ?_ (by assumption) ?_; rotate_left; (focus (intro w hSw; (try dsimp only at hSw); go_simp; all_goals first | with_reducible rfl)); simp only [Act.put, List.setIfInBounds_toArray, List.set_cons_zero, List.set_cons_succ]
    refine take_yes 5 26 ?_ rfl rfl (by kernel_rfl) (by kernel_rfl) (by kernel_rfl) (fun _ _ _ h => h) (by kernel_rfl) ?_ (by assumption) ?_; rotate_left; (focus (intro w hSw; (try dsimp only at hSw); go_simp; all_goals first | with_reducible rfl)); simp only [Act.put, List.setIfInBounds_toArray, List.set_cons_zero, List.set_cons_succ]
    refine take_yes 6 27 ?_ rfl rfl (by kernel_rfl) (by kernel_rfl) (by kernel_rfl) (fun _ _ _ h => h) (by kernel_rfl) ?_ (by assumption) ?_; rotate_left; (focus (intro w hSw; (try dsimp only at hSw); go_simp; all_goals first | with_reducible rfl)); simp only [Act.put, List.setIfInBounds_toArray, List.set_cons_zero, List.set_cons_succ]
    refine wpAnyH_ready (rs := [4]) (by kernel_rfl) (by simp) ?_
    refine AllReadyH.cons rfl (fun K hK => ?_) AllReadyH.nil
    go_simp
    refine hK.out _ _ (a4_3) (fun _ => ?_)
    clear hK K
    try simp only [Act.put, List.setIfInBounds_toArray, List.set_cons_zero, List.set_cons_succ]
    refine wpAnyH_ready (rs := [7]) (by kernel_rfl) (by simp) ?_
    refine AllReadyH.cons rfl (fun K hK => ?_) AllReadyH.nil
    refine step_append_str rfl (.tmp 25) (.tmp 27) rfl base (.slice B (m + 1 + 2) cp) rfl (m + 1 + 2) (zs ++ putL (bits64 c.tag) 1 ++ putL l 2) (own_only HA.out.own (Only.refl Empty _).drew (fun _ _ _ h => h)) (strB c.s) rfl (by rw [hsz]; omega) HA.out.le ?_
    intro v' w2' hown hgr _
    rw [hsz] at hown
    have hE0 : (strB c.s).data.toList = c.s := rfl
    rw [hE0] at hown
    obtain ⟨B', c', rfl, -⟩ := ByteSl.of_own (S := Empty) hown (fun _ _ _ h => h)
    obtain ⟨hA3, hblk2, hWO, hK2⟩ := (HA.out.only ((Only.refl Empty _).drew)).set hgr hown
    have HC9 := Lib.hid ((HC3.out.next ⟨B, cp, HA.out.only (Only.refl Empty _).drew⟩ (WO.of_empty (Only.refl _ _).drew)).next ⟨B', c', hA3⟩ hWO)
    have hg0 := hblk2.cell 0
    have hgf := hblk2.frozen 0
    have hgl2 := hblk2.lt
    have a4_8 : w2'.cell? ⟨w.heap.size, 4, none⟩ = some (.string (strB c.s)) := (hK2 _ _ _ (Keep.of_empty (E := EW) (Only.refl Empty _).drew _ _ _ HC3.out.kc EW_const) EW_const).cell 4
    have a4_9 := HC9.out.kc.cell 4
    clear hA3 hblk2 hWO hown hgr
    refine hK.out _ _ (a4_8) (fun _ => ?_)
    clear hK K
    try simp only [Act.put, List.setIfInBounds_toArray, List.set_cons_zero, List.set_cons_succ]
    refine take_yes 8 29 ?_ rfl rfl (by kernel_rfl) (by kernel_rfl) (by kernel_rfl) (fun _ _ _ h => h) (by kernel_rfl) ?_ (by assumption) ?_; rotate_left; (focus (intro w hSw; (try dsimp only at hSw); go_simp; all_goals first | with_reducible rfl)); simp only [Act.put, List.setIfInBounds_toArray, List.set_cons_zero, List.set_cons_succ]
    refine take_yes 9 30 ?_ rfl rfl (by kernel_rfl) (by kernel_rfl) (by kernel_rfl) (fun _ _ _ h => h) (by kernel_rfl) ?_ (by assumption) ?_; rotate_left; (focus (intro w hSw; (try dsimp only at hSw); go_simp; all_goals first | with_reducible rfl)); simp only [Act.put, List.setIfInBounds_toArray, List.set_cons_zero, List.set_cons_succ]
    refine wpAnyH_ready (rs := [10]) (by kernel_rfl) (by simp) ?_
    refine AllReadyH.cons rfl (fun K hK => ?_) AllReadyH.nil
    go_simp
    refine hK.out _ _ (a4_9) (fun _ => ?_)
    clear hK K
    try simp only [Act.put, List.setIfInBounds_toArray, List.set_cons_zero, List.set_cons_succ]
    refine wpAnyH_done (by kernel_rfl) ?_ _
    obtain ⟨w9, hw9⟩ : ∃ w9, w9 = w2'.setCell ⟨g, 0, none⟩ (.slice B' (m + 1 + 2 + l) c') := ⟨_, rfl⟩
    rw [← hw9] at HC9 ⊢
    have b1_9 : w9.cell? ⟨w1.heap.size, 1, none⟩ = some (.int .i64 0) := HC9.out.kf.cell 1
    have b2_9 : w9.cell? ⟨w1.heap.size, 2, none⟩ = some (.int .i64 0) := HC9.out.kf.cell 2
    have b3_9 : w9.cell? ⟨w1.heap.size, 3, none⟩ = some (.int .i64 0) := HC9.out.kf.cell 3
    clear hw9 a4_9 a4_8 hg0 hgf hgl2
    go_wp2
    go_end0
    exact ⟨rfl, by rw [HL.out, HE.out]; have := HC9.out.wr; simpa only [List.append_assoc, Nat.add_assoc] using this, HC9.out.wo⟩
  · have HE : Hid (constB c = putL (bits64 c.tag) 1 ++ putL (bits64 c.n) 8) := Lib.hid (by unfold constB; rw [hf]; simp [hl])
    have HL : Hid ((constB c).length = 1 + 8) := Lib.hid (by rw [HE.out]; simp [putL_len, hl])
    rw [hf] at CF
    have CF := Lib.hid CF
    simp only [Frm.v] at CF
    clear hf hW
    have Hl := Lib.hid hl
    clear hl
    simp only [Cst.v]
    go_enter Try.func89, Try.ntmps89
    go_wp2_with fail
    refine (CF.out _).mono ?_
    rintro e w1 ⟨rfl, hb1⟩
    have HC1 := Lib.hid (WrC.start HW.out hb1 ⟨false, 8, 0, 0⟩)
    clear hb1
    have a0_1 : (w1.alloc (.cells #[.bool false, .int .i64 8, .int .i64 0, .int .i64 0] 155)).cell? ⟨w.heap.size, 0, none⟩ = some (.int .i64 c.tag) := HC1.out.kc.cell 0
    have a1_1 : (w1.alloc (.cells #[.bool false, .int .i64 8, .int .i64 0, .int .i64 0] 155)).cell? ⟨w.heap.size, 1, none⟩ = some (.int .i64 c.a) := HC1.out.kc.cell 1
    have a2_1 : (w1.alloc (.cells #[.bool false, .int .i64 8, .int .i64 0, .int .i64 0] 155)).cell? ⟨w.heap.size, 2, none⟩ = some (.int .i64 c.b) := HC1.out.kc.cell 2
    have a3_1 : (w1.alloc (.cells #[.bool false, .int .i64 8, .int .i64 0, .int .i64 0] 155)).cell? ⟨w.heap.size, 3, none⟩ = some (.int .i64 c.n) := HC1.out.kc.cell 3
    have a4_1 : (w1.alloc (.cells #[.bool false, .int .i64 8, .int .i64 0, .int .i64 0] 155)).cell? ⟨w.heap.size, 4, none⟩ = some (.string (strB c.s)) := HC1.out.kc.cell 4
    go_wp2_with fail
    refine (CN.out (m) (bits64 c.tag) 1 (zs) _ HC1.out.wr (HU.out _) (by omega) (by omega) (by omega)).mono ?_
    rintro e w2 ⟨rfl, hw2, ho2⟩
    have HC2 := Lib.hid (HC1.out.next hw2 ho2)
    clear hw2 ho2 a0_1 a1_1 a2_1 a3_1 a4_1
    have a0_2 : w2.cell? ⟨w.heap.size, 0, none⟩ = some (.int .i64 c.tag) := HC2.out.kc.cell 0
    have a1_2 : w2.cell? ⟨w.heap.size, 1, none⟩ = some (.int .i64 c.a) := HC2.out.kc.cell 1
    have a2_2 : w2.cell? ⟨w.heap.size, 2, none⟩ = some (.int .i64 c.b) := HC2.out.kc.cell 2
    have a3_2 : w2.cell? ⟨w.heap.size, 3, none⟩ = some (.int .i64 c.n) := HC2.out.kc.cell 3
    have a4_2 : w2.cell? ⟨w.heap.size, 4, none⟩ = some (.string (strB c.s)) := HC2.out.kc.cell 4
    have b0_2 : w2.cell? ⟨w1.heap.size, 0, none⟩ = some (.bool false) := HC2.out.kf.cell 0
    have b1_2 : w2.cell? ⟨w1.heap.size, 1, none⟩ = some (.int .i64 8) := HC2.out.kf.cell 1
    have b2_2 : w2.cell? ⟨w1.heap.size, 2, none⟩ = some (.int .i64 0) := HC2.out.kf.cell 2
    have b3_2 : w2.cell? ⟨w1.heap.size, 3, none⟩ = some (.int .i64 0) := HC2.out.kf.cell 3
    go_wp2_with fail
    refine (CN.out (m + 1) (bits64 c.n) 8 (zs ++ putL (bits64 c.tag) 1) _ HC2.out.wr (HU.out _) (by omega) (by omega) (by omega)).mono ?_
    rintro e w3 ⟨rfl, hw3, ho3⟩
    have HC3 := Lib.hid (HC2.out.next hw3 ho3)
    clear hw3 ho3 a0_2 a1_2 a2_2 a3_2 a4_2 b0_2 b1_2 b2_2 b3_2
    have a0_3 : w3.cell? ⟨w.heap.size, 0, none⟩ = some (.int .i64 c.tag) := HC3.out.kc.cell 0
    have a1_3 : w3.cell? ⟨w.heap.size, 1, none⟩ = some (.int .i64 c.a) := HC3.out.kc.cell 1
    have a2_3 : w3.cell? ⟨w.heap.size, 2, none⟩ = some (.int .i64 c.b) := HC3.out.kc.cell 2
    have a3_3 : w3.cell? ⟨w.heap.size, 3, none⟩ = some (.int .i64 c.n) := HC3.out.kc.cell 3
    have a4_3 : w3.cell? ⟨w.heap.size, 4, none⟩ = some (.string (strB c.s)) := HC3.out.kc.cell 4
    have b0_3 : w3.cell? ⟨w1.heap.size, 0, none⟩ = some (.bool false) := HC3.out.kf.cell 0
    have b1_3 : w3.cell? ⟨w1.heap.size, 1, none⟩ = some (.int .i64 8) := HC3.out.kf.cell 1
    have b2_3 : w3.cell? ⟨w1.heap.size, 2, none⟩ = some (.int .i64 0) := HC3.out.kf.cell 2
    have b3_3 : w3.cell? ⟨w1.heap.size, 3, none⟩ = some (.int .i64 0) := HC3.out.kf.cell 3
    go_wp2
    go_end0
    exact ⟨rfl, by rw [HL.out, HE.out]; have := HC3.out.wr; simpa only [List.append_assoc, Nat.add_assoc] using this, HC3.out.wo⟩
  · have HE : Hid (constB c = putL (bits64 c.tag) 1 ++ putL (bits64 c.n) 4) := Lib.hid (by unfold constB; rw [hf]; simp [hl])
    have HL : Hid ((constB c).length = 1 + 4) := Lib.hid (by rw [HE.out]; simp [putL_len, hl])
    rw [hf] at CF
    have CF := Lib.hid CF
    simp only [Frm.v] at CF
    clear hf hW
    have Hl := Lib.hid hl
    clear hl
    simp only [Cst.v]
    go_enter Try.func89, Try.ntmps89
    go_wp2_with fail
    refine (CF.out _).mono ?_
    rintro e w1 ⟨rfl, hb1⟩
    have HC1 := Lib.hid (WrC.start HW.out hb1 ⟨false, 4, 0, 0⟩)
    clear hb1
    have a0_1 : (w1.alloc (.cells #[.bool false, .int .i64 4, .int .i64 0, .int .i64 0] 155)).cell? ⟨w.heap.size, 0, none⟩ = some (.int .i64 c.tag) := HC1.out.kc.cell 0
    have a1_1 : (w1.alloc (.cells #[.bool false, .int .i64 4, .int .i64 0, .int .i64 0] 155)).cell? ⟨w.heap.size, 1, none⟩ = some (.int .i64 c.a) := HC1.out.kc.cell 1
    have a2_1 : (w1.alloc (.cells #[.bool false, .int .i64 4, .int .i64 0, .int .i64 0] 155)).cell? ⟨w.heap.size, 2, none⟩ = some (.int .i64 c.b) := HC1.out.kc.cell 2
    have a3_1 : (w1.alloc (.cells #[.bool false, .int .i64 4, .int .i64 0, .int .i64 0] 155)).cell? ⟨w.heap.size, 3, none⟩ = some (.int .i64 c.n) := HC1.out.kc.cell 3
    have a4_1 : (w1.alloc (.cells #[.bool false, .int .i64 4, .int .i64 0, .int .i64 0] 155)).cell? ⟨w.heap.size, 4, none⟩ = some (.string (strB c.s)) := HC1.out.kc.cell 4
    go_wp2_with fail
    refine (CN.out (m) (bits64 c.tag) 1 (zs) _ HC1.out.wr (HU.out _) (by omega) (by omega) (by omega)).mono ?_
    rintro e w2 ⟨rfl, hw2, ho2⟩
    have HC2 := Lib.hid (HC1.out.next hw2 ho2)
    clear hw2 ho2 a0_1 a1_1 a2_1 a3_1 a4_1
    have a0_2 : w2.cell? ⟨w.heap.size, 0, none⟩ = some (.int .i64 c.tag) := HC2.out.kc.cell 0
    have a1_2 : w2.cell? ⟨w.heap.size, 1, none⟩ = some (.int .i64 c.a) := HC2.out.kc.cell 1
    have a2_2 : w2.cell? ⟨w.heap.size, 2, none⟩ = some (.int .i64 c.b) := HC2.out.kc.cell 2
    have a3_2 : w2.cell? ⟨w.heap.size, 3, none⟩ = some (.int .i64 c.n) := HC2.out.kc.cell 3
    have a4_2 : w2.cell? ⟨w.heap.size, 4, none⟩ = some (.string (strB c.s)) := HC2.out.kc.cell 4
    have b0_2 : w2.cell? ⟨w1.heap.size, 0, none⟩ = some (.bool false) := HC2.out.kf.cell 0
    have b1_2 : w2.cell? ⟨w1.heap.size, 1, none⟩ = some (.int .i64 4) := HC2.out.kf.cell 1
    have b2_2 : w2.cell? ⟨w1.heap.size, 2, none⟩ = some (.int .i64 0) := HC2.out.kf.cell 2
    have b3_2 : w2.cell? ⟨w1.heap.size, 3, none⟩ = some (.int .i64 0) := HC2.out.kf.cell 3
    go_wp2_with fail
    refine (CN.out (m + 1) (bits64 c.n) 4 (zs ++ putL (bits64 c.tag) 1) _ HC2.out.wr (HU.out _) (by omega) (by omega) (by omega)).mono ?_
    rintro e w3 ⟨rfl, hw3, ho3⟩
    have HC3 := Lib.hid (HC2.out.next hw3 ho3)
    clear hw3 ho3 a0_2 a1_2 a2_2 a3_2 a4_2 b0_2 b1_2 b2_2 b3_2
    have a0_3 : w3.cell? ⟨w.heap.size, 0, none⟩ = some (.int .i64 c.tag) := HC3.out.kc.cell 0
    have a1_3 : w3.cell? ⟨w.heap.size, 1, none⟩ = some (.int .i64 c.a) := HC3.out.kc.cell 1
    have a2_3 : w3.cell? ⟨w.heap.size, 2, none⟩ = some (.int .i64 c.b) := HC3.out.kc.cell 2
    have a3_3 : w3.cell? ⟨w.heap.size, 3, none⟩ = some (.int .i64 c.n) := HC3.out.kc.cell 3
    have a4_3 : w3.cell? ⟨w.heap.size, 4, none⟩ = some (.string (strB c.s)) := HC3.out.kc.cell 4
    have b0_3 : w3.cell? ⟨w1.heap.size, 0, none⟩ = some (.bool false) := HC3.out.kf.cell 0
    have b1_3 : w3.cell? ⟨w1.heap.size, 1, none⟩ = some (.int .i64 4) := HC3.out.kf.cell 1
    have b2_3 : w3.cell? ⟨w1.heap.size, 2, none⟩ = some (.int .i64 0) := HC3.out.kf.cell 2
    have b3_3 : w3.cell? ⟨w1.heap.size, 3, none⟩ = some (.int .i64 0) := HC3.out.kf.cell 3
    go_wp2
    go_end0
    exact ⟨rfl, by rw [HL.out, HE.out]; have := HC3.out.wr; simpa only [List.append_assoc, Nat.add_assoc] using this, HC3.out.wo⟩
  · have HE : Hid (constB c = putL (bits64 c.tag) 1 ++ putL (bits64 c.a) 2 ++ putL (bits64 c.b) 2) := Lib.hid (by unfold constB; rw [hf]; simp [hl])
    have HL : Hid ((constB c).length = 1 + 2 + 2) := Lib.hid (by rw [HE.out]; simp [putL_len, hl])
    rw [hf] at CF
    have CF := Lib.hid CF
    simp only [Frm.v] at CF
    clear hf hW
    have Hl := Lib.hid hl
    clear hl
    simp only [Cst.v]
    go_enter Try.func89, Try.ntmps89
    go_wp2_with fail
    refine (CF.out _).mono ?_
    rintro e w1 ⟨rfl, hb1⟩
    have HC1 := Lib.hid (WrC.start HW.out hb1 ⟨false, 0, 7, 12⟩)
    clear hb1
    have a0_1 : (w1.alloc (.cells #[.bool false, .int .i64 0, .int .i64 7, .int .i64 12] 155)).cell? ⟨w.heap.size, 0, none⟩ = some (.int .i64 c.tag) := HC1.out.kc.cell 0
    have a1_1 : (w1.alloc (.cells #[.bool false, .int .i64 0, .int .i64 7, .int .i64 12] 155)).cell? ⟨w.heap.size, 1, none⟩ = some (.int .i64 c.a) := HC1.out.kc.cell 1
    have a2_1 : (w1.alloc (.cells #[.bool false, .int .i64 0, .int .i64 7, .int .i64 12] 155)).cell? ⟨w.heap.size, 2, none⟩ = some (.int .i64 c.b) := HC1.out.kc.cell 2
    have a3_1 : (w1.alloc (.cells #[.bool false, .int .i64 0, .int .i64 7, .int .i64 12] 155)).cell? ⟨w.heap.size, 3, none⟩ = some (.int .i64 c.n) := HC1.out.kc.cell 3
    have a4_1 : (w1.alloc (.cells #[.bool false, .int .i64 0, .int .i64 7, .int .i64 12] 155)).cell? ⟨w.heap.size, 4, none⟩ = some (.string (strB c.s)) := HC1.out.kc.cell 4
    go_wp2_with fail
    refine (CN.out (m) (bits64 c.tag) 1 (zs) _ HC1.out.wr (HU.out _) (by omega) (by omega) (by omega)).mono ?_
    rintro e w2 ⟨rfl, hw2, ho2⟩
    have HC2 := Lib.hid (HC1.out.next hw2 ho2)
    clear hw2 ho2 a0_1 a1_1 a2_1 a3_1 a4_1
    have a0_2 : w2.cell? ⟨w.heap.size, 0, none⟩ = some (.int .i64 c.tag) := HC2.out.kc.cell 0
    have a1_2 : w2.cell? ⟨w.heap.size, 1, none⟩ = some (.int .i64 c.a) := HC2.out.kc.cell 1
    have a2_2 : w2.cell? ⟨w.heap.size, 2, none⟩ = some (.int .i64 c.b) := HC2.out.kc.cell 2
    have a3_2 : w2.cell? ⟨w.heap.size, 3, none⟩ = some (.int .i64 c.n) := HC2.out.kc.cell 3
    have a4_2 : w2.cell? ⟨w.heap.size, 4, none⟩ = some (.string (strB c.s)) := HC2.out.kc.cell 4
    have b0_2 : w2.cell? ⟨w1.heap.size, 0, none⟩ = some (.bool false) := HC2.out.kf.cell 0
    have b1_2 : w2.cell? ⟨w1.heap.size, 1, none⟩ = some (.int .i64 0) := HC2.out.kf.cell 1
    have b2_2 : w2.cell? ⟨w1.heap.size, 2, none⟩ = some (.int .i64 7) := HC2.out.kf.cell 2
    have b3_2 : w2.cell? ⟨w1.heap.size, 3, none⟩ = some (.int .i64 12) := HC2.out.kf.cell 3
    go_wp2_with fail
    refine (CN.out (m + 1) (bits64 c.a) 2 (zs ++ putL (bits64 c.tag) 1) _ HC2.out.wr (HU.out _) (by omega) (by omega) (by omega)).mono ?_
    rintro e w3 ⟨rfl, hw3, ho3⟩
    have HC3 := Lib.hid (HC2.out.next hw3 ho3)
    clear hw3 ho3 a0_2 a1_2 a2_2 a3_2 a4_2 b0_2 b1_2 b2_2 b3_2
    have a0_3 : w3.cell? ⟨w.heap.size, 0, none⟩ = some (.int .i64 c.tag) := HC3.out.kc.cell 0
    have a1_3 : w3.cell? ⟨w.heap.size, 1, none⟩ = some (.int .i64 c.a) := HC3.out.kc.cell 1
    have a2_3 : w3.cell? ⟨w.heap.size, 2, none⟩ = some (.int .i64 c.b) := HC3.out.kc.cell 2
    have a3_3 : w3.cell? ⟨w.heap.size, 3, none⟩ = some (.int .i64 c.n) := HC3.out.kc.cell 3
    have a4_3 : w3.cell? ⟨w.heap.size, 4, none⟩ = some (.string (strB c.s)) := HC3.out.kc.cell 4
    have b0_3 : w3.cell? ⟨w1.heap.size, 0, none⟩ = some (.bool false) := HC3.out.kf.cell 0
    have b1_3 : w3.cell? ⟨w1.heap.size, 1, none⟩ = some (.int .i64 0) := HC3.out.kf.cell 1
    have b2_3 : w3.cell? ⟨w1.heap.size, 2, none⟩ = some (.int .i64 7) := HC3.out.kf.cell 2
    have b3_3 : w3.cell? ⟨w1.heap.size, 3, none⟩ = some (.int .i64 12) := HC3.out.kf.cell 3
    go_wp2_with fail
    refine (CN.out (m + 1 + 2) (bits64 c.b) 2 (zs ++ putL (bits64 c.tag) 1 ++ putL (bits64 c.a) 2) _ HC3.out.wr (HU.out _) (by omega) (by omega) (by omega)).mono ?_
    rintro e w4 ⟨rfl, hw4, ho4⟩
    have HC4 := Lib.hid (HC3.out.next hw4 ho4)
    clear hw4 ho4 a0_3 a1_3 a2_3 a3_3 a4_3 b0_3 b1_3 b2_3 b3_3
    have a0_4 : w4.cell? ⟨w.heap.size, 0, none⟩ = some (.int .i64 c.tag) := HC4.out.kc.cell 0
    have a1_4 : w4.cell? ⟨w.heap.size, 1, none⟩ = some (.int .i64 c.a) := HC4.out.kc.cell 1
    have a2_4 : w4.cell? ⟨w.heap.size, 2, none⟩ = some (.int .i64 c.b) := HC4.out.kc.cell 2
    have a3_4 : w4.cell? ⟨w.heap.size, 3, none⟩ = some (.int .i64 c.n) := HC4.out.kc.cell 3
    have a4_4 : w4.cell? ⟨w.heap.size, 4, none⟩ = some (.string (strB c.s)) := HC4.out.kc.cell 4
    have b0_4 : w4.cell? ⟨w1.heap.size, 0, none⟩ = some (.bool false) := HC4.out.kf.cell 0
    have b1_4 : w4.cell? ⟨w1.heap.size, 1, none⟩ = some (.int .i64 0) := HC4.out.kf.cell 1
    have b2_4 : w4.cell? ⟨w1.heap.size, 2, none⟩ = some (.int .i64 7) := HC4.out.kf.cell 2
    have b3_4 : w4.cell? ⟨w1.heap.size, 3, none⟩ = some (.int .i64 12) := HC4.out.kf.cell 3
    go_wp2
    go_end0
    exact ⟨rfl, by rw [HL.out, HE.out]; have := HC4.out.wr; simpa only [List.append_assoc, Nat.add_assoc] using this, HC4.out.wo⟩
  · have HE : Hid (constB c = putL (bits64 c.tag) 1 ++ putL (bits64 c.a) 2 ++ putL (bits64 c.b) 2) := Lib.hid (by unfold constB; rw [hf]; simp [hl])
    have HL : Hid ((constB c).length = 1 + 2 + 2) := Lib.hid (by rw [HE.out]; simp [putL_len, hl])
    rw [hf] at CF
    have CF := Lib.hid CF
    simp only [Frm.v] at CF
    clear hf hW
    have Hl := Lib.hid hl
    clear hl
    simp only [Cst.v]
    go_enter Try.func89, Try.ntmps89
    go_wp2_with fail
    refine (CF.out _).mono ?_
    rintro e w1 ⟨rfl, hb1⟩
    have HC1 := Lib.hid (WrC.start HW.out hb1 ⟨false, 0, 1, 1⟩)
    clear hb1
    have a0_1 : (w1.alloc (.cells #[.bool false, .int .i64 0, .int .i64 1, .int .i64 1] 155)).cell? ⟨w.heap.size, 0, none⟩ = some (.int .i64 c.tag) := HC1.out.kc.cell 0
    have a1_1 : (w1.alloc (.cells #[.bool false, .int .i64 0, .int .i64 1, .int .i64 1] 155)).cell? ⟨w.heap.size, 1, none⟩ = some (.int .i64 c.a) := HC1.out.kc.cell 1
    have a2_1 : (w1.alloc (.cells #[.bool false, .int .i64 0, .int .i64 1, .int .i64 1] 155)).cell? ⟨w.heap.size, 2, none⟩ = some (.int .i64 c.b) := HC1.out.kc.cell 2
    have a3_1 : (w1.alloc (.cells #[.bool false, .int .i64 0, .int .i64 1, .int .i64 1] 155)).cell? ⟨w.heap.size, 3, none⟩ = some (.int .i64 c.n) := HC1.out.kc.cell 3
    have a4_1 : (w1.alloc (.cells #[.bool false, .int .i64 0, .int .i64 1, .int .i64 1] 155)).cell? ⟨w.heap.size, 4, none⟩ = some (.string (strB c.s)) := HC1.out.kc.cell 4
    go_wp2_with fail
    refine (CN.out (m) (bits64 c.tag) 1 (zs) _ HC1.out.wr (HU.out _) (by omega) (by omega) (by omega)).mono ?_
    rintro e w2 ⟨rfl, hw2, ho2⟩
    have HC2 := Lib.hid (HC1.out.next hw2 ho2)
    clear hw2 ho2 a0_1 a1_1 a2_1 a3_1 a4_1
    have a0_2 : w2.cell? ⟨w.heap.size, 0, none⟩ = some (.int .i64 c.tag) := HC2.out.kc.cell 0
    have a1_2 : w2.cell? ⟨w.heap.size, 1, none⟩ = some (.int .i64 c.a) := HC2.out.kc.cell 1
    have a2_2 : w2.cell? ⟨w.heap.size, 2, none⟩ = some (.int .i64 c.b) := HC2.out.kc.cell 2
    have a3_2 : w2.cell? ⟨w.heap.size, 3, none⟩ = some (.int .i64 c.n) := HC2.out.kc.cell 3
    have a4_2 : w2.cell? ⟨w.heap.size, 4, none⟩ = some (.string (strB c.s)) := HC2.out.kc.cell 4
    have b0_2 : w2.cell? ⟨w1.heap.size, 0, none⟩ = some (.bool false) := HC2.out.kf.cell 0
    have b1_2 : w2.cell? ⟨w1.heap.size, 1, none⟩ = some (.int .i64 0) := HC2.out.kf.cell 1
    have b2_2 : w2.cell? ⟨w1.heap.size, 2, none⟩ = some (.int .i64 1) := HC2.out.kf.cell 2
    have b3_2 : w2.cell? ⟨w1.heap.size, 3, none⟩ = some (.int .i64 1) := HC2.out.kf.cell 3
    go_wp2_with fail
    refine (CN.out (m + 1) (bits64 c.a) 2 (zs ++ putL (bits64 c.tag) 1) _ HC2.out.wr (HU.out _) (by omega) (by omega) (by omega)).mono ?_
    rintro e w3 ⟨rfl, hw3, ho3⟩
    have HC3 := Lib.hid (HC2.out.next hw3 ho3)
    clear hw3 ho3 a0_2 a1_2 a2_2 a3_2 a4_2 b0_2 b1_2 b2_2 b3_2
    have a0_3 : w3.cell? ⟨w.heap.size, 0, none⟩ = some (.int .i64 c.tag) := HC3.out.kc.cell 0
    have a1_3 : w3.cell? ⟨w.heap.size, 1, none⟩ = some (.int .i64 c.a) := HC3.out.kc.cell 1
    have a2_3 : w3.cell? ⟨w.heap.size, 2, none⟩ = some (.int .i64 c.b) := HC3.out.kc.cell 2
    have a3_3 : w3.cell? ⟨w.heap.size, 3, none⟩ = some (.int .i64 c.n) := HC3.out.kc.cell 3
    have a4_3 : w3.cell? ⟨w.heap.size, 4, none⟩ = some (.string (strB c.s)) := HC3.out.kc.cell 4
    have b0_3 : w3.cell? ⟨w1.heap.size, 0, none⟩ = some (.bool false) := HC3.out.kf.cell 0
    have b1_3 : w3.cell? ⟨w1.heap.size, 1, none⟩ = some (.int .i64 0) := HC3.out.kf.cell 1
    have b2_3 : w3.cell? ⟨w1.heap.size, 2, none⟩ = some (.int .i64 1) := HC3.out.kf.cell 2
    have b3_3 : w3.cell? ⟨w1.heap.size, 3, none⟩ = some (.int .i64 1) := HC3.out.kf.cell 3
    go_wp2_with fail
    refine (CN.out (m + 1 + 2) (bits64 c.b) 2 (zs ++ putL (bits64 c.tag) 1 ++ putL (bits64 c.a) 2) _ HC3.out.wr (HU.out _) (by omega) (by omega) (by omega)).mono ?_
    rintro e w4 ⟨rfl, hw4, ho4⟩
    have HC4 := Lib.hid (HC3.out.next hw4 ho4)
    clear hw4 ho4 a0_3 a1_3 a2_3 a3_3 a4_3 b0_3 b1_3 b2_3 b3_3
    have a0_4 : w4.cell? ⟨w.heap.size, 0, none⟩ = some (.int .i64 c.tag) := HC4.out.kc.cell 0
    have a1_4 : w4.cell? ⟨w.heap.size, 1, none⟩ = some (.int .i64 c.a) := HC4.out.kc.cell 1
    have a2_4 : w4.cell? ⟨w.heap.size, 2, none⟩ = some (.int .i64 c.b) := HC4.out.kc.cell 2
    have a3_4 : w4.cell? ⟨w.heap.size, 3, none⟩ = some (.int .i64 c.n) := HC4.out.kc.cell 3
    have a4_4 : w4.cell? ⟨w.heap.size, 4, none⟩ = some (.string (strB c.s)) := HC4.out.kc.cell 4
    have b0_4 : w4.cell? ⟨w1.heap.size, 0, none⟩ = some (.bool false) := HC4.out.kf.cell 0
    have b1_4 : w4.cell? ⟨w1.heap.size, 1, none⟩ = some (.int .i64 0) := HC4.out.kf.cell 1
    have b2_4 : w4.cell? ⟨w1.heap.size, 2, none⟩ = some (.int .i64 1) := HC4.out.kf.cell 2
    have b3_4 : w4.cell? ⟨w1.heap.size, 3, none⟩ = some (.int .i64 1) := HC4.out.kf.cell 3
    go_wp2
    go_end0
    exact ⟨rfl, by rw [HL.out, HE.out]; have := HC4.out.wr; simpa only [List.append_assoc, Nat.add_assoc] using this, HC4.out.wo⟩
  · have HE : Hid (constB c = putL (bits64 c.tag) 1 ++ putL (bits64 c.a) 2) := Lib.hid (by unfold constB; rw [hf]; simp [hl])
    have HL : Hid ((constB c).length = 1 + 2) := Lib.hid (by rw [HE.out]; simp [putL_len, hl])
    rw [hf] at CF
    have CF := Lib.hid CF
    simp only [Frm.v] at CF
    clear hf hW
    have Hl := Lib.hid hl
    clear hl
    simp only [Cst.v]
    go_enter Try.func89, Try.ntmps89
    go_wp2_with fail
    refine (CF.out _).mono ?_
    rintro e w1 ⟨rfl, hb1⟩
    have HC1 := Lib.hid (WrC.start HW.out hb1 ⟨false, 0, 1, 0⟩)
    clear hb1
    have a0_1 : (w1.alloc (.cells #[.bool false, .int .i64 0, .int .i64 1, .int .i64 0] 155)).cell? ⟨w.heap.size, 0, none⟩ = some (.int .i64 c.tag) := HC1.out.kc.cell 0
    have a1_1 : (w1.alloc (.cells #[.bool false, .int .i64 0, .int .i64 1, .int .i64 0] 155)).cell? ⟨w.heap.size, 1, none⟩ = some (.int .i64 c.a) := HC1.out.kc.cell 1
    have a2_1 : (w1.alloc (.cells #[.bool false, .int .i64 0, .int .i64 1, .int .i64 0] 155)).cell? ⟨w.heap.size, 2, none⟩ = some (.int .i64 c.b) := HC1.out.kc.cell 2
    have a3_1 : (w1.alloc (.cells #[.bool false, .int .i64 0, .int .i64 1, .int .i64 0] 155)).cell? ⟨w.heap.size, 3, none⟩ = some (.int .i64 c.n) := HC1.out.kc.cell 3
    have a4_1 : (w1.alloc (.cells #[.bool false, .int .i64 0, .int .i64 1, .int .i64 0] 155)).cell? ⟨w.heap.size, 4, none⟩ = some (.string (strB c.s)) := HC1.out.kc.cell 4
    go_wp2_with fail
    refine (CN.out (m) (bits64 c.tag) 1 (zs) _ HC1.out.wr (HU.out _) (by omega) (by omega) (by omega)).mono ?_
    rintro e w2 ⟨rfl, hw2, ho2⟩
    have HC2 := Lib.hid (HC1.out.next hw2 ho2)
    clear hw2 ho2 a0_1 a1_1 a2_1 a3_1 a4_1
    have a0_2 : w2.cell? ⟨w.heap.size, 0, none⟩ = some (.int .i64 c.tag) := HC2.out.kc.cell 0
    have a1_2 : w2.cell? ⟨w.heap.size, 1, none⟩ = some (.int .i64 c.a) := HC2.out.kc.cell 1
    have a2_2 : w2.cell? ⟨w.heap.size, 2, none⟩ = some (.int .i64 c.b) := HC2.out.kc.cell 2
    have a3_2 : w2.cell? ⟨w.heap.size, 3, none⟩ = some (.int .i64 c.n) := HC2.out.kc.cell 3
    have a4_2 : w2.cell? ⟨w.heap.size, 4, none⟩ = some (.string (strB c.s)) := HC2.out.kc.cell 4
    have b0_2 : w2.cell? ⟨w1.heap.size, 0, none⟩ = some (.bool false) := HC2.out.kf.cell 0
    have b1_2 : w2.cell? ⟨w1.heap.size, 1, none⟩ = some (.int .i64 0) := HC2.out.kf.cell 1
    have b2_2 : w2.cell? ⟨w1.heap.size, 2, none⟩ = some (.int .i64 1) := HC2.out.kf.cell 2
    have b3_2 : w2.cell? ⟨w1.heap.size, 3, none⟩ = some (.int .i64 0) := HC2.out.kf.cell 3
    go_wp2_with fail
    refine (CN.out (m + 1) (bits64 c.a) 2 (zs ++ putL (bits64 c.tag) 1) _ HC2.out.wr (HU.out _) (by omega) (by omega) (by omega)).mono ?_
    rintro e w3 ⟨rfl, hw3, ho3⟩
    have HC3 := Lib.hid (HC2.out.next hw3 ho3)
    clear hw3 ho3 a0_2 a1_2 a2_2 a3_2 a4_2 b0_2 b1_2 b2_2 b3_2
    have a0_3 : w3.cell? ⟨w.heap.size, 0, none⟩ = some (.int .i64 c.tag) := HC3.out.kc.cell 0
    have a1_3 : w3.cell? ⟨w.heap.size, 1, none⟩ = some (.int .i64 c.a) := HC3.out.kc.cell 1
    have a2_3 : w3.cell? ⟨w.heap.size, 2, none⟩ = some (.int .i64 c.b) := HC3.out.kc.cell 2
    have a3_3 : w3.cell? ⟨w.heap.size, 3, none⟩ = some (.int .i64 c.n) := HC3.out.kc.cell 3
    have a4_3 : w3.cell? ⟨w.heap.size, 4, none⟩ = some (.string (strB c.s)) := HC3.out.kc.cell 4
    have b0_3 : w3.cell? ⟨w1.heap.size, 0, none⟩ = some (.bool false) := HC3.out.kf.cell 0
    have b1_3 : w3.cell? ⟨w1.heap.size, 1, none⟩ = some (.int .i64 0) := HC3.out.kf.cell 1
    have b2_3 : w3.cell? ⟨w1.heap.size, 2, none⟩ = some (.int .i64 1) := HC3.out.kf.cell 2
    have b3_3 : w3.cell? ⟨w1.heap.size, 3, none⟩ = some (.int .i64 0) := HC3.out.kf.cell 3
    go_wp2
    go_end0
    exact ⟨rfl, by rw [HL.out, HE.out]; have := HC3.out.wr; simpa only [List.append_assoc, Nat.add_assoc] using this, HC3.out.wo⟩
  · have HE : Hid (constB c = putL (bits64 c.tag) 1) := Lib.hid (by unfold constB; rw [hf]; simp [hl])
    have HL : Hid ((constB c).length = 1) := Lib.hid (by rw [HE.out]; simp [putL_len, hl])
    rw [hf] at CF
    have CF := Lib.hid CF
    simp only [Frm.v] at CF
    clear hf hW
    have Hl := Lib.hid hl
    clear hl
    simp only [Cst.v]
    go_enter Try.func89, Try.ntmps89
    go_wp2_with fail
    refine (CF.out _).mono ?_
    rintro e w1 ⟨rfl, hb1⟩
    have HC1 := Lib.hid (WrC.start HW.out hb1 ⟨false, 0, 0, 0⟩)
    clear hb1
    have a0_1 : (w1.alloc (.cells #[.bool false, .int .i64 0, .int .i64 0, .int .i64 0] 155)).cell? ⟨w.heap.size, 0, none⟩ = some (.int .i64 c.tag) := HC1.out.kc.cell 0
    have a1_1 : (w1.alloc (.cells #[.bool false, .int .i64 0, .int .i64 0, .int .i64 0] 155)).cell? ⟨w.heap.size, 1, none⟩ = some (.int .i64 c.a) := HC1.out.kc.cell 1
    have a2_1 : (w1.alloc (.cells #[.bool false, .int .i64 0, .int .i64 0, .int .i64 0] 155)).cell? ⟨w.heap.size, 2, none⟩ = some (.int .i64 c.b) := HC1.out.kc.cell 2
    have a3_1 : (w1.alloc (.cells #[.bool false, .int .i64 0, .int .i64 0, .int .i64 0] 155)).cell? ⟨w.heap.size, 3, none⟩ = some (.int .i64 c.n) := HC1.out.kc.cell 3
    have a4_1 : (w1.alloc (.cells #[.bool false, .int .i64 0, .int .i64 0, .int .i64 0] 155)).cell? ⟨w.heap.size, 4, none⟩ = some (.string (strB c.s)) := HC1.out.kc.cell 4
    go_wp2_with fail
    refine (CN.out (m) (bits64 c.tag) 1 (zs) _ HC1.out.wr (HU.out _) (by omega) (by omega) (by omega)).mono ?_
    rintro e w2 ⟨rfl, hw2, ho2⟩
    have HC2 := Lib.hid (HC1.out.next hw2 ho2)
    clear hw2 ho2 a0_1 a1_1 a2_1 a3_1 a4_1
    have a0_2 : w2.cell? ⟨w.heap.size, 0, none⟩ = some (.int .i64 c.tag) := HC2.out.kc.cell 0
    have a1_2 : w2.cell? ⟨w.heap.size, 1, none⟩ = some (.int .i64 c.a) := HC2.out.kc.cell 1
    have a2_2 : w2.cell? ⟨w.heap.size, 2, none⟩ = some (.int .i64 c.b) := HC2.out.kc.cell 2
    have a3_2 : w2.cell? ⟨w.heap.size, 3, none⟩ = some (.int .i64 c.n) := HC2.out.kc.cell 3
    have a4_2 : w2.cell? ⟨w.heap.size, 4, none⟩ = some (.string (strB c.s)) := HC2.out.kc.cell 4
    have b0_2 : w2.cell? ⟨w1.heap.size, 0, none⟩ = some (.bool false) := HC2.out.kf.cell 0
    have b1_2 : w2.cell? ⟨w1.heap.size, 1, none⟩ = some (.int .i64 0) := HC2.out.kf.cell 1
    have b2_2 : w2.cell? ⟨w1.heap.size, 2, none⟩ = some (.int .i64 0) := HC2.out.kf.cell 2
    have b3_2 : w2.cell? ⟨w1.heap.size, 3, none⟩ = some (.int .i64 0) := HC2.out.kf.cell 3
    go_wp2
    go_end0
    exact ⟨rfl, by rw [HL.out, HE.out]; have := HC2.out.wr; simpa only [List.append_assoc, Nat.add_assoc] using this, HC2.out.wo⟩

end Go.Proofs.Ytendpbklcgiafaa

/- The walk over pool.Bytes. -/
namespace Go.Proofs.Ytendpbklcgiafaa
set_option maxRecDepth 100000
open Go.RowKit

def cB (c : Cst) : List UInt8 := if c.tag = 0 then [] else constB c
/-- A pool's bytes. -/
def poolB (l : List Cst) : List UInt8 := putL l.length 2 ++ l.flatMap cB
theorem take_flat {α β : Type} (f : α → List β) (l : List α) (k : Nat) (c : α) (h : l[k]? = some c) : (l.take (k + 1)).flatMap f = (l.take k).flatMap f ++ f c := by
  rw [take_one l k c h, List.flatMap_append]
  simp
theorem take_flat_le {α β : Type} (f : α → List β) (l : List α) (k : Nat) : ((l.take k).flatMap f).length ≤ (l.flatMap f).length := by
  have h : l.flatMap f = (l.take k).flatMap f ++ (l.drop k).flatMap f := by rw [← List.flatMap_append, List.take_append_drop]
  rw [h, List.length_append]
  omega

theorem Wr.none_ (w : World) (g base : Nat) (h : Blk w g 150 #[.slice none 0 0]) (hb : base ≤ w.heap.size) : Wr w g base 0 [] :=
  ⟨none, 0, h, ⟨rfl, Or.inl ⟨rfl, rfl⟩⟩, hb⟩

theorem Wr.only {w w' : World} {g base m : Nat} {zs : List UInt8} (h : Wr w g base m zs) (k : Only Empty w w') : Wr w' g base m zs := by
  obtain ⟨B, c, hA⟩ := h
  exact ⟨B, c, hA.only k⟩

/-- What Bytes answers. -/
def PoolBs (w w' : World) (zs : List UInt8) (e : Ending) : Prop := (∃ A cap, e = .returned (.tuple #[.slice A zs.length cap, .int .i64 0]) ∧ ByteSl w' Empty A zs.length cap zs ∧ (A = none → zs.length = 0 ∧ cap = 0) ∧ w'.ownsRow w.heap.size 5 1 (.slice A zs.length cap) zs.length (zs.map B8)) ∧ Below w.heap.size w w'

theorem bytes_no (A : Option Addr) (n cap : Nat) (l : List Cst) (w : World) (hP : PoolSl w A n cap l) (hn : n ≤ 1000000) (hok : ∀ c ∈ l, c.ok) (hc : checkF l = false) :
    Calls Try.prog 85 #[.slice A n cap] w fun e w' => e = .returned (.tuple #[.slice none 0 0, .int .i64 8]) ∧ Below w.heap.size w w' := by
  have C := check_any A n cap l w hP hn hok
  rw [show checkC l = 8 by unfold checkC; rw [hc]; rfl] at C
  have C := Lib.hid C
  clear hP hok hc
  go_enter Try.func85, Try.ntmps85
  go_wp2_with fail
  refine C.out.mono ?_
  rintro e w1 ⟨rfl, hb⟩
  have Hb := Lib.hid hb
  clear hb
  go_wp2
  go_ret2
  exact ⟨rfl, Hb.out⟩

set_option maxHeartbeats 1000000 in
theorem bytes_yes (A : Option Addr) (n cap : Nat) (l : List Cst) (w : World) (hP : PoolSl w A n cap l) (hok : ∀ c ∈ l, c.ok) (hc : checkF l = true) (hs : ∀ c ∈ l, c.s.length ≤ 1000000) (hB : (poolB l).length ≤ 6000000) :
    Calls Try.prog 85 #[.slice A n cap] w fun e w' => PoolBs w w' (poolB l) e := by
  have hl := hP.1
  have hn : n ≤ 1024 ∧ 1 ≤ n := by
    unfold checkF at hc
    rw [Bool.and_assoc, Bool.and_eq_true] at hc
    have := of_decide_eq_true hc.1
    omega
  have C := check_any A n cap l w hP (by omega) hok
  rw [show checkC l = 0 by unfold checkC; rw [hc]; rfl] at C
  have C := Lib.hid C
  have HP := Lib.hid hP
  have HS := Lib.hid hs
  have HB := Lib.hid hB
  have Hl := Lib.hid hl
  have hwn : IntKind.u64.wrap (n : Int) = (n : Int) := by rw [IntKind.wrap_u64]; omega
  have CN : Hid (∀ (g base m v n : Nat) (zs : List UInt8) (W : World), Wr W g base m zs → v ≤ 18446744073709551615 → 1 ≤ n → n ≤ 8 → m ≤ 8000000 → Calls Try.prog 88 #[.pointer (some ⟨g, 0, none⟩), .int .u64 (v : Int), .int .i64 (n : Int)] W fun e w' => e = .returned (.tuple #[]) ∧ Wr w' g base (m + n) (zs ++ putL v n) ∧ WO g base W w') :=
    Lib.hid (fun g base m v n zs W h h0 h1 h2 h3 => wrNumber_any g base m v n zs W h h0 h1 h2 h3)
  have CC : Hid (∀ (g base m : Nat) (c : Cst) (zs : List UInt8) (W : World), Wr W g base m zs → m + c.s.length ≤ 7000000 → g < W.heap.size → Calls Try.prog 89 #[.pointer (some ⟨g, 0, none⟩), .agg #[.int .i64 c.tag, .int .i64 c.a, .int .i64 c.b, .int .i64 c.n, .string (strB c.s)]] W fun e w' => e = .returned (.tuple #[]) ∧ Wr w' g base (m + (constB c).length) (zs ++ constB c) ∧ WO g base W w') :=
    Lib.hid (fun g base m c zs W h h1 h2 => wrConstant_any g base m c zs W h h1 h2)
  clear hP hok hc hs hB hl
  go_enter Try.func85, Try.ntmps85
  go_wp2_with fail
  refine C.out.mono ?_
  rintro e w1 ⟨rfl, hb⟩
  have Hb := Lib.hid hb
  have HW1 := Lib.hid (Wr.none_ (w1.alloc (.cells #[.slice none 0 0] 150)) w1.heap.size w1.heap.size (Blk.new _ _ _) (by simp))
  clear hb
  obtain ⟨g, hg⟩ : ∃ g, g = w1.heap.size := ⟨_, rfl⟩
  go_wp2_with fail
  refine (CN.out w1.heap.size w1.heap.size 0 n 2 [] _ HW1.out (by omega) (by omega) (by omega) (by omega)).mono ?_
  rintro e w2 ⟨rfl, hw2, ho2⟩
  rw [Nat.zero_add, List.nil_append] at hw2
  have HW2 := Lib.hid hw2
  have HB2 : Hid (Below w.heap.size w w2) := Lib.hid ((Hb.out.alloc Hb.out.size _).trans (ho2.only.below (by have := Hb.out.size; simp; omega) (fun k hk h => by have := Hb.out.size; omega)))
  have HG : Hid (w1.heap.size < w2.heap.size ∧ w.heap.size ≤ w1.heap.size) := Lib.hid ⟨by have := ho2.only.size; simp at this; omega, Hb.out.size⟩
  rw [← hg] at HW2 HG ⊢
  clear hw2 ho2 HW1 Hb hg
  go_wp2
  go_loopw [19] (fun a wr => ∃ k : Nat, k ≤ n ∧ a = .int .i64 (k : Int) ∧ Hid (Below w.heap.size w wr) ∧ Hid (Wr wr g g (2 + ((l.take k).flatMap cB).length) (putL n 2 ++ (l.take k).flatMap cB)) ∧ g < wr.heap.size) (fun a _ => n - (intOf a).toNat)
  case atStart => exact ⟨0, Nat.zero_le _, rfl, HB2, Lib.hid (by simpa using HW2.out), HG.out.1⟩
  case round =>
    obtain ⟨k, hk, rfl, HBk, HWk, hgk⟩ := hrel
    by_cases hlt : k < n
    · obtain ⟨b, o, c, rfl, hc, hb, h0, h1, h2, h3, h4⟩ := pool_at (HP.out.below HBk.out) hlt
      have htk := take_flat cB l k c hc
      have hcl : c.s.length ≤ 1000000 := HS.out c (List.mem_of_getElem? hc)
      have hB := HB.out
      unfold poolB at hB
      rw [Hl.out, List.length_append, putL_len] at hB
      have hle1 := take_flat_le cB l k
      have hO1 : Only Empty wr (wr.alloc (.cells c.cells.toArray 30)) := (Only.refl _ _).alloc _
      by_cases ht : c.tag = 0
      · have hcb : cB c = [] := by unfold cB; rw [if_pos ht]
        have HWk2 : Hid (Wr (wr.alloc (.cells c.cells.toArray 30)) g g (2 + ((l.take (k + 1)).flatMap cB).length) (putL n 2 ++ (l.take (k + 1)).flatMap cB)) := Lib.hid (by rw [htk, hcb, List.append_nil]; exact HWk.out.only hO1)
        have HBk2 : Hid (Below w.heap.size w (wr.alloc (.cells c.cells.toArray 30))) := Lib.hid (HBk.out.alloc HBk.out.size _)
        have hq : (c.tag != 0) = false := by simpa using ht
        rw [Cst.cells] at HWk2 HBk2
        clear htk hcb hcl hB hle1 hO1 hc
        have Ht := Lib.hid ht
        clear ht
        go_wp2
        go_roundw
        case rel => exact ⟨k + 1, by omega, by go_num, HBk2, HWk2, by simp; omega⟩
        case measure => simp [intOf]; omega
      · have hcb : cB c = constB c := by unfold cB; rw [if_neg ht]
        have HWk1 := Lib.hid (HWk.out.only hO1)
        have HBk1 : Hid (Below w.heap.size w (wr.alloc (.cells c.cells.toArray 30))) := Lib.hid (HBk.out.alloc HBk.out.size _)
        have hq : (c.tag != 0) = true := by simpa using ht
        have HM : Hid ((2 + ((l.take k).flatMap cB).length) + c.s.length ≤ 7000000) := Lib.hid (by omega)
        have Htk : Hid ((l.take (k + 1)).flatMap cB = (l.take k).flatMap cB ++ constB c) := Lib.hid (by rw [htk, hcb])
        have HGk := HG
        clear htk hcb hcl hB hle1 hO1 hc ht
        go_wp2_with fail
        refine (CC.out g g _ c _ _ HWk1.out HM.out (by simp; omega)).mono ?_
        rintro e w3 ⟨rfl, hw3, ho3⟩
        have HW3 : Hid (Wr w3 g g (2 + ((l.take (k + 1)).flatMap cB).length) (putL n 2 ++ (l.take (k + 1)).flatMap cB)) := Lib.hid (by rw [Htk.out, List.length_append, ← Nat.add_assoc, ← List.append_assoc]; exact hw3)
        have HB3 : Hid (Below w.heap.size w w3) := Lib.hid (HBk1.out.trans (ho3.only.below HBk1.out.size (fun q hq h => by have := HG.out.2; omega)))
        have hg3 : g < w3.heap.size := by have := ho3.only.size; simp at this; omega
        clear hw3 ho3
        go_wp2
        go_roundw
        case rel => exact ⟨k + 1, by omega, by go_num, HB3, HW3, hg3⟩
        case measure => simp [intOf]; omega
    · obtain rfl : k = n := by omega
      have hpool : putL k 2 ++ (l.take k).flatMap cB = poolB l := by
        unfold poolB
        rw [← Hl.out, List.take_length]
      have HWe := HWk.out
      rw [hpool] at HWe
      have hlen : 2 + ((l.take k).flatMap cB).length = (poolB l).length := by rw [← hpool, List.length_append, putL_len]
      rw [hlen] at HWe
      obtain ⟨B, c2, hA⟩ := HWe
      have hc0 : wr.cell? ⟨g, 0, none⟩ = some (.slice B (poolB l).length c2) := hA.blk.cell 0
      obtain ⟨B', c', he, hB8, hnil⟩ := ByteSl.of_own (S := Empty) hA.own (fun _ _ _ h => h)
      have Hown := Lib.hid (own_base hA.own HG.out.2)
      cases he
      have HB8 := Lib.hid hB8
      have HN : Hid (B = none → (poolB l).length = 0 ∧ c2 = 0) := Lib.hid (fun e => by
        have h := hA.own.2
        rw [e] at h
        rcases h with ⟨h1, h2⟩ | ⟨g', cap', cur, h1, _⟩
        · cases h1
        · cases h1)
      clear hB8 hnil hA hpool hlen
      go_wp2
      go_ret2
      exact ⟨⟨B, c2, rfl, HB8.out, HN.out, Hown.out⟩, HBk.out⟩

end Go.Proofs.Ytendpbklcgiafaa

/- A pool's bytes read, as plain functions of the bytes: number, text, constant, places. Nothing of the program. -/
namespace Go.Proofs.Ytendpbklcgiafaa
set_option maxRecDepth 100000
open Go.RowKit

/-- Where a reader stands, and its fault. -/
structure RS where
  at_ : Nat
  fault : Int
def RS.refuse (s : RS) (e : Int) : RS := if s.fault = 0 then ⟨s.at_, e⟩ else s
def numR (bs : List UInt8) (s : RS) (k : Nat) : Nat × RS :=
  if s.fault ≠ 0 then (0, s) else if s.at_ + k ≤ bs.length then (getV ((bs.drop s.at_).take k), ⟨s.at_ + k, 0⟩) else (0, ⟨s.at_, 6⟩)
def textR (bs : List UInt8) (s : RS) : List UInt8 × RS :=
  let r := numR bs s 2
  let s2 := if (bs.length : Int) - r.2.at_ < r.1 then r.2.refuse 6 else r.2
  if s2.fault ≠ 0 then ([], s2) else ((bs.drop s2.at_).take r.1, ⟨s2.at_ + r.1, 0⟩)
def optR (bs : List UInt8) (s : RS) (on : Bool) (k : Nat) : Nat × RS := if on = true then numR bs s k else (0, s)
def constR (bs : List UInt8) (s : RS) : Cst × RS :=
  let r0 := numR bs s 1
  let f := formF (r0.1 : Int)
  let s1 := if f = noFrm then r0.2.refuse 8 else r0.2
  let r1 := if f.text = true then textR bs s1 else ([], s1)
  let r2 := optR bs r1.2 (f.num != 0) f.num.toNat
  let r3 := optR bs r2.2 (f.a != 0) 2
  let r4 := optR bs r3.2 (f.b != 0) 2
  (⟨(r0.1 : Int), (r3.1 : Int), (r4.1 : Int), if f.num = 0 then 0 else sgn r2.1 f.num.toNat, r1.1⟩, r4.2)
/-- A constant's places. -/
def withSecond (c : Cst) : List Cst := if c.tag = 5 then [c, zeroC] else [c]
/-- The loop over a pool's places: from so many on, at most k rounds. -/
def placesR (bs : List UInt8) (n : Nat) : Nat → RS → List Cst → List Cst × RS
  | 0, s, l => (l, s)
  | k + 1, s, l => if s.fault = 0 ∧ l.length < n then placesR bs n k (constR bs s).2 (l ++ withSecond (constR bs s).1) else (l, s)
def countR (bs : List UInt8) : Nat × RS :=
  let r := numR bs ⟨0, 0⟩ 2
  (r.1, if 1 ≤ r.1 ∧ r.1 ≤ 1024 then r.2 else r.2.refuse 8)
noncomputable def parseR (bs : List UInt8) : List Cst × RS :=
  let c := countR bs
  let p := placesR bs c.1 c.1 c.2 [zeroC]
  let s := if c.1 < p.1.length then p.2.refuse 8 else p.2
  (p.1, if s.fault = 0 then ⟨s.at_, checkC p.1⟩ else s)

theorem withSecond_len (c : Cst) : 1 ≤ (withSecond c).length ∧ (withSecond c).length ≤ 2 := by
  unfold withSecond
  split <;> simp

theorem numR_ok (bs : List UInt8) (s : RS) (k : Nat) (h : s.at_ ≤ bs.length) : (numR bs s k).2.at_ ≤ bs.length := by
  unfold numR
  by_cases h0 : s.fault ≠ 0
  · rw [if_pos h0]; exact h
  · rw [if_neg h0]
    by_cases h1 : s.at_ + k ≤ bs.length
    · rw [if_pos h1]; exact h1
    · rw [if_neg h1]; exact h
theorem refuse_at (s : RS) (e : Int) : (s.refuse e).at_ = s.at_ := by unfold RS.refuse; split <;> rfl
theorem textR_ok (bs : List UInt8) (s : RS) (h : s.at_ ≤ bs.length) : (textR bs s).2.at_ ≤ bs.length := by
  have h1 := numR_ok bs s 2 h
  unfold textR
  simp only
  generalize numR bs s 2 = r at h1
  by_cases hlt : (bs.length : Int) - r.2.at_ < r.1
  · rw [if_pos hlt]
    by_cases hf : (r.2.refuse 6).fault ≠ 0
    · rw [if_pos hf, refuse_at]; exact h1
    · rw [if_neg hf]
      exfalso
      apply hf
      unfold RS.refuse
      by_cases h0 : r.2.fault = 0
      · rw [if_pos h0]; exact (by decide : (6 : Int) ≠ 0)
      · rw [if_neg h0]; exact h0
  · rw [if_neg hlt]
    by_cases hf : r.2.fault ≠ 0
    · rw [if_pos hf]; exact h1
    · rw [if_neg hf]
      show r.2.at_ + r.1 ≤ bs.length
      omega
theorem optR_ok (bs : List UInt8) (s : RS) (on : Bool) (k : Nat) (h : s.at_ ≤ bs.length) : (optR bs s on k).2.at_ ≤ bs.length := by
  unfold optR
  split
  · exact numR_ok bs s k h
  · exact h
theorem constR_ok (bs : List UInt8) (s : RS) (h : s.at_ ≤ bs.length) : (constR bs s).2.at_ ≤ bs.length := by
  unfold constR
  simp only
  apply optR_ok
  apply optR_ok
  apply optR_ok
  have h1 := numR_ok bs s 1 h
  generalize numR bs s 1 = r at h1
  have h2 : (if formF (r.1 : Int) = noFrm then r.2.refuse 8 else r.2).at_ ≤ bs.length := by
    split
    · rw [refuse_at]; exact h1
    · exact h1
  split
  · exact textR_ok bs _ h2
  · exact h2
theorem numR_lt (bs : List UInt8) (s : RS) (k : Nat) : (numR bs s k).1 < 256 ^ k := by
  unfold numR
  by_cases h0 : s.fault ≠ 0
  · rw [if_pos h0]; exact Nat.pow_pos (by decide)
  · rw [if_neg h0]
    by_cases h1 : s.at_ + k ≤ bs.length
    · rw [if_pos h1]
      have := getV_lt ((bs.drop s.at_).take k)
      rw [List.length_take, List.length_drop, Nat.min_eq_left (by omega)] at this
      exact this
    · rw [if_neg h1]; exact Nat.pow_pos (by decide)

/-! ### What was written is read -/
theorem numR_put' (bs : List UInt8) (a v k : Nat) (r : List UInt8) (hd : bs.drop a = putL v k ++ r) (hk : 1 ≤ k) : numR bs ⟨a, 0⟩ k = (v % 2 ^ (8 * k), ⟨a + k, 0⟩) := by
  have hlen : a + k ≤ bs.length := by
    have := congrArg List.length hd
    rw [List.length_drop, List.length_append, putL_len] at this
    omega
  unfold numR
  rw [if_neg (by simp), if_pos hlen]
  simp only
  rw [hd, List.take_append_of_le_length (by rw [putL_len]; exact Nat.le_refl _), List.take_of_length_le (by rw [putL_len]; exact Nat.le_refl _), getV_putL]
theorem sgn_mod (v n : Nat) : sgn (v % 2 ^ (8 * n)) n = sgn v n := by
  unfold sgn
  rw [Nat.mod_mod]
theorem numR_put (bs : List UInt8) (a v k : Nat) (r : List UInt8) (hd : bs.drop a = putL v k ++ r) (hk : 1 ≤ k) (hv : v < 2 ^ (8 * k)) : numR bs ⟨a, 0⟩ k = (v, ⟨a + k, 0⟩) := by
  have h := numR_put' bs a v k r hd hk
  rwa [Nat.mod_eq_of_lt hv] at h
theorem drop_next (bs : List UInt8) (a : Nat) (x r : List UInt8) (n : Nat) (hn : x.length = n) (hd : bs.drop a = x ++ r) : bs.drop (a + n) = r := by
  rw [← List.drop_drop, hd, List.drop_append_of_le_length (by omega), List.drop_of_length_le (by omega), List.nil_append]
theorem textR_put (bs : List UInt8) (a : Nat) (t r : List UInt8) (hd : bs.drop a = putL t.length 2 ++ (t ++ r)) (ht : t.length ≤ 65535) : textR bs ⟨a, 0⟩ = (t, ⟨a + 2 + t.length, 0⟩) := by
  have h1 := numR_put bs a t.length 2 _ hd (by omega) (by omega)
  have h2 := drop_next bs a _ _ 2 (putL_len _ _) hd
  have hlen : a + 2 + t.length ≤ bs.length := by
    have := congrArg List.length h2
    rw [List.length_drop, List.length_append] at this
    by_cases h0 : t.length = 0
    · have := congrArg List.length hd
      rw [List.length_drop, List.length_append, putL_len] at this
      omega
    · omega
  unfold textR
  rw [h1]
  simp only
  rw [if_neg (show ¬ (bs.length : Int) - ((a + 2 : Nat) : Int) < (t.length : Int) by omega), if_neg (by simp)]
  simp only
  rw [h2, List.take_append_of_le_length (Nat.le_refl _), List.take_length]

/-- May a constant with a tag be, so that it is read as it was written? -/
structure Fit (c : Cst) : Prop where
  form : formF c.tag ≠ noFrm
  part : c = partF (formF c.tag) c
  text : c.s.length ≤ 65535
  a : 0 ≤ c.a ∧ c.a ≤ 65535
  b : 0 ≤ c.b ∧ c.b ≤ 65535
theorem u64_small (x : Int) (h : 0 ≤ x ∧ x ≤ 65535) : ((bits64 x : Nat) : Int) = x ∧ bits64 x < 65536 := by unfold bits64; omega
theorem constR_put (bs : List UInt8) (a : Nat) (c : Cst) (r : List UInt8) (hc : Fit c) (hd : bs.drop a = constB c ++ r) : constR bs ⟨a, 0⟩ = (c, ⟨a + (constB c).length, 0⟩) := by
  have hp := hc.part
  have hf := hc.form
  have hA := u64_small c.a hc.a
  have hB := u64_small c.b hc.b
  have hT := hc.text
  obtain ⟨t, ca, cb, cn, cs⟩ := c
  unfold constB at hd ⊢
  simp only at hd hp hf hA hB hT ⊢
  have ht : t = 1 ∨ t = 3 ∨ t = 5 ∨ t = 7 ∨ t = 8 ∨ t = 9 ∨ t = 10 ∨ t = 12 := by
    rcases tag_ways t with h | h | h | h | h | h | h | h | h
    iterate 8 simp [h]
    exact absurd (formF_no h) hf
  have htag : bits64 t < 2 ^ (8 * 1) ∧ ((bits64 t : Nat) : Int) = t := by
    rcases ht with rfl | rfl | rfl | rfl | rfl | rfl | rfl | rfl <;> exact ⟨by decide, rfl⟩
  simp only [List.append_assoc] at hd
  have h1 := numR_put bs a (bits64 t) 1 _ hd (by omega) htag.1
  have d1 := drop_next bs a _ _ 1 (putL_len _ _) hd
  unfold constR
  rw [h1]
  simp only [htag.2]
  rw [if_neg hf]
  rcases ht with rfl | rfl | rfl | rfl | rfl | rfl | rfl | rfl
  · simp [formF] at d1
    have h2 := textR_put bs (a + 1) cs r d1 hT
    simp [formF, optR, h2, putL_len]
    simp [formF, partF] at hp
    exact ⟨⟨hp.1.symm, hp.2.1.symm, hp.2.2.symm⟩, by omega⟩
  · simp [formF] at d1
    have h2 := numR_put' bs (a + 1) (bits64 cn) 4 r d1 (by omega)
    simp only [formF, optR]
    simp [h2, putL_len]
    simp [formF, partF] at hp
    have h3 := sgn_mod (bits64 cn) 4
    simp at h3
    exact ⟨hp.1.symm, hp.2.1.symm, by rw [h3]; exact hp.2.2.1.symm, hp.2.2.2⟩
  · simp [formF] at d1
    have h2 := numR_put' bs (a + 1) (bits64 cn) 8 r d1 (by omega)
    simp only [formF, optR]
    simp [h2, putL_len]
    simp [formF, partF] at hp
    have h3 := sgn_mod (bits64 cn) 8
    simp at h3
    exact ⟨hp.1.symm, hp.2.1.symm, by rw [h3]; exact hp.2.2.1.symm, hp.2.2.2⟩
  · simp [formF] at d1
    have h2 := numR_put bs (a + 1) (bits64 ca) 2 r d1 (by omega) (by have := hA.2; omega)
    simp [formF, optR, h2, putL_len, hA.1]
    simp [formF, partF] at hp
    exact ⟨hp.1.symm, hp.2.1.symm, hp.2.2⟩
  · simp [formF] at d1
    have h2 := numR_put bs (a + 1) (bits64 ca) 2 r d1 (by omega) (by have := hA.2; omega)
    simp [formF, optR, h2, putL_len, hA.1]
    simp [formF, partF] at hp
    exact ⟨hp.1.symm, hp.2.1.symm, hp.2.2⟩
  · simp [formF] at d1
    have h2 := numR_put bs (a + 1) (bits64 ca) 2 _ d1 (by omega) (by have := hA.2; omega)
    have d2 := drop_next bs (a + 1) _ _ 2 (putL_len _ _) d1
    have h3 := numR_put bs (a + 1 + 2) (bits64 cb) 2 r d2 (by omega) (by have := hB.2; omega)
    simp [formF, optR, h2, h3, putL_len, hA.1, hB.1]
    simp [formF, partF] at hp
    exact ⟨hp.1.symm, hp.2⟩
  · simp [formF] at d1
    have h2 := numR_put bs (a + 1) (bits64 ca) 2 _ d1 (by omega) (by have := hA.2; omega)
    have d2 := drop_next bs (a + 1) _ _ 2 (putL_len _ _) d1
    have h3 := numR_put bs (a + 1 + 2) (bits64 cb) 2 r d2 (by omega) (by have := hB.2; omega)
    simp [formF, optR, h2, h3, putL_len, hA.1, hB.1]
    simp [formF, partF] at hp
    exact ⟨hp.1.symm, hp.2⟩
  · simp [formF] at d1
    have h2 := numR_put bs (a + 1) (bits64 ca) 2 _ d1 (by omega) (by have := hA.2; omega)
    have d2 := drop_next bs (a + 1) _ _ 2 (putL_len _ _) d1
    have h3 := numR_put bs (a + 1 + 2) (bits64 cb) 2 r d2 (by omega) (by have := hB.2; omega)
    simp [formF, optR, h2, h3, putL_len, hA.1, hB.1]
    simp [formF, partF] at hp
    exact ⟨hp.1.symm, hp.2⟩

end Go.Proofs.Ytendpbklcgiafaa
