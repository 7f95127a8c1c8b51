/- The walks over a pool's writer: number, constant. -/
import Derived.Test.YtinkjeifkjfkgaaVi
import Derived.Test.YtinkjeifkjfkgaaMk
import Derived.Test.YtinkjeifkjfkgaaHs
namespace Go.Proofs.Ytinkjeifkjfkgaa
set_option maxRecDepth 100000
open Go.RowKit

/-- The types of a writer's own blocks. -/
def EW (t : TypeId) : Prop := t = 44 ∨ t = 5
/-- What a writer's calls do. -/
structure WO (g base : Nat) (w w' : World) : Prop where
  only : Only (fun q => q = g ∨ base ≤ q) w w'
  keep : Keep EW w w'
theorem WO.trans {g base : Nat} {a b c : World} (h : WO g base a b) (k : WO g base b c) : WO g base a c := ⟨h.only.trans k.only, h.keep.trans k.keep⟩
theorem WO.of_empty {g base : Nat} {a b : World} (h : Only Empty a b) : WO g base a b := ⟨h.mono (fun _ _ h => h.elim), Keep.of_empty h⟩
theorem WO.of_below {g base : Nat} {a b : World} (h : Below a.heap.size a b) : WO g base a b := WO.of_empty (Only.of_below h)
/-- A writer that has written zs, in a row made since base. -/
structure WrA (w : World) (g base m : Nat) (B : Option Addr) (c : Nat) (zs : List UInt8) : Prop where
  blk : Blk w g 44 #[.slice B m c]
  own : w.ownsRow base 5 1 (.slice B m c) m (zs.map B8)
  le : base ≤ w.heap.size
def Wr (w : World) (g base m : Nat) (zs : List UInt8) : Prop := ∃ B c, WrA w g base m B c zs

theorem WrA.only {w w' : World} {g base m c : Nat} {B : Option Addr} {zs : List UInt8} (h : WrA w g base m B c zs) (k : Only Empty w w') : WrA w' g base m B c zs :=
  ⟨k.blk h.blk (fun h => h), own_only h.own k (fun _ _ _ h => h), Nat.le_trans h.le k.size⟩
theorem WrA.set {w1 w2 : World} {g base m m' c c' : Nat} {B B' : Option Addr} {zs zs' : List UInt8} (h : WrA w1 g base m B c zs) (hg : w1.grownBy w2 (Value.slice B m c).ownBlock) (hown : w2.ownsRow base 5 1 (.slice B' m' c') m' (zs'.map B8)) :
    WrA (w2.setCell ⟨g, 0, none⟩ (.slice B' m' c')) g base m' B' c' zs' ∧ Blk w2 g 44 #[.slice B m c] ∧ WO g base w1 (w2.setCell ⟨g, 0, none⟩ (.slice B' m' c')) ∧ Keep EW w1 w2 := by
  have hrow : ∀ q, (Value.slice B m c).ownBlock = some q → base ≤ q ∧ ∃ cur, Blk w1 q 5 cur := by
    intro q hq
    rcases h.own.2 with ⟨e, _⟩ | ⟨g', c2, cur, e, hb, hB, -⟩
    · cases e
      cases hq
    · cases e
      cases hq
      exact ⟨hb, cur, hB⟩
  have hO : Only (fun q => (Value.slice B m c).ownBlock = some q) w1 w2 := Only.of_grown hg (fun k e _ => e)
  have hne : ∀ q, (Value.slice B m c).ownBlock = some q → q ≠ g := fun q hq => by
    obtain ⟨_, cur, hB⟩ := hrow q hq
    exact Blk.ne_ hB h.blk (by decide)
  have hblk : Blk w2 g 44 #[.slice B m c] := hO.blk h.blk (fun e => hne g e rfl)
  have hset : Only (· = g) w2 (w2.setCell ⟨g, 0, none⟩ (.slice B' m' c')) := (Only.refl (· = g) w2).setCell (p := ⟨g, 0, none⟩) (Or.inl rfl) _
  have hK1 : Keep EW w1 w2 := by
    intro q t cs hq ht
    refine hO.blk hq (fun e => ?_)
    obtain ⟨_, cur, hB⟩ := hrow q e
    have hq' : w1.heap[q]? = _ := hq
    have hB' : w1.heap[q]? = _ := hB
    rw [hq'] at hB'
    cases hB'
    exact ht (Or.inr rfl)
  refine ⟨⟨hblk.set_ 0 _, ?_, ?_⟩, hblk, ⟨?_, hK1.trans (Keep.of_block hblk (Or.inl rfl) hset)⟩, hK1⟩
  · refine ⟨hown.1, ?_⟩
    rcases hown.2 with h0 | ⟨g', c2, cur, e, hb, hB, r⟩
    · exact Or.inl h0
    · exact Or.inr ⟨g', c2, cur, e, hb, hset.blk hB (Blk.ne_ hB hblk (by decide)), r⟩
  · have := h.le
    have := hO.size
    have := hset.size
    omega
  · exact (hO.mono (fun q _ e => Or.inr (hrow q e).1)).trans (hset.mono (fun q _ e => Or.inl e))

theorem wrNumber_any (g base m v n : Nat) (zs : List UInt8) (w : World) (hW : Wr w g base m zs) (hv : v ≤ 18446744073709551615) (h1 : 1 ≤ n) (h2 : n ≤ 8) (hm : m ≤ 8000000) :
    Calls Try.prog 20 #[.pointer (some ⟨g, 0, none⟩), .int .u64 (v : Int), .int .i64 (n : Int)] w fun e w' => e = .returned (.tuple #[]) ∧ Wr w' g base (m + n) (zs ++ putL v n) ∧ WO g base w w' := by
  obtain ⟨B, c, hA⟩ := hW
  have HA := Lib.hid hA
  have CP : Hid (∀ W, Calls Try.prog 30 #[.slice none 0 0, .int .u64 (v : Int), .int .i64 (n : Int)] W fun e w' => (∃ A2 c2, e = .returned (.slice A2 n c2) ∧ ByteSl w' Empty A2 n c2 (putL v n) ∧ (A2 = none → n = 0 ∧ c2 = 0)) ∧ Below W.heap.size W w') := Lib.hid (fun W =>
    (put_yes none 0 0 [] v n W (ByteSl.nil_ _ _ _ _ (by unfold maxLen; omega)) hv h1 h2 (by omega)).mono fun e w' ⟨⟨u, he, ho⟩, hb⟩ => by
      rw [Nat.zero_add, List.nil_append] at ho
      obtain ⟨A2, c2, rfl, hB2, hg⟩ := ByteSl.of_own (S := Empty) ho (fun _ _ _ h => h)
      refine ⟨⟨A2, c2, he, hB2, fun e => ?_⟩, hb⟩
      obtain ⟨_, h, _⟩ := hg (by omega)
      rw [e] at h
      cases h)
  have hc0 : w.cell? ⟨g, 0, none⟩ = some (.slice B m c) := hA.blk.cell 0
  have hgl := hA.blk.lt
  clear hA
  go_enter Try.func20, Try.ntmps20
  go_wp2_with fail
  refine wp_region_held_drew (S := fun _ => True) (by kernel_rfl) trivial (fun hHeld0 => ?_)
  refine take_yes 0 6 ?_ rfl rfl (by kernel_rfl) (by kernel_rfl) (by kernel_rfl) (fun _ _ _ h => h) (by kernel_rfl) ?_ (by assumption) ?_; rotate_left; (focus (intro w hSw; (try dsimp only at hSw); go_simp; all_goals first | with_reducible rfl)); simp only [Act.put, List.setIfInBounds_toArray, List.set_cons_zero, List.set_cons_succ]
  refine take_yes 1 7 ?_ rfl rfl (by kernel_rfl) (by kernel_rfl) (by kernel_rfl) (fun _ _ _ h => h) (by kernel_rfl) ?_ (by assumption) ?_; rotate_left; (focus (intro w hSw; (try dsimp only at hSw); go_simp; all_goals first | with_reducible rfl)); simp only [Act.put, List.setIfInBounds_toArray, List.set_cons_zero, List.set_cons_succ]
  refine take_yes 2 8 ?_ rfl rfl (by kernel_rfl) (by kernel_rfl) (by kernel_rfl) (fun _ _ _ h => h) (by kernel_rfl) ?_ (by assumption) ?_; rotate_left; (focus (intro w hSw; (try dsimp only at hSw); go_simp; all_goals first | with_reducible rfl)); simp only [Act.put, List.setIfInBounds_toArray, List.set_cons_zero, List.set_cons_succ]
  refine take_yes 3 9 ?_ rfl rfl (by kernel_rfl) (by kernel_rfl) (by kernel_rfl) (fun _ _ _ h => h) (by kernel_rfl) ?_ (by assumption) ?_; rotate_left; (focus (intro w hSw; (try dsimp only at hSw); go_simp; all_goals first | with_reducible rfl)); simp only [Act.put, List.setIfInBounds_toArray, List.set_cons_zero, List.set_cons_succ]
  refine take_yes 5 11 ?_ rfl rfl (by kernel_rfl) (by kernel_rfl) (by kernel_rfl) (fun _ _ _ h => h) (by kernel_rfl) ?_ (by assumption) ?_; rotate_left; (focus (intro w hSw; (try dsimp only at hSw); go_simp; all_goals first | with_reducible rfl)); simp only [Act.put, List.setIfInBounds_toArray, List.set_cons_zero, List.set_cons_succ]
  refine take_yes 6 12 ?_ rfl rfl (by kernel_rfl) (by kernel_rfl) (by kernel_rfl) (fun _ _ _ h => h) (by kernel_rfl) ?_ (by assumption) ?_; rotate_left; (focus (intro w hSw; (try dsimp only at hSw); go_simp; all_goals first | with_reducible rfl)); simp only [Act.put, List.setIfInBounds_toArray, List.set_cons_zero, List.set_cons_succ]
  refine wpAnyH_ready (rs := [4, 7]) (by kernel_rfl) (by simp) ?_
  refine AllReadyH.cons rfl (fun K hK => ?_) (AllReadyH.cons rfl (fun K hK => ?_) AllReadyH.nil)
  · go_simp
    refine hK.out _ _ (trivial) (fun _ => ?_)
    clear hK K
    try simp only [Act.put, List.setIfInBounds_toArray, List.set_cons_zero, List.set_cons_succ]
    refine wpAnyH_ready (rs := [7]) (by kernel_rfl) (by simp) ?_
    refine AllReadyH.cons rfl (fun K hK => ?_) AllReadyH.nil
    go_simp
    go_at_call 30; (with_reducible refine (CP.out _).mono ?_); rintro e10 w10 ⟨⟨A2, c2, rfl, hB2, hn2⟩, hb10⟩
    have HA10 := Lib.hid (HA.out.only (((Only.refl Empty w).drew).trans (Only.of_below hb10)))
    have hc10 : w10.cell? ⟨g, 0, none⟩ = some (.slice B m c) := HA10.out.blk.cell 0
    go_wp2_with fail
    refine hK.out _ _ (trivial) (fun _ => ?_)
    clear hK K
    try simp only [Act.put, List.setIfInBounds_toArray, List.set_cons_zero, List.set_cons_succ]
    refine wpAnyH_ready (rs := [8]) (by kernel_rfl) (by simp) ?_
    refine AllReadyH.cons rfl (fun K hK => ?_) AllReadyH.nil
    obtain ⟨v', w2, hrun, hown, hgr, -⟩ := run_append_bytes (w := w10) 23 base (.slice B m c) m zs HA10.out.own A2 n c2 (putL v n) Empty hB2 hn2 (by omega) HA10.out.le
    obtain ⟨B', c', rfl, -⟩ := ByteSl.of_own (S := Empty) hown (fun _ _ _ h => h)
    obtain ⟨hA3, hblk2, hWO, -⟩ := HA10.out.set hgr hown
    have HA3 := Lib.hid hA3
    have HWO := Lib.hid hWO
    have hg0 := hblk2.cell 0
    have hgf := hblk2.frozen 0
    have hgl2 := hblk2.lt
    clear hA3 hWO hblk2 hown hgr
    refine step_append_eq (ts := 23) rfl (.tmp 10) (.tmp 13) rfl rfl rfl rfl hrun ?_
    refine hK.out _ _ (trivial) (fun _ => ?_)
    clear hK K
    try simp only [Act.put, List.setIfInBounds_toArray, List.set_cons_zero, List.set_cons_succ]
    refine take_yes 9 15 ?_ rfl rfl (by kernel_rfl) (by kernel_rfl) (by kernel_rfl) (fun _ _ _ h => h) (by kernel_rfl) ?_ (by assumption) ?_; rotate_left; (focus (intro w hSw; (try dsimp only at hSw); go_simp; all_goals first | with_reducible rfl)); simp only [Act.put, List.setIfInBounds_toArray, List.set_cons_zero, List.set_cons_succ]
    refine take_yes 10 16 ?_ rfl rfl (by kernel_rfl) (by kernel_rfl) (by kernel_rfl) (fun _ _ _ h => h) (by kernel_rfl) ?_ (by assumption) ?_; rotate_left; (focus (intro w hSw; (try dsimp only at hSw); go_simp; all_goals first | with_reducible rfl)); simp only [Act.put, List.setIfInBounds_toArray, List.set_cons_zero, List.set_cons_succ]
    refine wpAnyH_ready (rs := [11]) (by kernel_rfl) (by simp) ?_
    refine AllReadyH.cons rfl (fun K hK => ?_) AllReadyH.nil
    go_simp
    refine hK.out _ _ (trivial) (fun _ => ?_)
    clear hK K
    try simp only [Act.put, List.setIfInBounds_toArray, List.set_cons_zero, List.set_cons_succ]
    refine wpAnyH_done (by kernel_rfl) ?_ _
    go_wp2
    go_end0
    exact ⟨rfl, ⟨B', c', HA3.out⟩, (WO.of_empty (Only.refl _ _).drew).trans ((WO.of_below hb10).trans HWO.out)⟩
  · go_simp
    go_at_call 30; (with_reducible refine (CP.out _).mono ?_); rintro e10 w10 ⟨⟨A2, c2, rfl, hB2, hn2⟩, hb10⟩
    have HA10 := Lib.hid (HA.out.only (((Only.refl Empty w).drew).trans (Only.of_below hb10)))
    have hc10 : w10.cell? ⟨g, 0, none⟩ = some (.slice B m c) := HA10.out.blk.cell 0
    go_wp2_with fail
    refine hK.out _ _ (trivial) (fun _ => ?_)
    clear hK K
    try simp only [Act.put, List.setIfInBounds_toArray, List.set_cons_zero, List.set_cons_succ]
    refine wpAnyH_ready (rs := [4]) (by kernel_rfl) (by simp) ?_
    refine AllReadyH.cons rfl (fun K hK => ?_) AllReadyH.nil
    go_simp
    refine hK.out _ _ (trivial) (fun _ => ?_)
    clear hK K
    try simp only [Act.put, List.setIfInBounds_toArray, List.set_cons_zero, List.set_cons_succ]
    refine wpAnyH_ready (rs := [8]) (by kernel_rfl) (by simp) ?_
    refine AllReadyH.cons rfl (fun K hK => ?_) AllReadyH.nil
    obtain ⟨v', w2, hrun, hown, hgr, -⟩ := run_append_bytes (w := w10) 23 base (.slice B m c) m zs HA10.out.own A2 n c2 (putL v n) Empty hB2 hn2 (by omega) HA10.out.le
    obtain ⟨B', c', rfl, -⟩ := ByteSl.of_own (S := Empty) hown (fun _ _ _ h => h)
    obtain ⟨hA3, hblk2, hWO, -⟩ := HA10.out.set hgr hown
    have HA3 := Lib.hid hA3
    have HWO := Lib.hid hWO
    have hg0 := hblk2.cell 0
    have hgf := hblk2.frozen 0
    have hgl2 := hblk2.lt
    clear hA3 hWO hblk2 hown hgr
    refine step_append_eq (ts := 23) rfl (.tmp 10) (.tmp 13) rfl rfl rfl rfl hrun ?_
    refine hK.out _ _ (trivial) (fun _ => ?_)
    clear hK K
    try simp only [Act.put, List.setIfInBounds_toArray, List.set_cons_zero, List.set_cons_succ]
    refine take_yes 9 15 ?_ rfl rfl (by kernel_rfl) (by kernel_rfl) (by kernel_rfl) (fun _ _ _ h => h) (by kernel_rfl) ?_ (by assumption) ?_; rotate_left; (focus (intro w hSw; (try dsimp only at hSw); go_simp; all_goals first | with_reducible rfl)); simp only [Act.put, List.setIfInBounds_toArray, List.set_cons_zero, List.set_cons_succ]
    refine take_yes 10 16 ?_ rfl rfl (by kernel_rfl) (by kernel_rfl) (by kernel_rfl) (fun _ _ _ h => h) (by kernel_rfl) ?_ (by assumption) ?_; rotate_left; (focus (intro w hSw; (try dsimp only at hSw); go_simp; all_goals first | with_reducible rfl)); simp only [Act.put, List.setIfInBounds_toArray, List.set_cons_zero, List.set_cons_succ]
    refine wpAnyH_ready (rs := [11]) (by kernel_rfl) (by simp) ?_
    refine AllReadyH.cons rfl (fun K hK => ?_) AllReadyH.nil
    go_simp
    refine hK.out _ _ (trivial) (fun _ => ?_)
    clear hK K
    try simp only [Act.put, List.setIfInBounds_toArray, List.set_cons_zero, List.set_cons_succ]
    refine wpAnyH_done (by kernel_rfl) ?_ _
    go_wp2
    go_end0
    exact ⟨rfl, ⟨B', c', HA3.out⟩, (WO.of_empty (Only.refl _ _).drew).trans ((WO.of_below hb10).trans HWO.out)⟩

end Go.Proofs.Ytinkjeifkjfkgaa
