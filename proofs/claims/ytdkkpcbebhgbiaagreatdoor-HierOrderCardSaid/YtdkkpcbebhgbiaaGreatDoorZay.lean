/- slices.Grow of nil and slices.Concat, at units and at strings; raw rows; printed by gen/gen_zs.py. -/
import Derived.Test.YtdkkpcbebhgbiaaGreatDoorZax
import Derived.Lib.AppendZerosOnto
import Derived.Test.YtdkkpcbebhgbiaaGreatDoorZaw
import Derived.Test.YtdkkpcbebhgbiaaGreatDoorZav
namespace Go.Proofs.YtdkkpcbebhgbiaaGreatDoor
set_option maxRecDepth 100000
open Go.RowKit

/-- So many cells as they lie. -/
abbrev Raw (k : Nat) := { l : List Value // l.length = k ∧ ∀ v ∈ l, v.oneCell' = true }
def rawC {k : Nat} (r : Raw k) : List Value := r.1
theorem rawC_len {k : Nat} : ∀ r : Raw k, (rawC r).length = k := fun r => r.2.1
theorem rawC_one {k : Nat} : ∀ r : Raw k, ∀ v ∈ rawC r, v.oneCell' = true := fun r => r.2.2
/-- What lies in each. -/
def RepL {α : Type} (R : RepT α) (w : World) (rs : List (Raw R.k)) (l : List α) : Prop := rs.length = l.length ∧ ∀ (i : Nat) (r : Raw R.k) (x : α), rs[i]? = some r → l[i]? = some x → R.rep w Empty r.1 x
theorem RepL.below {α : Type} {R : RepT α} {w w' : World} {rs : List (Raw R.k)} {l : List α} (h : RepL R w rs l) (q : Below w.heap.size w w') : RepL R w' rs l :=
  ⟨h.1, fun i r x hr hx => R.next (h.2 i r x hr hx) (Only.of_below q) (fun _ _ h => h)⟩
theorem RepL.app {α : Type} {R : RepT α} {w : World} {rs1 rs2 : List (Raw R.k)} {l1 l2 : List α} (h1 : RepL R w rs1 l1) (h2 : RepL R w rs2 l2) : RepL R w (rs1 ++ rs2) (l1 ++ l2) := by
  refine ⟨by rw [List.length_append, List.length_append, h1.1, h2.1], fun i r x hr hx => ?_⟩
  rcases Nat.lt_or_ge i rs1.length with hi | hi
  · rw [List.getElem?_append_left hi] at hr
    rw [List.getElem?_append_left (by rw [← h1.1]; exact hi)] at hx
    exact h1.2 i r x hr hx
  · rw [List.getElem?_append_right hi] at hr
    rw [List.getElem?_append_right (by rw [← h1.1]; exact hi)] at hx
    exact h2.2 _ r x hr (by rw [h1.1]; exact hx)
theorem raw_of_rowS {α : Type} {R : RepT α} (h1 : ∀ {w Z cs x}, R.rep w Z cs x → ∀ v ∈ cs, v.oneCell' = true) {w : World} {A : Option Addr} {n cap : Nat} {l : List α} (h : RowS R w Empty A n cap l) : ∃ rs : List (Raw R.k), RowSl rawC R.k w Empty A n cap rs ∧ RepL R w rs l := by
  obtain ⟨hl, hnc, hc, hA, hB⟩ := h
  rcases Nat.eq_zero_or_pos n with h0 | h0
  · subst h0
    exact ⟨[], ⟨rfl, hnc, hc, fun h => absurd h (by omega)⟩, by rw [hl]; rfl, fun i r x hr => by simp at hr⟩
  · obtain ⟨b, o, e, hb, hs, hr⟩ := hB h0
    have hall : ∀ i, ∃ r : Raw R.k, ∀ x, l[i]? = some x → (∀ j v, r.1[j]? = some v → w.cell? ⟨b, o + i * R.k + j, none⟩ = some v) ∧ R.rep w Empty r.1 x := fun i => by
      cases hx : l[i]? with
      | none =>
        have hx0 : l[0]? = some (l[0]'(by omega)) := List.getElem?_eq_getElem (by omega)
        obtain ⟨cs, _, hrep⟩ := hr 0 _ hx0
        exact ⟨⟨cs, R.len hrep, h1 hrep⟩, fun x h => by cases h⟩
      | some x =>
        obtain ⟨cs, hcs, hrep⟩ := hr i x hx
        exact ⟨⟨cs, R.len hrep, h1 hrep⟩, fun y h => by cases h; exact ⟨hcs, hrep⟩⟩
    refine ⟨(List.range n).map fun i => (hall i).choose, ⟨by simp, hnc, hc, fun _ => ⟨b, o, e, hb, hs, fun i f hf j hj => ?_⟩⟩, by simp [hl], fun i r x hf hx => ?_⟩
    · rw [List.getElem?_map] at hf
      have hin : i < n := by
        rcases Nat.lt_or_ge i n with h | h
        · exact h
        · rw [List.getElem?_eq_none (by simpa using h)] at hf
          cases hf
      rw [List.getElem?_range hin] at hf
      simp only [Option.map_some, Option.some.injEq] at hf
      subst hf
      have hx : l[i]? = some (l[i]'(by omega)) := List.getElem?_eq_getElem (by omega)
      have := ((hall i).choose_spec _ hx).1
      have hj2 : j < (rawC (hall i).choose).length := by rw [rawC_len]; exact hj
      rw [List.getElem?_eq_getElem hj2]
      exact this j _ (List.getElem?_eq_getElem hj2)
    · rw [List.getElem?_map] at hf
      have hin : i < n := by rw [← hl]; exact (List.getElem?_eq_some_iff.1 hx).1
      rw [List.getElem?_range hin] at hf
      simp only [Option.map_some, Option.some.injEq] at hf
      subst hf
      exact ((hall i).choose_spec x hx).2
theorem rowS_of_raw {α : Type} {R : RepT α} {w : World} {A : Option Addr} {n cap : Nat} {rs : List (Raw R.k)} {l : List α} (h : RowSl rawC R.k w Empty A n cap rs) (hA : A = none → n = 0 ∧ cap = 0) (hr : RepL R w rs l) : RowS R w Empty A n cap l := by
  obtain ⟨h1, h2, h3, h4⟩ := h
  refine ⟨hr.1.symm.trans h1, h2, h3, hA, fun h0 => ?_⟩
  obtain ⟨b, o, e, hb, hs, hc⟩ := h4 h0
  refine ⟨b, o, e, hb, hs, fun i x hx => ?_⟩
  have hi : i < rs.length := by rw [hr.1]; exact (List.getElem?_eq_some_iff.1 hx).1
  have hri : rs[i]? = some rs[i] := List.getElem?_eq_getElem hi
  refine ⟨rs[i].1, fun j v hv => ?_, hr.2 i _ x hri hx⟩
  have hj := (List.getElem?_eq_some_iff.1 hv).1
  rw [hc i _ hri j (by rw [← rs[i].2.1]; exact hj)]
  exact hv

/-- Slices that are joined. -/
structure Part (α : Type) where
  A : Option Addr
  n : Nat
  c : Nat
  l : List α
def Part.v {α : Type} (p : Part α) : Value := .slice p.A p.n p.c
def lensP {α : Type} (ps : List (Part α)) : Nat := (ps.map (·.n)).sum
def allP {α : Type} (ps : List (Part α)) : List α := ps.flatMap (·.l)
theorem lens_snoc {α : Type} {ps : List (Part α)} {k : Nat} {p : Part α} (h : ps[k]? = some p) : lensP (ps.take (k + 1)) = lensP (ps.take k) + p.n := by unfold lensP; rw [take_map_snoc _ h]; simp
theorem allP_snoc {α : Type} {ps : List (Part α)} {k : Nat} {p : Part α} (h : ps[k]? = some p) : allP (ps.take (k + 1)) = allP (ps.take k) ++ p.l := by unfold allP; rw [List.take_add_one, h]; simp
theorem lens_le {α : Type} (ps : List (Part α)) (k : Nat) : lensP (ps.take k) ≤ lensP ps := by
  unfold lensP
  have : ps.map (·.n) = (ps.take k).map (·.n) ++ (ps.drop k).map (·.n) := by rw [← List.map_append, List.take_append_drop]
  rw [this, List.sum_append]
  omega

theorem Tryz.infoGU : (Tryz.prog.info? 82).map (fun i => (i.zero, i.size, i.bytes)) = some (some (Value.agg #[.string ⟨#[]⟩, .string ⟨#[]⟩, .slice none 0 0, .slice none 0 0]), 4, 80) := by kernel_rfl
theorem growU_any (n : Nat) (w : World) (h0 : 0 < n) (hn : n ≤ 1000000) :
    Calls Tryz.prog 105 #[.slice none 0 0, .int .i64 (n : Int)] w fun e w' => (∃ cap, e = .returned (.slice (some ⟨w.heap.size, 0, none⟩) 0 cap) ∧ GotR rawC 4 82 w.heap.size w' (some ⟨w.heap.size, 0, none⟩) 0 cap ([] : List (Raw 4))) ∧ Below w.heap.size w w' := by
  obtain ⟨i0, hi, hz0, hz1, hz2⟩ := info_parts Tryz.infoGU
  have hrz : ∀ ty, (Builtin.append_ #[28, 3] ty #[.slice none 0 0, .int .i64 (n : Int)]).run Tryz.prog w = .ok (.slice (some ⟨w.heap.size, 0, none⟩) n (grownCap w n 0 82)) (w.drew.alloc (.cells (Builtin.zeroCells (Value.agg #[.string ⟨#[]⟩, .string ⟨#[]⟩, .slice none 0 0, .slice none 0 0]).cells n ++ Builtin.zeroCells (Value.agg #[.string ⟨#[]⟩, .string ⟨#[]⟩, .slice none 0 0, .slice none 0 0]).cells (grownCap w n 0 82 - n)) 82)) := fun ty => by
    have h := Lib.run_append_grow_zeros w 28 3 ty 82 i0 (Value.agg #[.string ⟨#[]⟩, .string ⟨#[]⟩, .slice none 0 0, .slice none 0 0]) .i64 .i64 Tryz.underlying28 Tryz.underlying3 hi hz0 none 0 0 [] (run_firstCells_none _ _ _ _ _) n h0 (by rw [hz1]; decide) (by omega) (by omega) (by rw [hz2]; omega) (growslice_fits (by omega) (by rw [hz2]; omega))
    simpa using h
  have hG1 := grownCap_ge w n 0 82
  have hG2 := grownCap_le_maxLen w n 0 82 (by unfold maxLen; omega)
  obtain ⟨G, hG⟩ : ∃ G, grownCap w n 0 82 = G := ⟨_, rfl⟩
  rw [hG] at hrz hG1 hG2
  have hGot : Hid (GotR rawC 4 82 w.heap.size (w.drew.alloc (.cells (Builtin.zeroCells (Value.agg #[.string ⟨#[]⟩, .string ⟨#[]⟩, .slice none 0 0, .slice none 0 0]).cells n ++ Builtin.zeroCells (Value.agg #[.string ⟨#[]⟩, .string ⟨#[]⟩, .slice none 0 0, .slice none 0 0]).cells (G - n)) 82)) (some ⟨w.heap.size, 0, none⟩) 0 G ([] : List (Raw 4))) := Lib.hid (by
    have hown : (w.drew.alloc (.cells (Builtin.zeroCells (Value.agg #[.string ⟨#[]⟩, .string ⟨#[]⟩, .slice none 0 0, .slice none 0 0]).cells n ++ Builtin.zeroCells (Value.agg #[.string ⟨#[]⟩, .string ⟨#[]⟩, .slice none 0 0, .slice none 0 0]).cells (G - n)) 82)).ownsRow w.heap.size 82 4 (.slice (some ⟨w.heap.size, 0, none⟩) 0 G) 0 (([] : List (Raw 4)).flatMap rawC) := by
      refine ⟨rfl, Or.inr ⟨w.heap.size, G, _, rfl, Nat.le_refl _, Blk.new w.drew _ _, Nat.zero_le _, hG2, ?_, by simp⟩⟩
      simp [Builtin.zeroCells, Value.cells]
      omega
    obtain ⟨A', c', e, h⟩ := GotR.of_own rawC_len hown rfl
    cases e
    exact h)
  have hb : Hid (Below w.heap.size w (w.drew.alloc (.cells (Builtin.zeroCells (Value.agg #[.string ⟨#[]⟩, .string ⟨#[]⟩, .slice none 0 0, .slice none 0 0]).cells n ++ Builtin.zeroCells (Value.agg #[.string ⟨#[]⟩, .string ⟨#[]⟩, .slice none 0 0, .slice none 0 0]).cells (G - n)) 82))) := Lib.hid (((Below.refl w.heap.size w).drewN 1).alloc (Nat.le_refl _) _)
  clear hG
  unfold maxLen at hG2
  go_enter Tryz.func105, Tryz.ntmps105
  go_wp2_with (at_builtin; refine Lib.wpList_append_run _ rfl _ _ _ _ rfl _ _ rfl rfl _ _ (hrz _) ?_)
  go_ret
  exact ⟨⟨G, rfl, hGot.out⟩, hb.out⟩

/-- Slices that lie side by side in a block. -/
structure PartsU (w : World) (g : Nat) (ps : List (Part (Raw 4))) : Prop where
  cell : ∀ i p, ps[i]? = some p → w.cell? ⟨g, i, none⟩ = some (.slice p.A p.n p.c)
  row : ∀ p ∈ ps, RowSl rawC 4 w Empty p.A p.n p.c p.l ∧ (p.A = none → p.n = 0 ∧ p.c = 0)
  lt : g < w.heap.size
theorem PartsU.below {w w' : World} {g : Nat} {ps : List (Part (Raw 4))} (h : PartsU w g ps) (q : Below w.heap.size w w') : PartsU w' g ps :=
  ⟨fun i p hp => (q.cell (p := ⟨g, i, none⟩) h.lt).trans (h.cell i p hp), fun p hp => ⟨(h.row p hp).1.below q, (h.row p hp).2⟩, Nat.lt_of_lt_of_le h.lt q.size⟩
def RelC1U (ps : List (Part (Raw 4))) (s i : Value) : Prop := ∃ k : Nat, k ≤ ps.length ∧ i = .int .i64 (k : Int) ∧ s = .int .i64 (lensP (ps.take k) : Int)
def RelC2U (w : World) (ps : List (Part (Raw 4))) (r i : Value) (wr : World) : Prop := ∃ (k : Nat) (A : Option Addr) (c : Nat), k ≤ ps.length ∧ i = .int .i64 (k : Int) ∧ r = .slice A (lensP (ps.take k)) c ∧ GotR rawC 4 82 w.heap.size wr A (lensP (ps.take k)) c (allP (ps.take k)) ∧ Below w.heap.size w wr
set_option maxHeartbeats 4000000 in
theorem concatU_any (w : World) (g : Nat) (ps : List (Part (Raw 4))) (cp : Nat) (hP : PartsU w g ps) (hl : ps.length ≤ 1000) (hcp : ps.length ≤ cp ∧ cp ≤ 1000000) (h0 : 0 < lensP ps) (hn : lensP ps ≤ 1000000) :
    Calls Tryz.prog 49 #[.slice (some ⟨g, 0, none⟩) ps.length cp] w fun e w' => (∃ A c, e = .returned (.slice A (lensP ps) c) ∧ GotR rawC 4 82 w.heap.size w' A (lensP ps) c (allP ps)) ∧ Below w.heap.size w w' := by
  obtain ⟨N, hN⟩ : ∃ N, ps.length = N := ⟨_, rfl⟩
  have hl2 : N ≤ 1000 := by omega
  have hcp1 : N ≤ cp := by omega
  have hcp2 := hcp.2
  have HN := Lib.hid hN
  rw [hN]
  have HR1 : Hid (RelC1U ps (.int .i64 0) (.int .i64 0)) := Lib.hid ⟨0, Nat.zero_le _, rfl, rfl⟩
  have HP := Lib.hid hP
  have HLE := Lib.hid (lens_le ps)
  clear hl hcp hP hN
  go_enter Tryz.func49, Tryz.ntmps49
  go_wp2
  go_loop [3, 11] (fun s i => RelC1U ps s i) (fun _ i => N - (intOf i).toNat)
  case atStart => exact HR1.out
  case round =>
    clear HR1
    obtain ⟨k, hk, rfl, rfl⟩ := hrel
    rw [HN.out] at hk
    have hle := HLE.out k
    by_cases hlt : k < N
    · obtain ⟨p, hp⟩ : ∃ p, ps[k]? = some p := ⟨_, List.getElem?_eq_getElem (by rw [HN.out]; exact hlt)⟩
      have d0 : w.cell? ⟨g, k, none⟩ = some (.slice p.A p.n p.c) := HP.out.cell k p hp
      have hsn := lens_snoc hp
      have hle2 := HLE.out (k + 1)
      rw [hsn] at hle2
      have HR1 : Hid (RelC1U ps (.int .i64 ((lensP (ps.take k) : Int) + (p.n : Int))) (.int .i64 ((k : Int) + 1))) := Lib.hid ⟨k + 1, by rw [HN.out]; exact hlt, by simp, by rw [hsn]; simp⟩
      clear hsn hp
      go_wp2
      go_round
      case rel => exact HR1.out
      case measure => simp [intOf]; omega
    · have e1 : ps.take k = ps := List.take_of_length_le (by rw [HN.out]; omega)
      rw [e1]
      clear e1 hle
      obtain ⟨S, hS⟩ : ∃ S, lensP ps = S := ⟨_, rfl⟩
      have HS := Lib.hid hS
      rw [hS] at h0 hn ⊢
      clear hS
      have C1 := Lib.hid (growU_any S w h0 hn)
      go_wp2_with fail
      refine C1.out.mono ?_
      rintro e w1 ⟨⟨c1, rfl, hG⟩, hb⟩
      have HR2 : Hid (RelC2U w ps (.slice (some ⟨w.heap.size, 0, none⟩) 0 c1) (.int .i64 0) w1) := Lib.hid ⟨0, _, c1, Nat.zero_le _, rfl, rfl, hG, hb⟩
      clear hG hb
      go_wp2
      go_loopw [6, 27] (fun r i wr => RelC2U w ps r i wr) (fun _ i _ => N - (intOf i).toNat)
      case atStart => exact HR2.out
      case round =>
        clear HR2
        obtain ⟨k2, A, c, hk2, rfl, rfl, hG, hb⟩ := hrel
        rw [HN.out] at hk2
        have hle := HLE.out k2
        by_cases hlt2 : k2 < N
        · obtain ⟨p, hp⟩ : ∃ p, ps[k2]? = some p := ⟨_, List.getElem?_eq_getElem (by rw [HN.out]; exact hlt2)⟩
          have hPr := HP.out.below hb
          have d0 : wr.cell? ⟨g, k2, none⟩ = some (.slice p.A p.n p.c) := hPr.cell k2 p hp
          have HRow := Lib.hid (hPr.row p (List.mem_of_getElem? hp))
          have hsn := lens_snoc hp
          have hle2 := HLE.out (k2 + 1)
          rw [hsn, HS.out] at hle2
          have HSN := Lib.hid hsn
          have HAS := Lib.hid (allP_snoc hp)
          have HB := Lib.hid hb
          have HGo := Lib.hid hG
          have hbs := hb.size
          clear hsn hPr hp hb hG
          go_wp2_with (at_builtin; refine wpList_append_rows rawC_len rawC_one (by decide) 28 82 (Value.agg #[.string ⟨#[]⟩, .string ⟨#[]⟩, .slice none 0 0, .slice none 0 0]) 80 Tryz.underlying28 Tryz.infoGU (by simp [Value.cells]) (by decide) rfl _ _ rfl w.heap.size A (lensP (ps.take k2)) c (allP (ps.take k2)) rfl HGo.out p.A p.n p.c p.l rfl HRow.out.1 HRow.out.2 (by omega) hbs ?_; intro A2 c2 w2 hG2 hg2 hr2 _; have HR2 : Hid (RelC2U w ps (.slice A2 (lensP (ps.take k2) + p.n) c2) (.int .i64 ((k2 : Int) + 1)) w2) := (Lib.hid ⟨k2 + 1, A2, c2, (by rw [HN.out]; exact hlt2), (by simp), (by rw [HSN.out]), (by rw [HSN.out, HAS.out]; exact hG2), below_gotR HB.out HB.out.size hg2 hr2 (Nat.le_refl _)⟩); clear hG2 hg2 hr2)
          go_roundw
          case rel => exact HR2.out
          case measure => simp [intOf]; omega
        · have e2 : ps.take k2 = ps := List.take_of_length_le (by rw [HN.out]; omega)
          rw [e2] at hG ⊢
          have HGo := Lib.hid hG
          clear hG e2 hle
          go_wp2
          go_ret
          exact ⟨⟨A, c, by rw [HS.out]; rfl, HGo.out⟩, hb⟩

theorem Tryz.infoGS : (Tryz.prog.info? 9).map (fun i => (i.zero, i.size, i.bytes)) = some (some (Value.string ⟨#[]⟩), 1, 16) := by kernel_rfl
theorem growS_any (n : Nat) (w : World) (h0 : 0 < n) (hn : n ≤ 1000000) :
    Calls Tryz.prog 139 #[.slice none 0 0, .int .i64 (n : Int)] w fun e w' => (∃ cap, e = .returned (.slice (some ⟨w.heap.size, 0, none⟩) 0 cap) ∧ GotR svC 1 9 w.heap.size w' (some ⟨w.heap.size, 0, none⟩) 0 cap ([] : List (Bs))) ∧ Below w.heap.size w w' := by
  obtain ⟨i0, hi, hz0, hz1, hz2⟩ := info_parts Tryz.infoGS
  have hrz : ∀ ty, (Builtin.append_ #[42, 3] ty #[.slice none 0 0, .int .i64 (n : Int)]).run Tryz.prog w = .ok (.slice (some ⟨w.heap.size, 0, none⟩) n (grownCap w n 0 9)) (w.drew.alloc (.cells (Builtin.zeroCells (Value.string ⟨#[]⟩).cells n ++ Builtin.zeroCells (Value.string ⟨#[]⟩).cells (grownCap w n 0 9 - n)) 9)) := fun ty => by
    have h := Lib.run_append_grow_zeros w 42 3 ty 9 i0 (Value.string ⟨#[]⟩) .i64 .i64 Tryz.underlying42 Tryz.underlying3 hi hz0 none 0 0 [] (run_firstCells_none _ _ _ _ _) n h0 (by rw [hz1]; decide) (by omega) (by omega) (by rw [hz2]; omega) (growslice_fits (by omega) (by rw [hz2]; omega))
    simpa using h
  have hG1 := grownCap_ge w n 0 9
  have hG2 := grownCap_le_maxLen w n 0 9 (by unfold maxLen; omega)
  obtain ⟨G, hG⟩ : ∃ G, grownCap w n 0 9 = G := ⟨_, rfl⟩
  rw [hG] at hrz hG1 hG2
  have hGot : Hid (GotR svC 1 9 w.heap.size (w.drew.alloc (.cells (Builtin.zeroCells (Value.string ⟨#[]⟩).cells n ++ Builtin.zeroCells (Value.string ⟨#[]⟩).cells (G - n)) 9)) (some ⟨w.heap.size, 0, none⟩) 0 G ([] : List (Bs))) := Lib.hid (by
    have hown : (w.drew.alloc (.cells (Builtin.zeroCells (Value.string ⟨#[]⟩).cells n ++ Builtin.zeroCells (Value.string ⟨#[]⟩).cells (G - n)) 9)).ownsRow w.heap.size 9 1 (.slice (some ⟨w.heap.size, 0, none⟩) 0 G) 0 (([] : List (Bs)).flatMap svC) := by
      refine ⟨rfl, Or.inr ⟨w.heap.size, G, _, rfl, Nat.le_refl _, Blk.new w.drew _ _, Nat.zero_le _, hG2, ?_, by simp⟩⟩
      simp [Builtin.zeroCells, Value.cells]
      omega
    obtain ⟨A', c', e, h⟩ := GotR.of_own svC_len hown rfl
    cases e
    exact h)
  have hb : Hid (Below w.heap.size w (w.drew.alloc (.cells (Builtin.zeroCells (Value.string ⟨#[]⟩).cells n ++ Builtin.zeroCells (Value.string ⟨#[]⟩).cells (G - n)) 9))) := Lib.hid (((Below.refl w.heap.size w).drewN 1).alloc (Nat.le_refl _) _)
  clear hG
  unfold maxLen at hG2
  go_enter Tryz.func139, Tryz.ntmps139
  go_wp2_with (at_builtin; refine Lib.wpList_append_run _ rfl _ _ _ _ rfl _ _ rfl rfl _ _ (hrz _) ?_)
  go_ret
  exact ⟨⟨G, rfl, hGot.out⟩, hb.out⟩

/-- Slices that lie side by side in a block. -/
structure PartsS (w : World) (g : Nat) (ps : List (Part (Bs))) : Prop where
  cell : ∀ i p, ps[i]? = some p → w.cell? ⟨g, i, none⟩ = some (.slice p.A p.n p.c)
  row : ∀ p ∈ ps, RowSl svC 1 w Empty p.A p.n p.c p.l ∧ (p.A = none → p.n = 0 ∧ p.c = 0)
  lt : g < w.heap.size
theorem PartsS.below {w w' : World} {g : Nat} {ps : List (Part (Bs))} (h : PartsS w g ps) (q : Below w.heap.size w w') : PartsS w' g ps :=
  ⟨fun i p hp => (q.cell (p := ⟨g, i, none⟩) h.lt).trans (h.cell i p hp), fun p hp => ⟨(h.row p hp).1.below q, (h.row p hp).2⟩, Nat.lt_of_lt_of_le h.lt q.size⟩
def RelC1S (ps : List (Part (Bs))) (s i : Value) : Prop := ∃ k : Nat, k ≤ ps.length ∧ i = .int .i64 (k : Int) ∧ s = .int .i64 (lensP (ps.take k) : Int)
def RelC2S (w : World) (ps : List (Part (Bs))) (r i : Value) (wr : World) : Prop := ∃ (k : Nat) (A : Option Addr) (c : Nat), k ≤ ps.length ∧ i = .int .i64 (k : Int) ∧ r = .slice A (lensP (ps.take k)) c ∧ GotR svC 1 9 w.heap.size wr A (lensP (ps.take k)) c (allP (ps.take k)) ∧ Below w.heap.size w wr
set_option maxHeartbeats 4000000 in
theorem concatS_any (w : World) (g : Nat) (ps : List (Part (Bs))) (cp : Nat) (hP : PartsS w g ps) (hl : ps.length ≤ 1000) (hcp : ps.length ≤ cp ∧ cp ≤ 1000000) (h0 : 0 < lensP ps) (hn : lensP ps ≤ 1000000) :
    Calls Tryz.prog 73 #[.slice (some ⟨g, 0, none⟩) ps.length cp] w fun e w' => (∃ A c, e = .returned (.slice A (lensP ps) c) ∧ GotR svC 1 9 w.heap.size w' A (lensP ps) c (allP ps)) ∧ Below w.heap.size w w' := by
  obtain ⟨N, hN⟩ : ∃ N, ps.length = N := ⟨_, rfl⟩
  have hl2 : N ≤ 1000 := by omega
  have hcp1 : N ≤ cp := by omega
  have hcp2 := hcp.2
  have HN := Lib.hid hN
  rw [hN]
  have HR1 : Hid (RelC1S ps (.int .i64 0) (.int .i64 0)) := Lib.hid ⟨0, Nat.zero_le _, rfl, rfl⟩
  have HP := Lib.hid hP
  have HLE := Lib.hid (lens_le ps)
  clear hl hcp hP hN
  go_enter Tryz.func73, Tryz.ntmps73
  go_wp2
  go_loop [3, 11] (fun s i => RelC1S ps s i) (fun _ i => N - (intOf i).toNat)
  case atStart => exact HR1.out
  case round =>
    clear HR1
    obtain ⟨k, hk, rfl, rfl⟩ := hrel
    rw [HN.out] at hk
    have hle := HLE.out k
    by_cases hlt : k < N
    · obtain ⟨p, hp⟩ : ∃ p, ps[k]? = some p := ⟨_, List.getElem?_eq_getElem (by rw [HN.out]; exact hlt)⟩
      have d0 : w.cell? ⟨g, k, none⟩ = some (.slice p.A p.n p.c) := HP.out.cell k p hp
      have hsn := lens_snoc hp
      have hle2 := HLE.out (k + 1)
      rw [hsn] at hle2
      have HR1 : Hid (RelC1S ps (.int .i64 ((lensP (ps.take k) : Int) + (p.n : Int))) (.int .i64 ((k : Int) + 1))) := Lib.hid ⟨k + 1, by rw [HN.out]; exact hlt, by simp, by rw [hsn]; simp⟩
      clear hsn hp
      go_wp2
      go_round
      case rel => exact HR1.out
      case measure => simp [intOf]; omega
    · have e1 : ps.take k = ps := List.take_of_length_le (by rw [HN.out]; omega)
      rw [e1]
      clear e1 hle
      obtain ⟨S, hS⟩ : ∃ S, lensP ps = S := ⟨_, rfl⟩
      have HS := Lib.hid hS
      rw [hS] at h0 hn ⊢
      clear hS
      have C1 := Lib.hid (growS_any S w h0 hn)
      go_wp2_with fail
      refine C1.out.mono ?_
      rintro e w1 ⟨⟨c1, rfl, hG⟩, hb⟩
      have HR2 : Hid (RelC2S w ps (.slice (some ⟨w.heap.size, 0, none⟩) 0 c1) (.int .i64 0) w1) := Lib.hid ⟨0, _, c1, Nat.zero_le _, rfl, rfl, hG, hb⟩
      clear hG hb
      go_wp2
      go_loopw [6, 27] (fun r i wr => RelC2S w ps r i wr) (fun _ i _ => N - (intOf i).toNat)
      case atStart => exact HR2.out
      case round =>
        clear HR2
        obtain ⟨k2, A, c, hk2, rfl, rfl, hG, hb⟩ := hrel
        rw [HN.out] at hk2
        have hle := HLE.out k2
        by_cases hlt2 : k2 < N
        · obtain ⟨p, hp⟩ : ∃ p, ps[k2]? = some p := ⟨_, List.getElem?_eq_getElem (by rw [HN.out]; exact hlt2)⟩
          have hPr := HP.out.below hb
          have d0 : wr.cell? ⟨g, k2, none⟩ = some (.slice p.A p.n p.c) := hPr.cell k2 p hp
          have HRow := Lib.hid (hPr.row p (List.mem_of_getElem? hp))
          have hsn := lens_snoc hp
          have hle2 := HLE.out (k2 + 1)
          rw [hsn, HS.out] at hle2
          have HSN := Lib.hid hsn
          have HAS := Lib.hid (allP_snoc hp)
          have HB := Lib.hid hb
          have HGo := Lib.hid hG
          have hbs := hb.size
          clear hsn hPr hp hb hG
          go_wp2_with (at_builtin; refine wpList_append_rows svC_len svC_one (by decide) 42 9 (Value.string ⟨#[]⟩) 16 Tryz.underlying42 Tryz.infoGS (by simp [Value.cells]) (by decide) rfl _ _ rfl w.heap.size A (lensP (ps.take k2)) c (allP (ps.take k2)) rfl HGo.out p.A p.n p.c p.l rfl HRow.out.1 HRow.out.2 (by omega) hbs ?_; intro A2 c2 w2 hG2 hg2 hr2 _; have HR2 : Hid (RelC2S w ps (.slice A2 (lensP (ps.take k2) + p.n) c2) (.int .i64 ((k2 : Int) + 1)) w2) := (Lib.hid ⟨k2 + 1, A2, c2, (by rw [HN.out]; exact hlt2), (by simp), (by rw [HSN.out]), (by rw [HSN.out, HAS.out]; exact hG2), below_gotR HB.out HB.out.size hg2 hr2 (Nat.le_refl _)⟩); clear hG2 hg2 hr2)
          go_roundw
          case rel => exact HR2.out
          case measure => simp [intOf]; omega
        · have e2 : ps.take k2 = ps := List.take_of_length_le (by rw [HN.out]; omega)
          rw [e2] at hG ⊢
          have HGo := Lib.hid hG
          clear hG e2 hle
          go_wp2
          go_ret
          exact ⟨⟨A, c, by rw [HS.out]; rfl, HGo.out⟩, hb⟩

end Go.Proofs.YtdkkpcbebhgbiaaGreatDoor

/- The walks over hier's natives, builtIns. -/
namespace Go.Proofs.YtdkkpcbebhgbiaaGreatDoor
set_option maxRecDepth 100000
open Go.RowKit

theorem rowS_blk {α : Type} {R : RepT α} {w : World} {g : Nat} {t : TypeId} {cs : Array Value} {n : Nat} {l : List α} {C : α → List Value} (h : Blk w g t cs) (hC : ∀ x, (C x).length = R.k) (hcs : cs = (l.flatMap C).toArray) (hn : l.length = n) (hm : n ≤ maxLen) (hr : ∀ x ∈ l, R.rep w Empty (C x) x) : RowS R w Empty (some ⟨g, 0, none⟩) n n l := by
  refine ⟨hn, Nat.le_refl _, hm, fun h => (by cases h), fun _ => ⟨g, 0, rfl, h.lt, fun h => h, fun i x hx => ⟨C x, fun j v hv => ?_, hr x (List.mem_of_getElem? hx)⟩⟩⟩
  have hj := (List.getElem?_eq_some_iff.1 hv).1
  rw [h.cell, hcs, Nat.zero_add]
  simp only [List.getElem?_toArray]
  rw [rows_at hC l i j x hx (by rw [← hC x]; exact hj)]
  exact hv

def natC (m : MeD) : List Value := [.bool m.static, .string (strB m.name), .string (strB m.desc), .int .i64 m.stack, .int .i64 m.locals, .slice none 0 0, .slice none 0 0, .slice none 0 0]
theorem nat_empty : ∀ m ∈ natL, m.traps = [] := by decide
theorem natives_any (w : World) : Calls Tryz.prog 106 #[] w fun e w' => e = .returned (.slice (some ⟨w.heap.size, 0, none⟩) 8 8) ∧ w' = w.alloc (.cells (natL.flatMap natC).toArray 41) := by
  go_enter Tryz.func106, Tryz.ntmps106
  go_wp2
  go_ret
  exact ⟨rfl, rfl⟩
theorem nat_row {w : World} {g : Nat} (h : Blk w g 41 (natL.flatMap natC).toArray) : RowS meW w Empty (some ⟨g, 0, none⟩) 8 8 natL :=
  rowS_blk (R := meW) (C := natC) h (fun _ => rfl) rfl rfl (by unfold maxLen; omega) (fun x hx => ⟨none, 0, 0, none, 0, 0, none, 0, 0, rfl, by rw [nat_empty x hx]; exact rowS_nil _ _ _, fun h => by cases h⟩)
def bltC (g : Nat) (u : UnD) : List Value := [.string (strB u.name), .string (strB u.super), .slice none 0 0, if u.name = cSys then .slice (some ⟨g, 0, none⟩) 8 8 else .slice none 0 0]
theorem builtIns_any (w : World) : Calls Tryz.prog 50 #[] w fun e w' => e = .returned (.slice (some ⟨w.heap.size + 1, 0, none⟩) 9 9) ∧ w' = (w.alloc (.cells (natL.flatMap natC).toArray 41)).alloc (.cells (builtL.flatMap (bltC w.heap.size)).toArray 82) := by
  have C1 := Lib.hid (natives_any w)
  go_enter Tryz.func50, Tryz.ntmps50
  go_wp2_with fail
  refine C1.out.mono ?_
  rintro e w' ⟨rfl, rfl⟩
  go_wp2
  go_ret
  exact ⟨rfl, rfl⟩
theorem built_row (w : World) : RowS unW ((w.alloc (.cells (natL.flatMap natC).toArray 41)).alloc (.cells (builtL.flatMap (bltC w.heap.size)).toArray 82)) Empty (some ⟨w.heap.size + 1, 0, none⟩) 9 9 builtL := by
  have hb : Blk ((w.alloc (.cells (natL.flatMap natC).toArray 41)).alloc (.cells (builtL.flatMap (bltC w.heap.size)).toArray 82)) (w.heap.size + 1) 82 (builtL.flatMap (bltC w.heap.size)).toArray := by
    have := Blk.new (w.alloc (.cells (natL.flatMap natC).toArray 41)) 82 (builtL.flatMap (bltC w.heap.size)).toArray
    rwa [World.size_alloc] at this
  have hn := nat_row ((Blk.new w 41 (natL.flatMap natC).toArray).alloc (.cells (builtL.flatMap (bltC w.heap.size)).toArray 82))
  refine rowS_blk (R := unW) (C := bltC w.heap.size) hb (fun _ => rfl) rfl rfl (by unfold maxLen; omega) (fun x hx => ?_)
  by_cases h : x.name = cSys
  · have hx2 : x = ⟨cSys, cObject, [], natL⟩ := by
      simp [builtL, faultU] at hx
      rcases hx with rfl | rfl | rfl | rfl | rfl | rfl | rfl | rfl | rfl <;> first | rfl | (exact absurd h (by decide))
    subst hx2
    refine ⟨none, 0, 0, some ⟨w.heap.size, 0, none⟩, 8, 8, ?_, rowS_nil _ _ _, hn⟩
    show bltC w.heap.size _ = _
    unfold bltC
    rw [if_pos rfl]
  · have hm : x.meths = [] := by
      rcases built_meths x hx with h1 | h1
      · exact h1
      · subst h1; exact absurd rfl h
    refine ⟨none, 0, 0, none, 0, 0, ?_, by rw [built_fields x hx]; exact rowS_nil _ _ _, by rw [hm]; exact rowS_nil _ _ _⟩
    show bltC w.heap.size _ = _
    unfold bltC
    rw [if_neg h]
theorem built_small : ∀ u ∈ builtL, SmallUn u := by
  intro u hu
  simp [builtL, faultU] at hu
  rcases hu with rfl | rfl | rfl | rfl | rfl | rfl | rfl | rfl | rfl <;> exact ⟨by decide, by decide, by decide, by decide, by decide, by decide, by decide⟩

end Go.Proofs.YtdkkpcbebhgbiaaGreatDoor

/- The walk over hier.New. -/
namespace Go.Proofs.YtdkkpcbebhgbiaaGreatDoor
set_option maxRecDepth 100000
open Go.RowKit

/-- What New answers. -/
def NewD (l : List UnD) (w w' : World) (e : Ending) : Prop :=
  (okP l = true → ∃ p, e = .returned (.tuple #[.pointer (some ⟨p, 0, none⟩), .int .i64 0]) ∧ WAt w' p (builtL ++ l)) ∧ (okP l = false → e = .returned (.tuple #[.pointer none, .int .i64 15])) ∧ Below w.heap.size w w'
theorem un_one {full : Bool} {w : World} {Z : Nat → Prop} {cs : List Value} {x : UnD} (h : (unT full).rep w Z cs x) : ∀ v ∈ cs, v.oneCell' = true := by
  obtain ⟨Af, nf, cf, Am, nm, cm, rfl, _⟩ := h
  intro v hv
  simp at hv
  rcases hv with rfl | rfl | rfl | rfl <;> rfl
set_option maxHeartbeats 4000000 in
theorem new_any (w : World) (l : List UnD) (A : Option Addr) (n cap : Nat) (hR : RowS unW w Empty A n cap l) (hn : n ≤ 1000000) (hsm : ∀ u ∈ l, SmallUn u) :
    Calls Tryz.prog 12 #[.slice A n cap] w fun e w' => NewD l w w' e := by
  have hlen := hR.1
  have hnc := hR.2.1
  have hcm := hR.2.2.1
  unfold maxLen at hcm
  by_cases hgt : 32 < n
  · have HO : Hid (okP l = false) := Lib.hid (by unfold okP; rw [decide_eq_false (by omega)]; rfl)
    clear hR hlen hsm
    go_enter Tryz.func12, Tryz.ntmps12
    go_wp2
    go_ret2
    exact ⟨fun h => (by rw [HO.out] at h; cases h), fun _ => rfl, Below.refl _ _⟩
  · -- the built-in classes and these
    obtain ⟨W1, hW1⟩ : ∃ W1, (w.alloc (.cells (natL.flatMap natC).toArray 41)).alloc (.cells (builtL.flatMap (bltC w.heap.size)).toArray 82) = W1 := ⟨_, rfl⟩
    have hb1 : Below w.heap.size w W1 := by rw [← hW1]; exact ((Below.refl _ _).alloc (Nat.le_refl _) _).alloc (by simp) _
    have hs1 : W1.heap.size = w.heap.size + 1 + 1 := by rw [← hW1]; simp
    have hBR : RowS unW W1 Empty (some ⟨w.heap.size + 1, 0, none⟩) 9 9 builtL := by rw [← hW1]; exact built_row w
    have C1 := Lib.hid (builtIns_any w)
    rw [hW1] at C1
    clear hW1
    obtain ⟨r1, hr1, hp1⟩ := raw_of_rowS (R := unW) un_one (hBR.below ((Below.refl _ _).alloc (Nat.le_refl _) (.cells #[.slice (some ⟨w.heap.size + 1, 0, none⟩) 9 9, .slice A n cap] 28)))
    obtain ⟨r2, hr2, hp2⟩ := raw_of_rowS (R := unW) un_one ((hR.below hb1).below ((Below.refl _ _).alloc (Nat.le_refl _) (.cells #[.slice (some ⟨w.heap.size + 1, 0, none⟩) 9 9, .slice A n cap] 28)))
    obtain ⟨W2, hW2⟩ : ∃ W2, W1.alloc (.cells #[.slice (some ⟨w.heap.size + 1, 0, none⟩) 9 9, .slice A n cap] 28) = W2 := ⟨_, rfl⟩
    have hb2 : Below W1.heap.size W1 W2 := by rw [← hW2]; exact (Below.refl _ _).alloc (Nat.le_refl _) _
    have k2 : Blk W2 W1.heap.size 28 #[.slice (some ⟨w.heap.size + 1, 0, none⟩) 9 9, .slice A n cap] := by rw [← hW2]; exact Blk.new _ _ _
    rw [hW2] at hr1 hp1 hr2 hp2
    have hps : PartsU W2 W1.heap.size [⟨some ⟨w.heap.size + 1, 0, none⟩, 9, 9, r1⟩, ⟨A, n, cap, r2⟩] := by
      refine ⟨fun i p hp => ?_, fun p hp => ?_, k2.lt⟩
      · rw [k2.cell]
        rcases i with _ | _ | i
        · simp at hp; subst hp; rfl
        · simp at hp; subst hp; rfl
        · simp at hp
      · simp at hp
        rcases hp with rfl | rfl
        · exact ⟨hr1, fun h => (by cases h)⟩
        · exact ⟨hr2, hR.2.2.2.1⟩
    have C2 := concatU_any W2 W1.heap.size [⟨some ⟨w.heap.size + 1, 0, none⟩, 9, 9, r1⟩, ⟨A, n, cap, r2⟩] 2 hps (by simp) (by simp) (by simp [lensP]; omega) (by simp [lensP]; omega)
    have e1 : lensP [(⟨some ⟨w.heap.size + 1, 0, none⟩, 9, 9, r1⟩ : Part (Raw 4)), ⟨A, n, cap, r2⟩] = 9 + n := by simp [lensP]
    have e2 : allP [(⟨some ⟨w.heap.size + 1, 0, none⟩, 9, 9, r1⟩ : Part (Raw 4)), ⟨A, n, cap, r2⟩] = r1 ++ r2 := by show r1 ++ (r2 ++ []) = r1 ++ r2; rw [List.append_nil]
    have e3 : [(⟨some ⟨w.heap.size + 1, 0, none⟩, 9, 9, r1⟩ : Part (Raw 4)), ⟨A, n, cap, r2⟩].length = 2 := rfl
    rw [e1, e2, e3, hs1] at C2
    have HC2 := Lib.hid C2
    have hp12 : RepL unW W2 (r1 ++ r2) (builtL ++ l) := hp1.app hp2
    have HP12 := Lib.hid hp12
    have hsmall : ∀ u ∈ builtL ++ l, SmallUn u := fun u hu => (List.mem_append.1 hu).elim (built_small u) (hsm u)
    have HSM := Lib.hid hsmall
    have HB2 : Hid (Below w.heap.size w W2) := Lib.hid (hb1.trans (hb2.mono hb1.size))
    have HR := Lib.hid hR
    have HLEN := Lib.hid hlen
    have HW2 := Lib.hid hW2
    have hokd : okP l = (decide (((builtL ++ l).map (·.name)).Nodup) && l.all (mayBeP (builtL ++ l))) := by unfold okP; rw [decide_eq_true (by omega)]; rfl
    have HOK := Lib.hid hokd
    clear hb1 hBR hr1 hp1 hr2 hp2 hW2 hb2 k2 hps C2 e1 e2 e3 hp12 hsmall hR hlen hokd hsm
    go_enter Tryz.func12, Tryz.ntmps12
    go_wp2_with fail
    refine C1.out.mono ?_
    rintro e w1 ⟨rfl, rfl⟩
    go_wp2_with fail
    rw [HW2.out]
    go_wp2_with fail
    refine HC2.out.mono ?_
    rintro e w3 ⟨⟨A3, c3, rfl, hG⟩, hb⟩
    have hR3 : RowS unW w3 Empty A3 (9 + n) c3 (builtL ++ l) := rowS_of_raw hG.row hG.isNil (HP12.out.below hb)
    have HB3 : Hid (Below w.heap.size w w3) := Lib.hid (HB2.out.trans (hb.mono HB2.out.size))
    have HR3 := Lib.hid hR3
    clear hG hb hR3
    go_wp2_with fail
    refine (worldOf_any w3 (builtL ++ l) A3 (9 + n) c3 HR3.out (by omega) HSM.out).mono ?_
    rintro e w4 ⟨rfl, hM, hb⟩
    have HM := Lib.hid hM
    have HB34 := Lib.hid hb
    have HB4 : Hid (Below w.heap.size w w4) := Lib.hid (HB3.out.trans (hb.mono HB3.out.size))
    have HR4 : Hid (RowS unW w4 Empty A3 (9 + n) c3 (builtL ++ l)) := Lib.hid (HR3.out.below hb)
    clear hM hb
    have C5 := ownU_any w4 (builtL ++ l) A3 (9 + n) c3 HR4.out (by omega) (fun x hx => (HSM.out x hx).name)
    cases hd : decide (((builtL ++ l).map (·.name)).Nodup) with
    | false =>
      rw [hd] at C5
      have HC5 := Lib.hid C5
      have HO : Hid (okP l = false) := Lib.hid (by rw [HOK.out, hd]; rfl)
      clear C5 hd
      go_wp2_with fail
      refine HC5.out.mono ?_
      rintro e w5 ⟨rfl, hb⟩
      go_wp2
      go_ret2
      exact ⟨fun h => (by rw [HO.out] at h; cases h), fun _ => rfl, HB4.out.trans (hb.mono HB4.out.size)⟩
    | true =>
      rw [hd] at C5
      have HC5 := Lib.hid C5
      have hO : okP l = l.all (mayBeP (builtL ++ l)) := by rw [HOK.out, hd]; rfl
      have HWA : Hid (WAt w4 (w3.heap.size + 1 + 1 + 1) (builtL ++ l)) := Lib.hid (HM.out.at_ (of_decide_eq_true hd) HSM.out (by rw [List.length_append, HLEN.out, built_len]; omega))
      have C6 := Lib.hid (fun (W : World) (h : Below w4.heap.size w4 W) => allU_any (w3.heap.size + 1 + 1 + 1) w4.heap.size w4 W l (mayBeP (builtL ++ l)) (fun W' x Af nf cf Am nm cm hb hx hr => by
        obtain ⟨_, _, _, _, _, _, he, hF, hMe⟩ := hr
        simp only [List.cons.injEq, Value.slice.injEq, and_true, true_and] at he
        obtain ⟨⟨rfl, rfl, rfl⟩, rfl, rfl, rfl⟩ := he
        exact mayBe_any (w3.heap.size + 1 + 1 + 1) (builtL ++ l) x Af nf cf Am nm cm W' (HWA.out.below hb) hF hMe (HSM.out x (List.mem_append_right _ hx))) h (Nat.le_refl _) A n cap (HR.out.below (HB4.out.trans (h.mono HB4.out.size))) (by omega))
      cases ha : l.all (mayBeP (builtL ++ l)) with
      | false =>
        rw [ha] at C6
        have HO : Hid (okP l = false) := Lib.hid (by rw [hO, ha])
        clear C5 hd ha hO
        go_wp2_with fail
        refine HC5.out.mono ?_
        rintro e w5 ⟨rfl, hb⟩
        have HB5 := Lib.hid hb
        clear hb
        go_wp2_with fail
        refine (C6.out _ HB5.out).mono ?_
        rintro e w6 ⟨rfl, hb⟩
        go_wp2
        go_ret2
        exact ⟨fun h => (by rw [HO.out] at h; cases h), fun _ => rfl, HB4.out.trans ((HB5.out.trans (hb.mono HB5.out.size)).mono HB4.out.size)⟩
      | true =>
        rw [ha] at C6
        have HO : Hid (okP l = true) := Lib.hid (by rw [hO, ha])
        clear C5 hd ha hO
        go_wp2_with fail
        refine HC5.out.mono ?_
        rintro e w5 ⟨rfl, hb⟩
        have HB5 := Lib.hid hb
        clear hb
        go_wp2_with fail
        refine (C6.out _ HB5.out).mono ?_
        rintro e w6 ⟨rfl, hb⟩
        have HB6 : Hid (Below w4.heap.size w4 w6) := Lib.hid (HB5.out.trans (hb.mono HB5.out.size))
        clear hb
        go_wp2
        go_ret2
        exact ⟨fun _ => ⟨_, rfl, HWA.out.below HB6.out⟩, fun h => (by rw [HO.out] at h; cases h), HB4.out.trans (HB6.out.mono HB4.out.size)⟩

end Go.Proofs.YtdkkpcbebhgbiaaGreatDoor

/- A unit's rows; a unit as a row of its own. -/
namespace Go.Proofs.YtdkkpcbebhgbiaaGreatDoor
set_option maxRecDepth 100000
open Go.RowKit

/-- Its rows. -/
def UnAt4 (w : World) (x : UnD) (Af : Option Addr) (nf cf : Nat) (Am : Option Addr) (nm cm : Nat) : Prop := RowS fdT w Empty Af nf cf x.fields ∧ RowS (meT false) w Empty Am nm cm x.meths
def rawU (x : UnD) (Af : Option Addr) (nf cf : Nat) (Am : Option Addr) (nm cm : Nat) : Raw 4 := ⟨[.string (strB x.name), .string (strB x.super), .slice Af nf cf, .slice Am nm cm], rfl, by simp [Value.oneCell']⟩
theorem rawU_rep {w : World} {x : UnD} {Af : Option Addr} {nf cf : Nat} {Am : Option Addr} {nm cm : Nat} (h : UnAt4 w x Af nf cf Am nm cm) : RepL unW w [rawU x Af nf cf Am nm cm] [x] :=
  ⟨rfl, fun i r y h1 h2 => by
    cases i with
    | succ i => exact nomatch (show (none : Option (Raw unW.k)) = some r from h1)
    | zero =>
      have e1 : rawU x Af nf cf Am nm cm = r := Option.some.inj h1
      have e2 : x = y := Option.some.inj h2
      subst e1; subst e2
      exact ⟨Af, nf, cf, Am, nm, cm, rfl, h.1, h.2⟩⟩
theorem unAt_nil (w : World) (n s : Bs) : UnAt4 w ⟨n, s, [], []⟩ none 0 0 none 0 0 := ⟨rowS_nil _ _ _, rowS_nil _ _ _⟩

end Go.Proofs.YtdkkpcbebhgbiaaGreatDoor

/- The walk over the law's fixed calls (layer 16). -/
namespace Go.Proofs.YtdkkpcbebhgbiaaGreatDoor
set_option maxRecDepth 100000
open Go.RowKit

theorem ok_nil : okP [] = true := by decide +kernel
theorem ok_bad : okP [⟨cObject, cObject, [], []⟩] = false := by decide +kernel
theorem fix_super : findU (builtL ++ []) cThrowable = some ⟨cThrowable, cObject, [], []⟩ := by rfl
theorem fix_is : isB (builtL ++ []) cThrowable cObject = true := by decide +kernel
theorem fix_goes1 : goesP (builtL ++ []) [78] [91, 73] = true := by decide +kernel
theorem fix_goes2 : goesP (builtL ++ []) [91, 73] [91, 66] = false := by decide +kernel
theorem fix_native : nativeB (builtL ++ []) cSys [112, 114, 105, 110, 116] [40, 73, 41, 86] = true := by decide +kernel

theorem new_bad (W : World) : Calls Tryz.prog 12 #[.slice (some ⟨W.heap.size, 0, none⟩) 1 1] (W.alloc (.cells #[.string (strB cObject), .string (strB cObject), .slice none 0 0, .slice none 0 0] 82)) fun e w' => e = .returned (.tuple #[.pointer none, .int .i64 15]) ∧ Below W.heap.size W w' := by
  have hal : Below W.heap.size W (W.alloc (.cells #[.string (strB cObject), .string (strB cObject), .slice none 0 0, .slice none 0 0] 82)) := (Below.refl _ _).alloc (Nat.le_refl _) _
  have hR : RowS unW (W.alloc (.cells #[.string (strB cObject), .string (strB cObject), .slice none 0 0, .slice none 0 0] 82)) Empty (some ⟨W.heap.size, 0, none⟩) 1 1 [⟨cObject, cObject, [], []⟩] :=
    rowS_of_raw (RowSl.lit rawC_len W Empty 82 [rawU ⟨cObject, cObject, [], []⟩ none 0 0 none 0 0] 1 [.string (strB cObject), .string (strB cObject), .slice none 0 0, .slice none 0 0] rfl rfl (by decide) (fun h => h)) (fun h => by cases h) (rawU_rep (unAt_nil _ _ _))
  refine (new_any _ _ _ _ _ hR (by decide) (fun u hu => ?_)).mono (fun e w' h => ⟨h.2.1 ok_bad, hal.trans (h.2.2.mono hal.size)⟩)
  obtain rfl : u = ⟨cObject, cObject, [], []⟩ := by simpa using hu
  exact SmallUn.mk (by decide) (by decide) (by decide) (by decide) (fun f hf => absurd hf List.not_mem_nil) (fun f hf => absurd hf List.not_mem_nil) (fun f hf => absurd hf List.not_mem_nil)

set_option maxHeartbeats 4000000 in
theorem fixed16_any (w : World) : Calls Tryz.prog 11 #[] w fun e w' => e = .returned (.bool true) ∧ Below w.heap.size w w' := by
  have C1 := Lib.hid (new_any w [] none 0 0 (rowS_nil _ _ _) (by decide) (fun u h => by cases h))
  have C2 := Lib.hid (fun W => new_bad W)
  have q1 : (strB cObject).toList = [79, 98, 106, 101, 99, 116] := by rw [strB_toList]; rfl
  have q2 : ((strB cObject).toList == [79, 98, 106, 101, 99, 116]) = true := by rw [q1]; rfl
  go_enter Tryz.func11, Tryz.ntmps11
  go_wp2_with fail
  refine C1.out.mono ?_
  rintro e w1 ⟨hy, _, hb⟩
  obtain ⟨p, rfl, hW⟩ := hy ok_nil
  have HB1 := Lib.hid hb
  have HW1 := Lib.hid hW
  clear hy hb hW C1
  go_wp2_with fail
  refine (C2.out _).mono ?_
  rintro e w2 ⟨rfl, hb⟩
  have HB2 := Lib.hid (HB1.out.trans (hb.mono HB1.out.size))
  have HW2 := Lib.hid (HW1.out.below hb)
  clear hb HB1 HW1 C2
  have C3 := Lib.hid (super_any p (builtL ++ []) cThrowable w2 HW2.out (by decide))
  rw [fix_super] at C3
  unfold supV at C3
  go_wp2_with fail
  refine C3.out.mono ?_
  rintro e w3 ⟨rfl, hb⟩
  have HB3 := Lib.hid (HB2.out.trans (hb.mono HB2.out.size))
  have C4 := Lib.hid (is_any p (builtL ++ []) cThrowable cObject w3 (HW2.out.below hb) (by decide))
  rw [fix_is] at C4
  have HW3 := Lib.hid (HW2.out.below hb)
  clear hb
  go_wp2_with fail
  refine C4.out.mono ?_
  rintro e w4 ⟨rfl, hb⟩
  have HB4 := Lib.hid (HB3.out.trans (hb.mono HB3.out.size))
  have HW4 := Lib.hid (HW3.out.below hb)
  clear hb
  have C5 := Lib.hid (goes_any p (builtL ++ []) [78] [91, 73] w4 HW4.out (by decide) (by decide))
  rw [fix_goes1] at C5
  go_wp2_with fail
  refine C5.out.mono ?_
  rintro e w5 ⟨rfl, hb⟩
  have HB5 := Lib.hid (HB4.out.trans (hb.mono HB4.out.size))
  have HW5 := Lib.hid (HW4.out.below hb)
  clear hb
  have C6 := Lib.hid (goes_any p (builtL ++ []) [91, 73] [91, 66] w5 HW5.out (by decide) (by decide))
  rw [fix_goes2] at C6
  go_wp2_with fail
  refine C6.out.mono ?_
  rintro e w6 ⟨rfl, hb⟩
  have HB6 := Lib.hid (HB5.out.trans (hb.mono HB5.out.size))
  have HW6 := Lib.hid (HW5.out.below hb)
  clear hb
  have C7 := Lib.hid (native_any p (builtL ++ []) cSys [112, 114, 105, 110, 116] [40, 73, 41, 86] w6 HW6.out (by decide) (by decide) (by decide))
  rw [fix_native] at C7
  go_wp2_with fail
  refine C7.out.mono ?_
  rintro e w7 ⟨rfl, hb⟩
  have HB7 := Lib.hid (HB6.out.trans (hb.mono HB6.out.size))
  clear hb
  go_wp2
  go_ret
  exact ⟨rfl, HB7.out⟩

end Go.Proofs.YtdkkpcbebhgbiaaGreatDoor
