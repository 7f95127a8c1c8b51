/- Of wear's Next and Oldest, and of the document's: contracts. -/
import Derived.Test.YtnhfmcijadficaaGreatDoorZaq
import Derived.BigQuiet
import Derived.Test.YtnhfmcijadficaaGreatDoorZap
import Derived.BigRegion
namespace Go.Proofs.YtnhfmcijadficaaGreatDoor
set_option maxRecDepth 100000
open Go.RowKit

theorem next_any (A : Option Addr) (n cap : Nat) (l : List Sc) (lim : Int) (w : World) (hS : Secs w Empty A n cap l) (hm : n ≤ 1048576) (r : Option Nat) (hr : best (opensB lim) Sc.er l n = r) :
    Calls Tryz.prog 160 #[.slice A n cap, .int .i64 lim] w fun e w' => e = .returned (.tuple #[placeV r, .bool r.isSome]) ∧ Below w.heap.size w w' := by
  have HS := Lib.hid hS
  have Hr := Lib.hid hr
  clear hS hr
  go_enter Tryz.func160, Tryz.ntmps160
  go_wp2_with fail
  refine (canOpen_any lim _).mono ?_
  rintro e1 w1 ⟨rfl, hb1, hk1⟩
  have HB := Lib.hid hb1
  have HK := Lib.hid hk1
  have HS1 := Lib.hid (HS.out.only (Only.of_below (S := Empty) hb1) (fun _ _ h => h))
  clear hb1 hk1
  go_wp2_with fail
  refine (leastI_any A n cap l lim w.heap.size w1 HS1.out HK.out hm r Hr.out).mono ?_
  rintro e2 w2 ⟨rfl, hb2⟩
  have HB2 := Lib.hid (HB.out.trans (hb2.mono HB.out.size))
  clear hb2
  unfold placeV
  go_wp2_with fail
  refine bodyPost_ret (v := .tuple #[placeV r, .bool r.isSome]) (by simp [results, Tryz.results160, go_sem, placeV]) rfl ?_
  exact ⟨rfl, HB2.out⟩

theorem oldest_any (A : Option Addr) (n cap : Nat) (l : List Sc) (w : World) (hS : Secs w Empty A n cap l) (hm : n ≤ 1048576) (r : Option Nat) (hr : best usedB Sc.q l n = r) :
    Calls Tryz.prog 163 #[.slice A n cap] w fun e w' => e = .returned (.tuple #[placeV r, .bool r.isSome]) ∧ Below w.heap.size w w' := by
  have HS := Lib.hid hS
  have Hr := Lib.hid hr
  clear hS hr
  go_enter Tryz.func163, Tryz.ntmps163
  go_wp2_with fail
  refine (leastU_any A n cap l w HS.out hm r Hr.out).mono ?_
  rintro e2 w2 ⟨rfl, hb2⟩
  have HB2 := Lib.hid hb2
  clear hb2
  unfold placeV
  go_wp2_with fail
  refine bodyPost_ret (v := .tuple #[placeV r, .bool r.isSome]) (by simp [results, Tryz.results163, go_sem, placeV]) rfl ?_
  exact ⟨rfl, HB2.out⟩

end Go.Proofs.YtnhfmcijadficaaGreatDoor

/- How many can be opened, how unevenly they are worn: as plain data, and the walks. -/
namespace Go.Proofs.YtnhfmcijadficaaGreatDoor
set_option maxRecDepth 100000
open Go.RowKit

theorem countP_take_snoc (l : List Sc) (p : Sc → Bool) (i : Nat) (s : Sc) (h : l[i]? = some s) : (l.take (i + 1)).countP p = (l.take i).countP p + (if p s = true then 1 else 0) := by
  rw [take_one l i s h, List.countP_append, List.countP_singleton]

set_option maxHeartbeats 1000000 in
theorem free_any (A : Option Addr) (n cap : Nat) (l : List Sc) (lim : Int) (w : World) (hS : Secs w Empty A n cap l) (hm : n ≤ 1048576) :
    Calls Tryz.prog 38 #[.slice A n cap, .int .i64 lim] w fun e w' => e = .returned (.int .i64 ((l.countP (opensB lim) : Nat) : Int)) ∧ Below w.heap.size w w' := by
  have HS := Lib.hid hS
  have hcap := hS.2.1
  have hcap2 : cap ≤ 9223372036854775807 := by have := hS.2.2.1; unfold maxLen at this; omega
  clear hS
  go_enter Tryz.func38, Tryz.ntmps38
  go_wp2_with fail
  refine (canOpen_any lim _).mono ?_
  rintro e1 w1 ⟨rfl, hb1, hk1⟩
  have HB1 := Lib.hid (Only.of_below (S := Empty) hb1)
  have HK := Lib.hid hk1
  clear hb1 hk1
  go_wp2_with fail
  go_loopw [5, 13] (fun v5 v wr => ∃ i : Nat, i ≤ n ∧ v5 = .int .i64 (((l.take i).countP (opensB lim) : Nat) : Int) ∧ v = .int .i64 (i : Int) ∧ Hid (Only Empty w wr) ∧ Hid (Blk wr w.heap.size 3 #[.int .i64 lim])) (fun _ v _ => n - (intOf v).toNat)
  case atStart => exact ⟨0, Nat.zero_le _, by simp, rfl, HB1, HK⟩
  case round =>
    obtain ⟨i, hi, rfl, rfl, HB, HKr⟩ := hrel
    clear HB1 HK
    by_cases hlt : i < n
    · obtain ⟨b, f0, rfl, hb, -, hcl⟩ := HS.out.2.2.2 (by omega)
      obtain ⟨f, hf⟩ : ∃ f, l[i]? = some f := ⟨_, List.getElem?_eq_getElem (by have := HS.out.1; omega)⟩
      have hc := hcl i f hf
      have hcnt := countP_take_snoc l (opensB lim) i f hf
      have hle : (l.take i).countP (opensB lim) ≤ i := Nat.le_trans List.countP_le_length (by rw [List.length_take]; exact Nat.min_le_left _ _)
      obtain ⟨c, hcd⟩ : ∃ c, (l.take i).countP (opensB lim) = c := ⟨_, rfl⟩
      rw [hcd] at hcnt hle ⊢
      obtain ⟨st, q, er⟩ := f
      have d0 : wr.cell? ⟨b, f0 + i * 3, none⟩ = some (.int .i64 st) := (HB.out.cell (p := ⟨b, f0 + i * 3 + 0, none⟩) hb (fun h => h)).trans (hc 0 (by omega))
      have d1 : wr.cell? ⟨b, f0 + i * 3 + 1, none⟩ = some (.int .u32 q) := (HB.out.cell (p := ⟨b, f0 + i * 3 + 1, none⟩) hb (fun h => h)).trans (hc 1 (by omega))
      have d2 : wr.cell? ⟨b, f0 + i * 3 + 2, none⟩ = some (.int .i64 er) := (HB.out.cell (p := ⟨b, f0 + i * 3 + 2, none⟩) hb (fun h => h)).trans (hc 2 (by omega))
      have N1 := canOpen1_any st q er lim w.heap.size _ (HKr.out.alloc (.cells #[.int .i64 st, .int .u32 q, .int .i64 er] 96))
      have HO := Lib.hid (HB.out.alloc (.cells #[.int .i64 st, .int .u32 q, .int .i64 er] 96))
      have HK1 := Lib.hid (HKr.out.alloc (.cells #[.int .i64 st, .int .u32 q, .int .i64 er] 96))
      clear hc hcl hf hcd
      cases hmay : opensB lim ⟨st, q, er⟩ with
      | false =>
        rw [hmay] at N1 hcnt
        have N2 := Lib.hid N1
        have Hcnt := Lib.hid hcnt
        clear N1 hcnt hmay
        go_wp2_with fail
        refine N2.out.mono ?_
        rintro e2 w2 ⟨rfl, hb2⟩
        have HO2 := Lib.hid (HO.out.trans (Only.of_below hb2))
        have HK2 := Lib.hid (HK1.out.of (hb2.block w.heap.size HK1.out.lt))
        clear hb2
        go_wp2_with fail
        go_roundw
        case rel => exact ⟨i + 1, by omega, by rw [Hcnt.out]; rfl, by go_num, HO2, HK2⟩
        case measure => simp [intOf]; omega
      | true =>
        rw [hmay] at N1 hcnt
        have N2 := Lib.hid N1
        have Hcnt := Lib.hid hcnt
        clear N1 hcnt hmay
        go_wp2_with fail
        refine N2.out.mono ?_
        rintro e2 w2 ⟨rfl, hb2⟩
        have HO2 := Lib.hid (HO.out.trans (Only.of_below hb2))
        have HK2 := Lib.hid (HK1.out.of (hb2.block w.heap.size HK1.out.lt))
        clear hb2
        go_wp2_with fail
        go_roundw
        case rel => exact ⟨i + 1, by omega, by rw [Hcnt.out, if_pos trivial]; go_num, by go_num, HO2, HK2⟩
        case measure => simp [intOf]; omega
    · obtain rfl : i = n := by omega
      have ht : l.take i = l := List.take_of_length_le (by rw [HS.out.1]; omega)
      rw [ht]
      go_wp2_with fail
      go_ret
      exact ⟨rfl, HB.out.below (Nat.le_refl _) (fun _ _ h => h)⟩


end Go.Proofs.YtnhfmcijadficaaGreatDoor

/- Rows of sectors that a call makes: a literal's block, a row that has grown. -/
namespace Go.Proofs.YtnhfmcijadficaaGreatDoor
set_option maxRecDepth 100000
open Go.RowKit

theorem secs_at : ∀ (l : List Sc) (i j : Nat) (f : Sc), l[i]? = some f → j < 3 → (l.flatMap Sc.cells)[i * 3 + j]? = f.cells[j]?
  | [], i, j, f, h, _ => by simp at h
  | g :: l, 0, j, f, h, hj => by
    simp at h
    subst h
    rw [List.flatMap_cons, Nat.zero_mul, Nat.zero_add, List.getElem?_append_left (by rw [Sc.cells_len]; exact hj)]
  | g :: l, i + 1, j, f, h, hj => by
    simp at h
    rw [List.flatMap_cons, List.getElem?_append_right (by rw [Sc.cells_len]; omega), Sc.cells_len, show (i + 1) * 3 + j - 3 = i * 3 + j by omega]
    exact secs_at l i j f h hj
theorem secs_len : ∀ l : List Sc, (l.flatMap Sc.cells).length = l.length * 3
  | [] => rfl
  | g :: l => by
    rw [List.flatMap_cons, List.length_append, secs_len l, List.length_cons, Sc.cells_len]
    omega

theorem Secs.of_blk {w : World} {S : Nat → Prop} {g n cap : Nat} {cs : Array Value} {l : List Sc} (h : Blk w g 96 cs) (hn : l.length = n) (hc : n ≤ cap) (hm : cap ≤ maxLen) (hl : ∀ j, j < n * 3 → cs[j]? = (l.flatMap Sc.cells)[j]?) (hS : ¬ S g) :
    Secs w S (some ⟨g, 0, none⟩) n cap l :=
  ⟨hn, hc, hm, fun _ => ⟨g, 0, rfl, h.lt, hS, fun i f hf j hj => by
    have hi : i < l.length := (List.getElem?_eq_some_iff.1 hf).1
    rw [h.cell, Nat.zero_add, hl _ (by omega), secs_at l i j f hf hj]⟩⟩

/-- A row that the call has made reads as what it laid. -/
theorem Secs.of_own {w : World} {S : Nat → Prop} {base n : Nat} {v : Value} {l : List Sc} (h : w.ownsRow base 96 3 v n (l.flatMap Sc.cells)) (hn : l.length = n) (hS : ∀ k, base ≤ k → k < w.heap.size → ¬ S k) :
    ∃ A cap, v = .slice A n cap ∧ Secs w S A n cap l ∧ (0 < n → ∃ g, A = some ⟨g, 0, none⟩ ∧ base ≤ g ∧ ∃ cur, Blk w g 96 cur ∧ ∀ j, j < n * 3 → cur[j]? = (l.flatMap Sc.cells)[j]?) := by
  rcases h.2 with ⟨rfl, h0⟩ | ⟨g, cap, cur, rfl, hg, hh, hnc, hm, hs, ht⟩
  · subst h0
    exact ⟨none, 0, rfl, ⟨hn, Nat.le_refl _, by simp [maxLen], fun h0 => absurd h0 (by omega)⟩, fun h0 => absurd h0 (by omega)⟩
  · have hlt : g < w.heap.size := (Array.getElem?_eq_some_iff.1 hh).1
    have hb : Blk w g 96 cur := hh
    have hat : ∀ j, j < n * 3 → cur[j]? = (l.flatMap Sc.cells)[j]? := fun j hj => by
      have hl := secs_len l
      have hj2 : j < (l.flatMap Sc.cells).length := by rw [hl, hn]; exact hj
      have hc := h.cells (g := g) rfl j ((l.flatMap Sc.cells)[j]'hj2) (List.getElem?_eq_getElem hj2)
      have ha : (⟨g, 0, none⟩ : Addr).add j = ⟨g, j, none⟩ := by unfold Addr.add; split <;> simp_all
      rw [ha, hb.cell] at hc
      rw [hc]
      exact (List.getElem?_eq_getElem hj2).symm
    exact ⟨_, cap, rfl, Secs.of_blk hb hn hnc hm hat (hS g hg hlt), fun _ => ⟨g, rfl, hg, cur, hb, hat⟩⟩

theorem Tryz.infoSector : (Tryz.prog.info? 96).map (fun i => (i.zero, i.size, i.bytes)) = some (some (.agg #[.int .i64 0, .int .u32 0, .int .i64 0]), 3, 24) := by kernel_rfl

theorem Secs.news {w : World} {S : Nat → Prop} {ad : Addr} {m c : Nat} {l : List Sc} (h : Secs w S (some ad) m c l) : ∀ j u, (l.flatMap Sc.cells)[j]? = some u → w.cell? (ad.add j) = some u := by
  intro j u hj
  have hl := secs_len l
  have hlt := (List.getElem?_eq_some_iff.1 hj).1
  rw [hl, h.1] at hlt
  obtain ⟨b, o, e, _, _, hc⟩ := h.2.2.2 (by omega)
  cases e
  have hi : j / 3 < l.length := by rw [h.1]; omega
  have h1 := hc (j / 3) (l[j / 3]'hi) (List.getElem?_eq_getElem hi) (j % 3) (by omega)
  have h2 := secs_at l (j / 3) (j % 3) (l[j / 3]'hi) (List.getElem?_eq_getElem hi) (by omega)
  rw [show j / 3 * 3 + j % 3 = j by omega] at h2
  rw [add_off, show o + j = o + j / 3 * 3 + j % 3 by omega, h1, ← h2, hj]
theorem secs_one (l : List Sc) : ∀ u ∈ l.flatMap Sc.cells, u.oneCell' = true := by
  intro u hu
  obtain ⟨f, _, hf⟩ := List.mem_flatMap.1 hu
  simp only [Sc.cells, List.mem_cons, List.not_mem_nil, or_false] at hf
  rcases hf with rfl | rfl | rfl <;> rfl

/-- append of sectors that lie somewhere (a nil slice, too) onto a row of the call's own. -/
theorem wpList_append_secs {ops : Array Oper} {rest : List Oper} {q : Oper} {u : Act} {w : World} {Q : Exit → Act → World → Prop} (hgd : q.guard = none) (s x : Operand)
    (hq : q.op = .call { callee := .builtin .append, args := #[s, x], argTypes := #[84, 84] })
    (base : Nat) (v : Value) (hs : u.eval s = v) (k : Nat) (zs : List Sc) (hown : w.ownsRow base 96 3 v k (zs.flatMap Sc.cells)) (A : Option Addr) (m c : Nat) (l : List Sc) (S : Nat → Prop)
    (hx : u.eval x = .slice A m c) (hB : Secs w S A m c l) (hn : A = none → m = 0 ∧ c = 0) (hm : k + m ≤ 1048576) (hbase : base ≤ w.heap.size)
    (h : ∀ v' w', w'.ownsRow base 96 3 v' (k + m) ((zs ++ l).flatMap Sc.cells) → w.grownBy w' v.ownBlock → wpList Tryz.prog ops Q rest (u.put q.dst v') w') : wpList Tryz.prog ops Q (q :: rest) u w := by
  obtain ⟨i0, hi, hz0, hz1, hz2⟩ := info_parts Tryz.infoSector
  rcases A with _ | ad
  · obtain ⟨rfl, rfl⟩ := hn rfl
    have hys : l = [] := List.eq_nil_of_length_eq_zero hB.1
    subst hys
    exact wpList_append_own_none hgd s x 84 hq base 96 i0 3 Tryz.underlying84 hi v k (zs.flatMap Sc.cells) hs hown hx (h v w (by simpa using hown) (World.grownBy.refl w _))
  · refine wpList_append_own_at _ hgd s x 84 hq base 96 i0 _ 3 24 Tryz.underlying84 hi hz0 hz1 hz2 (by simp [Value.cells]) (by decide) v k (zs.flatMap Sc.cells) hs hown ad m c (l.flatMap Sc.cells) hx (by rw [secs_len, hB.1]) hB.news (secs_one l) (by unfold maxLen; omega) (by omega) hbase ?_
    intro v' w' h1 h2 _ _
    exact h v' w' (by rw [List.flatMap_append]; exact h1) h2

/-- A row that was just made, with no sectors. -/
theorem own_secs (w : World) (base : Nat) (h : base ≤ w.heap.size) : (w.alloc (.cells #[] 96)).ownsRow base 96 3 (.slice (some ⟨w.heap.size, 0, none⟩) 0 0) 0 (([] : List Sc).flatMap Sc.cells) :=
  World.ownsRow_made w #[] 0 h (by decide) rfl

end Go.Proofs.YtnhfmcijadficaaGreatDoor
