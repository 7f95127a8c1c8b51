/- Sectors as plain data; the walks over what tells of one sector alone. -/
import Derived.Test.YtidbipbangifbaaGreatDoorZae
import Derived.Test.YtidbipbangifbaaGreatDoorZab
import Derived.BigRegion
namespace Go.Proofs.YtidbipbangifbaaGreatDoor
set_option maxRecDepth 100000
open Go.ChangeShapes Go.WideShapes Go.ChangeAt Go.RowKit Go.Joins

/-- A sector's three cells. -/
structure Sc where
  st : Int
  q : Int
  er : Int
def Sc.cells (s : Sc) : List Value := [.int .i64 s.st, .int .u32 s.q, .int .i64 s.er]
theorem Sc.cells_len (s : Sc) : s.cells.length = 3 := rfl

/-- Sectors that lie side by side: the slice value reads as them. -/
def Secs (w : World) (S : Nat → Prop) (A : Option Addr) (n cap : Nat) (l : List Sc) : Prop :=
  l.length = n ∧ n ≤ cap ∧ cap ≤ maxLen ∧ (0 < n → ∃ b o, A = some ⟨b, o, none⟩ ∧ b < w.heap.size ∧ ¬ S b ∧ ∀ i f, l[i]? = some f → ∀ j, j < 3 → w.cell? ⟨b, o + i * 3 + j, none⟩ = f.cells[j]?)

section
variable {w w' : World} {S T : Nat → Prop} {A : Option Addr} {n cap : Nat} {l : List Sc}
theorem Secs.only (h : Secs w S A n cap l) (k : Only T w w') (hT : ∀ i, i < w.heap.size → T i → S i) : Secs w' S A n cap l :=
  ⟨h.1, h.2.1, h.2.2.1, fun hn => by
    obtain ⟨b, o, e, hb, hs, hc⟩ := h.2.2.2 hn
    exact ⟨b, o, e, Nat.lt_of_lt_of_le hb k.size, hs, fun i f hf j hj => (k.cell (p := ⟨b, o + i * 3 + j, none⟩) hb (fun ht => hs (hT _ hb ht))).trans (hc i f hf j hj)⟩⟩
theorem Secs.mono (h : Secs w S A n cap l) (hT : ∀ i, i < w.heap.size → T i → S i) : Secs w T A n cap l :=
  ⟨h.1, h.2.1, h.2.2.1, fun hn => by
    obtain ⟨b, o, e, hb, hs, hc⟩ := h.2.2.2 hn
    exact ⟨b, o, e, hb, fun ht => hs (hT _ hb ht), hc⟩⟩
theorem Secs.nil_ (w : World) (S : Nat → Prop) (A : Option Addr) (cap : Nat) (h : cap ≤ maxLen) : Secs w S A 0 cap [] := ⟨rfl, Nat.zero_le _, h, fun h => absurd h (by omega)⟩
end

section
variable {H : Type} {enc : TypeId × Value → H} {W : World} {base : Nat}
theorem open_secs {v : Value} {d : DataW H} {p : List MemPlace} (hv : Value.okWide Tryz.prog W .any base 68 v) (h : DataW.Trod enc Tryz.prog W 0 (fun _ => true) true 68 v d p) :
    ∃ (A : Option Addr) (n cap : Nat) (l : List Sc), v = .slice A n cap ∧ Secs W (fun q => W.heap.size ≤ q) A n cap l ∧ (A = none → n = 0 ∧ cap = 0) := by
  obtain ⟨A, n, cap, l, rfl, hl, hn, hm, hA, hP⟩ := open_rows (enc := enc) (⟨0, 0, 0⟩ : Sc) 68 81 3 Tryz.underlying68 (by kernel_rfl) (by decide)
    (fun b off f => ∀ j, j < 3 → W.cell? ⟨b, off + j, none⟩ = f.cells[j]?)
    (fun b off fuel cs x hc ht => by
      obtain ⟨ys, m, _, _, _, hyl, hg⟩ := DataW.trod_struct Tryz.underlying81 ht
      obtain ⟨_, hl, hat⟩ := World.cells?_some hc
      match cs, hl with
      | [c0, c1, c2], _ =>
        match ys, hyl with
        | [y0, y1, y2], _ =>
          have g0 : DataW.trod enc Tryz.prog W 0 (fun _ => true) true m 3 [c0] = some y0 := hg 0 _ rfl
          have g1 : DataW.trod enc Tryz.prog W 0 (fun _ => true) true m 28 [c1] = some y1 := hg 1 _ rfl
          have g2 : DataW.trod enc Tryz.prog W 0 (fun _ => true) true m 3 [c2] = some y2 := hg 2 _ rfl
          obtain ⟨a, e0, _, _⟩ := DataW.trod_int Tryz.underlying3 g0
          obtain ⟨t, e1, _, _⟩ := DataW.trod_int Tryz.underlying28 g1
          obtain ⟨c, e2, _, _⟩ := DataW.trod_int Tryz.underlying3 g2
          simp at e0 e1 e2
          subst e0 e1 e2
          refine ⟨⟨a, t, c⟩, fun j hj => ?_⟩
          have h1 := hat j hj
          rw [add_off] at h1
          rw [h1]
          rfl)
    hv h
  refine ⟨A, n, cap, l, rfl, ⟨hl, hn, hm, fun h0 => ?_⟩, hA⟩
  obtain ⟨b, o, e, hb, hP2⟩ := hP h0
  exact ⟨b, o, e, hb, by omega, fun i f hf => hP2 i f hf⟩

theorem open_sectorA {v : Value} {d : DataW H} {p : List MemPlace} (hv : Value.okWide Tryz.prog W .any base 81 v) (h : DataW.Trod enc Tryz.prog W 0 (fun _ => true) true 81 v d p) :
    ∃ (a q c : Int), v = .agg #[.int .i64 a, .int .u32 q, .int .i64 c] := by
  obtain ⟨cs, rfl, hsz⟩ := okWide_struct Tryz.underlying81 hv
  obtain ⟨fuel, hf⟩ := h
  obtain ⟨ys, m, _, _, _, hyl, hg⟩ := DataW.trod_struct Tryz.underlying81 hf
  obtain ⟨l⟩ := cs
  have h5 : l.length = 3 := hsz
  match l, h5 with
  | [c0, c1, c2], _ =>
    match ys, hyl with
    | [y0, y1, y2], _ =>
      have g0 : DataW.trod enc Tryz.prog W 0 (fun _ => true) true m 3 [c0] = some y0 := hg 0 _ rfl
      have g1 : DataW.trod enc Tryz.prog W 0 (fun _ => true) true m 28 [c1] = some y1 := hg 1 _ rfl
      have g2 : DataW.trod enc Tryz.prog W 0 (fun _ => true) true m 3 [c2] = some y2 := hg 2 _ rfl
      obtain ⟨a, e0, _, _⟩ := DataW.trod_int Tryz.underlying3 g0
      obtain ⟨t, e1, _, _⟩ := DataW.trod_int Tryz.underlying28 g1
      obtain ⟨c, e2, _, _⟩ := DataW.trod_int Tryz.underlying3 g2
      simp at e0 e1 e2
      subst e0 e1 e2
      exact ⟨a, t, c, rfl⟩
end

/-- Can it be opened? Is it used? -/
def opensB (lim : Int) (s : Sc) : Bool := decide (s.st = 0) || (decide (s.st = 1) && decide (s.er < lim))
def usedB (s : Sc) : Bool := decide (s.st = 2)

theorem retB {a b : Bool} (h : a = b) : Ending.returned (.bool a) = .returned (.bool b) := by rw [h]


theorem canOpen1_any (st q er lim : Int) (g : Nat) (w : World) (hg : Blk w g 3 #[.int .i64 lim]) : Calls Tryz.prog 100 #[.agg #[.int .i64 st, .int .u32 q, .int .i64 er], .pointer (some ⟨g, 0, none⟩)] w fun e w' =>
    e = .returned (.bool (opensB lim ⟨st, q, er⟩)) ∧ Below w.heap.size w w' := by
  have Hb := Lib.hid ((Below.refl w.heap.size w).alloc (Nat.le_refl _) (.cells #[.int .i64 st, .int .u32 q, .int .i64 er] 81))
  have hc := (hg.alloc (.cells #[.int .i64 st, .int .u32 q, .int .i64 er] 81)).cell 0
  simp at hc
  clear hg
  unfold opensB
  by_cases h0 : st = 0
  · subst h0
    go_enter Tryz.func100, Tryz.ntmps100
    go_wp2
    go_ret
    exact ⟨retB (by simp), Hb.out⟩
  · have q0 : (st == 0) = false := by simpa using h0
    by_cases h1 : st = 1
    · subst h1
      by_cases hl : er < lim
      · go_enter Tryz.func100, Tryz.ntmps100
        go_wp2
        go_ret
        exact ⟨retB (by simp [hl]), Hb.out⟩
      · go_enter Tryz.func100, Tryz.ntmps100
        go_wp2
        go_ret
        exact ⟨retB (by simp [hl]), Hb.out⟩
    · have q1 : (st == 1) = false := by simpa using h1
      go_enter Tryz.func100, Tryz.ntmps100
      go_wp2
      go_ret
      exact ⟨retB (by simp [h0, h1]), Hb.out⟩

theorem isUsed_any (st q er : Int) (w : World) : Calls Tryz.prog 192 #[.agg #[.int .i64 st, .int .u32 q, .int .i64 er]] w fun e w' =>
    e = .returned (.bool (usedB ⟨st, q, er⟩)) ∧ Below w.heap.size w w' := by
  have Hb := Lib.hid ((Below.refl w.heap.size w).alloc (Nat.le_refl _) (.cells #[.int .i64 st, .int .u32 q, .int .i64 er] 81))
  unfold usedB
  go_enter Tryz.func192, Tryz.ntmps192
  go_wp2
  go_ret
  exact ⟨rfl, Hb.out⟩

theorem erases_any (st q er : Int) (w : World) : Calls Tryz.prog 189 #[.agg #[.int .i64 st, .int .u32 q, .int .i64 er]] w fun e w' =>
    e = .returned (.int .i64 er) ∧ Below w.heap.size w w' := by
  have Hb := Lib.hid ((Below.refl w.heap.size w).alloc (Nat.le_refl _) (.cells #[.int .i64 st, .int .u32 q, .int .i64 er] 81))
  go_enter Tryz.func189, Tryz.ntmps189
  go_wp2
  go_ret
  exact ⟨rfl, Hb.out⟩

theorem seq_any (st q er : Int) (w : World) : Calls Tryz.prog 193 #[.agg #[.int .i64 st, .int .u32 q, .int .i64 er]] w fun e w' =>
    e = .returned (.int .u32 q) ∧ Below w.heap.size w w' := by
  have Hb := Lib.hid ((Below.refl w.heap.size w).alloc (Nat.le_refl _) (.cells #[.int .i64 st, .int .u32 q, .int .i64 er] 81))
  go_enter Tryz.func193, Tryz.ntmps193
  go_wp2
  go_ret
  exact ⟨rfl, Hb.out⟩

/-- Whether one can be opened is asked by a function value that holds the limit in a block of its own. -/
theorem canOpen_any (lim : Int) (w : World) : Calls Tryz.prog 61 #[.int .i64 lim] w fun e w' =>
    e = .returned (.func (.func 100) #[] #[.pointer (some ⟨w.heap.size, 0, none⟩)]) ∧ Below w.heap.size w w' ∧ Blk w' w.heap.size 3 #[.int .i64 lim] := by
  have Hb := Lib.hid ((Below.refl w.heap.size w).alloc (Nat.le_refl _) (.cells #[.int .i64 lim] 3))
  have Hk := Lib.hid (Blk.new w 3 #[.int .i64 lim])
  go_enter Tryz.func61, Tryz.ntmps61
  go_wp2
  go_ret
  exact ⟨rfl, Hb.out, Hk.out⟩

end Go.Proofs.YtidbipbangifbaaGreatDoor

/- Rows of sectors that a call makes: a literal's block, a row that has grown. -/
namespace Go.Proofs.YtidbipbangifbaaGreatDoor
set_option maxRecDepth 100000
open Go.RowKit

theorem secs_at : ∀ (l : List Sc) (i j : Nat) (f : Sc), l[i]? = some f → j < 3 → (l.flatMap Sc.cells)[i * 3 + j]? = f.cells[j]?
  | [], i, j, f, h, _ => by simp at h
  | g :: l, 0, j, f, h, hj => by
    simp at h
    subst h
    rw [List.flatMap_cons, Nat.zero_mul, Nat.zero_add, List.getElem?_append_left (by rw [Sc.cells_len]; exact hj)]
  | g :: l, i + 1, j, f, h, hj => by
    simp at h
    rw [List.flatMap_cons, List.getElem?_append_right (by rw [Sc.cells_len]; omega), Sc.cells_len, show (i + 1) * 3 + j - 3 = i * 3 + j by omega]
    exact secs_at l i j f h hj
theorem secs_len : ∀ l : List Sc, (l.flatMap Sc.cells).length = l.length * 3
  | [] => rfl
  | g :: l => by
    rw [List.flatMap_cons, List.length_append, secs_len l, List.length_cons, Sc.cells_len]
    omega

theorem Secs.of_blk {w : World} {S : Nat → Prop} {g n cap : Nat} {cs : Array Value} {l : List Sc} (h : Blk w g 81 cs) (hn : l.length = n) (hc : n ≤ cap) (hm : cap ≤ maxLen) (hl : ∀ j, j < n * 3 → cs[j]? = (l.flatMap Sc.cells)[j]?) (hS : ¬ S g) :
    Secs w S (some ⟨g, 0, none⟩) n cap l :=
  ⟨hn, hc, hm, fun _ => ⟨g, 0, rfl, h.lt, hS, fun i f hf j hj => by
    have hi : i < l.length := (List.getElem?_eq_some_iff.1 hf).1
    rw [h.cell, Nat.zero_add, hl _ (by omega), secs_at l i j f hf hj]⟩⟩

/-- A row that the call has made reads as what it laid. -/
theorem Secs.of_own {w : World} {S : Nat → Prop} {base n : Nat} {v : Value} {l : List Sc} (h : w.ownsRow base 81 3 v n (l.flatMap Sc.cells)) (hn : l.length = n) (hS : ∀ k, base ≤ k → k < w.heap.size → ¬ S k) :
    ∃ A cap, v = .slice A n cap ∧ Secs w S A n cap l ∧ (0 < n → ∃ g, A = some ⟨g, 0, none⟩ ∧ base ≤ g ∧ ∃ cur, Blk w g 81 cur ∧ ∀ j, j < n * 3 → cur[j]? = (l.flatMap Sc.cells)[j]?) := by
  rcases h.2 with ⟨rfl, h0⟩ | ⟨g, cap, cur, rfl, hg, hh, hnc, hm, hs, ht⟩
  · subst h0
    exact ⟨none, 0, rfl, ⟨hn, Nat.le_refl _, by simp [maxLen], fun h0 => absurd h0 (by omega)⟩, fun h0 => absurd h0 (by omega)⟩
  · have hlt : g < w.heap.size := (Array.getElem?_eq_some_iff.1 hh).1
    have hb : Blk w g 81 cur := hh
    have hat : ∀ j, j < n * 3 → cur[j]? = (l.flatMap Sc.cells)[j]? := fun j hj => by
      have hl := secs_len l
      have hj2 : j < (l.flatMap Sc.cells).length := by rw [hl, hn]; exact hj
      have hc := h.cells (g := g) rfl j ((l.flatMap Sc.cells)[j]'hj2) (List.getElem?_eq_getElem hj2)
      have ha : (⟨g, 0, none⟩ : Addr).add j = ⟨g, j, none⟩ := by unfold Addr.add; split <;> simp_all
      rw [ha, hb.cell] at hc
      rw [hc]
      exact (List.getElem?_eq_getElem hj2).symm
    exact ⟨_, cap, rfl, Secs.of_blk hb hn hnc hm hat (hS g hg hlt), fun _ => ⟨g, rfl, hg, cur, hb, hat⟩⟩

theorem Tryz.infoSector : (Tryz.prog.info? 81).map (fun i => (i.zero, i.size, i.bytes)) = some (some (.agg #[.int .i64 0, .int .u32 0, .int .i64 0]), 3, 24) := by kernel_rfl

theorem Secs.news {w : World} {S : Nat → Prop} {ad : Addr} {m c : Nat} {l : List Sc} (h : Secs w S (some ad) m c l) : ∀ j u, (l.flatMap Sc.cells)[j]? = some u → w.cell? (ad.add j) = some u := by
  intro j u hj
  have hl := secs_len l
  have hlt := (List.getElem?_eq_some_iff.1 hj).1
  rw [hl, h.1] at hlt
  obtain ⟨b, o, e, _, _, hc⟩ := h.2.2.2 (by omega)
  cases e
  have hi : j / 3 < l.length := by rw [h.1]; omega
  have h1 := hc (j / 3) (l[j / 3]'hi) (List.getElem?_eq_getElem hi) (j % 3) (by omega)
  have h2 := secs_at l (j / 3) (j % 3) (l[j / 3]'hi) (List.getElem?_eq_getElem hi) (by omega)
  rw [show j / 3 * 3 + j % 3 = j by omega] at h2
  rw [add_off, show o + j = o + j / 3 * 3 + j % 3 by omega, h1, ← h2, hj]
theorem secs_one (l : List Sc) : ∀ u ∈ l.flatMap Sc.cells, u.oneCell' = true := by
  intro u hu
  obtain ⟨f, _, hf⟩ := List.mem_flatMap.1 hu
  simp only [Sc.cells, List.mem_cons, List.not_mem_nil, or_false] at hf
  rcases hf with rfl | rfl | rfl <;> rfl

/-- append of sectors that lie somewhere (a nil slice, too) onto a row of the call's own. -/
theorem wpList_append_secs {ops : Array Oper} {rest : List Oper} {q : Oper} {u : Act} {w : World} {Q : Exit → Act → World → Prop} (hgd : q.guard = none) (s x : Operand)
    (hq : q.op = .call { callee := .builtin .append, args := #[s, x], argTypes := #[68, 68] })
    (base : Nat) (v : Value) (hs : u.eval s = v) (k : Nat) (zs : List Sc) (hown : w.ownsRow base 81 3 v k (zs.flatMap Sc.cells)) (A : Option Addr) (m c : Nat) (l : List Sc) (S : Nat → Prop)
    (hx : u.eval x = .slice A m c) (hB : Secs w S A m c l) (hn : A = none → m = 0 ∧ c = 0) (hm : k + m ≤ 1048576) (hbase : base ≤ w.heap.size)
    (h : ∀ v' w', w'.ownsRow base 81 3 v' (k + m) ((zs ++ l).flatMap Sc.cells) → w.grownBy w' v.ownBlock → wpList Tryz.prog ops Q rest (u.put q.dst v') w') : wpList Tryz.prog ops Q (q :: rest) u w := by
  obtain ⟨i0, hi, hz0, hz1, hz2⟩ := info_parts Tryz.infoSector
  rcases A with _ | ad
  · obtain ⟨rfl, rfl⟩ := hn rfl
    have hys : l = [] := List.eq_nil_of_length_eq_zero hB.1
    subst hys
    exact wpList_append_own_none hgd s x 68 hq base 81 i0 3 Tryz.underlying68 hi v k (zs.flatMap Sc.cells) hs hown hx (h v w (by simpa using hown) (World.grownBy.refl w _))
  · refine wpList_append_own_at _ hgd s x 68 hq base 81 i0 _ 3 24 Tryz.underlying68 hi hz0 hz1 hz2 (by simp [Value.cells]) (by decide) v k (zs.flatMap Sc.cells) hs hown ad m c (l.flatMap Sc.cells) hx (by rw [secs_len, hB.1]) hB.news (secs_one l) (by unfold maxLen; omega) (by omega) hbase ?_
    intro v' w' h1 h2 _ _
    exact h v' w' (by rw [List.flatMap_append]; exact h1) h2

/-- A row that was just made, with no sectors. -/
theorem own_secs (w : World) (base : Nat) (h : base ≤ w.heap.size) : (w.alloc (.cells #[] 81)).ownsRow base 81 3 (.slice (some ⟨w.heap.size, 0, none⟩) 0 0) 0 (([] : List Sc).flatMap Sc.cells) :=
  World.ownsRow_made w #[] 0 h (by decide) rfl

end Go.Proofs.YtidbipbangifbaaGreatDoor

/- The first of the least of a row by a key, among those that may be taken: as plain data. -/
namespace Go.Proofs.YtidbipbangifbaaGreatDoor
set_option maxRecDepth 100000
open Go.RowKit

/-- What the i-th one makes of the place that is the least one's so far. -/
def stepB (may : Sc → Bool) (key : Sc → Int) (l : List Sc) (o : Option Nat) (i : Nat) : Option Nat :=
  match l[i]? with
  | none => o
  | some s => if may s = true then (match o with | none => some i | some p => match l[p]? with | none => some p | some t => if key s < key t then some i else some p) else o
def best (may : Sc → Bool) (key : Sc → Int) (l : List Sc) : Nat → Option Nat
  | 0 => none
  | i + 1 => stepB may key l (best may key l i) i

section
variable {may : Sc → Bool} {key : Sc → Int} {l : List Sc} {o : Option Nat} {i p : Nat} {s t : Sc}
theorem stepB_no (hs : l[i]? = some s) (hm : may s = false) : stepB may key l o i = o := by unfold stepB; rw [hs]; simp [hm]
theorem stepB_first (hs : l[i]? = some s) (hm : may s = true) : stepB may key l none i = some i := by unfold stepB; rw [hs]; simp [hm]
theorem stepB_less (hs : l[i]? = some s) (hm : may s = true) (ht : l[p]? = some t) (hk : key s < key t) : stepB may key l (some p) i = some i := by unfold stepB; rw [hs]; simp [hm, ht, hk]
theorem stepB_more (hs : l[i]? = some s) (hm : may s = true) (ht : l[p]? = some t) (hk : ¬ key s < key t) : stepB may key l (some p) i = some p := by unfold stepB; rw [hs]; simp [hm, ht, hk]

/-- What is asked of the least one's place among the first i. -/
def IsBest (may : Sc → Bool) (key : Sc → Int) (l : List Sc) (i : Nat) : Option Nat → Prop
  | none => ∀ j s, j < i → l[j]? = some s → may s = false
  | some p => p < i ∧ ∃ t, l[p]? = some t ∧ may t = true ∧ ∀ j s, j < i → l[j]? = some s → may s = true → key t ≤ key s

theorem best_is (may : Sc → Bool) (key : Sc → Int) (l : List Sc) : ∀ i, i ≤ l.length → IsBest may key l i (best may key l i)
  | 0, _ => fun j s h _ => absurd h (by omega)
  | i + 1, hi => by
    have ih := best_is may key l i (by omega)
    obtain ⟨s, hs⟩ : ∃ s, l[i]? = some s := ⟨_, List.getElem?_eq_getElem (by omega)⟩
    show IsBest may key l (i + 1) (stepB may key l (best may key l i) i)
    revert ih
    cases best may key l i with
    | none =>
      intro ih
      cases hm : may s with
      | false =>
        rw [stepB_no hs hm]
        intro j t hj ht
        by_cases h : j = i
        · subst h
          rw [hs] at ht
          cases ht
          exact hm
        · exact ih j t (by omega) ht
      | true =>
        rw [stepB_first hs hm]
        refine ⟨by omega, s, hs, hm, fun j t hj ht hmt => ?_⟩
        by_cases h : j = i
        · subst h
          rw [hs] at ht
          cases ht
          exact Int.le_refl _
        · rw [ih j t (by omega) ht] at hmt
          cases hmt
    | some p =>
      rintro ⟨hp, t, ht, hmt, hall⟩
      cases hm : may s with
      | false =>
        rw [stepB_no hs hm]
        refine ⟨by omega, t, ht, hmt, fun j u hj hu hmu => ?_⟩
        by_cases h : j = i
        · subst h
          rw [hs] at hu
          cases hu
          rw [hm] at hmu
          cases hmu
        · exact hall j u (by omega) hu hmu
      | true =>
        by_cases hk : key s < key t
        · rw [stepB_less hs hm ht hk]
          refine ⟨by omega, s, hs, hm, fun j u hj hu hmu => ?_⟩
          by_cases h : j = i
          · subst h
            rw [hs] at hu
            cases hu
            exact Int.le_refl _
          · have := hall j u (by omega) hu hmu
            omega
        · rw [stepB_more hs hm ht hk]
          refine ⟨by omega, t, ht, hmt, fun j u hj hu hmu => ?_⟩
          by_cases h : j = i
          · subst h
            rw [hs] at hu
            cases hu
            omega
          · exact hall j u (by omega) hu hmu

theorem best_lt {o : Option Nat} (h : best may key l i = o) (hi : i ≤ l.length) : o = none ∨ ∃ p t, o = some p ∧ p < i ∧ l[p]? = some t := by
  have hb := best_is may key l i hi
  rw [h] at hb
  cases o with
  | none => exact Or.inl rfl
  | some p => obtain ⟨h1, t, h2, _⟩ := hb; exact Or.inr ⟨p, t, rfl, h1, h2⟩

/-- What stands behind the i-th place is not asked. -/
theorem best_same (may : Sc → Bool) (key : Sc → Int) (l l' : List Sc) : ∀ i, (∀ j, j < i → l[j]? = l'[j]?) → i ≤ l.length → best may key l i = best may key l' i
  | 0, _, _ => rfl
  | i + 1, h, hi => by
    have ih := best_same may key l l' i (fun j hj => h j (by omega)) (by omega)
    show stepB may key l (best may key l i) i = stepB may key l' (best may key l' i) i
    rw [← ih]
    rcases best_lt (may := may) (key := key) (l := l) (i := i) rfl (by omega) with e | ⟨p, t, e, hp, ht⟩
    · rw [e]
      unfold stepB
      rw [h i (by omega)]
    · rw [e]
      unfold stepB
      rw [h i (by omega)]
      have hp2 := h p (by omega)
      cases l'[i]? with
      | none => rfl
      | some u => simp only [hp2]

/-- One more that may not be taken changes nothing. -/
theorem best_snoc (may : Sc → Bool) (key : Sc → Int) (l : List Sc) (s : Sc) (hs : may s = false) : best may key (l ++ [s]) (l.length + 1) = best may key l l.length := by
  have h1 : best may key (l ++ [s]) l.length = best may key l l.length := (best_same may key l (l ++ [s]) l.length (fun j hj => by rw [List.getElem?_append_left hj]) (Nat.le_refl _)).symm
  show stepB may key (l ++ [s]) (best may key (l ++ [s]) l.length) l.length = _
  rw [stepB_no (s := s) (by rw [List.getElem?_append_right (Nat.le_refl _)]; simp) hs, h1]

theorem countP_pos_best (l : List Sc) (may : Sc → Bool) (key : Sc → Int) : (best may key l l.length).isSome = decide (0 < l.countP may) := by
  have hb := best_is may key l l.length (Nat.le_refl _)
  cases h : best may key l l.length with
  | none =>
    rw [h] at hb
    have : l.countP may = 0 := by
      rw [List.countP_eq_zero]
      intro s hs
      obtain ⟨j, hj, he⟩ := List.mem_iff_getElem.1 hs
      rw [hb j s hj (by rw [List.getElem?_eq_getElem hj, he])]
      simp
    simp [this]
  | some p =>
    rw [h] at hb
    obtain ⟨hp, t, ht, hm, _⟩ := hb
    have : 0 < l.countP may := List.countP_pos_iff.2 ⟨t, List.mem_of_getElem? ht, hm⟩
    simp [this]
end

end Go.Proofs.YtidbipbangifbaaGreatDoor

/- How many can be opened, how unevenly they are worn: as plain data, and the walks. -/
namespace Go.Proofs.YtidbipbangifbaaGreatDoor
set_option maxRecDepth 100000
open Go.RowKit

theorem countP_take_snoc (l : List Sc) (p : Sc → Bool) (i : Nat) (s : Sc) (h : l[i]? = some s) : (l.take (i + 1)).countP p = (l.take i).countP p + (if p s = true then 1 else 0) := by
  rw [take_one l i s h, List.countP_append, List.countP_singleton]

set_option maxHeartbeats 1000000 in
theorem free_any (A : Option Addr) (n cap : Nat) (l : List Sc) (lim : Int) (w : World) (hS : Secs w Empty A n cap l) (hm : n ≤ 1048576) :
    Calls Tryz.prog 29 #[.slice A n cap, .int .i64 lim] w fun e w' => e = .returned (.int .i64 ((l.countP (opensB lim) : Nat) : Int)) ∧ Below w.heap.size w w' := by
  have HS := Lib.hid hS
  have hcap := hS.2.1
  have hcap2 : cap ≤ 9223372036854775807 := by have := hS.2.2.1; unfold maxLen at this; omega
  clear hS
  go_enter Tryz.func29, Tryz.ntmps29
  go_wp2_with fail
  refine (canOpen_any lim _).mono ?_
  rintro e1 w1 ⟨rfl, hb1, hk1⟩
  have HB1 := Lib.hid (Only.of_below (S := Empty) hb1)
  have HK := Lib.hid hk1
  clear hb1 hk1
  go_wp2_with fail
  go_loopw [5, 13] (fun v5 v wr => ∃ i : Nat, i ≤ n ∧ v5 = .int .i64 (((l.take i).countP (opensB lim) : Nat) : Int) ∧ v = .int .i64 (i : Int) ∧ Hid (Only Empty w wr) ∧ Hid (Blk wr w.heap.size 3 #[.int .i64 lim])) (fun _ v _ => n - (intOf v).toNat)
  case atStart => exact ⟨0, Nat.zero_le _, by simp, rfl, HB1, HK⟩
  case round =>
    obtain ⟨i, hi, rfl, rfl, HB, HKr⟩ := hrel
    clear HB1 HK
    by_cases hlt : i < n
    · obtain ⟨b, f0, rfl, hb, -, hcl⟩ := HS.out.2.2.2 (by omega)
      obtain ⟨f, hf⟩ : ∃ f, l[i]? = some f := ⟨_, List.getElem?_eq_getElem (by have := HS.out.1; omega)⟩
      have hc := hcl i f hf
      have hcnt := countP_take_snoc l (opensB lim) i f hf
      have hle : (l.take i).countP (opensB lim) ≤ i := Nat.le_trans List.countP_le_length (by rw [List.length_take]; exact Nat.min_le_left _ _)
      obtain ⟨c, hcd⟩ : ∃ c, (l.take i).countP (opensB lim) = c := ⟨_, rfl⟩
      rw [hcd] at hcnt hle ⊢
      obtain ⟨st, q, er⟩ := f
      have d0 : wr.cell? ⟨b, f0 + i * 3, none⟩ = some (.int .i64 st) := (HB.out.cell (p := ⟨b, f0 + i * 3 + 0, none⟩) hb (fun h => h)).trans (hc 0 (by omega))
      have d1 : wr.cell? ⟨b, f0 + i * 3 + 1, none⟩ = some (.int .u32 q) := (HB.out.cell (p := ⟨b, f0 + i * 3 + 1, none⟩) hb (fun h => h)).trans (hc 1 (by omega))
      have d2 : wr.cell? ⟨b, f0 + i * 3 + 2, none⟩ = some (.int .i64 er) := (HB.out.cell (p := ⟨b, f0 + i * 3 + 2, none⟩) hb (fun h => h)).trans (hc 2 (by omega))
      have N1 := canOpen1_any st q er lim w.heap.size _ (HKr.out.alloc (.cells #[.int .i64 st, .int .u32 q, .int .i64 er] 81))
      have HO := Lib.hid (HB.out.alloc (.cells #[.int .i64 st, .int .u32 q, .int .i64 er] 81))
      have HK1 := Lib.hid (HKr.out.alloc (.cells #[.int .i64 st, .int .u32 q, .int .i64 er] 81))
      clear hc hcl hf hcd
      cases hmay : opensB lim ⟨st, q, er⟩ with
      | false =>
        rw [hmay] at N1 hcnt
        have N2 := Lib.hid N1
        have Hcnt := Lib.hid hcnt
        clear N1 hcnt hmay
        go_wp2_with fail
        refine N2.out.mono ?_
        rintro e2 w2 ⟨rfl, hb2⟩
        have HO2 := Lib.hid (HO.out.trans (Only.of_below hb2))
        have HK2 := Lib.hid (HK1.out.of (hb2.block w.heap.size HK1.out.lt))
        clear hb2
        go_wp2_with fail
        go_roundw
        case rel => exact ⟨i + 1, by omega, by rw [Hcnt.out]; rfl, by go_num, HO2, HK2⟩
        case measure => simp [intOf]; omega
      | true =>
        rw [hmay] at N1 hcnt
        have N2 := Lib.hid N1
        have Hcnt := Lib.hid hcnt
        clear N1 hcnt hmay
        go_wp2_with fail
        refine N2.out.mono ?_
        rintro e2 w2 ⟨rfl, hb2⟩
        have HO2 := Lib.hid (HO.out.trans (Only.of_below hb2))
        have HK2 := Lib.hid (HK1.out.of (hb2.block w.heap.size HK1.out.lt))
        clear hb2
        go_wp2_with fail
        go_roundw
        case rel => exact ⟨i + 1, by omega, by rw [Hcnt.out, if_pos trivial]; go_num, by go_num, HO2, HK2⟩
        case measure => simp [intOf]; omega
    · obtain rfl : i = n := by omega
      have ht : l.take i = l := List.take_of_length_le (by rw [HS.out.1]; omega)
      rw [ht]
      go_wp2_with fail
      go_ret
      exact ⟨rfl, HB.out.below (Nat.le_refl _) (fun _ _ h => h)⟩


end Go.Proofs.YtidbipbangifbaaGreatDoor
