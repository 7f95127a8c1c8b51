/- Sectors as plain data; the walks over what tells of one sector alone. -/
import Derived.Test.YtkblfmmhocogeaaOp
import Derived.Test.YtkblfmmhocogeaaBy
namespace Go.Proofs.Ytkblfmmhocogeaa
open Go.ChangeShapes Go.WideShapes Go.ChangeAt Go.RowKit Go.Joins

/-- A sector's three cells. -/
structure Sc where
  st : Int
  q : Int
  er : Int
def Sc.cells (s : Sc) : List Value := [.int .i64 s.st, .int .u32 s.q, .int .i64 s.er]
theorem Sc.cells_len (s : Sc) : s.cells.length = 3 := rfl

/-- Sectors that lie side by side: the slice value reads as them. -/
def Secs (w : World) (S : Nat → Prop) (A : Option Addr) (n cap : Nat) (l : List Sc) : Prop :=
  l.length = n ∧ n ≤ cap ∧ cap ≤ maxLen ∧ (0 < n → ∃ b o, A = some ⟨b, o, none⟩ ∧ b < w.heap.size ∧ ¬ S b ∧ ∀ i f, l[i]? = some f → ∀ j, j < 3 → w.cell? ⟨b, o + i * 3 + j, none⟩ = f.cells[j]?)

section
variable {w w' : World} {S T : Nat → Prop} {A : Option Addr} {n cap : Nat} {l : List Sc}
theorem Secs.only (h : Secs w S A n cap l) (k : Only T w w') (hT : ∀ i, i < w.heap.size → T i → S i) : Secs w' S A n cap l :=
  ⟨h.1, h.2.1, h.2.2.1, fun hn => by
    obtain ⟨b, o, e, hb, hs, hc⟩ := h.2.2.2 hn
    exact ⟨b, o, e, Nat.lt_of_lt_of_le hb k.size, hs, fun i f hf j hj => (k.cell (p := ⟨b, o + i * 3 + j, none⟩) hb (fun ht => hs (hT _ hb ht))).trans (hc i f hf j hj)⟩⟩
theorem Secs.mono (h : Secs w S A n cap l) (hT : ∀ i, i < w.heap.size → T i → S i) : Secs w T A n cap l :=
  ⟨h.1, h.2.1, h.2.2.1, fun hn => by
    obtain ⟨b, o, e, hb, hs, hc⟩ := h.2.2.2 hn
    exact ⟨b, o, e, hb, fun ht => hs (hT _ hb ht), hc⟩⟩
theorem Secs.nil_ (w : World) (S : Nat → Prop) (A : Option Addr) (cap : Nat) (h : cap ≤ maxLen) : Secs w S A 0 cap [] := ⟨rfl, Nat.zero_le _, h, fun h => absurd h (by omega)⟩
end

section
variable {H : Type} {enc : TypeId × Value → H} {W : World} {base : Nat}
theorem open_secs {v : Value} {d : DataW H} {p : List MemPlace} (hv : Value.okWide Try.prog W .any base 22 v) (h : DataW.Trod enc Try.prog W 0 (fun _ => true) true 22 v d p) :
    ∃ (A : Option Addr) (n cap : Nat) (l : List Sc), v = .slice A n cap ∧ Secs W (fun q => W.heap.size ≤ q) A n cap l ∧ (A = none → n = 0 ∧ cap = 0) := by
  obtain ⟨A, n, cap, l, rfl, hl, hn, hm, hA, hP⟩ := open_rows (enc := enc) (⟨0, 0, 0⟩ : Sc) 22 33 3 Try.underlying22 (by kernel_rfl) (by decide)
    (fun b off f => ∀ j, j < 3 → W.cell? ⟨b, off + j, none⟩ = f.cells[j]?)
    (fun b off fuel cs x hc ht => by
      obtain ⟨ys, m, _, _, _, hyl, hg⟩ := DataW.trod_struct Try.underlying33 ht
      obtain ⟨_, hl, hat⟩ := World.cells?_some hc
      match cs, hl with
      | [c0, c1, c2], _ =>
        match ys, hyl with
        | [y0, y1, y2], _ =>
          have g0 : DataW.trod enc Try.prog W 0 (fun _ => true) true m 3 [c0] = some y0 := hg 0 _ rfl
          have g1 : DataW.trod enc Try.prog W 0 (fun _ => true) true m 31 [c1] = some y1 := hg 1 _ rfl
          have g2 : DataW.trod enc Try.prog W 0 (fun _ => true) true m 3 [c2] = some y2 := hg 2 _ rfl
          obtain ⟨a, e0, _, _⟩ := DataW.trod_int Try.underlying3 g0
          obtain ⟨t, e1, _, _⟩ := DataW.trod_int Try.underlying31 g1
          obtain ⟨c, e2, _, _⟩ := DataW.trod_int Try.underlying3 g2
          simp at e0 e1 e2
          subst e0 e1 e2
          refine ⟨⟨a, t, c⟩, fun j hj => ?_⟩
          have h1 := hat j hj
          rw [add_off] at h1
          rw [h1]
          rfl)
    hv h
  refine ⟨A, n, cap, l, rfl, ⟨hl, hn, hm, fun h0 => ?_⟩, hA⟩
  obtain ⟨b, o, e, hb, hP2⟩ := hP h0
  exact ⟨b, o, e, hb, by omega, fun i f hf => hP2 i f hf⟩

theorem open_sec {v : Value} {d : DataW H} {p : List MemPlace} (hv : Value.okWide Try.prog W .any base 33 v) (h : DataW.Trod enc Try.prog W 0 (fun _ => true) true 33 v d p) :
    ∃ (a q c : Int), v = .agg #[.int .i64 a, .int .u32 q, .int .i64 c] := by
  obtain ⟨cs, rfl, hsz⟩ := okWide_struct Try.underlying33 hv
  obtain ⟨fuel, hf⟩ := h
  obtain ⟨ys, m, _, _, _, hyl, hg⟩ := DataW.trod_struct Try.underlying33 hf
  obtain ⟨l⟩ := cs
  have h5 : l.length = 3 := hsz
  match l, h5 with
  | [c0, c1, c2], _ =>
    match ys, hyl with
    | [y0, y1, y2], _ =>
      have g0 : DataW.trod enc Try.prog W 0 (fun _ => true) true m 3 [c0] = some y0 := hg 0 _ rfl
      have g1 : DataW.trod enc Try.prog W 0 (fun _ => true) true m 31 [c1] = some y1 := hg 1 _ rfl
      have g2 : DataW.trod enc Try.prog W 0 (fun _ => true) true m 3 [c2] = some y2 := hg 2 _ rfl
      obtain ⟨a, e0, _, _⟩ := DataW.trod_int Try.underlying3 g0
      obtain ⟨t, e1, _, _⟩ := DataW.trod_int Try.underlying31 g1
      obtain ⟨c, e2, _, _⟩ := DataW.trod_int Try.underlying3 g2
      simp at e0 e1 e2
      subst e0 e1 e2
      exact ⟨a, t, c, rfl⟩
end

/-- Can it be opened? Is it used? -/
def opensB (lim : Int) (s : Sc) : Bool := decide (s.st = 0) || (decide (s.st = 1) && decide (s.er < lim))
def usedB (s : Sc) : Bool := decide (s.st = 2)

theorem retB {a b : Bool} (h : a = b) : Ending.returned (.bool a) = .returned (.bool b) := by rw [h]

theorem opens_any (st q er lim : Int) (w : World) : Calls Try.prog 19 #[.agg #[.int .i64 st, .int .u32 q, .int .i64 er], .int .i64 lim] w fun e w' =>
    e = .returned (.bool (opensB lim ⟨st, q, er⟩)) ∧ Below w.heap.size w w' := by
  have Hb := Lib.hid ((Below.refl w.heap.size w).alloc (Nat.le_refl _) (.cells #[.int .i64 st, .int .u32 q, .int .i64 er] 33))
  unfold opensB
  by_cases h0 : st = 0
  · subst h0
    go_enter Try.func19, Try.ntmps19
    go_wp2
    go_ret
    exact ⟨retB (by simp), Hb.out⟩
  · have q0 : (st == 0) = false := by simpa using h0
    by_cases h1 : st = 1
    · subst h1
      by_cases hl : er < lim
      · go_enter Try.func19, Try.ntmps19
        go_wp2
        go_ret
        exact ⟨retB (by simp [hl]), Hb.out⟩
      · go_enter Try.func19, Try.ntmps19
        go_wp2
        go_ret
        exact ⟨retB (by simp [hl]), Hb.out⟩
    · have q1 : (st == 1) = false := by simpa using h1
      go_enter Try.func19, Try.ntmps19
      go_wp2
      go_ret
      exact ⟨retB (by simp [h0, h1]), Hb.out⟩

theorem canOpen1_any (st q er lim : Int) (g : Nat) (w : World) (hg : Blk w g 3 #[.int .i64 lim]) : Calls Try.prog 23 #[.agg #[.int .i64 st, .int .u32 q, .int .i64 er], .pointer (some ⟨g, 0, none⟩)] w fun e w' =>
    e = .returned (.bool (opensB lim ⟨st, q, er⟩)) ∧ Below w.heap.size w w' := by
  have Hb := Lib.hid ((Below.refl w.heap.size w).alloc (Nat.le_refl _) (.cells #[.int .i64 st, .int .u32 q, .int .i64 er] 33))
  have hc := (hg.alloc (.cells #[.int .i64 st, .int .u32 q, .int .i64 er] 33)).cell 0
  simp at hc
  clear hg
  unfold opensB
  by_cases h0 : st = 0
  · subst h0
    go_enter Try.func23, Try.ntmps23
    go_wp2
    go_ret
    exact ⟨retB (by simp), Hb.out⟩
  · have q0 : (st == 0) = false := by simpa using h0
    by_cases h1 : st = 1
    · subst h1
      by_cases hl : er < lim
      · go_enter Try.func23, Try.ntmps23
        go_wp2
        go_ret
        exact ⟨retB (by simp [hl]), Hb.out⟩
      · go_enter Try.func23, Try.ntmps23
        go_wp2
        go_ret
        exact ⟨retB (by simp [hl]), Hb.out⟩
    · have q1 : (st == 1) = false := by simpa using h1
      go_enter Try.func23, Try.ntmps23
      go_wp2
      go_ret
      exact ⟨retB (by simp [h0, h1]), Hb.out⟩

theorem isUsed_any (st q er : Int) (w : World) : Calls Try.prog 21 #[.agg #[.int .i64 st, .int .u32 q, .int .i64 er]] w fun e w' =>
    e = .returned (.bool (usedB ⟨st, q, er⟩)) ∧ Below w.heap.size w w' := by
  have Hb := Lib.hid ((Below.refl w.heap.size w).alloc (Nat.le_refl _) (.cells #[.int .i64 st, .int .u32 q, .int .i64 er] 33))
  unfold usedB
  go_enter Try.func21, Try.ntmps21
  go_wp2
  go_ret
  exact ⟨rfl, Hb.out⟩

theorem erases_any (st q er : Int) (w : World) : Calls Try.prog 18 #[.agg #[.int .i64 st, .int .u32 q, .int .i64 er]] w fun e w' =>
    e = .returned (.int .i64 er) ∧ Below w.heap.size w w' := by
  have Hb := Lib.hid ((Below.refl w.heap.size w).alloc (Nat.le_refl _) (.cells #[.int .i64 st, .int .u32 q, .int .i64 er] 33))
  go_enter Try.func18, Try.ntmps18
  go_wp2
  go_ret
  exact ⟨rfl, Hb.out⟩

theorem seq_any (st q er : Int) (w : World) : Calls Try.prog 22 #[.agg #[.int .i64 st, .int .u32 q, .int .i64 er]] w fun e w' =>
    e = .returned (.int .u32 q) ∧ Below w.heap.size w w' := by
  have Hb := Lib.hid ((Below.refl w.heap.size w).alloc (Nat.le_refl _) (.cells #[.int .i64 st, .int .u32 q, .int .i64 er] 33))
  go_enter Try.func22, Try.ntmps22
  go_wp2
  go_ret
  exact ⟨rfl, Hb.out⟩

/-- Whether one can be opened is asked by a function value that holds the limit in a block of its own. -/
theorem canOpen_any (lim : Int) (w : World) : Calls Try.prog 17 #[.int .i64 lim] w fun e w' =>
    e = .returned (.func (.func 23) #[] #[.pointer (some ⟨w.heap.size, 0, none⟩)]) ∧ Below w.heap.size w w' ∧ Blk w' w.heap.size 3 #[.int .i64 lim] := by
  have Hb := Lib.hid ((Below.refl w.heap.size w).alloc (Nat.le_refl _) (.cells #[.int .i64 lim] 3))
  have Hk := Lib.hid (Blk.new w 3 #[.int .i64 lim])
  go_enter Try.func17, Try.ntmps17
  go_wp2
  go_ret
  exact ⟨rfl, Hb.out, Hk.out⟩

end Go.Proofs.Ytkblfmmhocogeaa
