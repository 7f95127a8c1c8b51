/- Rows of whatever lies in k cells each: how a slice reads as them, rows of a call's own, append. -/
import Derived.Test.YtnhfmcijadficaaGreatDoorZaa
import Derived.Deep.RegionHeld3
import Derived.Deep.RegionLaw
import Derived.Test.YtnhfmcijadficaaGreatDoorZaj
namespace Go.Proofs.YtnhfmcijadficaaGreatDoor
set_option maxRecDepth 100000
open Go.RowKit

section
variable {α : Type} {cells : α → List Value} {k : Nat}

/-- The slice value reads as what lies side by side, k cells each; its block is not in S. -/
def RowSl (cells : α → List Value) (k : Nat) (w : World) (S : Nat → Prop) (A : Option Addr) (n cap : Nat) (l : List α) : Prop :=
  l.length = n ∧ n ≤ cap ∧ cap ≤ maxLen ∧ (0 < n → ∃ b o, A = some ⟨b, o, none⟩ ∧ b < w.heap.size ∧ ¬ S b ∧ ∀ i f, l[i]? = some f → ∀ j, j < k → w.cell? ⟨b, o + i * k + j, none⟩ = (cells f)[j]?)

variable {w w' : World} {S T : Nat → Prop} {A : Option Addr} {n cap : Nat} {l : List α}
theorem RowSl.only (h : RowSl cells k w S A n cap l) (q : Only T w w') (hT : ∀ i, i < w.heap.size → T i → S i) : RowSl cells k w' S A n cap l :=
  ⟨h.1, h.2.1, h.2.2.1, fun hn => by
    obtain ⟨b, o, e, hb, hs, hc⟩ := h.2.2.2 hn
    exact ⟨b, o, e, Nat.lt_of_lt_of_le hb q.size, hs, fun i f hf j hj => (q.cell (p := ⟨b, o + i * k + j, none⟩) hb (fun ht => hs (hT _ hb ht))).trans (hc i f hf j hj)⟩⟩
theorem RowSl.mono (h : RowSl cells k w S A n cap l) (hT : ∀ i, i < w.heap.size → T i → S i) : RowSl cells k w T A n cap l :=
  ⟨h.1, h.2.1, h.2.2.1, fun hn => by
    obtain ⟨b, o, e, hb, hs, hc⟩ := h.2.2.2 hn
    exact ⟨b, o, e, hb, fun ht => hs (hT _ hb ht), hc⟩⟩
theorem RowSl.below (h : RowSl cells k w S A n cap l) (q : Below w.heap.size w w') : RowSl cells k w' S A n cap l := h.only (Only.of_below (S := Empty) q) (fun _ _ h => h.elim)
theorem RowSl.nil_ (w : World) (S : Nat → Prop) (A : Option Addr) (cap : Nat) (h : cap ≤ maxLen) : RowSl cells k w S A 0 cap [] := ⟨rfl, Nat.zero_le _, h, fun h => absurd h (by omega)⟩
/-- The i-th of them. -/
theorem RowSl.at_ (h : RowSl cells k w S A n cap l) {i : Nat} (hi : i < n) : ∃ b o f, A = some ⟨b, o, none⟩ ∧ b < w.heap.size ∧ ¬ S b ∧ l[i]? = some f ∧ ∀ j, j < k → w.cell? ⟨b, o + i * k + j, none⟩ = (cells f)[j]? := by
  obtain ⟨b, o, e, hb, hs, hc⟩ := h.2.2.2 (by omega)
  have hl : i < l.length := by rw [h.1]; exact hi
  exact ⟨b, o, l[i], e, hb, hs, List.getElem?_eq_getElem hl, hc i _ (List.getElem?_eq_getElem hl)⟩

theorem rows_len (hk : ∀ f, (cells f).length = k) : ∀ l : List α, (l.flatMap cells).length = l.length * k
  | [] => by simp
  | g :: l => by
    rw [List.flatMap_cons, List.length_append, rows_len hk l, List.length_cons, hk, Nat.add_mul]
    omega
theorem rows_at (hk : ∀ f, (cells f).length = k) : ∀ (l : List α) (i j : Nat) (f : α), l[i]? = some f → j < k → (l.flatMap cells)[i * k + j]? = (cells f)[j]?
  | [], i, j, f, h, _ => by simp at h
  | g :: l, 0, j, f, h, hj => by
    simp at h
    subst h
    rw [List.flatMap_cons, Nat.zero_mul, Nat.zero_add, List.getElem?_append_left (by rw [hk]; exact hj)]
  | g :: l, i + 1, j, f, h, hj => by
    simp at h
    have e : (i + 1) * k = i * k + k := by rw [Nat.add_mul]; omega
    rw [List.flatMap_cons, List.getElem?_append_right (by rw [hk]; omega), hk, show (i + 1) * k + j - k = i * k + j by omega]
    exact rows_at hk l i j f h hj

theorem RowSl.of_blk {g : Nat} {t : TypeId} {cs : Array Value} (hk : ∀ f, (cells f).length = k) (h : Blk w g t cs) (hn : l.length = n) (hc : n ≤ cap) (hm : cap ≤ maxLen) (hl : ∀ j, j < n * k → cs[j]? = (l.flatMap cells)[j]?) (hS : ¬ S g) :
    RowSl cells k w S (some ⟨g, 0, none⟩) n cap l :=
  ⟨hn, hc, hm, fun _ => ⟨g, 0, rfl, h.lt, hS, fun i f hf j hj => by
    have hi : i < l.length := (List.getElem?_eq_some_iff.1 hf).1
    have h2 := Nat.mul_le_mul_right k (show i + 1 ≤ n by omega)
    rw [Nat.add_mul] at h2
    rw [h.cell, Nat.zero_add, hl _ (by omega), rows_at hk l i j f hf hj]⟩⟩

/-- What a call has made in a row of its own: it reads as l. -/
structure GotR (cells : α → List Value) (k : Nat) (t : TypeId) (base : Nat) (w : World) (A : Option Addr) (n cap : Nat) (l : List α) : Prop where
  own : w.ownsRow base t k (.slice A n cap) n (l.flatMap cells)
  row : RowSl cells k w Empty A n cap l
  isNil : A = none → n = 0 ∧ cap = 0
  here : A = none ∨ ∃ g cur, A = some ⟨g, 0, none⟩ ∧ base ≤ g ∧ Blk w g t cur ∧ cur.size = cap * k

theorem GotR.of_own {t : TypeId} {base : Nat} {v : Value} (hk : ∀ f, (cells f).length = k) (h : w.ownsRow base t k v n (l.flatMap cells)) (hn : l.length = n) :
    ∃ A cap, v = .slice A n cap ∧ GotR cells k t base w A n cap l := by
  have h0 := h
  rcases h.2 with ⟨rfl, h0'⟩ | ⟨g, cap, cur, rfl, hg, hh, hnc, hm, hs, ht⟩
  · subst h0'
    exact ⟨none, 0, rfl, h0, ⟨hn, Nat.le_refl _, by simp [maxLen], fun h0 => absurd h0 (by omega)⟩, fun _ => ⟨rfl, rfl⟩, Or.inl rfl⟩
  · have hlt : g < w.heap.size := (Array.getElem?_eq_some_iff.1 hh).1
    have hb : Blk w g t cur := hh
    have hat : ∀ j, j < n * k → cur[j]? = (l.flatMap cells)[j]? := fun j hj => by
      have hl := rows_len hk l
      have hj2 : j < (l.flatMap cells).length := by rw [hl, hn]; exact hj
      have hc := h.cells (g := g) rfl j ((l.flatMap cells)[j]'hj2) (List.getElem?_eq_getElem hj2)
      have ha : (⟨g, 0, none⟩ : Addr).add j = ⟨g, j, none⟩ := by unfold Addr.add; split <;> simp_all
      rw [ha, hb.cell] at hc
      rw [hc]
      exact (List.getElem?_eq_getElem hj2).symm
    exact ⟨_, cap, rfl, h0, RowSl.of_blk hk hb hn hnc hm hat (fun h => h), (fun h => by cases h), Or.inr ⟨g, cur, rfl, hg, hb, hs⟩⟩

theorem GotR.nil_ (cells : α → List Value) (k : Nat) (t : TypeId) (base : Nat) (w : World) : GotR cells k t base w none 0 0 [] :=
  ⟨⟨by simp, Or.inl ⟨rfl, rfl⟩⟩, RowSl.nil_ _ _ _ _ (by simp [maxLen]), fun _ => ⟨rfl, rfl⟩, Or.inl rfl⟩
theorem GotR.only {t : TypeId} {base : Nat} (hk : ∀ f, (cells f).length = k) (h : GotR cells k t base w A n cap l) (q : Only T w w') (hT : ∀ i, base ≤ i → i < w.heap.size → ¬ T i) : GotR cells k t base w' A n cap l := by
  have h1 := own_only h.own q (fun i h1 h2 => hT i h1 h2)
  obtain ⟨A', cap', he, h2⟩ := GotR.of_own hk h1 h.row.1
  cases he
  exact h2
theorem GotR.below {t : TypeId} {base : Nat} (hk : ∀ f, (cells f).length = k) (h : GotR cells k t base w A n cap l) (q : Below w.heap.size w w') : GotR cells k t base w' A n cap l :=
  h.only hk (Only.of_below (S := Empty) q) (fun _ _ _ h => h)
theorem GotR.alloc {t : TypeId} {base : Nat} (hk : ∀ f, (cells f).length = k) (h : GotR cells k t base w A n cap l) (o : Obj) : GotR cells k t base (w.alloc o) A n cap l :=
  h.below hk ((Below.refl _ _).alloc (Nat.le_refl _) o)
theorem GotR.lower {t : TypeId} {base base' : Nat} (h : GotR cells k t base w A n cap l) (hb : base' ≤ base) : GotR cells k t base' w A n cap l :=
  ⟨own_base h.own hb, h.row, h.isNil, h.here.imp id fun ⟨g, cur, e, hg, hbk⟩ => ⟨g, cur, e, Nat.le_trans hb hg, hbk⟩⟩
/-- It lies in no block of S, where S holds nothing from base on. -/
theorem GotR.out {t : TypeId} {base : Nat} (h : GotR cells k t base w A n cap l) (hS : ∀ i, base ≤ i → i < w.heap.size → ¬ S i) : RowSl cells k w S A n cap l :=
  ⟨h.row.1, h.row.2.1, h.row.2.2.1, fun h0 => by
    obtain ⟨b, o, e, hb, _, hc⟩ := h.row.2.2.2 h0
    refine ⟨b, o, e, hb, hS b ?_ hb, hc⟩
    rcases h.here with h | ⟨g, cur, he, hg, _⟩
    · rw [h] at e
      cases e
    · rw [he] at e
      cases e
      exact hg⟩
theorem RowSl.news (hk : ∀ f, (cells f).length = k) {ad : Addr} {m c : Nat} (hk0 : 0 < k) (h : RowSl cells k w S (some ad) m c l) : ∀ j u, (l.flatMap cells)[j]? = some u → w.cell? (ad.add j) = some u := by
  intro j u hj
  have hl := rows_len hk l
  have hlt := (List.getElem?_eq_some_iff.1 hj).1
  rw [hl, h.1] at hlt
  have hm : 0 < m := by
    rcases Nat.eq_zero_or_pos m with h0 | h0
    · rw [h0, Nat.zero_mul] at hlt
      omega
    · exact h0
  obtain ⟨b, o, e, _, _, hc⟩ := h.2.2.2 hm
  cases e
  have hi : j / k < l.length := by rw [h.1]; exact Nat.div_lt_of_lt_mul (by rw [Nat.mul_comm]; exact hlt)
  have hjk : j % k < k := Nat.mod_lt _ hk0
  have hdm : j / k * k + j % k = j := by rw [Nat.mul_comm]; exact Nat.div_add_mod j k
  have h1 := hc (j / k) (l[j / k]'hi) (List.getElem?_eq_getElem hi) (j % k) hjk
  have h2 := rows_at hk l (j / k) (j % k) (l[j / k]'hi) (List.getElem?_eq_getElem hi) hjk
  rw [hdm] at h2
  have ha : (⟨b, o, none⟩ : Addr).add j = ⟨b, o + j, none⟩ := by unfold Addr.add; split <;> simp_all
  rw [ha, show o + j = o + j / k * k + j % k by omega, h1, ← h2, hj]

/-- A literal's block, as append takes it. -/
theorem RowSl.lit (hk : ∀ f, (cells f).length = k) (w : World) (S : Nat → Prop) (t : TypeId) (l : List α) (m : Nat) (cs : List Value) (he : cs = l.flatMap cells) (hm : l.length = m) (hm2 : m ≤ maxLen) (hS : ¬ S w.heap.size) :
    RowSl cells k (w.alloc (.cells cs.toArray t)) S (some ⟨w.heap.size, 0, none⟩) m m l :=
  RowSl.of_blk hk (Blk.new w t cs.toArray) hm (Nat.le_refl _) hm2 (fun j _ => by simp [he]) hS

theorem wpList_append_rows {ops : Array Oper} {rest : List Oper} {q : Oper} {u : Act} {Q : Exit → Act → World → Prop} (hk : ∀ f, (cells f).length = k) (h1 : ∀ f, ∀ v ∈ cells f, v.oneCell' = true) (hk0 : 0 < k)
    (ts te : TypeId) (zero : Value) (bytes : Nat) (hts : Tryz.prog.underlying ts = some (.slice te)) (hinfo : (Tryz.prog.info? te).map (fun i => (i.zero, i.size, i.bytes)) = some (some zero, k, bytes)) (hzc : zero.cells.size = k) (hby : bytes ≤ 1024)
    (hgd : q.guard = none) (s x : Operand) (hq : q.op = .call { callee := .builtin .append, args := #[s, x], argTypes := #[ts, ts] })
    (base : Nat) (B : Option Addr) (m0 c0 : Nat) (zs : List α) (hs : u.eval s = .slice B m0 c0) (hown : GotR cells k te base w B m0 c0 zs) (A : Option Addr) (m c : Nat) (l : List α)
    (hx : u.eval x = .slice A m c) (hB : RowSl cells k w S A m c l) (hn : A = none → m = 0 ∧ c = 0) (hm : m0 + m ≤ 16777216) (hbase : base ≤ w.heap.size)
    (h : ∀ A' c' w', GotR cells k te base w' A' (m0 + m) c' (zs ++ l) → w.grownBy w' (Value.slice B m0 c0).ownBlock → (∀ g, (Value.slice B m0 c0).ownBlock = some g → base ≤ g) →
      ((Value.slice A' (m0 + m) c').ownBlock = (Value.slice B m0 c0).ownBlock ∨ (Value.slice A' (m0 + m) c').ownBlock = some w.heap.size) → wpList Tryz.prog ops Q rest (u.put q.dst (.slice A' (m0 + m) c')) w') : wpList Tryz.prog ops Q (q :: rest) u w := by
  obtain ⟨i0, hi, hz0, hz1, hz2⟩ := info_parts hinfo
  have hown1 : ∀ g, (Value.slice B m0 c0).ownBlock = some g → base ≤ g := fun g hg => (hown.own.lt g hg).1
  rcases A with _ | ad
  · obtain ⟨rfl, rfl⟩ := hn rfl
    have hys : l = [] := List.eq_nil_of_length_eq_zero hB.1
    subst hys
    exact wpList_append_own_none hgd s x ts hq base te i0 k hts hi _ m0 (zs.flatMap cells) hs hown.own hx (h B c0 w (by simpa using hown) (World.grownBy.refl w _) hown1 (Or.inl rfl))
  · refine wpList_append_own_at _ hgd s x ts hq base te i0 _ k bytes hts hi hz0 hz1 hz2 hzc hk0 _ m0 (zs.flatMap cells) hs hown.own ad m c (l.flatMap cells) hx (by rw [rows_len hk, hB.1]) (hB.news hk hk0) (fun v hv => ?_) (by unfold maxLen; omega) ?_ hbase ?_
    · obtain ⟨f, _, hf⟩ := List.mem_flatMap.1 hv
      exact h1 f v hf
    · have h2 : (m0 + m) * bytes ≤ 16777216 * 1024 := Nat.mul_le_mul hm hby
      omega
    · intro v' w' h1 h2 _ h4
      obtain ⟨A', c', rfl, h3⟩ := GotR.of_own hk (l := zs ++ l) (by rw [List.flatMap_append]; exact h1) (by rw [List.length_append, hown.row.1, hB.1])
      exact h A' c' w' h3 h2 hown1 h4

/-- append onto a row of the call's own, as an equation. -/
theorem run_append_rows (hk : ∀ f, (cells f).length = k) (h1 : ∀ f, ∀ v ∈ cells f, v.oneCell' = true) (hk0 : 0 < k)
    (ts te : TypeId) (zero : Value) (bytes : Nat) (hts : Tryz.prog.underlying ts = some (.slice te)) (hinfo : (Tryz.prog.info? te).map (fun i => (i.zero, i.size, i.bytes)) = some (some zero, k, bytes)) (hzc : zero.cells.size = k) (hby : bytes ≤ 1024) (ty : TypeId)
    (base : Nat) (B : Option Addr) (m0 c0 : Nat) (zs : List α) (hown : GotR cells k te base w B m0 c0 zs) (ad : Addr) (m c : Nat) (l : List α) (hB : RowSl cells k w S (some ad) m c l) (hm : m0 + m ≤ 16777216) (hbase : base ≤ w.heap.size) :
    ∃ A' c' w', (Builtin.append_ #[ts, ts] ty #[.slice B m0 c0, .slice (some ad) m c]).run Tryz.prog w = .ok (.slice A' (m0 + m) c') w' ∧ GotR cells k te base w' A' (m0 + m) c' (zs ++ l) ∧ w.grownBy w' (Value.slice B m0 c0).ownBlock ∧ (∀ g, (Value.slice B m0 c0).ownBlock = some g → base ≤ g) := by
  obtain ⟨i0, hi, hz0, hz1, hz2⟩ := info_parts hinfo
  have hown1 : ∀ g, (Value.slice B m0 c0).ownBlock = some g → base ≤ g := fun g hg => (hown.own.lt g hg).1
  obtain ⟨v', w', hr, h2, h3, _, _⟩ := run_append_own_at (P := Tryz.prog) w base ts ty te i0 _ k bytes hts hi hz0 hz1 hz2 hzc hk0 _ m0 (zs.flatMap cells) hown.own ad m c (l.flatMap cells) (by rw [rows_len hk, hB.1]) (hB.news hk hk0) (fun v hv => by
    obtain ⟨f, _, hf⟩ := List.mem_flatMap.1 hv
    exact h1 f v hf) (by unfold maxLen; omega) (by have h2 : (m0 + m) * bytes ≤ 16777216 * 1024 := Nat.mul_le_mul hm hby; omega) hbase
  obtain ⟨A', c', rfl, h4⟩ := GotR.of_own hk (l := zs ++ l) (by rw [List.flatMap_append]; exact h2) (by rw [List.length_append, hown.row.1, hB.1])
  exact ⟨A', c', w', hr, h4, h3, hown1⟩

theorem below_gotR {B : Nat} {a : World} {base : Nat} (h : Below B a w) (hB : B ≤ w.heap.size) (g : w.grownBy w' (Value.slice A n cap).ownBlock) (hr : ∀ q, (Value.slice A n cap).ownBlock = some q → base ≤ q) (hb : B ≤ base) : Below B a w' :=
  below_grown h hB g (fun q hq => Nat.le_trans hb (hr q hq))
end

/-- append as one step of a region that draws its order, by its equation. -/
theorem step_append_eq {ops : Array Oper} {o : Oper} {a : Act} {w w' : World} {K : Act → World → Prop} {Q : Exit → Act → World → Prop} {E : Prop} {ts : TypeId} (hgd : o.guard = none) (s x : Operand)
    (hq : o.op = .call { callee := .builtin .append, args := #[s, x], argTypes := #[ts, ts] }) (hty : o.type = ts) {a0 a1 v : Value} (hs : a.eval s = a0) (hx : a.eval x = a1) (hr : (Builtin.append_ #[ts, ts] ts #[a0, a1]).run Tryz.prog w = .ok v w') (h : K (a.put o.dst v) w') :
    if Region.wanted o (yielded ops a.tmps) = true then Oper.wp Tryz.prog o a w K Q else E := by
  have hw : Region.wanted o (yielded ops a.tmps) = true := by simp [Region.wanted, hgd]
  rw [if_pos hw]
  unfold Oper.wp execOp
  simp only [hq, hty, resolve, invoke, builtin, Sem.run_bind, Sem.run_pure, Result.andThen_ok, List.map_toArray, List.map_cons, List.map_nil, hs, hx, hr]
  exact h

end Go.Proofs.YtnhfmcijadficaaGreatDoor

/- All sectors of a flash that is up and has no fuse: how often each was erased, its bytes; what nor's calls and page's calls do to them. -/
namespace Go.Proofs.YtnhfmcijadficaaGreatDoor
set_option maxRecDepth 100000
open Go.RowKit

/-- A flash that is up and has no fuse: its sectors' erases and bytes. -/
def FS (w : World) (p c e Z L : Nat) (ss : List (Nat × List UInt8)) : Prop :=
  ∃ fl : Fl, FlashAt w p c e fl ∧ fl.up = true ∧ fl.fuse = -1 ∧ fl.S = ss.length ∧ fl.Z = Z ∧ fl.L = L ∧ ∀ k m xs, ss[k]? = some (m, xs) → fl.er[k]? = some m ∧ secB fl.bs k Z = xs

theorem secB_prog_far (bs : List UInt8) (k j Z o n : Nat) (ys : List UInt8) (mask : UInt8) (hj : j ≠ k) (ho : o + ys.length ≤ Z) (hn : n = ys.length) :
    secB (bs.mapIdx (tornF (k * Z + o) ys n mask)) j Z = secB bs j Z := by
  subst hn
  apply List.ext_getElem?
  intro i
  by_cases hi : i < Z
  · rw [secB_get _ _ _ _ hi, secB_get _ _ _ _ hi, List.getElem?_mapIdx]
    cases hb : bs[j * Z + i]? with
    | none => rfl
    | some b =>
      simp only [Option.map_some]
      unfold tornF
      have h1 : ¬ (k * Z + o ≤ j * Z + i ∧ j * Z + i < k * Z + o + ys.length) := by
        rintro ⟨h1, h2⟩
        rcases Nat.lt_or_gt_of_ne hj with h | h
        · have := Nat.mul_le_mul_right Z (show j + 1 ≤ k by omega)
          rw [Nat.add_mul] at this
          omega
        · have := Nat.mul_le_mul_right Z (show k + 1 ≤ j by omega)
          rw [Nat.add_mul] at this
          omega
      rw [if_neg h1, if_neg (by omega)]
  · unfold secB
    rw [List.getElem?_eq_none (by rw [List.length_take]; omega), List.getElem?_eq_none (by rw [List.length_take]; omega)]

theorem secB_erase_far (bs : List UInt8) (k j Z : Nat) (mask : UInt8) (hj : j ≠ k) : secB (bs.mapIdx (eraseF (k * Z) Z Z mask)) j Z = secB bs j Z := by
  apply List.ext_getElem?
  intro i
  by_cases hi : i < Z
  · rw [secB_get _ _ _ _ hi, secB_get _ _ _ _ hi, List.getElem?_mapIdx]
    cases hb : bs[j * Z + i]? with
    | none => rfl
    | some b =>
      simp only [Option.map_some]
      unfold eraseF
      have h1 : ¬ (k * Z ≤ j * Z + i ∧ j * Z + i < k * Z + Z) := by
        rintro ⟨h1, h2⟩
        rcases Nat.lt_or_gt_of_ne hj with h | h
        · have := Nat.mul_le_mul_right Z (show j + 1 ≤ k by omega)
          rw [Nat.add_mul] at this
          omega
        · have := Nat.mul_le_mul_right Z (show k + 1 ≤ j by omega)
          rw [Nat.add_mul] at this
          omega
      rw [if_neg h1, if_neg (by omega)]
  · unfold secB
    rw [List.getElem?_eq_none (by rw [List.length_take]; omega), List.getElem?_eq_none (by rw [List.length_take]; omega)]

section
variable {w w' : World} {p c e Z L : Nat} {ss : List (Nat × List UInt8)} {T : Nat → Prop}
theorem FS.of (h : FS w p c e Z L ss) (o : Only T w w') (hp : ¬ T p) (hc : ¬ T c) (he : ¬ T e) : FS w' p c e Z L ss := by
  obtain ⟨fl, hf, r⟩ := h
  exact ⟨fl, hf.of o hp hc he, r⟩
theorem FS.below (h : FS w p c e Z L ss) (o : Below w.heap.size w w') : FS w' p c e Z L ss := h.of (Only.of_below (S := Empty) o) (fun h => h) (fun h => h) (fun h => h)
theorem FS.sec (h : FS w p c e Z L ss) {k m : Nat} {xs : List UInt8} (hk : ss[k]? = some (m, xs)) : Sec w p c e ss.length Z L k m xs := by
  obtain ⟨fl, hf, hu, hfu, hS, hZ, hL, hall⟩ := h
  have h2 := hall k m xs hk
  exact ⟨fl, hf, hu, hfu, hS, hZ, hL, h2.1, h2.2⟩
theorem FS.len (h : FS w p c e Z L ss) {k m : Nat} {xs : List UInt8} (hk : ss[k]? = some (m, xs)) : xs.length = Z := (h.sec hk).len
theorem FS.bz (h : FS w p c e Z L ss) : 1 ≤ ss.length ∧ ss.length ≤ 64 ∧ 64 ≤ Z ∧ Z ≤ 65536 ∧ 1 ≤ L ∧ L ≤ 1048576 ∧ ss.length * Z ≤ 4194304 := by
  obtain ⟨fl, hf, hu, hfu, hS, hZ, hL, hall⟩ := h
  have h1 := hf.ok
  have h2 := hf.ok.sz
  rw [← hS, ← hZ, ← hL]
  exact ⟨h1.s1, h1.s2, h1.z1, h1.z2, h1.l1, h1.l2, h2.1⟩
theorem FS.le (h : FS w p c e Z L ss) {k m : Nat} {xs : List UInt8} (hk : ss[k]? = some (m, xs)) : m ≤ L := by
  obtain ⟨fl, hf, hu, hfu, hS, hZ, hL, hall⟩ := h
  rw [← hL]
  exact hf.ok.eb _ _ (hall k m xs hk).1
theorem FS.three (h : FS w p c e Z L ss) (q : Nat) (hq : w.heap.size ≤ q) : ¬ Three p c e q := by
  obtain ⟨fl, hf, _⟩ := h
  have h1 := hf.hd.lt
  have h2 := hf.ce.lt
  have h3 := hf.er.lt
  intro h
  rcases h with h | h | h <;> omega
theorem FS.lt (h : FS w p c e Z L ss) (q : Nat) (hq : Three p c e q) : q < w.heap.size := by
  rcases Nat.lt_or_ge q w.heap.size with h1 | h1
  · exact h1
  · exact absurd hq (h.three q h1)
end

/-- A sector that is there has its two numbers. -/
theorem sec_at {ss : List (Nat × List UInt8)} {k : Nat} (h : k < ss.length) : ∃ m xs, ss[k]? = some (m, xs) := ⟨ss[k].1, ss[k].2, by rw [List.getElem?_eq_getElem h]⟩
theorem lt_at {ss : List (Nat × List UInt8)} {k m : Nat} {xs : List UInt8} (h : ss[k]? = some (m, xs)) : k < ss.length := (List.getElem?_eq_some_iff.1 h).1
theorem set_at {ss : List (Nat × List UInt8)} {k m : Nat} {xs : List UInt8} (h : ss[k]? = some (m, xs)) (x : Nat × List UInt8) : (ss.set k x)[k]? = some x := by
  rw [List.getElem?_set, if_pos rfl, if_pos (lt_at h)]
theorem set_far {ss : List (Nat × List UInt8)} {k j : Nat} (x : Nat × List UInt8) (h : k ≠ j) : (ss.set k x)[j]? = ss[j]? := by
  rw [List.getElem?_set, if_neg h]
theorem kz_lt {ss : List (Nat × List UInt8)} {k m Z : Nat} {xs : List UInt8} (h : ss[k]? = some (m, xs)) : k * Z + Z ≤ ss.length * Z := kz_le (lt_at h)

theorem prog_fs (p c e Z L k m at_ n cap : Nat) (ss : List (Nat × List UInt8)) (xs ys : List UInt8) (A : Option Addr) (w : World) (hs : FS w p c e Z L ss) (hk : ss[k]? = some (m, xs)) (hb : ByteSl w (Three p c e) A n cap ys)
    (hin : at_ + n ≤ Z) (hfit : Fits xs at_ ys) :
    Calls Tryz.prog 9 #[.pointer (some ⟨p, 0, none⟩), .int .i64 ((k * Z + at_ : Nat) : Int), .slice A n cap] w fun e1 w' => e1 = .returned (.int .i64 0) ∧ FS w' p c e Z L (ss.set k (m, splice xs at_ ys)) ∧ Only (Three p c e) w w' := by
  have hkz := kz_lt (Z := Z) hk
  obtain ⟨fl, hf, hu, hfu, hS, rfl, rfl, hall⟩ := hs
  have hbl := hf.ok.bl
  have hyl := hb.1
  have hm := hall k m xs hk
  obtain ⟨hm, rfl⟩ := hm
  rw [← hS] at hkz
  refine (program_fits p c e (k * fl.Z + at_) n cap fl ys A w hf hu hb (by omega) ?_).mono fun e1 w' ⟨he, hf2, ho⟩ => ⟨?_, ⟨_, hf2, ?_⟩, ho⟩
  · intro j hj
    have h := hfit j hj
    rw [secB_get _ _ _ _ (by omega)] at h
    rw [Nat.add_assoc]
    exact h
  · rw [he, code_none hfu]
  · unfold Fl.prog
    rw [burn_none hfu, many_none hfu]
    refine ⟨hu, hfu, by rw [List.length_set]; exact hS, rfl, rfl, ?_⟩
    intro j m' xs' hj
    by_cases hjk : k = j
    · subst hjk
      rw [set_at hk] at hj
      obtain ⟨rfl, rfl⟩ := Prod.mk.inj (Option.some.inj hj)
      exact ⟨hm, secB_prog fl.bs k fl.Z at_ ys fl.mask (by omega) (by omega) hfit⟩
    · rw [set_far _ hjk] at hj
      have h2 := hall j m' xs' hj
      refine ⟨h2.1, ?_⟩
      rw [← h2.2]
      exact secB_prog_far fl.bs k j fl.Z at_ _ ys fl.mask (fun h => hjk h.symm) (by omega) rfl

theorem erase_fs (p c e Z L k m : Nat) (ss : List (Nat × List UInt8)) (xs : List UInt8) (w : World) (hs : FS w p c e Z L ss) (hk : ss[k]? = some (m, xs)) (hm2 : m < L) :
    Calls Tryz.prog 119 #[.pointer (some ⟨p, 0, none⟩), .int .i64 (k : Int)] w fun e1 w' => e1 = .returned (.int .i64 0) ∧ FS w' p c e Z L (ss.set k (m + 1, List.replicate Z 255)) ∧ Only (Three p c e) w w' := by
  have hkz := kz_lt (Z := Z) hk
  have hl := hs.len hk
  obtain ⟨fl, hf, hu, hfu, hS, rfl, rfl, hall⟩ := hs
  have hbl := hf.ok.bl
  have hel := hf.ok.el
  have hm := hall k m xs hk
  obtain ⟨hm, rfl⟩ := hm
  rw [← hS] at hkz
  refine (erase_in p c e k m fl w hf hu hm hm2).mono fun e1 w' ⟨he, hf2, ho⟩ => ⟨?_, ⟨_, hf2, ?_⟩, ho⟩
  · rw [he, code_none hfu]
  · unfold Fl.erased
    rw [burn_none hfu, many_none hfu]
    refine ⟨hu, hfu, by rw [List.length_set]; exact hS, rfl, rfl, ?_⟩
    intro j m' xs' hj
    by_cases hjk : k = j
    · subst hjk
      rw [set_at hk] at hj
      obtain ⟨rfl, rfl⟩ := Prod.mk.inj (Option.some.inj hj)
      refine ⟨?_, ?_⟩
      · show (fl.er.set k ((fl.er[k]?.getD 0) + 1))[k]? = some (m + 1)
        rw [List.getElem?_set, if_pos rfl, hm, if_pos (by have := (List.getElem?_eq_some_iff.1 hm).1; omega)]
        rfl
      · show secB (fl.bs.mapIdx (eraseF (k * fl.Z) fl.Z fl.Z fl.mask)) k fl.Z = _
        rw [secB_erase _ _ _ _ _ (by omega)]
        have h := erase_whole (secB fl.bs k fl.Z) fl.mask
        rw [hl] at h
        exact h
    · rw [set_far _ hjk] at hj
      have h2 := hall j m' xs' hj
      refine ⟨?_, ?_⟩
      · show (fl.er.set k ((fl.er[k]?.getD 0) + 1))[j]? = some m'
        rw [List.getElem?_set, if_neg hjk]
        exact h2.1
      · rw [← h2.2]
        exact secB_erase_far fl.bs k j fl.Z fl.mask (fun h => hjk h.symm)

set_option maxHeartbeats 1000000 in
theorem setFlag_fs (p c e Z L k m at_ : Nat) (ss : List (Nat × List UInt8)) (xs : List UInt8) (w : World) (hs : FS w p c e Z L ss) (hk : ss[k]? = some (m, xs)) (ha : at_ < 64) :
    Calls Tryz.prog 144 #[.pointer (some ⟨p, 0, none⟩), .int .i64 (k : Int), .int .i64 (at_ : Int)] w fun e1 w' => e1 = .returned (.int .i64 0) ∧ FS w' p c e Z L (ss.set k (m, splice xs at_ [0])) ∧ Only (Three p c e) w w' := by
  have hz := hs.bz
  have hkz := kz_lt (Z := Z) hk
  have HS := Lib.hid hs
  have HK := Lib.hid hk
  have hp : ∀ W, FS W p c e Z L ss → Calls Tryz.prog 9 #[.pointer (some ⟨p, 0, none⟩), .int .i64 (((k * Z : Nat) : Int) + (at_ : Int)), .slice (some ⟨W.heap.size, 0, none⟩) 1 1] (W.alloc (.cells #[.int .u8 0] 5)) fun e1 w' =>
      e1 = .returned (.int .i64 0) ∧ FS w' p c e Z L (ss.set k (m, splice xs at_ [0])) ∧ Only (Three p c e) (W.alloc (.cells #[.int .u8 0] 5)) w' := fun W hW => by
    have hlt : ¬ Three p c e W.heap.size := hW.three _ (Nat.le_refl _)
    have h := prog_fs p c e Z L k m at_ 1 1 ss xs [0] (some ⟨W.heap.size, 0, none⟩) _ (hW.of ((Only.refl Empty W).alloc (.cells #[.int .u8 0] 5)) (fun h => h) (fun h => h) (fun h => h)) hk
      (ByteSl.lit W (Three p c e) [0] 1 rfl hlt (by decide)) (by omega) (by
        intro j hj
        have hj0 : j = 0 := by simp at hj; exact hj
        subst hj0
        simp)
    rw [show ((k * Z + at_ : Nat) : Int) = ((k * Z : Nat) : Int) + (at_ : Int) by simp] at h
    exact h
  have Hp := Lib.hid hp
  clear hs hp hk
  go_enter Tryz.func144, Tryz.ntmps144
  go_wp2_with fail
  refine (start_sec p c e _ Z L k m xs _ (HS.out.sec HK.out)).mono ?_
  rintro e1 w1 ⟨rfl, hb1⟩
  have HS1 := Lib.hid (HS.out.below hb1)
  have Hb1 := Lib.hid hb1
  have hT : k * Z ≤ 4194304 := by omega
  have Hp1 := Lib.hid (Hp.out w1 HS1.out)
  clear hb1 hz hkz Hp
  obtain ⟨T, hTe⟩ : ∃ T, T = k * Z := ⟨_, rfl⟩
  rw [← hTe] at hT Hp1 ⊢
  clear hTe
  go_wp2_with fail
  refine Hp1.out.mono ?_
  rintro e1 w2 ⟨rfl, hs2, ho2⟩
  have HE := Lib.hid (And.intro hs2 (((Only.of_below (S := Three p c e) Hb1.out).alloc (.cells #[.int .u8 0] 5)).trans ho2))
  clear hs2 ho2
  go_wp2
  go_ret
  exact ⟨rfl, HE.out⟩

set_option maxHeartbeats 1000000 in
theorem void_fs (p c e Z L k m : Nat) (ss : List (Nat × List UInt8)) (xs : List UInt8) (w : World) (hs : FS w p c e Z L ss) (hk : ss[k]? = some (m, xs)) :
    Calls Tryz.prog 118 #[.pointer (some ⟨p, 0, none⟩), .int .i64 (k : Int)] w fun e1 w' => e1 = .returned (.int .i64 0) ∧ FS w' p c e Z L (ss.set k (m, splice xs 9 [0])) ∧ Only (Three p c e) w w' := by
  have HS := Lib.hid hs
  have HK := Lib.hid hk
  clear hs hk
  go_enter Tryz.func118, Tryz.ntmps118
  go_wp2_with fail
  refine (Sec.has p c e _ Z L k m xs _ (HS.out.sec HK.out)).mono ?_
  rintro e1 w1 ⟨rfl, hb1⟩
  have HS1 := Lib.hid (HS.out.below hb1)
  have Hb1 := Lib.hid hb1
  clear hb1
  go_wp2_with fail
  refine (setFlag_fs p c e Z L k m 9 ss xs _ HS1.out HK.out (by omega)).mono ?_
  rintro e1 w2 ⟨rfl, hs2, ho2⟩
  have HE := Lib.hid (And.intro hs2 ((Only.of_below (S := Three p c e) Hb1.out).trans ho2))
  clear hs2 ho2
  go_wp2
  go_ret
  exact ⟨rfl, HE.out⟩

end Go.Proofs.YtnhfmcijadficaaGreatDoor

/- The walk over page.Open, told of all sectors of a flash. -/
namespace Go.Proofs.YtnhfmcijadficaaGreatDoor
set_option maxRecDepth 100000
open Go.RowKit

theorem set_set_ {α : Type} (l : List α) (k : Nat) (a b : α) : (l.set k a).set k b = l.set k b := by simp

set_option maxHeartbeats 4000000 in
theorem open_fs (p c e Z L k m s : Nat) (ss : List (Nat × List UInt8)) (xs : List UInt8) (w : World) (hs : FS w p c e Z L ss) (hk : ss[k]? = some (m, xs)) (hM : Mark w) (hp0 : ¬ Three p c e 0) (hu : stU xs = false) (hml : ¬ xs.count 255 = xs.length → m < L) (hs32 : s ≤ 4294967295) :
    Calls Tryz.prog 187 #[.pointer (some ⟨p, 0, none⟩), .int .i64 (k : Int), .int .u32 (s : Int)] w fun e1 w' => e1 = .returned (.int .i64 0) ∧ FS w' p c e Z L (ss.set k (if xs.count 255 = xs.length then m else m + 1, openB Z s)) ∧ Only (Three p c e) w w' := by
  have HS := Lib.hid hs
  have HM := Lib.hid hM
  have HP0 := Lib.hid hp0
  have HK := Lib.hid hk
  have hxl := Lib.hid (hs.len hk)
  have hz := hs.bz
  have hst : stS xs = if xs.count 255 = xs.length then 0 else 1 := by rw [stS, if_neg (by rw [hu]; decide)]
  have hsq : stQ xs = 0 := by rw [stQ, if_neg (by rw [hu]; decide)]
  have Hst := Lib.hid (And.intro hst hsq)
  have Hml := Lib.hid hml
  clear hs hM hu hst hsq hml hp0 hk
  by_cases hb : xs.count 255 = xs.length
  · have Hz : Hid (stS xs = 0 ∧ stQ xs = 0) := Lib.hid ⟨by rw [Hst.out.1, if_pos hb], Hst.out.2⟩
    have Hxs : Hid (xs = List.replicate Z 255) := Lib.hid (by have := all_255 xs hb; rw [hxl.out] at this; exact this)
    rw [if_pos hb]
    clear hb
    go_enter Tryz.func187, Tryz.ntmps187
    go_wp2_with fail
    refine (look_sec p c e _ Z L k m xs _ (HS.out.sec HK.out) HM.out).mono ?_
    rintro e1 w1 ⟨he, hb1⟩
    rw [Hz.out.1, Hz.out.2] at he
    subst he
    have Hb1 := Lib.hid (hb1.alloc hb1.size (.cells #[.int .i64 0, .int .u32 0, .int .i64 (m : Int)] 96))
    clear hb1
    have HS1 := Lib.hid (HS.out.below Hb1.out)
    have HO1 := Lib.hid (Only.of_below (S := Three p c e) Hb1.out)
    have HM1 := Lib.hid (HM.out.only HO1.out HP0.out)
    go_wp2_with fail
    refine (start_sec p c e _ Z L k m _ _ (HS1.out.sec HK.out)).mono ?_
    rintro e1 w2 ⟨rfl, hb2⟩
    have HS2 := Lib.hid (HS1.out.below hb2)
    have HO2 := Lib.hid (HO1.out.trans (Only.of_below (S := Three p c e) hb2))
    have HM2 := Lib.hid (HM.out.only HO2.out HP0.out)
    obtain ⟨T, hTe⟩ : ∃ T, T = k * Z := ⟨_, rfl⟩
    rw [← hTe]
    have HTe := Lib.hid hTe
    clear hb2 hTe
    go_wp2_with fail
    refine (pgBytes_any s _ hs32 HM2.out).mono ?_
    rintro e1 w3 ⟨⟨u3, rfl, hown3⟩, hb3⟩
    obtain ⟨A3, cap3, rfl, hB3, -⟩ := ByteSl.of_own (S := Three p c e) hown3 (fun q h1 _ => HS2.out.three q h1)
    have HS3 := Lib.hid (HS2.out.below hb3)
    have HO3 := Lib.hid (HO2.out.trans (Only.of_below (S := Three p c e) hb3))
    have hpr := prog_fs p c e Z L k m 0 8 cap3 ss xs (headB s) A3 _ HS3.out HK.out hB3 (by omega) (by rw [Hxs.out]; exact fits_blank Z 0 (headB s) (by rw [headB_len]; omega))
    rw [Nat.add_zero, ← HTe.out] at hpr
    have Hpr := Lib.hid hpr
    clear hpr hown3 hb3 hB3
    go_wp2_with fail
    refine Hpr.out.mono ?_
    rintro e1 w4 ⟨rfl, hs4, ho4⟩
    have HS4 := Lib.hid hs4
    have HO4 := Lib.hid (HO3.out.trans ho4)
    clear hs4 ho4 Hpr
    go_wp2_with fail
    refine (setFlag_fs p c e Z L k m 8 _ _ _ HS4.out (set_at HK.out _) (by omega)).mono ?_
    rw [set_set_]
    rintro e1 w5 ⟨rfl, hs5, ho5⟩
    have HE := Lib.hid (And.intro hs5 (HO4.out.trans ho5))
    clear hs5 ho5
    go_wp2
    go_ret
    refine ⟨rfl, ?_, HE.out.2⟩
    have h := HE.out.1
    rw [Hxs.out] at h
    exact h
  · have Hz : Hid (stS xs = 1 ∧ stQ xs = 0) := Lib.hid ⟨by rw [Hst.out.1, if_neg hb], Hst.out.2⟩
    rw [if_neg hb]
    have Hm2 := Lib.hid (Hml.out hb)
    clear hb
    go_enter Tryz.func187, Tryz.ntmps187
    go_wp2_with fail
    refine (look_sec p c e _ Z L k m xs _ (HS.out.sec HK.out) HM.out).mono ?_
    rintro e1 w0 ⟨he, hb0⟩
    rw [Hz.out.1, Hz.out.2] at he
    subst he
    have Hb0 := Lib.hid (hb0.alloc hb0.size (.cells #[.int .i64 1, .int .u32 0, .int .i64 (m : Int)] 96))
    clear hb0
    have HS0 := Lib.hid (HS.out.below Hb0.out)
    have HO0 := Lib.hid (Only.of_below (S := Three p c e) Hb0.out)
    go_wp2_with fail
    refine (erase_fs p c e Z L k m ss xs _ HS0.out HK.out Hm2.out).mono ?_
    rintro e1 w1 ⟨rfl, hs1, ho1⟩
    have HS1 := Lib.hid hs1
    have HO1 := Lib.hid (HO0.out.trans ho1)
    have HK1 := Lib.hid (set_at HK.out (m + 1, List.replicate Z 255))
    clear hs1 ho1
    go_wp2_with fail
    refine (start_sec p c e _ Z L k (m + 1) _ _ (HS1.out.sec HK1.out)).mono ?_
    rintro e1 w2 ⟨rfl, hb2⟩
    have HS2 := Lib.hid (HS1.out.below hb2)
    have HO2 := Lib.hid (HO1.out.trans (Only.of_below (S := Three p c e) hb2))
    have HM2 := Lib.hid (HM.out.only HO2.out HP0.out)
    obtain ⟨T, hTe⟩ : ∃ T, T = k * Z := ⟨_, rfl⟩
    rw [← hTe]
    have HTe := Lib.hid hTe
    clear hb2 hTe
    go_wp2_with fail
    refine (pgBytes_any s _ hs32 HM2.out).mono ?_
    rintro e1 w3 ⟨⟨u3, rfl, hown3⟩, hb3⟩
    obtain ⟨A3, cap3, rfl, hB3, -⟩ := ByteSl.of_own (S := Three p c e) hown3 (fun q h1 _ => HS2.out.three q h1)
    have HS3 := Lib.hid (HS2.out.below hb3)
    have HO3 := Lib.hid (HO2.out.trans (Only.of_below (S := Three p c e) hb3))
    have hpr := prog_fs p c e Z L k (m + 1) 0 8 cap3 _ _ (headB s) A3 _ HS3.out HK1.out hB3 (by omega) (fits_blank Z 0 (headB s) (by rw [headB_len]; omega))
    rw [Nat.add_zero, ← HTe.out, set_set_] at hpr
    have Hpr := Lib.hid hpr
    clear hpr hown3 hb3 hB3
    go_wp2_with fail
    refine Hpr.out.mono ?_
    rintro e1 w4 ⟨rfl, hs4, ho4⟩
    have HS4 := Lib.hid hs4
    have HO4 := Lib.hid (HO3.out.trans ho4)
    clear hs4 ho4 Hpr
    go_wp2_with fail
    refine (setFlag_fs p c e Z L k (m + 1) 8 _ _ _ HS4.out (set_at HK.out _) (by omega)).mono ?_
    rw [set_set_]
    rintro e1 w5 ⟨rfl, hs5, ho5⟩
    have HE := Lib.hid (And.intro hs5 (HO4.out.trans ho5))
    clear hs5 ho5
    go_wp2
    go_ret
    exact ⟨rfl, HE.out.1, HE.out.2⟩

end Go.Proofs.YtnhfmcijadficaaGreatDoor
