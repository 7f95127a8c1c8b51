/- Rows of whatever lies in k cells each: how a slice reads as them, rows of a call's own, append. -/
import Derived.Test.YtpcjmicciccihaaDoorZab
import Derived.Deep.RegionHeld3
import Derived.Deep.RegionLaw
import Derived.Lib.AppendStr
namespace Go.Proofs.YtpcjmicciccihaaDoor
set_option maxRecDepth 100000
open Go.RowKit

section
variable {α : Type} {cells : α → List Value} {k : Nat}

/-- The slice value reads as what lies side by side, k cells each; its block is not in S. -/
def RowSl (cells : α → List Value) (k : Nat) (w : World) (S : Nat → Prop) (A : Option Addr) (n cap : Nat) (l : List α) : Prop :=
  l.length = n ∧ n ≤ cap ∧ cap ≤ maxLen ∧ (0 < n → ∃ b o, A = some ⟨b, o, none⟩ ∧ b < w.heap.size ∧ ¬ S b ∧ ∀ i f, l[i]? = some f → ∀ j, j < k → w.cell? ⟨b, o + i * k + j, none⟩ = (cells f)[j]?)

variable {w w' : World} {S T : Nat → Prop} {A : Option Addr} {n cap : Nat} {l : List α}
theorem RowSl.only (h : RowSl cells k w S A n cap l) (q : Only T w w') (hT : ∀ i, i < w.heap.size → T i → S i) : RowSl cells k w' S A n cap l :=
  ⟨h.1, h.2.1, h.2.2.1, fun hn => by
    obtain ⟨b, o, e, hb, hs, hc⟩ := h.2.2.2 hn
    exact ⟨b, o, e, Nat.lt_of_lt_of_le hb q.size, hs, fun i f hf j hj => (q.cell (p := ⟨b, o + i * k + j, none⟩) hb (fun ht => hs (hT _ hb ht))).trans (hc i f hf j hj)⟩⟩
theorem RowSl.mono (h : RowSl cells k w S A n cap l) (hT : ∀ i, i < w.heap.size → T i → S i) : RowSl cells k w T A n cap l :=
  ⟨h.1, h.2.1, h.2.2.1, fun hn => by
    obtain ⟨b, o, e, hb, hs, hc⟩ := h.2.2.2 hn
    exact ⟨b, o, e, hb, fun ht => hs (hT _ hb ht), hc⟩⟩
theorem RowSl.below (h : RowSl cells k w S A n cap l) (q : Below w.heap.size w w') : RowSl cells k w' S A n cap l := h.only (Only.of_below (S := Empty) q) (fun _ _ h => h.elim)
theorem RowSl.nil_ (w : World) (S : Nat → Prop) (A : Option Addr) (cap : Nat) (h : cap ≤ maxLen) : RowSl cells k w S A 0 cap [] := ⟨rfl, Nat.zero_le _, h, fun h => absurd h (by omega)⟩
/-- The i-th of them. -/
theorem RowSl.at_ (h : RowSl cells k w S A n cap l) {i : Nat} (hi : i < n) : ∃ b o f, A = some ⟨b, o, none⟩ ∧ b < w.heap.size ∧ ¬ S b ∧ l[i]? = some f ∧ ∀ j, j < k → w.cell? ⟨b, o + i * k + j, none⟩ = (cells f)[j]? := by
  obtain ⟨b, o, e, hb, hs, hc⟩ := h.2.2.2 (by omega)
  have hl : i < l.length := by rw [h.1]; exact hi
  exact ⟨b, o, l[i], e, hb, hs, List.getElem?_eq_getElem hl, hc i _ (List.getElem?_eq_getElem hl)⟩

theorem rows_len (hk : ∀ f, (cells f).length = k) : ∀ l : List α, (l.flatMap cells).length = l.length * k
  | [] => by simp
  | g :: l => by
    rw [List.flatMap_cons, List.length_append, rows_len hk l, List.length_cons, hk, Nat.add_mul]
    omega
theorem rows_at (hk : ∀ f, (cells f).length = k) : ∀ (l : List α) (i j : Nat) (f : α), l[i]? = some f → j < k → (l.flatMap cells)[i * k + j]? = (cells f)[j]?
  | [], i, j, f, h, _ => by simp at h
  | g :: l, 0, j, f, h, hj => by
    simp at h
    subst h
    rw [List.flatMap_cons, Nat.zero_mul, Nat.zero_add, List.getElem?_append_left (by rw [hk]; exact hj)]
  | g :: l, i + 1, j, f, h, hj => by
    simp at h
    have e : (i + 1) * k = i * k + k := by rw [Nat.add_mul]; omega
    rw [List.flatMap_cons, List.getElem?_append_right (by rw [hk]; omega), hk, show (i + 1) * k + j - k = i * k + j by omega]
    exact rows_at hk l i j f h hj

theorem RowSl.of_blk {g : Nat} {t : TypeId} {cs : Array Value} (hk : ∀ f, (cells f).length = k) (h : Blk w g t cs) (hn : l.length = n) (hc : n ≤ cap) (hm : cap ≤ maxLen) (hl : ∀ j, j < n * k → cs[j]? = (l.flatMap cells)[j]?) (hS : ¬ S g) :
    RowSl cells k w S (some ⟨g, 0, none⟩) n cap l :=
  ⟨hn, hc, hm, fun _ => ⟨g, 0, rfl, h.lt, hS, fun i f hf j hj => by
    have hi : i < l.length := (List.getElem?_eq_some_iff.1 hf).1
    have h2 := Nat.mul_le_mul_right k (show i + 1 ≤ n by omega)
    rw [Nat.add_mul] at h2
    rw [h.cell, Nat.zero_add, hl _ (by omega), rows_at hk l i j f hf hj]⟩⟩

/-- What a call has made in a row of its own: it reads as l. -/
structure GotR (cells : α → List Value) (k : Nat) (t : TypeId) (base : Nat) (w : World) (A : Option Addr) (n cap : Nat) (l : List α) : Prop where
  own : w.ownsRow base t k (.slice A n cap) n (l.flatMap cells)
  row : RowSl cells k w Empty A n cap l
  isNil : A = none → n = 0 ∧ cap = 0
  here : A = none ∨ ∃ g cur, A = some ⟨g, 0, none⟩ ∧ base ≤ g ∧ Blk w g t cur ∧ cur.size = cap * k

theorem GotR.of_own {t : TypeId} {base : Nat} {v : Value} (hk : ∀ f, (cells f).length = k) (h : w.ownsRow base t k v n (l.flatMap cells)) (hn : l.length = n) :
    ∃ A cap, v = .slice A n cap ∧ GotR cells k t base w A n cap l := by
  have h0 := h
  rcases h.2 with ⟨rfl, h0'⟩ | ⟨g, cap, cur, rfl, hg, hh, hnc, hm, hs, ht⟩
  · subst h0'
    exact ⟨none, 0, rfl, h0, ⟨hn, Nat.le_refl _, by simp [maxLen], fun h0 => absurd h0 (by omega)⟩, fun _ => ⟨rfl, rfl⟩, Or.inl rfl⟩
  · have hlt : g < w.heap.size := (Array.getElem?_eq_some_iff.1 hh).1
    have hb : Blk w g t cur := hh
    have hat : ∀ j, j < n * k → cur[j]? = (l.flatMap cells)[j]? := fun j hj => by
      have hl := rows_len hk l
      have hj2 : j < (l.flatMap cells).length := by rw [hl, hn]; exact hj
      have hc := h.cells (g := g) rfl j ((l.flatMap cells)[j]'hj2) (List.getElem?_eq_getElem hj2)
      have ha : (⟨g, 0, none⟩ : Addr).add j = ⟨g, j, none⟩ := by unfold Addr.add; split <;> simp_all
      rw [ha, hb.cell] at hc
      rw [hc]
      exact (List.getElem?_eq_getElem hj2).symm
    exact ⟨_, cap, rfl, h0, RowSl.of_blk hk hb hn hnc hm hat (fun h => h), (fun h => by cases h), Or.inr ⟨g, cur, rfl, hg, hb, hs⟩⟩

theorem GotR.nil_ (cells : α → List Value) (k : Nat) (t : TypeId) (base : Nat) (w : World) : GotR cells k t base w none 0 0 [] :=
  ⟨⟨by simp, Or.inl ⟨rfl, rfl⟩⟩, RowSl.nil_ _ _ _ _ (by simp [maxLen]), fun _ => ⟨rfl, rfl⟩, Or.inl rfl⟩
theorem GotR.only {t : TypeId} {base : Nat} (hk : ∀ f, (cells f).length = k) (h : GotR cells k t base w A n cap l) (q : Only T w w') (hT : ∀ i, base ≤ i → i < w.heap.size → ¬ T i) : GotR cells k t base w' A n cap l := by
  have h1 := own_only h.own q (fun i h1 h2 => hT i h1 h2)
  obtain ⟨A', cap', he, h2⟩ := GotR.of_own hk h1 h.row.1
  cases he
  exact h2
theorem GotR.below {t : TypeId} {base : Nat} (hk : ∀ f, (cells f).length = k) (h : GotR cells k t base w A n cap l) (q : Below w.heap.size w w') : GotR cells k t base w' A n cap l :=
  h.only hk (Only.of_below (S := Empty) q) (fun _ _ _ h => h)
theorem GotR.alloc {t : TypeId} {base : Nat} (hk : ∀ f, (cells f).length = k) (h : GotR cells k t base w A n cap l) (o : Obj) : GotR cells k t base (w.alloc o) A n cap l :=
  h.below hk ((Below.refl _ _).alloc (Nat.le_refl _) o)
theorem GotR.lower {t : TypeId} {base base' : Nat} (h : GotR cells k t base w A n cap l) (hb : base' ≤ base) : GotR cells k t base' w A n cap l :=
  ⟨own_base h.own hb, h.row, h.isNil, h.here.imp id fun ⟨g, cur, e, hg, hbk⟩ => ⟨g, cur, e, Nat.le_trans hb hg, hbk⟩⟩
/-- It lies in no block of S, where S holds nothing from base on. -/
theorem GotR.out {t : TypeId} {base : Nat} (h : GotR cells k t base w A n cap l) (hS : ∀ i, base ≤ i → i < w.heap.size → ¬ S i) : RowSl cells k w S A n cap l :=
  ⟨h.row.1, h.row.2.1, h.row.2.2.1, fun h0 => by
    obtain ⟨b, o, e, hb, _, hc⟩ := h.row.2.2.2 h0
    refine ⟨b, o, e, hb, hS b ?_ hb, hc⟩
    rcases h.here with h | ⟨g, cur, he, hg, _⟩
    · rw [h] at e
      cases e
    · rw [he] at e
      cases e
      exact hg⟩
theorem RowSl.news (hk : ∀ f, (cells f).length = k) {ad : Addr} {m c : Nat} (hk0 : 0 < k) (h : RowSl cells k w S (some ad) m c l) : ∀ j u, (l.flatMap cells)[j]? = some u → w.cell? (ad.add j) = some u := by
  intro j u hj
  have hl := rows_len hk l
  have hlt := (List.getElem?_eq_some_iff.1 hj).1
  rw [hl, h.1] at hlt
  have hm : 0 < m := by
    rcases Nat.eq_zero_or_pos m with h0 | h0
    · rw [h0, Nat.zero_mul] at hlt
      omega
    · exact h0
  obtain ⟨b, o, e, _, _, hc⟩ := h.2.2.2 hm
  cases e
  have hi : j / k < l.length := by rw [h.1]; exact Nat.div_lt_of_lt_mul (by rw [Nat.mul_comm]; exact hlt)
  have hjk : j % k < k := Nat.mod_lt _ hk0
  have hdm : j / k * k + j % k = j := by rw [Nat.mul_comm]; exact Nat.div_add_mod j k
  have h1 := hc (j / k) (l[j / k]'hi) (List.getElem?_eq_getElem hi) (j % k) hjk
  have h2 := rows_at hk l (j / k) (j % k) (l[j / k]'hi) (List.getElem?_eq_getElem hi) hjk
  rw [hdm] at h2
  have ha : (⟨b, o, none⟩ : Addr).add j = ⟨b, o + j, none⟩ := by unfold Addr.add; split <;> simp_all
  rw [ha, show o + j = o + j / k * k + j % k by omega, h1, ← h2, hj]

/-- A literal's block, as append takes it. -/
theorem RowSl.lit (hk : ∀ f, (cells f).length = k) (w : World) (S : Nat → Prop) (t : TypeId) (l : List α) (m : Nat) (cs : List Value) (he : cs = l.flatMap cells) (hm : l.length = m) (hm2 : m ≤ maxLen) (hS : ¬ S w.heap.size) :
    RowSl cells k (w.alloc (.cells cs.toArray t)) S (some ⟨w.heap.size, 0, none⟩) m m l :=
  RowSl.of_blk hk (Blk.new w t cs.toArray) hm (Nat.le_refl _) hm2 (fun j _ => by simp [he]) hS

theorem wpList_append_rows {ops : Array Oper} {rest : List Oper} {q : Oper} {u : Act} {Q : Exit → Act → World → Prop} (hk : ∀ f, (cells f).length = k) (h1 : ∀ f, ∀ v ∈ cells f, v.oneCell' = true) (hk0 : 0 < k)
    (ts te : TypeId) (zero : Value) (bytes : Nat) (hts : Tryd.prog.underlying ts = some (.slice te)) (hinfo : (Tryd.prog.info? te).map (fun i => (i.zero, i.size, i.bytes)) = some (some zero, k, bytes)) (hzc : zero.cells.size = k) (hby : bytes ≤ 1024)
    (hgd : q.guard = none) (s x : Operand) (hq : q.op = .call { callee := .builtin .append, args := #[s, x], argTypes := #[ts, ts] })
    (base : Nat) (B : Option Addr) (m0 c0 : Nat) (zs : List α) (hs : u.eval s = .slice B m0 c0) (hown : GotR cells k te base w B m0 c0 zs) (A : Option Addr) (m c : Nat) (l : List α)
    (hx : u.eval x = .slice A m c) (hB : RowSl cells k w S A m c l) (hn : A = none → m = 0 ∧ c = 0) (hm : m0 + m ≤ 16777216) (hbase : base ≤ w.heap.size)
    (h : ∀ A' c' w', GotR cells k te base w' A' (m0 + m) c' (zs ++ l) → w.grownBy w' (Value.slice B m0 c0).ownBlock → (∀ g, (Value.slice B m0 c0).ownBlock = some g → base ≤ g) →
      ((Value.slice A' (m0 + m) c').ownBlock = (Value.slice B m0 c0).ownBlock ∨ (Value.slice A' (m0 + m) c').ownBlock = some w.heap.size) → wpList Tryd.prog ops Q rest (u.put q.dst (.slice A' (m0 + m) c')) w') : wpList Tryd.prog ops Q (q :: rest) u w := by
  obtain ⟨i0, hi, hz0, hz1, hz2⟩ := info_parts hinfo
  have hown1 : ∀ g, (Value.slice B m0 c0).ownBlock = some g → base ≤ g := fun g hg => (hown.own.lt g hg).1
  rcases A with _ | ad
  · obtain ⟨rfl, rfl⟩ := hn rfl
    have hys : l = [] := List.eq_nil_of_length_eq_zero hB.1
    subst hys
    exact wpList_append_own_none hgd s x ts hq base te i0 k hts hi _ m0 (zs.flatMap cells) hs hown.own hx (h B c0 w (by simpa using hown) (World.grownBy.refl w _) hown1 (Or.inl rfl))
  · refine wpList_append_own_at _ hgd s x ts hq base te i0 _ k bytes hts hi hz0 hz1 hz2 hzc hk0 _ m0 (zs.flatMap cells) hs hown.own ad m c (l.flatMap cells) hx (by rw [rows_len hk, hB.1]) (hB.news hk hk0) (fun v hv => ?_) (by unfold maxLen; omega) ?_ hbase ?_
    · obtain ⟨f, _, hf⟩ := List.mem_flatMap.1 hv
      exact h1 f v hf
    · have h2 : (m0 + m) * bytes ≤ 16777216 * 1024 := Nat.mul_le_mul hm hby
      omega
    · intro v' w' h1 h2 _ h4
      obtain ⟨A', c', rfl, h3⟩ := GotR.of_own hk (l := zs ++ l) (by rw [List.flatMap_append]; exact h1) (by rw [List.length_append, hown.row.1, hB.1])
      exact h A' c' w' h3 h2 hown1 h4

/-- append onto a row of the call's own, as an equation. -/
theorem run_append_rows (hk : ∀ f, (cells f).length = k) (h1 : ∀ f, ∀ v ∈ cells f, v.oneCell' = true) (hk0 : 0 < k)
    (ts te : TypeId) (zero : Value) (bytes : Nat) (hts : Tryd.prog.underlying ts = some (.slice te)) (hinfo : (Tryd.prog.info? te).map (fun i => (i.zero, i.size, i.bytes)) = some (some zero, k, bytes)) (hzc : zero.cells.size = k) (hby : bytes ≤ 1024) (ty : TypeId)
    (base : Nat) (B : Option Addr) (m0 c0 : Nat) (zs : List α) (hown : GotR cells k te base w B m0 c0 zs) (ad : Addr) (m c : Nat) (l : List α) (hB : RowSl cells k w S (some ad) m c l) (hm : m0 + m ≤ 16777216) (hbase : base ≤ w.heap.size) :
    ∃ A' c' w', (Builtin.append_ #[ts, ts] ty #[.slice B m0 c0, .slice (some ad) m c]).run Tryd.prog w = .ok (.slice A' (m0 + m) c') w' ∧ GotR cells k te base w' A' (m0 + m) c' (zs ++ l) ∧ w.grownBy w' (Value.slice B m0 c0).ownBlock ∧ (∀ g, (Value.slice B m0 c0).ownBlock = some g → base ≤ g) := by
  obtain ⟨i0, hi, hz0, hz1, hz2⟩ := info_parts hinfo
  have hown1 : ∀ g, (Value.slice B m0 c0).ownBlock = some g → base ≤ g := fun g hg => (hown.own.lt g hg).1
  obtain ⟨v', w', hr, h2, h3, _, _⟩ := run_append_own_at (P := Tryd.prog) w base ts ty te i0 _ k bytes hts hi hz0 hz1 hz2 hzc hk0 _ m0 (zs.flatMap cells) hown.own ad m c (l.flatMap cells) (by rw [rows_len hk, hB.1]) (hB.news hk hk0) (fun v hv => by
    obtain ⟨f, _, hf⟩ := List.mem_flatMap.1 hv
    exact h1 f v hf) (by unfold maxLen; omega) (by have h2 : (m0 + m) * bytes ≤ 16777216 * 1024 := Nat.mul_le_mul hm hby; omega) hbase
  obtain ⟨A', c', rfl, h4⟩ := GotR.of_own hk (l := zs ++ l) (by rw [List.flatMap_append]; exact h2) (by rw [List.length_append, hown.row.1, hB.1])
  exact ⟨A', c', w', hr, h4, h3, hown1⟩

theorem below_gotR {B : Nat} {a : World} {base : Nat} (h : Below B a w) (hB : B ≤ w.heap.size) (g : w.grownBy w' (Value.slice A n cap).ownBlock) (hr : ∀ q, (Value.slice A n cap).ownBlock = some q → base ≤ q) (hb : B ≤ base) : Below B a w' :=
  below_grown h hB g (fun q hq => Nat.le_trans hb (hr q hq))
end

/-- append as one step of a region that draws its order, by its equation. -/
theorem step_append_eq {ops : Array Oper} {o : Oper} {a : Act} {w w' : World} {K : Act → World → Prop} {Q : Exit → Act → World → Prop} {E : Prop} {ts : TypeId} (hgd : o.guard = none) (s x : Operand)
    (hq : o.op = .call { callee := .builtin .append, args := #[s, x], argTypes := #[ts, ts] }) (hty : o.type = ts) {a0 a1 v : Value} (hs : a.eval s = a0) (hx : a.eval x = a1) (hr : (Builtin.append_ #[ts, ts] ts #[a0, a1]).run Tryd.prog w = .ok v w') (h : K (a.put o.dst v) w') :
    if Region.wanted o (yielded ops a.tmps) = true then Oper.wp Tryd.prog o a w K Q else E := by
  have hw : Region.wanted o (yielded ops a.tmps) = true := by simp [Region.wanted, hgd]
  rw [if_pos hw]
  unfold Oper.wp execOp
  simp only [hq, hty, resolve, invoke, builtin, Sem.run_bind, Sem.run_pure, Result.andThen_ok, List.map_toArray, List.map_cons, List.map_nil, hs, hx, hr]
  exact h

end Go.Proofs.YtpcjmicciccihaaDoor

/- Bytes of a call's own, opened as a slice; blocks beside a row that grows. (The same words stand in En, Ej, Eq for the seat of ops.) -/
namespace Go.Proofs.YtpcjmicciccihaaDoor
set_option maxRecDepth 100000
open Go.RowKit

theorem own_open {w : World} {base : Nat} {v : Value} {n : Nat} {xs : List UInt8} (h : w.ownsRow base 5 1 v n (xs.map B8)) :
    ∃ A cap, v = .slice A n cap ∧ ByteSl w Empty A n cap xs ∧ (A = none → n = 0 ∧ cap = 0) := by
  obtain ⟨A, cap, e, hB, _⟩ := ByteSl.of_own (S := Empty) h (fun _ _ _ h => h)
  refine ⟨A, cap, e, hB, fun hA => ?_⟩
  subst hA
  rcases h.2 with ⟨h1, h2⟩ | ⟨g, c, cur, h1, _⟩
  · rw [e] at h1
    simp at h1
    exact ⟨h2, h1.2⟩
  · rw [e] at h1
    cases h1
theorem own_ne_ {w : World} {base : Nat} {v : Value} {n q : Nat} {xs : List Value} {t : TypeId} {cs : Array Value} (h : w.ownsRow base 5 1 v n xs) (hq : Blk w q t cs) (ht : 5 ≠ t) : ∀ g, v.ownBlock = some g → g ≠ q := by
  intro g hg
  rcases h.2 with ⟨rfl, _⟩ | ⟨g', c, cur, rfl, _, hh, _⟩
  · cases hg
  · cases hg
    exact Blk.ne_ (w := w) (cs := cur) hh hq ht
theorem own_ge {w : World} {base : Nat} {v : Value} {n : Nat} {xs : List Value} (h : w.ownsRow base 5 1 v n xs) : ∀ q, v.ownBlock = some q → base ≤ q := by
  intro q hq
  rcases h.2 with ⟨rfl, _⟩ | ⟨g, c, cur, rfl, hb, _⟩
  · cases hq
  · cases hq
    exact hb
/-- A block that isn't the row's stays where the row grows. -/
theorem grown_blk {W W' : World} {row : Option Nat} {q : Nat} {t : TypeId} {cs : Array Value} (h : W.grownBy W' row) (hq : Blk W q t cs) (hne : ∀ g, row = some g → g ≠ q) : Blk W' q t cs :=
  (Only.of_grown (S := fun p => row = some p) h (fun k e _ => e)).blk hq (fun e => hne q e rfl)
theorem own_none (w : World) (base : Nat) : w.ownsRow base 5 1 (.slice none 0 0) ([] : List UInt8).length (([] : List UInt8).map B8) := ⟨rfl, Or.inl ⟨rfl, rfl⟩⟩
/-- Bytes that a call has made, behind an error. -/
def GotEnc (w w' : World) (e : Ending) (c : Int) (bs : List UInt8) : Prop := (∃ u, e = .returned (.tuple #[u, .int .i64 c]) ∧ w'.ownsRow w.heap.size 5 1 u bs.length (bs.map B8)) ∧ Below w.heap.size w w'

end Go.Proofs.YtpcjmicciccihaaDoor

/- Append of bytes, and of a string, as one step of a region that draws its order; append of a string for the plain walk. -/
namespace Go.Proofs.YtpcjmicciccihaaDoor
set_option maxRecDepth 100000
open Go.RowKit

/-- A call's answer that are bytes of a row made since base. -/
def Ret8 (base k : Nat) (zs : List UInt8) (e : Ending) (w : World) : Prop := ∃ u, e = .returned u ∧ w.ownsRow base 5 1 u k (zs.map B8)

/-- append of bytes that lie somewhere (a nil slice, too) onto a row of the call's own: what it runs to. -/
theorem run_append_bytes {w : World} (ty : TypeId) (base : Nat) (v : Value) (k : Nat) (zs : List UInt8) (hown : w.ownsRow base 5 1 v k (zs.map B8)) (A : Option Addr) (m c : Nat) (ys : List UInt8) (S : Nat → Prop)
    (hB : ByteSl w S A m c ys) (hn : A = none → m = 0 ∧ c = 0) (hm : k + m ≤ 16777216) (hbase : base ≤ w.heap.size) :
    ∃ v' w', (Builtin.append_ #[22, 22] ty #[v, .slice A m c]).run Tryd.prog w = .ok v' w' ∧ w'.ownsRow base 5 1 v' (k + m) ((zs ++ ys).map B8) ∧ w.grownBy w' v.ownBlock ∧ (v' = .slice none 0 0 → v = .slice none 0 0) := by
  obtain ⟨i0, hi, hz0, hz1, hz2⟩ := info_parts Tryd.infoU8
  rcases A with _ | ad
  · obtain ⟨rfl, rfl⟩ := hn rfl
    have hys : ys = [] := List.eq_nil_of_length_eq_zero hB.1
    subst hys
    exact ⟨v, w, run_append_owned_none (P := Tryd.prog) (w := w) base 22 ty 5 i0 1 Tryd.underlying22 hi v k (zs.map B8) hown, by simpa using hown, World.grownBy.refl w _, id⟩
  · obtain ⟨v', w', hr, h2, h3, h4, _⟩ := run_append_own_at (P := Tryd.prog) w base 22 ty 5 i0 (.int .u8 0) 1 1 Tryd.underlying22 hi hz0 hz1 hz2 rfl (by decide) v k (zs.map B8) hown ad m c (ys.map B8) (by simp [hB.1])
      (fun j y hj => by
        rw [List.getElem?_map] at hj
        cases hj2 : ys[j]? with
        | none => rw [hj2] at hj; cases hj
        | some z =>
          have hjm : j < m := by have := (List.getElem?_eq_some_iff.1 hj2).1; have := hB.1; omega
          obtain ⟨ad', he, _, _, hc⟩ := hB.2.2.2 (by omega)
          cases he
          rw [hj2] at hj
          rw [hc j z hj2]
          simpa using hj)
      (fun y hy => by obtain ⟨z, _, rfl⟩ := List.mem_map.1 hy; rfl) (by unfold maxLen; omega) (by omega) hbase
    exact ⟨v', w', hr, by simpa using h2, h3, fun e => (h4.1 e).1⟩

theorem strCells_map (s : ByteArray) : Lib.strCells s = s.data.toList.map B8 := by
  unfold Lib.strCells
  rfl

section
variable {ops : Array Oper} {o : Oper} {a : Act} {w : World} {K : Act → World → Prop} {Q : Exit → Act → World → Prop} {E : Prop}

theorem step_append_bytes (hgd : o.guard = none) (s x : Operand) (hq : o.op = .call { callee := .builtin .append, args := #[s, x], argTypes := #[22, 22] })
    (base : Nat) (v : Value) (hs : a.eval s = v) (k : Nat) (zs : List UInt8) (hown : w.ownsRow base 5 1 v k (zs.map B8)) (A : Option Addr) (m c : Nat) (ys : List UInt8) (S : Nat → Prop)
    (hx : a.eval x = .slice A m c) (hB : ByteSl w S A m c ys) (hn : A = none → m = 0 ∧ c = 0) (hm : k + m ≤ 16777216) (hbase : base ≤ w.heap.size)
    (h : ∀ v' w', w'.ownsRow base 5 1 v' (k + m) ((zs ++ ys).map B8) → w.grownBy w' v.ownBlock → (v' = .slice none 0 0 → v = .slice none 0 0) → K (a.put o.dst v') w') :
    if Region.wanted o (yielded ops a.tmps) = true then Oper.wp Tryd.prog o a w K Q else E := by
  have hw : Region.wanted o (yielded ops a.tmps) = true := by simp [Region.wanted, hgd]
  rw [if_pos hw]
  obtain ⟨v', w', hr, h2, h3, h4⟩ := run_append_bytes o.type base v k zs hown A m c ys S hB hn hm hbase
  unfold Oper.wp execOp
  simp only [hq, resolve, invoke, builtin, Sem.run_bind, Sem.run_pure, Result.andThen_ok, List.map_toArray, List.map_cons, List.map_nil, hs, hx, hr]
  exact h v' w' h2 h3 h4

/-- append of a string's bytes onto a row of the call's own. -/
theorem step_append_str (hgd : o.guard = none) (s x : Operand) (hq : o.op = .call { callee := .builtin .append, args := #[s, x], argTypes := #[22, 9] })
    (base : Nat) (v : Value) (hs : a.eval s = v) (k : Nat) (zs : List UInt8) (hown : w.ownsRow base 5 1 v k (zs.map B8)) (t : ByteArray)
    (hx : a.eval x = .string t) (hm : k + t.size ≤ 16777216) (hbase : base ≤ w.heap.size)
    (h : ∀ v' w', w'.ownsRow base 5 1 v' (k + t.size) ((zs ++ t.data.toList).map B8) → w.grownBy w' v.ownBlock → (v' = .slice none 0 0 → v = .slice none 0 0) → K (a.put o.dst v') w') :
    if Region.wanted o (yielded ops a.tmps) = true then Oper.wp Tryd.prog o a w K Q else E := by
  have hw : Region.wanted o (yielded ops a.tmps) = true := by simp [Region.wanted, hgd]
  rw [if_pos hw]
  obtain ⟨i0, hi, hz0, hz1, hz2⟩ := info_parts Tryd.infoU8
  obtain ⟨v', w', hr, h2, h3, h4⟩ := Lib.run_append_own_string (P := Tryd.prog) (w := w) base 22 9 o.type 5 i0 Tryd.underlying22 Tryd.underlying9 hi hz0 hz1 hz2 v k (zs.map B8) hown t (by unfold maxLen; omega) (by omega) hbase
  unfold Oper.wp execOp
  simp only [hq, resolve, invoke, builtin, Sem.run_bind, Sem.run_pure, Result.andThen_ok, List.map_toArray, List.map_cons, List.map_nil, hs, hx, hr]
  refine h v' w' ?_ h3 (fun e => (h4.1 e).1)
  rw [List.map_append, ← strCells_map]
  exact h2
end

theorem wpList_append_str {ops : Array Oper} {rest : List Oper} {o : Oper} {a : Act} {w : World} {Q : Exit → Act → World → Prop} (hgd : o.guard = none) (s x : Operand)
    (hq : o.op = .call { callee := .builtin .append, args := #[s, x], argTypes := #[22, 9] })
    (base : Nat) (v : Value) (hs : a.eval s = v) (k : Nat) (zs : List UInt8) (hown : w.ownsRow base 5 1 v k (zs.map B8)) (t : ByteArray)
    (hx : a.eval x = .string t) (hm : k + t.size ≤ 16777216) (hbase : base ≤ w.heap.size)
    (h : ∀ v' w', w'.ownsRow base 5 1 v' (k + t.size) ((zs ++ t.data.toList).map B8) → w.grownBy w' v.ownBlock → (v' = .slice none 0 0 → v = .slice none 0 0) → wpList Tryd.prog ops Q rest (a.put o.dst v') w') : wpList Tryd.prog ops Q (o :: rest) a w := by
  obtain ⟨i0, hi, hz0, hz1, hz2⟩ := info_parts Tryd.infoU8
  refine Lib.wpList_append_own_string (w := w) hgd s x 22 9 hq base 5 i0 Tryd.underlying22 Tryd.underlying9 hi hz0 hz1 hz2 v k (zs.map B8) hs hown t hx (by unfold maxLen; omega) (by omega) hbase ?_
  intro v' w' h2 h3 h4
  refine h v' w' ?_ h3 (fun e => (h4.1 e).1)
  rw [List.map_append, ← strCells_map]
  exact h2

end Go.Proofs.YtpcjmicciccihaaDoor
