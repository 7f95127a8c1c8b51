/- Rows of whatever lies in k cells each: how a slice reads as them, rows of a call's own, append. -/
import Derived.Test.YtdkkpcbebhgbiaaGreatDoorZad
import Derived.Deep.RegionHeld3
import Derived.Deep.RegionLaw
import Derived.RegionTactic
import Derived.Maps.Own
namespace Go.Proofs.YtdkkpcbebhgbiaaGreatDoor
set_option maxRecDepth 100000
open Go.RowKit

section
variable {α : Type} {cells : α → List Value} {k : Nat}

/-- The slice value reads as what lies side by side, k cells each; its block is not in S. -/
def RowSl (cells : α → List Value) (k : Nat) (w : World) (S : Nat → Prop) (A : Option Addr) (n cap : Nat) (l : List α) : Prop :=
  l.length = n ∧ n ≤ cap ∧ cap ≤ maxLen ∧ (0 < n → ∃ b o, A = some ⟨b, o, none⟩ ∧ b < w.heap.size ∧ ¬ S b ∧ ∀ i f, l[i]? = some f → ∀ j, j < k → w.cell? ⟨b, o + i * k + j, none⟩ = (cells f)[j]?)

variable {w w' : World} {S T : Nat → Prop} {A : Option Addr} {n cap : Nat} {l : List α}
theorem RowSl.only (h : RowSl cells k w S A n cap l) (q : Only T w w') (hT : ∀ i, i < w.heap.size → T i → S i) : RowSl cells k w' S A n cap l :=
  ⟨h.1, h.2.1, h.2.2.1, fun hn => by
    obtain ⟨b, o, e, hb, hs, hc⟩ := h.2.2.2 hn
    exact ⟨b, o, e, Nat.lt_of_lt_of_le hb q.size, hs, fun i f hf j hj => (q.cell (p := ⟨b, o + i * k + j, none⟩) hb (fun ht => hs (hT _ hb ht))).trans (hc i f hf j hj)⟩⟩
theorem RowSl.mono (h : RowSl cells k w S A n cap l) (hT : ∀ i, i < w.heap.size → T i → S i) : RowSl cells k w T A n cap l :=
  ⟨h.1, h.2.1, h.2.2.1, fun hn => by
    obtain ⟨b, o, e, hb, hs, hc⟩ := h.2.2.2 hn
    exact ⟨b, o, e, hb, fun ht => hs (hT _ hb ht), hc⟩⟩
theorem RowSl.below (h : RowSl cells k w S A n cap l) (q : Below w.heap.size w w') : RowSl cells k w' S A n cap l := h.only (Only.of_below (S := Empty) q) (fun _ _ h => h.elim)
theorem RowSl.nil_ (w : World) (S : Nat → Prop) (A : Option Addr) (cap : Nat) (h : cap ≤ maxLen) : RowSl cells k w S A 0 cap [] := ⟨rfl, Nat.zero_le _, h, fun h => absurd h (by omega)⟩
/-- The i-th of them. -/
theorem RowSl.at_ (h : RowSl cells k w S A n cap l) {i : Nat} (hi : i < n) : ∃ b o f, A = some ⟨b, o, none⟩ ∧ b < w.heap.size ∧ ¬ S b ∧ l[i]? = some f ∧ ∀ j, j < k → w.cell? ⟨b, o + i * k + j, none⟩ = (cells f)[j]? := by
  obtain ⟨b, o, e, hb, hs, hc⟩ := h.2.2.2 (by omega)
  have hl : i < l.length := by rw [h.1]; exact hi
  exact ⟨b, o, l[i], e, hb, hs, List.getElem?_eq_getElem hl, hc i _ (List.getElem?_eq_getElem hl)⟩

theorem rows_len (hk : ∀ f, (cells f).length = k) : ∀ l : List α, (l.flatMap cells).length = l.length * k
  | [] => by simp
  | g :: l => by
    rw [List.flatMap_cons, List.length_append, rows_len hk l, List.length_cons, hk, Nat.add_mul]
    omega
theorem rows_at (hk : ∀ f, (cells f).length = k) : ∀ (l : List α) (i j : Nat) (f : α), l[i]? = some f → j < k → (l.flatMap cells)[i * k + j]? = (cells f)[j]?
  | [], i, j, f, h, _ => by simp at h
  | g :: l, 0, j, f, h, hj => by
    simp at h
    subst h
    rw [List.flatMap_cons, Nat.zero_mul, Nat.zero_add, List.getElem?_append_left (by rw [hk]; exact hj)]
  | g :: l, i + 1, j, f, h, hj => by
    simp at h
    have e : (i + 1) * k = i * k + k := by rw [Nat.add_mul]; omega
    rw [List.flatMap_cons, List.getElem?_append_right (by rw [hk]; omega), hk, show (i + 1) * k + j - k = i * k + j by omega]
    exact rows_at hk l i j f h hj

theorem RowSl.of_blk {g : Nat} {t : TypeId} {cs : Array Value} (hk : ∀ f, (cells f).length = k) (h : Blk w g t cs) (hn : l.length = n) (hc : n ≤ cap) (hm : cap ≤ maxLen) (hl : ∀ j, j < n * k → cs[j]? = (l.flatMap cells)[j]?) (hS : ¬ S g) :
    RowSl cells k w S (some ⟨g, 0, none⟩) n cap l :=
  ⟨hn, hc, hm, fun _ => ⟨g, 0, rfl, h.lt, hS, fun i f hf j hj => by
    have hi : i < l.length := (List.getElem?_eq_some_iff.1 hf).1
    have h2 := Nat.mul_le_mul_right k (show i + 1 ≤ n by omega)
    rw [Nat.add_mul] at h2
    rw [h.cell, Nat.zero_add, hl _ (by omega), rows_at hk l i j f hf hj]⟩⟩

/-- What a call has made in a row of its own: it reads as l. -/
structure GotR (cells : α → List Value) (k : Nat) (t : TypeId) (base : Nat) (w : World) (A : Option Addr) (n cap : Nat) (l : List α) : Prop where
  own : w.ownsRow base t k (.slice A n cap) n (l.flatMap cells)
  row : RowSl cells k w Empty A n cap l
  isNil : A = none → n = 0 ∧ cap = 0
  here : A = none ∨ ∃ g cur, A = some ⟨g, 0, none⟩ ∧ base ≤ g ∧ Blk w g t cur ∧ cur.size = cap * k

theorem GotR.of_own {t : TypeId} {base : Nat} {v : Value} (hk : ∀ f, (cells f).length = k) (h : w.ownsRow base t k v n (l.flatMap cells)) (hn : l.length = n) :
    ∃ A cap, v = .slice A n cap ∧ GotR cells k t base w A n cap l := by
  have h0 := h
  rcases h.2 with ⟨rfl, h0'⟩ | ⟨g, cap, cur, rfl, hg, hh, hnc, hm, hs, ht⟩
  · subst h0'
    exact ⟨none, 0, rfl, h0, ⟨hn, Nat.le_refl _, by simp [maxLen], fun h0 => absurd h0 (by omega)⟩, fun _ => ⟨rfl, rfl⟩, Or.inl rfl⟩
  · have hlt : g < w.heap.size := (Array.getElem?_eq_some_iff.1 hh).1
    have hb : Blk w g t cur := hh
    have hat : ∀ j, j < n * k → cur[j]? = (l.flatMap cells)[j]? := fun j hj => by
      have hl := rows_len hk l
      have hj2 : j < (l.flatMap cells).length := by rw [hl, hn]; exact hj
      have hc := h.cells (g := g) rfl j ((l.flatMap cells)[j]'hj2) (List.getElem?_eq_getElem hj2)
      have ha : (⟨g, 0, none⟩ : Addr).add j = ⟨g, j, none⟩ := by unfold Addr.add; split <;> simp_all
      rw [ha, hb.cell] at hc
      rw [hc]
      exact (List.getElem?_eq_getElem hj2).symm
    exact ⟨_, cap, rfl, h0, RowSl.of_blk hk hb hn hnc hm hat (fun h => h), (fun h => by cases h), Or.inr ⟨g, cur, rfl, hg, hb, hs⟩⟩

theorem GotR.nil_ (cells : α → List Value) (k : Nat) (t : TypeId) (base : Nat) (w : World) : GotR cells k t base w none 0 0 [] :=
  ⟨⟨by simp, Or.inl ⟨rfl, rfl⟩⟩, RowSl.nil_ _ _ _ _ (by simp [maxLen]), fun _ => ⟨rfl, rfl⟩, Or.inl rfl⟩
theorem GotR.only {t : TypeId} {base : Nat} (hk : ∀ f, (cells f).length = k) (h : GotR cells k t base w A n cap l) (q : Only T w w') (hT : ∀ i, base ≤ i → i < w.heap.size → ¬ T i) : GotR cells k t base w' A n cap l := by
  have h1 := own_only h.own q (fun i h1 h2 => hT i h1 h2)
  obtain ⟨A', cap', he, h2⟩ := GotR.of_own hk h1 h.row.1
  cases he
  exact h2
theorem GotR.below {t : TypeId} {base : Nat} (hk : ∀ f, (cells f).length = k) (h : GotR cells k t base w A n cap l) (q : Below w.heap.size w w') : GotR cells k t base w' A n cap l :=
  h.only hk (Only.of_below (S := Empty) q) (fun _ _ _ h => h)
theorem GotR.alloc {t : TypeId} {base : Nat} (hk : ∀ f, (cells f).length = k) (h : GotR cells k t base w A n cap l) (o : Obj) : GotR cells k t base (w.alloc o) A n cap l :=
  h.below hk ((Below.refl _ _).alloc (Nat.le_refl _) o)
theorem GotR.lower {t : TypeId} {base base' : Nat} (h : GotR cells k t base w A n cap l) (hb : base' ≤ base) : GotR cells k t base' w A n cap l :=
  ⟨own_base h.own hb, h.row, h.isNil, h.here.imp id fun ⟨g, cur, e, hg, hbk⟩ => ⟨g, cur, e, Nat.le_trans hb hg, hbk⟩⟩
/-- It lies in no block of S, where S holds nothing from base on. -/
theorem GotR.out {t : TypeId} {base : Nat} (h : GotR cells k t base w A n cap l) (hS : ∀ i, base ≤ i → i < w.heap.size → ¬ S i) : RowSl cells k w S A n cap l :=
  ⟨h.row.1, h.row.2.1, h.row.2.2.1, fun h0 => by
    obtain ⟨b, o, e, hb, _, hc⟩ := h.row.2.2.2 h0
    refine ⟨b, o, e, hb, hS b ?_ hb, hc⟩
    rcases h.here with h | ⟨g, cur, he, hg, _⟩
    · rw [h] at e
      cases e
    · rw [he] at e
      cases e
      exact hg⟩
theorem RowSl.news (hk : ∀ f, (cells f).length = k) {ad : Addr} {m c : Nat} (hk0 : 0 < k) (h : RowSl cells k w S (some ad) m c l) : ∀ j u, (l.flatMap cells)[j]? = some u → w.cell? (ad.add j) = some u := by
  intro j u hj
  have hl := rows_len hk l
  have hlt := (List.getElem?_eq_some_iff.1 hj).1
  rw [hl, h.1] at hlt
  have hm : 0 < m := by
    rcases Nat.eq_zero_or_pos m with h0 | h0
    · rw [h0, Nat.zero_mul] at hlt
      omega
    · exact h0
  obtain ⟨b, o, e, _, _, hc⟩ := h.2.2.2 hm
  cases e
  have hi : j / k < l.length := by rw [h.1]; exact Nat.div_lt_of_lt_mul (by rw [Nat.mul_comm]; exact hlt)
  have hjk : j % k < k := Nat.mod_lt _ hk0
  have hdm : j / k * k + j % k = j := by rw [Nat.mul_comm]; exact Nat.div_add_mod j k
  have h1 := hc (j / k) (l[j / k]'hi) (List.getElem?_eq_getElem hi) (j % k) hjk
  have h2 := rows_at hk l (j / k) (j % k) (l[j / k]'hi) (List.getElem?_eq_getElem hi) hjk
  rw [hdm] at h2
  have ha : (⟨b, o, none⟩ : Addr).add j = ⟨b, o + j, none⟩ := by unfold Addr.add; split <;> simp_all
  rw [ha, show o + j = o + j / k * k + j % k by omega, h1, ← h2, hj]

/-- A literal's block, as append takes it. -/
theorem RowSl.lit (hk : ∀ f, (cells f).length = k) (w : World) (S : Nat → Prop) (t : TypeId) (l : List α) (m : Nat) (cs : List Value) (he : cs = l.flatMap cells) (hm : l.length = m) (hm2 : m ≤ maxLen) (hS : ¬ S w.heap.size) :
    RowSl cells k (w.alloc (.cells cs.toArray t)) S (some ⟨w.heap.size, 0, none⟩) m m l :=
  RowSl.of_blk hk (Blk.new w t cs.toArray) hm (Nat.le_refl _) hm2 (fun j _ => by simp [he]) hS

theorem wpList_append_rows {ops : Array Oper} {rest : List Oper} {q : Oper} {u : Act} {Q : Exit → Act → World → Prop} (hk : ∀ f, (cells f).length = k) (h1 : ∀ f, ∀ v ∈ cells f, v.oneCell' = true) (hk0 : 0 < k)
    (ts te : TypeId) (zero : Value) (bytes : Nat) (hts : Tryz.prog.underlying ts = some (.slice te)) (hinfo : (Tryz.prog.info? te).map (fun i => (i.zero, i.size, i.bytes)) = some (some zero, k, bytes)) (hzc : zero.cells.size = k) (hby : bytes ≤ 1024)
    (hgd : q.guard = none) (s x : Operand) (hq : q.op = .call { callee := .builtin .append, args := #[s, x], argTypes := #[ts, ts] })
    (base : Nat) (B : Option Addr) (m0 c0 : Nat) (zs : List α) (hs : u.eval s = .slice B m0 c0) (hown : GotR cells k te base w B m0 c0 zs) (A : Option Addr) (m c : Nat) (l : List α)
    (hx : u.eval x = .slice A m c) (hB : RowSl cells k w S A m c l) (hn : A = none → m = 0 ∧ c = 0) (hm : m0 + m ≤ 16777216) (hbase : base ≤ w.heap.size)
    (h : ∀ A' c' w', GotR cells k te base w' A' (m0 + m) c' (zs ++ l) → w.grownBy w' (Value.slice B m0 c0).ownBlock → (∀ g, (Value.slice B m0 c0).ownBlock = some g → base ≤ g) →
      ((Value.slice A' (m0 + m) c').ownBlock = (Value.slice B m0 c0).ownBlock ∨ (Value.slice A' (m0 + m) c').ownBlock = some w.heap.size) → wpList Tryz.prog ops Q rest (u.put q.dst (.slice A' (m0 + m) c')) w') : wpList Tryz.prog ops Q (q :: rest) u w := by
  obtain ⟨i0, hi, hz0, hz1, hz2⟩ := info_parts hinfo
  have hown1 : ∀ g, (Value.slice B m0 c0).ownBlock = some g → base ≤ g := fun g hg => (hown.own.lt g hg).1
  rcases A with _ | ad
  · obtain ⟨rfl, rfl⟩ := hn rfl
    have hys : l = [] := List.eq_nil_of_length_eq_zero hB.1
    subst hys
    exact wpList_append_own_none hgd s x ts hq base te i0 k hts hi _ m0 (zs.flatMap cells) hs hown.own hx (h B c0 w (by simpa using hown) (World.grownBy.refl w _) hown1 (Or.inl rfl))
  · refine wpList_append_own_at _ hgd s x ts hq base te i0 _ k bytes hts hi hz0 hz1 hz2 hzc hk0 _ m0 (zs.flatMap cells) hs hown.own ad m c (l.flatMap cells) hx (by rw [rows_len hk, hB.1]) (hB.news hk hk0) (fun v hv => ?_) (by unfold maxLen; omega) ?_ hbase ?_
    · obtain ⟨f, _, hf⟩ := List.mem_flatMap.1 hv
      exact h1 f v hf
    · have h2 : (m0 + m) * bytes ≤ 16777216 * 1024 := Nat.mul_le_mul hm hby
      omega
    · intro v' w' h1 h2 _ h4
      obtain ⟨A', c', rfl, h3⟩ := GotR.of_own hk (l := zs ++ l) (by rw [List.flatMap_append]; exact h1) (by rw [List.length_append, hown.row.1, hB.1])
      exact h A' c' w' h3 h2 hown1 h4

/-- append onto a row of the call's own, as an equation. -/
theorem run_append_rows (hk : ∀ f, (cells f).length = k) (h1 : ∀ f, ∀ v ∈ cells f, v.oneCell' = true) (hk0 : 0 < k)
    (ts te : TypeId) (zero : Value) (bytes : Nat) (hts : Tryz.prog.underlying ts = some (.slice te)) (hinfo : (Tryz.prog.info? te).map (fun i => (i.zero, i.size, i.bytes)) = some (some zero, k, bytes)) (hzc : zero.cells.size = k) (hby : bytes ≤ 1024) (ty : TypeId)
    (base : Nat) (B : Option Addr) (m0 c0 : Nat) (zs : List α) (hown : GotR cells k te base w B m0 c0 zs) (ad : Addr) (m c : Nat) (l : List α) (hB : RowSl cells k w S (some ad) m c l) (hm : m0 + m ≤ 16777216) (hbase : base ≤ w.heap.size) :
    ∃ A' c' w', (Builtin.append_ #[ts, ts] ty #[.slice B m0 c0, .slice (some ad) m c]).run Tryz.prog w = .ok (.slice A' (m0 + m) c') w' ∧ GotR cells k te base w' A' (m0 + m) c' (zs ++ l) ∧ w.grownBy w' (Value.slice B m0 c0).ownBlock ∧ (∀ g, (Value.slice B m0 c0).ownBlock = some g → base ≤ g) := by
  obtain ⟨i0, hi, hz0, hz1, hz2⟩ := info_parts hinfo
  have hown1 : ∀ g, (Value.slice B m0 c0).ownBlock = some g → base ≤ g := fun g hg => (hown.own.lt g hg).1
  obtain ⟨v', w', hr, h2, h3, _, _⟩ := run_append_own_at (P := Tryz.prog) w base ts ty te i0 _ k bytes hts hi hz0 hz1 hz2 hzc hk0 _ m0 (zs.flatMap cells) hown.own ad m c (l.flatMap cells) (by rw [rows_len hk, hB.1]) (hB.news hk hk0) (fun v hv => by
    obtain ⟨f, _, hf⟩ := List.mem_flatMap.1 hv
    exact h1 f v hf) (by unfold maxLen; omega) (by have h2 : (m0 + m) * bytes ≤ 16777216 * 1024 := Nat.mul_le_mul hm hby; omega) hbase
  obtain ⟨A', c', rfl, h4⟩ := GotR.of_own hk (l := zs ++ l) (by rw [List.flatMap_append]; exact h2) (by rw [List.length_append, hown.row.1, hB.1])
  exact ⟨A', c', w', hr, h4, h3, hown1⟩

theorem below_gotR {B : Nat} {a : World} {base : Nat} (h : Below B a w) (hB : B ≤ w.heap.size) (g : w.grownBy w' (Value.slice A n cap).ownBlock) (hr : ∀ q, (Value.slice A n cap).ownBlock = some q → base ≤ q) (hb : B ≤ base) : Below B a w' :=
  below_grown h hB g (fun q hq => Nat.le_trans hb (hr q hq))
end

/-- append as one step of a region that draws its order, by its equation. -/
theorem step_append_eq {ops : Array Oper} {o : Oper} {a : Act} {w w' : World} {K : Act → World → Prop} {Q : Exit → Act → World → Prop} {E : Prop} {ts : TypeId} (hgd : o.guard = none) (s x : Operand)
    (hq : o.op = .call { callee := .builtin .append, args := #[s, x], argTypes := #[ts, ts] }) (hty : o.type = ts) {a0 a1 v : Value} (hs : a.eval s = a0) (hx : a.eval x = a1) (hr : (Builtin.append_ #[ts, ts] ts #[a0, a1]).run Tryz.prog w = .ok v w') (h : K (a.put o.dst v) w') :
    if Region.wanted o (yielded ops a.tmps) = true then Oper.wp Tryz.prog o a w K Q else E := by
  have hw : Region.wanted o (yielded ops a.tmps) = true := by simp [Region.wanted, hgd]
  rw [if_pos hw]
  unfold Oper.wp execOp
  simp only [hq, hty, resolve, invoke, builtin, Sem.run_bind, Sem.run_pure, Result.andThen_ok, List.map_toArray, List.map_cons, List.map_nil, hs, hx, hr]
  exact h

end Go.Proofs.YtdkkpcbebhgbiaaGreatDoor

/- The walk over carpetbagmake's Next. -/
namespace Go.Proofs.YtdkkpcbebhgbiaaGreatDoor
set_option maxRecDepth 100000
open Go.RowKit Go.Maps

/-- A tape as it lies: its own block is new, its bytes are old. -/
structure TapeAt (w : World) (B g : Nat) (A : Option Addr) (n cap : Nat) (xs : List UInt8) (at_ : Nat) : Prop where
  blk : Blk w g 32 #[.slice A n cap, .int .i64 (at_ : Int)]
  row : ByteSl w (fun q => B ≤ q) A n cap xs
  le : at_ ≤ n
  new : B ≤ g
  n1 : n ≤ 1048576

theorem TapeAt.only {w w' : World} {B g n cap at_ : Nat} {A : Option Addr} {xs : List UInt8} {T : Nat → Prop} (h : TapeAt w B g A n cap xs at_) (k : Only T w w') (hg : ¬ T g) (hb : ∀ i, T i → B ≤ i) : TapeAt w' B g A n cap xs at_ :=
  ⟨k.blk h.blk hg, h.row.only k (fun i _ h1 => hb i h1), h.le, h.new, h.n1⟩
theorem TapeAt.below {w w' : World} {B g n cap at_ : Nat} {A : Option Addr} {xs : List UInt8} (h : TapeAt w B g A n cap xs at_) (k : Below w.heap.size w w') : TapeAt w' B g A n cap xs at_ :=
  h.only (Only.of_below (S := Empty) k) (fun h => h) (fun _ h => h.elim)

/-- How Next ends: a number below k. -/
def Nexted (B g : Nat) (A : Option Addr) (n cap : Nat) (xs : List UInt8) (k : Nat) (w w' : World) (e1 : Ending) : Prop :=
  (∃ v : Nat, v < k ∧ e1 = .returned (.int .i64 (v : Int))) ∧ (∃ at2, TapeAt w' B g A n cap xs at2) ∧ Only (· = g) w w'

set_option maxHeartbeats 2000000 in
theorem next_tape (B g : Nat) (A : Option Addr) (n cap : Nat) (xs : List UInt8) (at_ k : Nat) (w : World) (h : TapeAt w B g A n cap xs at_) (hk : 2 ≤ k) (hk2 : k ≤ 1048576) :
    Calls Tryz.prog 57 #[.pointer (some ⟨g, 0, none⟩), .int .i64 (k : Int)] w fun e1 w' => Nexted B g A n cap xs k w w' e1 := by
  have hn1 := h.n1
  have hle := h.le
  have c0 : w.cell? ⟨g, 0, none⟩ = some (.slice A n cap) := h.blk.cell 0
  have c1 : w.cell? ⟨g, 1, none⟩ = some (.int .i64 (at_ : Int)) := h.blk.cell 1
  have f1 := h.blk.frozen 1
  have hgl := h.blk.lt
  have hcap := h.row.2.1
  have hk3 : decide ((k : Int) < 2) = false := by simp; omega
  by_cases hlt : at_ < n
  · obtain ⟨ad, x, rfl, had, hadB, hx, hc⟩ := h.row.at_ hlt
    have hag : ad.block ≠ g := fun e => hadB (by rw [e]; exact h.new)
    have hO : Only (· = g) w (w.setCell ⟨g, 1, none⟩ (.int .i64 ((at_ : Int) + 1))) := (Only.refl (· = g) w).setCell (p := ⟨g, 1, none⟩) (Or.inl rfl) _
    have hb1 := h.blk.set_ 1 (.int .i64 ((at_ : Int) + 1))
    have HT : Hid (TapeAt (w.setCell ⟨g, 1, none⟩ (.int .i64 ((at_ : Int) + 1))) B g (some ad) n cap xs (at_ + 1)) := Lib.hid ⟨by simpa using hb1, h.row.only hO (fun i _ e => by rw [e]; exact h.new), by omega, h.new, hn1⟩
    have hlt2 : decide ((n : Int) ≤ (at_ : Int)) = false := by simp; omega
    have HO := Lib.hid hO
    have hxb : x.toNat < 256 := x.toNat_lt
    have hd : ((at_ : Int) + 1 - 1) = (at_ : Int) := by omega
    have hc2 : (w.setCell ⟨g, 1, none⟩ (.int .i64 ((at_ : Int) + 1))).cell? (ad.add at_) = some (.int .u8 (x.toNat : Int)) := (hO.cell (p := ad.add at_) (by rw [addr_add_block]; exact had) (by rw [addr_add_block]; exact hag)).trans hc
    have hd0 : (w.setCell ⟨g, 1, none⟩ (.int .i64 ((at_ : Int) + 1))).cell? ⟨g, 0, none⟩ = some (.slice (some ad) n cap) := hb1.cell 0
    have hd1 : (w.setCell ⟨g, 1, none⟩ (.int .i64 ((at_ : Int) + 1))).cell? ⟨g, 1, none⟩ = some (.int .i64 ((at_ : Int) + 1)) := by rw [hb1.cell]; rfl
    clear h hx hO hb1
    go_enter Tryz.func57, Tryz.ntmps57
    go_wp2_with fail
    go_region
    go_wp2_with fail
    obtain ⟨w1, hw1⟩ : ∃ w1, w1 = w.setCell ⟨g, 1, none⟩ (.int .i64 ((at_ : Int) + 1)) := ⟨_, rfl⟩
    rw [← hw1] at HT HO hc2 hd0 hd1 ⊢
    have hmod : (x.toNat : Int) % (k : Int) = ((x.toNat % k : Nat) : Int) := by simp
    have hk0 : ((k : Int) == 0) = false := by simp; omega
    clear hw1 c0 c1 f1
    go_region
    go_wp2_with fail
    go_ret
    exact ⟨⟨x.toNat % k, Nat.mod_lt _ (by omega), by simp⟩, ⟨at_ + 1, HT.out.only ((Only.refl Empty w1).drew.drew) (fun h => h) (fun _ h => h.elim)⟩, HO.out.drew.drew⟩
  · have hlt2 : decide ((n : Int) ≤ (at_ : Int)) = true := by simp; omega
    have HT := Lib.hid h
    clear h
    go_enter Tryz.func57, Tryz.ntmps57
    go_wp2_with fail
    go_region
    go_wp2_with fail
    go_ret
    exact ⟨⟨0, by omega, rfl⟩, ⟨at_, HT.out.only (Only.refl Empty w).drew (fun h => h) (fun _ h => h.elim)⟩, (Only.refl _ _).drew⟩

theorem next_tape_v (B g : Nat) (A : Option Addr) (n cap : Nat) (xs : List UInt8) (at_ k : Nat) (kv : Int) (w : World) (h : TapeAt w B g A n cap xs at_) (hk : 2 ≤ k) (hk2 : k ≤ 1048576) (hv : kv = (k : Int)) :
    Calls Tryz.prog 57 #[.pointer (some ⟨g, 0, none⟩), .int .i64 kv] w fun e1 w' => Nexted B g A n cap xs k w w' e1 := by
  subst hv
  exact next_tape B g A n cap xs at_ k w h hk hk2

end Go.Proofs.YtdkkpcbebhgbiaaGreatDoor

/- How data lies in cells and in blocks: rows of rows of whatever lies so, with one frame law. -/
namespace Go.Proofs.YtdkkpcbebhgbiaaGreatDoor
set_option maxRecDepth 100000
open Go.RowKit

/-- How data lies in cells, and in blocks that aren't in Z. -/
structure RepT (α : Type) where
  k : Nat
  rep : World → (Nat → Prop) → List Value → α → Prop
  len : ∀ {w Z cs v}, rep w Z cs v → cs.length = k
  next : ∀ {w w' Z Z' cs v}, rep w Z cs v → Only Z w w' → (∀ q, q < w.heap.size → Z' q → Z q) → rep w' Z' cs v

def intT : RepT Int where
  k := 1
  rep _ _ cs v := cs = [.int .i64 v]
  len h := by rw [h]; rfl
  next h _ _ := h
def bytesT : RepT (List UInt8) where
  k := 1
  rep w Z cs v := ∃ A n cap, cs = [.slice A n cap] ∧ ByteSl w Z A n cap v ∧ (A = none → n = 0 ∧ cap = 0)
  len h := by obtain ⟨_, _, _, rfl, _⟩ := h; rfl
  next h k hZ := by
    obtain ⟨A, n, cap, rfl, hB, hn⟩ := h
    have hB' := hB.mono hZ
    obtain ⟨h1, h2, h3, h4⟩ := hB
    refine ⟨A, n, cap, rfl, ⟨h1, h2, h3, fun h0 => ?_⟩, hn⟩
    obtain ⟨ad, e, hb, hs, hc⟩ := h4 h0
    exact ⟨ad, e, Nat.lt_of_lt_of_le hb k.size, fun ht => hs (hZ _ hb ht), fun j x hx => (k.cell (p := ad.add j) (by rw [addr_add_block]; exact hb) (by rw [addr_add_block]; exact hs)).trans (hc j x hx)⟩
def prodT {α β : Type} (R : RepT α) (T : RepT β) : RepT (α × β) where
  k := R.k + T.k
  rep w Z cs v := ∃ c1 c2, cs = c1 ++ c2 ∧ R.rep w Z c1 v.1 ∧ T.rep w Z c2 v.2
  len h := by
    obtain ⟨c1, c2, rfl, h1, h2⟩ := h
    rw [List.length_append, R.len h1, T.len h2]
  next h k hZ := by
    obtain ⟨c1, c2, rfl, h1, h2⟩ := h
    exact ⟨c1, c2, rfl, R.next h1 k hZ, T.next h2 k hZ⟩
def mapT {α β : Type} (g : β → α) (R : RepT α) : RepT β where
  k := R.k
  rep w Z cs v := R.rep w Z cs (g v)
  len h := R.len h
  next h k hZ := R.next h k hZ
/-- A slice that reads as a list of what lies so. -/
def RowS {α : Type} (R : RepT α) (w : World) (Z : Nat → Prop) (A : Option Addr) (n cap : Nat) (l : List α) : Prop :=
  l.length = n ∧ n ≤ cap ∧ cap ≤ maxLen ∧ (A = none → n = 0 ∧ cap = 0) ∧ (0 < n → ∃ b o, A = some ⟨b, o, none⟩ ∧ b < w.heap.size ∧ ¬ Z b ∧ ∀ i x, l[i]? = some x → ∃ cs, (∀ j v, cs[j]? = some v → w.cell? ⟨b, o + i * R.k + j, none⟩ = some v) ∧ R.rep w Z cs x)
theorem RowS.next {α : Type} {R : RepT α} {w w' : World} {Z Z' : Nat → Prop} {A : Option Addr} {n cap : Nat} {l : List α} (h : RowS R w Z A n cap l) (k : Only Z w w') (hZ : ∀ q, q < w.heap.size → Z' q → Z q) : RowS R w' Z' A n cap l := by
  obtain ⟨h1, h2, h3, h4, h5⟩ := h
  refine ⟨h1, h2, h3, h4, fun h0 => ?_⟩
  obtain ⟨b, o, e, hb, hs, hc⟩ := h5 h0
  refine ⟨b, o, e, Nat.lt_of_lt_of_le hb k.size, fun ht => hs (hZ _ hb ht), fun i x hx => ?_⟩
  obtain ⟨cs, hcs, hr⟩ := hc i x hx
  exact ⟨cs, fun j v hv => (k.cell (p := ⟨b, o + i * R.k + j, none⟩) hb hs).trans (hcs j v hv), R.next hr k hZ⟩
def rowT {α : Type} (R : RepT α) : RepT (List α) where
  k := 1
  rep w Z cs l := ∃ A n cap, cs = [.slice A n cap] ∧ RowS R w Z A n cap l
  len h := by obtain ⟨_, _, _, rfl, _⟩ := h; rfl
  next h k hZ := by
    obtain ⟨A, n, cap, rfl, h⟩ := h
    exact ⟨A, n, cap, rfl, h.next k hZ⟩

theorem rowS_nil {α : Type} (R : RepT α) (w : World) (Z : Nat → Prop) : RowS R w Z none 0 0 [] := ⟨rfl, Nat.le_refl _, by simp [maxLen], fun _ => ⟨rfl, rfl⟩, fun h => absurd h (by omega)⟩
theorem RowS.mono {α : Type} {R : RepT α} {w : World} {Z Z' : Nat → Prop} {A : Option Addr} {n cap : Nat} {l : List α} (h : RowS R w Z A n cap l) (hZ : ∀ q, q < w.heap.size → Z' q → Z q) : RowS R w Z' A n cap l := h.next (Only.refl _ _) hZ
/-- The same row read with less. -/
theorem RowS.weak {α : Type} {R R' : RepT α} {w : World} {Z : Nat → Prop} {A : Option Addr} {n cap : Nat} {l : List α} (h : RowS R w Z A n cap l) (hk : R'.k = R.k) (hR : ∀ cs x, R.rep w Z cs x → R'.rep w Z cs x) : RowS R' w Z A n cap l := by
  obtain ⟨h1, h2, h3, h4, h5⟩ := h
  refine ⟨h1, h2, h3, h4, fun h0 => ?_⟩
  obtain ⟨b, o, e, hb, hs, hc⟩ := h5 h0
  refine ⟨b, o, e, hb, hs, fun i x hx => ?_⟩
  obtain ⟨cs, hcs, hr⟩ := hc i x hx
  exact ⟨cs, by rw [hk]; exact hcs, hR cs x hr⟩
/-- All that was there is as it was. -/
theorem RowS.below {α : Type} {R : RepT α} {w w' : World} {A : Option Addr} {n cap : Nat} {l : List α} (h : RowS R w Empty A n cap l) (q : Below w.heap.size w w') : RowS R w' Empty A n cap l := h.next (Only.of_below q) (fun _ _ h => h)
theorem RowS.at_ {α : Type} {R : RepT α} {w : World} {Z : Nat → Prop} {A : Option Addr} {n cap : Nat} {l : List α} (h : RowS R w Z A n cap l) {i : Nat} (hi : i < n) :
    ∃ b o x cs, A = some ⟨b, o, none⟩ ∧ b < w.heap.size ∧ ¬ Z b ∧ l[i]? = some x ∧ cs.length = R.k ∧ (∀ j v, cs[j]? = some v → w.cell? ⟨b, o + i * R.k + j, none⟩ = some v) ∧ R.rep w Z cs x := by
  obtain ⟨h1, h2, h3, h4, h5⟩ := h
  obtain ⟨b, o, e, hb, hs, hc⟩ := h5 (by omega)
  have hx : l[i]? = some (l[i]'(by omega)) := List.getElem?_eq_getElem (by omega)
  obtain ⟨cs, hcs, hr⟩ := hc i _ hx
  exact ⟨b, o, _, cs, e, hb, hs, hx, R.len hr, hcs, hr⟩

end Go.Proofs.YtdkkpcbebhgbiaaGreatDoor
