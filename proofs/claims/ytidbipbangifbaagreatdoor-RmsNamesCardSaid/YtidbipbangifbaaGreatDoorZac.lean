/- Rows of whatever lies in k cells each: how a slice reads as them, rows of a call's own, append. -/
import Derived.Test.YtidbipbangifbaaGreatDoorZab
import Derived.Deep.RegionHeld3
import Derived.Deep.RegionLaw
import Derived.Lib.ConvBytes
import Derived.Outline
namespace Go.Proofs.YtidbipbangifbaaGreatDoor
set_option maxRecDepth 100000
open Go.RowKit

section
variable {α : Type} {cells : α → List Value} {k : Nat}

/-- The slice value reads as what lies side by side, k cells each; its block is not in S. -/
def RowSl (cells : α → List Value) (k : Nat) (w : World) (S : Nat → Prop) (A : Option Addr) (n cap : Nat) (l : List α) : Prop :=
  l.length = n ∧ n ≤ cap ∧ cap ≤ maxLen ∧ (0 < n → ∃ b o, A = some ⟨b, o, none⟩ ∧ b < w.heap.size ∧ ¬ S b ∧ ∀ i f, l[i]? = some f → ∀ j, j < k → w.cell? ⟨b, o + i * k + j, none⟩ = (cells f)[j]?)

variable {w w' : World} {S T : Nat → Prop} {A : Option Addr} {n cap : Nat} {l : List α}
theorem RowSl.only (h : RowSl cells k w S A n cap l) (q : Only T w w') (hT : ∀ i, i < w.heap.size → T i → S i) : RowSl cells k w' S A n cap l :=
  ⟨h.1, h.2.1, h.2.2.1, fun hn => by
    obtain ⟨b, o, e, hb, hs, hc⟩ := h.2.2.2 hn
    exact ⟨b, o, e, Nat.lt_of_lt_of_le hb q.size, hs, fun i f hf j hj => (q.cell (p := ⟨b, o + i * k + j, none⟩) hb (fun ht => hs (hT _ hb ht))).trans (hc i f hf j hj)⟩⟩
theorem RowSl.mono (h : RowSl cells k w S A n cap l) (hT : ∀ i, i < w.heap.size → T i → S i) : RowSl cells k w T A n cap l :=
  ⟨h.1, h.2.1, h.2.2.1, fun hn => by
    obtain ⟨b, o, e, hb, hs, hc⟩ := h.2.2.2 hn
    exact ⟨b, o, e, hb, fun ht => hs (hT _ hb ht), hc⟩⟩
theorem RowSl.below (h : RowSl cells k w S A n cap l) (q : Below w.heap.size w w') : RowSl cells k w' S A n cap l := h.only (Only.of_below (S := Empty) q) (fun _ _ h => h.elim)
theorem RowSl.nil_ (w : World) (S : Nat → Prop) (A : Option Addr) (cap : Nat) (h : cap ≤ maxLen) : RowSl cells k w S A 0 cap [] := ⟨rfl, Nat.zero_le _, h, fun h => absurd h (by omega)⟩
/-- The i-th of them. -/
theorem RowSl.at_ (h : RowSl cells k w S A n cap l) {i : Nat} (hi : i < n) : ∃ b o f, A = some ⟨b, o, none⟩ ∧ b < w.heap.size ∧ ¬ S b ∧ l[i]? = some f ∧ ∀ j, j < k → w.cell? ⟨b, o + i * k + j, none⟩ = (cells f)[j]? := by
  obtain ⟨b, o, e, hb, hs, hc⟩ := h.2.2.2 (by omega)
  have hl : i < l.length := by rw [h.1]; exact hi
  exact ⟨b, o, l[i], e, hb, hs, List.getElem?_eq_getElem hl, hc i _ (List.getElem?_eq_getElem hl)⟩

theorem rows_len (hk : ∀ f, (cells f).length = k) : ∀ l : List α, (l.flatMap cells).length = l.length * k
  | [] => by simp
  | g :: l => by
    rw [List.flatMap_cons, List.length_append, rows_len hk l, List.length_cons, hk, Nat.add_mul]
    omega
theorem rows_at (hk : ∀ f, (cells f).length = k) : ∀ (l : List α) (i j : Nat) (f : α), l[i]? = some f → j < k → (l.flatMap cells)[i * k + j]? = (cells f)[j]?
  | [], i, j, f, h, _ => by simp at h
  | g :: l, 0, j, f, h, hj => by
    simp at h
    subst h
    rw [List.flatMap_cons, Nat.zero_mul, Nat.zero_add, List.getElem?_append_left (by rw [hk]; exact hj)]
  | g :: l, i + 1, j, f, h, hj => by
    simp at h
    have e : (i + 1) * k = i * k + k := by rw [Nat.add_mul]; omega
    rw [List.flatMap_cons, List.getElem?_append_right (by rw [hk]; omega), hk, show (i + 1) * k + j - k = i * k + j by omega]
    exact rows_at hk l i j f h hj

theorem RowSl.of_blk {g : Nat} {t : TypeId} {cs : Array Value} (hk : ∀ f, (cells f).length = k) (h : Blk w g t cs) (hn : l.length = n) (hc : n ≤ cap) (hm : cap ≤ maxLen) (hl : ∀ j, j < n * k → cs[j]? = (l.flatMap cells)[j]?) (hS : ¬ S g) :
    RowSl cells k w S (some ⟨g, 0, none⟩) n cap l :=
  ⟨hn, hc, hm, fun _ => ⟨g, 0, rfl, h.lt, hS, fun i f hf j hj => by
    have hi : i < l.length := (List.getElem?_eq_some_iff.1 hf).1
    have h2 := Nat.mul_le_mul_right k (show i + 1 ≤ n by omega)
    rw [Nat.add_mul] at h2
    rw [h.cell, Nat.zero_add, hl _ (by omega), rows_at hk l i j f hf hj]⟩⟩

/-- What a call has made in a row of its own: it reads as l. -/
structure GotR (cells : α → List Value) (k : Nat) (t : TypeId) (base : Nat) (w : World) (A : Option Addr) (n cap : Nat) (l : List α) : Prop where
  own : w.ownsRow base t k (.slice A n cap) n (l.flatMap cells)
  row : RowSl cells k w Empty A n cap l
  isNil : A = none → n = 0 ∧ cap = 0
  here : A = none ∨ ∃ g cur, A = some ⟨g, 0, none⟩ ∧ base ≤ g ∧ Blk w g t cur ∧ cur.size = cap * k

theorem GotR.of_own {t : TypeId} {base : Nat} {v : Value} (hk : ∀ f, (cells f).length = k) (h : w.ownsRow base t k v n (l.flatMap cells)) (hn : l.length = n) :
    ∃ A cap, v = .slice A n cap ∧ GotR cells k t base w A n cap l := by
  have h0 := h
  rcases h.2 with ⟨rfl, h0'⟩ | ⟨g, cap, cur, rfl, hg, hh, hnc, hm, hs, ht⟩
  · subst h0'
    exact ⟨none, 0, rfl, h0, ⟨hn, Nat.le_refl _, by simp [maxLen], fun h0 => absurd h0 (by omega)⟩, fun _ => ⟨rfl, rfl⟩, Or.inl rfl⟩
  · have hlt : g < w.heap.size := (Array.getElem?_eq_some_iff.1 hh).1
    have hb : Blk w g t cur := hh
    have hat : ∀ j, j < n * k → cur[j]? = (l.flatMap cells)[j]? := fun j hj => by
      have hl := rows_len hk l
      have hj2 : j < (l.flatMap cells).length := by rw [hl, hn]; exact hj
      have hc := h.cells (g := g) rfl j ((l.flatMap cells)[j]'hj2) (List.getElem?_eq_getElem hj2)
      have ha : (⟨g, 0, none⟩ : Addr).add j = ⟨g, j, none⟩ := by unfold Addr.add; split <;> simp_all
      rw [ha, hb.cell] at hc
      rw [hc]
      exact (List.getElem?_eq_getElem hj2).symm
    exact ⟨_, cap, rfl, h0, RowSl.of_blk hk hb hn hnc hm hat (fun h => h), (fun h => by cases h), Or.inr ⟨g, cur, rfl, hg, hb, hs⟩⟩

theorem GotR.nil_ (cells : α → List Value) (k : Nat) (t : TypeId) (base : Nat) (w : World) : GotR cells k t base w none 0 0 [] :=
  ⟨⟨by simp, Or.inl ⟨rfl, rfl⟩⟩, RowSl.nil_ _ _ _ _ (by simp [maxLen]), fun _ => ⟨rfl, rfl⟩, Or.inl rfl⟩
theorem GotR.only {t : TypeId} {base : Nat} (hk : ∀ f, (cells f).length = k) (h : GotR cells k t base w A n cap l) (q : Only T w w') (hT : ∀ i, base ≤ i → i < w.heap.size → ¬ T i) : GotR cells k t base w' A n cap l := by
  have h1 := own_only h.own q (fun i h1 h2 => hT i h1 h2)
  obtain ⟨A', cap', he, h2⟩ := GotR.of_own hk h1 h.row.1
  cases he
  exact h2
theorem GotR.below {t : TypeId} {base : Nat} (hk : ∀ f, (cells f).length = k) (h : GotR cells k t base w A n cap l) (q : Below w.heap.size w w') : GotR cells k t base w' A n cap l :=
  h.only hk (Only.of_below (S := Empty) q) (fun _ _ _ h => h)
theorem GotR.alloc {t : TypeId} {base : Nat} (hk : ∀ f, (cells f).length = k) (h : GotR cells k t base w A n cap l) (o : Obj) : GotR cells k t base (w.alloc o) A n cap l :=
  h.below hk ((Below.refl _ _).alloc (Nat.le_refl _) o)
theorem GotR.lower {t : TypeId} {base base' : Nat} (h : GotR cells k t base w A n cap l) (hb : base' ≤ base) : GotR cells k t base' w A n cap l :=
  ⟨own_base h.own hb, h.row, h.isNil, h.here.imp id fun ⟨g, cur, e, hg, hbk⟩ => ⟨g, cur, e, Nat.le_trans hb hg, hbk⟩⟩
/-- It lies in no block of S, where S holds nothing from base on. -/
theorem GotR.out {t : TypeId} {base : Nat} (h : GotR cells k t base w A n cap l) (hS : ∀ i, base ≤ i → i < w.heap.size → ¬ S i) : RowSl cells k w S A n cap l :=
  ⟨h.row.1, h.row.2.1, h.row.2.2.1, fun h0 => by
    obtain ⟨b, o, e, hb, _, hc⟩ := h.row.2.2.2 h0
    refine ⟨b, o, e, hb, hS b ?_ hb, hc⟩
    rcases h.here with h | ⟨g, cur, he, hg, _⟩
    · rw [h] at e
      cases e
    · rw [he] at e
      cases e
      exact hg⟩
theorem RowSl.news (hk : ∀ f, (cells f).length = k) {ad : Addr} {m c : Nat} (hk0 : 0 < k) (h : RowSl cells k w S (some ad) m c l) : ∀ j u, (l.flatMap cells)[j]? = some u → w.cell? (ad.add j) = some u := by
  intro j u hj
  have hl := rows_len hk l
  have hlt := (List.getElem?_eq_some_iff.1 hj).1
  rw [hl, h.1] at hlt
  have hm : 0 < m := by
    rcases Nat.eq_zero_or_pos m with h0 | h0
    · rw [h0, Nat.zero_mul] at hlt
      omega
    · exact h0
  obtain ⟨b, o, e, _, _, hc⟩ := h.2.2.2 hm
  cases e
  have hi : j / k < l.length := by rw [h.1]; exact Nat.div_lt_of_lt_mul (by rw [Nat.mul_comm]; exact hlt)
  have hjk : j % k < k := Nat.mod_lt _ hk0
  have hdm : j / k * k + j % k = j := by rw [Nat.mul_comm]; exact Nat.div_add_mod j k
  have h1 := hc (j / k) (l[j / k]'hi) (List.getElem?_eq_getElem hi) (j % k) hjk
  have h2 := rows_at hk l (j / k) (j % k) (l[j / k]'hi) (List.getElem?_eq_getElem hi) hjk
  rw [hdm] at h2
  have ha : (⟨b, o, none⟩ : Addr).add j = ⟨b, o + j, none⟩ := by unfold Addr.add; split <;> simp_all
  rw [ha, show o + j = o + j / k * k + j % k by omega, h1, ← h2, hj]

/-- A literal's block, as append takes it. -/
theorem RowSl.lit (hk : ∀ f, (cells f).length = k) (w : World) (S : Nat → Prop) (t : TypeId) (l : List α) (m : Nat) (cs : List Value) (he : cs = l.flatMap cells) (hm : l.length = m) (hm2 : m ≤ maxLen) (hS : ¬ S w.heap.size) :
    RowSl cells k (w.alloc (.cells cs.toArray t)) S (some ⟨w.heap.size, 0, none⟩) m m l :=
  RowSl.of_blk hk (Blk.new w t cs.toArray) hm (Nat.le_refl _) hm2 (fun j _ => by simp [he]) hS

theorem wpList_append_rows {ops : Array Oper} {rest : List Oper} {q : Oper} {u : Act} {Q : Exit → Act → World → Prop} (hk : ∀ f, (cells f).length = k) (h1 : ∀ f, ∀ v ∈ cells f, v.oneCell' = true) (hk0 : 0 < k)
    (ts te : TypeId) (zero : Value) (bytes : Nat) (hts : Tryz.prog.underlying ts = some (.slice te)) (hinfo : (Tryz.prog.info? te).map (fun i => (i.zero, i.size, i.bytes)) = some (some zero, k, bytes)) (hzc : zero.cells.size = k) (hby : bytes ≤ 1024)
    (hgd : q.guard = none) (s x : Operand) (hq : q.op = .call { callee := .builtin .append, args := #[s, x], argTypes := #[ts, ts] })
    (base : Nat) (B : Option Addr) (m0 c0 : Nat) (zs : List α) (hs : u.eval s = .slice B m0 c0) (hown : GotR cells k te base w B m0 c0 zs) (A : Option Addr) (m c : Nat) (l : List α)
    (hx : u.eval x = .slice A m c) (hB : RowSl cells k w S A m c l) (hn : A = none → m = 0 ∧ c = 0) (hm : m0 + m ≤ 16777216) (hbase : base ≤ w.heap.size)
    (h : ∀ A' c' w', GotR cells k te base w' A' (m0 + m) c' (zs ++ l) → w.grownBy w' (Value.slice B m0 c0).ownBlock → (∀ g, (Value.slice B m0 c0).ownBlock = some g → base ≤ g) →
      ((Value.slice A' (m0 + m) c').ownBlock = (Value.slice B m0 c0).ownBlock ∨ (Value.slice A' (m0 + m) c').ownBlock = some w.heap.size) → wpList Tryz.prog ops Q rest (u.put q.dst (.slice A' (m0 + m) c')) w') : wpList Tryz.prog ops Q (q :: rest) u w := by
  obtain ⟨i0, hi, hz0, hz1, hz2⟩ := info_parts hinfo
  have hown1 : ∀ g, (Value.slice B m0 c0).ownBlock = some g → base ≤ g := fun g hg => (hown.own.lt g hg).1
  rcases A with _ | ad
  · obtain ⟨rfl, rfl⟩ := hn rfl
    have hys : l = [] := List.eq_nil_of_length_eq_zero hB.1
    subst hys
    exact wpList_append_own_none hgd s x ts hq base te i0 k hts hi _ m0 (zs.flatMap cells) hs hown.own hx (h B c0 w (by simpa using hown) (World.grownBy.refl w _) hown1 (Or.inl rfl))
  · refine wpList_append_own_at _ hgd s x ts hq base te i0 _ k bytes hts hi hz0 hz1 hz2 hzc hk0 _ m0 (zs.flatMap cells) hs hown.own ad m c (l.flatMap cells) hx (by rw [rows_len hk, hB.1]) (hB.news hk hk0) (fun v hv => ?_) (by unfold maxLen; omega) ?_ hbase ?_
    · obtain ⟨f, _, hf⟩ := List.mem_flatMap.1 hv
      exact h1 f v hf
    · have h2 : (m0 + m) * bytes ≤ 16777216 * 1024 := Nat.mul_le_mul hm hby
      omega
    · intro v' w' h1 h2 _ h4
      obtain ⟨A', c', rfl, h3⟩ := GotR.of_own hk (l := zs ++ l) (by rw [List.flatMap_append]; exact h1) (by rw [List.length_append, hown.row.1, hB.1])
      exact h A' c' w' h3 h2 hown1 h4

/-- append onto a row of the call's own, as an equation. -/
theorem run_append_rows (hk : ∀ f, (cells f).length = k) (h1 : ∀ f, ∀ v ∈ cells f, v.oneCell' = true) (hk0 : 0 < k)
    (ts te : TypeId) (zero : Value) (bytes : Nat) (hts : Tryz.prog.underlying ts = some (.slice te)) (hinfo : (Tryz.prog.info? te).map (fun i => (i.zero, i.size, i.bytes)) = some (some zero, k, bytes)) (hzc : zero.cells.size = k) (hby : bytes ≤ 1024) (ty : TypeId)
    (base : Nat) (B : Option Addr) (m0 c0 : Nat) (zs : List α) (hown : GotR cells k te base w B m0 c0 zs) (ad : Addr) (m c : Nat) (l : List α) (hB : RowSl cells k w S (some ad) m c l) (hm : m0 + m ≤ 16777216) (hbase : base ≤ w.heap.size) :
    ∃ A' c' w', (Builtin.append_ #[ts, ts] ty #[.slice B m0 c0, .slice (some ad) m c]).run Tryz.prog w = .ok (.slice A' (m0 + m) c') w' ∧ GotR cells k te base w' A' (m0 + m) c' (zs ++ l) ∧ w.grownBy w' (Value.slice B m0 c0).ownBlock ∧ (∀ g, (Value.slice B m0 c0).ownBlock = some g → base ≤ g) := by
  obtain ⟨i0, hi, hz0, hz1, hz2⟩ := info_parts hinfo
  have hown1 : ∀ g, (Value.slice B m0 c0).ownBlock = some g → base ≤ g := fun g hg => (hown.own.lt g hg).1
  obtain ⟨v', w', hr, h2, h3, _, _⟩ := run_append_own_at (P := Tryz.prog) w base ts ty te i0 _ k bytes hts hi hz0 hz1 hz2 hzc hk0 _ m0 (zs.flatMap cells) hown.own ad m c (l.flatMap cells) (by rw [rows_len hk, hB.1]) (hB.news hk hk0) (fun v hv => by
    obtain ⟨f, _, hf⟩ := List.mem_flatMap.1 hv
    exact h1 f v hf) (by unfold maxLen; omega) (by have h2 : (m0 + m) * bytes ≤ 16777216 * 1024 := Nat.mul_le_mul hm hby; omega) hbase
  obtain ⟨A', c', rfl, h4⟩ := GotR.of_own hk (l := zs ++ l) (by rw [List.flatMap_append]; exact h2) (by rw [List.length_append, hown.row.1, hB.1])
  exact ⟨A', c', w', hr, h4, h3, hown1⟩

theorem below_gotR {B : Nat} {a : World} {base : Nat} (h : Below B a w) (hB : B ≤ w.heap.size) (g : w.grownBy w' (Value.slice A n cap).ownBlock) (hr : ∀ q, (Value.slice A n cap).ownBlock = some q → base ≤ q) (hb : B ≤ base) : Below B a w' :=
  below_grown h hB g (fun q hq => Nat.le_trans hb (hr q hq))
end

/-- append as one step of a region that draws its order, by its equation. -/
theorem step_append_eq {ops : Array Oper} {o : Oper} {a : Act} {w w' : World} {K : Act → World → Prop} {Q : Exit → Act → World → Prop} {E : Prop} {ts : TypeId} (hgd : o.guard = none) (s x : Operand)
    (hq : o.op = .call { callee := .builtin .append, args := #[s, x], argTypes := #[ts, ts] }) (hty : o.type = ts) {a0 a1 v : Value} (hs : a.eval s = a0) (hx : a.eval x = a1) (hr : (Builtin.append_ #[ts, ts] ts #[a0, a1]).run Tryz.prog w = .ok v w') (h : K (a.put o.dst v) w') :
    if Region.wanted o (yielded ops a.tmps) = true then Oper.wp Tryz.prog o a w K Q else E := by
  have hw : Region.wanted o (yielded ops a.tmps) = true := by simp [Region.wanted, hgd]
  rw [if_pos hw]
  unfold Oper.wp execOp
  simp only [hq, hty, resolve, invoke, builtin, Sem.run_bind, Sem.run_pure, Result.andThen_ok, List.map_toArray, List.map_cons, List.map_nil, hs, hx, hr]
  exact h

end Go.Proofs.YtidbipbangifbaaGreatDoor

/- Names and keys of record stores: rms.IsName, isSign, Key, the document's IsName, strings.TrimPrefix. -/
namespace Go.Proofs.YtidbipbangifbaaGreatDoor
set_option maxRecDepth 100000
open Go.RowKit

theorem aa_bytesWorld (w : World) (e : TypeId) (s : ByteArray) : Below w.heap.size w (Lib.bytesWorld w e s) :=
  ⟨by simp [Lib.bytesWorld, World.freeze, World.alloc, World.drew, -World.alloc_eq, -World.drew_eq], by simp [Lib.bytesWorld, World.freeze, World.alloc, World.drew, -World.alloc_eq, -World.drew_eq], by simp [Lib.bytesWorld, World.freeze, World.alloc, World.drew, -World.alloc_eq, -World.drew_eq],
    by rw [Lib.bytesWorld_size]; omega, fun k hk => Lib.bytesWorld_at_old w e s k hk⟩
theorem aa_size (xs : List UInt8) : (strB xs).size = xs.length := rfl
theorem aa_conv (s : List UInt8) (n : Nat) (hl : s.length = n) (hn : n ≤ 1048576) (W : World) :
    ∃ cap w', (convert 9 22 (.string (strB s))).run Tryz.prog W = .ok (.slice (some ⟨W.heap.size, 0, none⟩) n cap) w' ∧ Below W.heap.size W w' ∧ ByteSl w' Empty (some ⟨W.heap.size, 0, none⟩) n cap s := by
  have hsz : (strB s).size = n := by rw [aa_size, hl]
  refine ⟨grownCap W n 0 5, Lib.bytesWorld W 5 (strB s), ?_, aa_bytesWorld _ _ _, hl, grownCap_ge _ _ _ _, grownCap_le_maxLen _ _ _ _ (by unfold maxLen; omega), fun _ => ⟨_, rfl, by rw [Lib.bytesWorld_size]; exact Nat.lt_succ_self _, fun h => h, fun j x hx => ?_⟩⟩
  · have h := Lib.run_convert_string_bytes (P := Tryz.prog) W 9 22 5 (strB s) Tryz.underlying9 Tryz.underlying22 Tryz.underlying5
    rw [hsz] at h
    exact h
  · have hj : j < n := by rw [← hl]; exact (List.getElem?_eq_some_iff.mp hx).1
    have ha : (⟨W.heap.size, 0, none⟩ : Addr).add j = ⟨W.heap.size, j, none⟩ := by unfold Addr.add; split <;> simp_all
    rw [ha, Lib.bytesWorld_cell W 5 (strB s) j (by rw [hsz]; exact hj)]
    simp [strB, List.getD, hx, B8]

/-- A name's sign. -/
def rsignB (x : UInt8) : Bool := decide ((97 ≤ x.toNat ∧ x.toNat ≤ 122) ∨ (48 ≤ x.toNat ∧ x.toNat ≤ 57) ∨ x.toNat = 95 ∨ x.toNat = 45)
def nameB (s : List UInt8) : Bool := decide (1 ≤ s.length ∧ s.length ≤ 16) && s.all rsignB

theorem aa_ret {a b : Bool} (h : a = b) : Ending.returned (.bool a) = .returned (.bool b) := by rw [h]
set_option maxHeartbeats 2000000 in
theorem rmIsSign_any (x : UInt8) (w : World) : Calls Tryz.prog 81 #[B8 x] w fun e w' => e = .returned (.bool (rsignB x)) ∧ w = w' := by
  unfold B8
  go_enter Tryz.func81, Tryz.ntmps81
  go_wp2
  all_goals
    go_ret
    refine ⟨aa_ret ?_, rfl⟩
    unfold rsignB
    rw [Bool.eq_iff_iff]
    simp
    try omega

set_option maxHeartbeats 2000000 in
theorem isName_any (s : List UInt8) (w : World) (hl : s.length ≤ 9223372036854775807) : Calls Tryz.prog 44 #[.string (strB s)] w fun e w' => e = .returned (.bool (nameB s)) ∧ Below w.heap.size w w' := by
  have hsz := aa_size s
  obtain ⟨n, hn⟩ : ∃ n, s.length = n := ⟨_, rfl⟩
  rw [hn] at hsz hl
  by_cases h1 : 1 ≤ n
  · by_cases h2 : n ≤ 16
    · obtain ⟨cap, w1, hcv, hb, hB⟩ := aa_conv s n hn (by omega) w
      have hd1 : decide ((n : Int) < 1) = false := by simp; omega
      have hd2 : decide ((16 : Int) < (n : Int)) = false := by simp; omega
      have HN : Hid (nameB s = (s.take n).all rsignB) := Lib.hid (by unfold nameB; rw [hn, decide_eq_true ⟨h1, h2⟩, Bool.true_and, List.take_of_length_le (by omega)])
      have hcap := hB.2.2.1
      have hncap := hB.2.1
      unfold maxLen at hcap
      have HB := Lib.hid hB
      have Hb := Lib.hid hb
      have Hn := Lib.hid hn
      clear hB hb hn
      go_enter Tryz.func44, Tryz.ntmps44
      go_wp2
      go_loop [16] (fun i => ∃ k : Nat, k ≤ n ∧ i = .int .i64 (k : Int) ∧ Hid ((s.take k).all rsignB = true)) (fun i => n - (intOf i).toNat)
      case atStart => exact ⟨0, by omega, rfl, Lib.hid rfl⟩
      case round =>
        obtain ⟨k, hk, rfl, HT⟩ := hrel
        by_cases hlt : k < n
        · obtain ⟨ad, x, he, hbl, -, hx, hc⟩ := HB.out.at_ hlt
          cases he
          have hadd : (⟨w.heap.size, 0, none⟩ : Addr).add k = ⟨w.heap.size, k, none⟩ := by unfold Addr.add; split <;> simp_all
          rw [hadd] at hc
          have C := Lib.hid (rmIsSign_any x w1)
          have HX := Lib.hid hx
          unfold B8 at hc C
          clear hx hadd hbl
          cases hs : rsignB x with
          | true =>
            rw [hs] at C
            have HT2 : Hid ((s.take (k + 1)).all rsignB = true) := Lib.hid (by rw [take_one s k x HX.out, List.all_append, HT.out]; simp [hs])
            clear hs
            go_wp2_with fail
            refine C.out.mono ?_
            rintro e w' ⟨rfl, rfl⟩
            go_wp2
            go_round
            case rel => exact ⟨k + 1, by omega, by go_num, HT2⟩
            case measure => simp [intOf]; omega
          | false =>
            rw [hs] at C
            have HF : Hid (nameB s = false) := Lib.hid (by
              unfold nameB
              have : s.all rsignB = false := List.all_eq_false.2 ⟨x, List.mem_of_getElem? HX.out, by rw [hs]; exact Bool.false_ne_true⟩
              rw [this]
              simp)
            clear hs
            go_wp2_with fail
            refine C.out.mono ?_
            rintro e w' ⟨rfl, rfl⟩
            go_wp2
            go_ret
            exact ⟨by rw [HF.out]; rfl, Hb.out⟩
        · obtain rfl : k = n := by omega
          go_wp2
          go_ret
          exact ⟨by rw [HN.out, HT.out]; rfl, Hb.out⟩
    · have hd1 : decide ((n : Int) < 1) = false := by simp; omega
      have hd2 : decide ((16 : Int) < (n : Int)) = true := by simp; omega
      have HN : Hid (nameB s = false) := Lib.hid (by unfold nameB; rw [hn, decide_eq_false (by omega)]; rfl)
      clear hn h2
      go_enter Tryz.func44, Tryz.ntmps44
      go_wp2
      go_ret
      exact ⟨by rw [HN.out]; rfl, Below.refl _ _⟩
  · have hd1 : decide ((n : Int) < 1) = true := by simp; omega
    have HN : Hid (nameB s = false) := Lib.hid (by unfold nameB; rw [hn, decide_eq_false (by omega)]; rfl)
    clear hn h1
    go_enter Tryz.func44, Tryz.ntmps44
    go_wp2
    go_ret
    exact ⟨by rw [HN.out]; rfl, Below.refl _ _⟩

end Go.Proofs.YtidbipbangifbaaGreatDoor

/- Record stores as plain data; how they lie; rms.mayBe. -/
namespace Go.Proofs.YtidbipbangifbaaGreatDoor
set_option maxRecDepth 100000
open Go.RowKit

/-- An entry: its ID, its data. -/
abbrev Ent := Nat × List UInt8
/-- A record store. -/
structure RcP where
  next : Nat
  version : Nat
  list : List Ent
/-- May entries be, behind an ID, below another one? -/
def mayL (next : Nat) : Nat → List Ent → Bool
  | _, [] => true
  | last, e :: t => decide (last < e.1 ∧ e.1 < next ∧ e.2.length ≤ 512) && mayL next e.1 t
def mayP (r : RcP) : Bool := decide (r.next ≠ 0 ∧ r.list.length ≤ 64) && mayL r.next 0 r.list
/-- An entry's bytes. -/
def entB (e : Ent) : List UInt8 := putL e.1 4 ++ (putL e.2.length 2 ++ e.2)
def entsB (l : List Ent) : List UInt8 := l.flatMap entB
/-- A record store's bytes. -/
def rcB (r : RcP) : List UInt8 := (putL r.next 4 ++ putL r.version 4 ++ putL r.list.length 2) ++ entsB r.list

/-- An entry as it lies: its data lies elsewhere. -/
structure EntM where
  id : Nat
  A : Option Addr
  n : Nat
  cap : Nat
  xs : List UInt8
def EntM.p (e : EntM) : Ent := (e.id, e.xs)
def EntM.cells (e : EntM) : List Value := [.int .u32 (e.id : Int), .slice e.A e.n e.cap]
def EntM.v (e : EntM) : Value := .agg #[.int .u32 (e.id : Int), .slice e.A e.n e.cap]
theorem EntM.cells_len (e : EntM) : e.cells.length = 2 := rfl
theorem EntM.cells_one (e : EntM) : ∀ v ∈ e.cells, v.oneCell' = true := by
  intro v hv
  simp [EntM.cells] at hv
  rcases hv with rfl | rfl <;> rfl
/-- Data as it should be. -/
def EntM.ok (w : World) (S : Nat → Prop) (e : EntM) : Prop := ByteSl w S e.A e.n e.cap e.xs ∧ (e.A = none → e.n = 0 ∧ e.cap = 0) ∧ e.id ≤ 4294967295
/-- A slice that reads as entries. -/
structure EntsAt (w : World) (S : Nat → Prop) (A : Option Addr) (n cap : Nat) (l : List EntM) : Prop where
  row : RowSl EntM.cells 2 w S A n cap l
  ok : ∀ e ∈ l, e.ok w S
section
variable {w w' : World} {S T : Nat → Prop} {A : Option Addr} {n cap : Nat} {l : List EntM}
theorem EntM.ok.only {e : EntM} (h : e.ok w S) (k : Only T w w') (hT : ∀ i, i < w.heap.size → T i → S i) : e.ok w' S := ⟨h.1.only k hT, h.2⟩
theorem EntsAt.only (h : EntsAt w S A n cap l) (k : Only T w w') (hT : ∀ i, i < w.heap.size → T i → S i) : EntsAt w' S A n cap l := ⟨h.row.only k hT, fun e he => (h.ok e he).only k hT⟩
theorem EntsAt.below (h : EntsAt w S A n cap l) (k : Below w.heap.size w w') : EntsAt w' S A n cap l := h.only (Only.of_below (S := Empty) k) (fun _ _ h => h.elim)
theorem EntsAt.nil_ (w : World) (S : Nat → Prop) : EntsAt w S none 0 0 [] := ⟨RowSl.nil_ _ _ _ _ (by simp [maxLen]), fun e he => by simp at he⟩
theorem ent_at (h : EntsAt w S A n cap l) {k : Nat} (hk : k < n) : ∃ b o e, A = some ⟨b, o, none⟩ ∧ l[k]? = some e ∧ b < w.heap.size ∧ ¬ S b ∧ e.ok w S ∧ w.cell? ⟨b, o + k * 2, none⟩ = some (.int .u32 (e.id : Int)) ∧ w.cell? ⟨b, o + k * 2 + 1, none⟩ = some (.slice e.A e.n e.cap) := by
  obtain ⟨b, o, e, ea, hb, hs, he, hc⟩ := h.row.at_ hk
  exact ⟨b, o, e, ea, he, hb, hs, h.ok e (List.mem_of_getElem? he), hc 0 (by decide), hc 1 (by decide)⟩
end

theorem mayL_take (next : Nat) : ∀ (l : List Ent) (last k : Nat) (e : Ent), l[k]? = some e → mayL next last (l.take (k + 1)) = (mayL next last (l.take k) && decide ((if k = 0 then last else ((l[k - 1]?).getD (0, [])).1) < e.1 ∧ e.1 < next ∧ e.2.length ≤ 512))
  | [], last, k, e, h => by simp at h
  | x :: t, last, 0, e, h => by
    simp at h
    subst h
    simp [mayL]
  | x :: t, last, k + 1, e, h => by
    simp at h
    rw [List.take_succ_cons, List.take_succ_cons]
    unfold mayL
    rw [mayL_take next t x.1 k e h, Bool.and_assoc]
    congr 2
    cases k with
    | zero => simp
    | succ k => simp
theorem mayL_pre (next : Nat) : ∀ (l : List Ent) (last k : Nat), mayL next last l = true → mayL next last (l.take k) = true
  | [], _, _, _ => by simp [mayL]
  | _ :: _, _, 0, _ => rfl
  | x :: t, last, k + 1, h => by
    unfold mayL at h
    rw [Bool.and_eq_true] at h
    rw [List.take_succ_cons]
    unfold mayL
    rw [h.1, mayL_pre next t x.1 k h.2]
    rfl

def Rec_ (next version : Nat) (A : Option Addr) (n cap : Nat) : Value := .agg #[.int .u32 (next : Int), .int .u32 (version : Int), .slice A n cap]

set_option maxHeartbeats 4000000 in
theorem rmMayBe_any (next version : Nat) (A : Option Addr) (n cap : Nat) (l : List EntM) (w : World) (hn : next ≤ 4294967295) (hL : EntsAt w Empty A n cap l) :
    Calls Tryz.prog 47 #[.agg #[.int .u32 (next : Int), .int .u32 (version : Int), .slice A n cap]] w fun e w' => e = .returned (.bool (mayP ⟨next, version, l.map EntM.p⟩)) ∧ Below w.heap.size w w' := by
  have hll := hL.row.1
  have hnc := hL.row.2.1
  have hcm := hL.row.2.2.1
  unfold maxLen at hcm
  have HE : Hid (mayP ⟨next, version, l.map EntM.p⟩ = (decide (next ≠ 0 ∧ n ≤ 64) && mayL next 0 (l.map EntM.p))) := Lib.hid (by unfold mayP; simp [hll])
  have Hll := Lib.hid hll
  have HL := Lib.hid hL
  clear hL hll
  by_cases h0 : next = 0
  · subst h0
    have HF : Hid (mayP ⟨0, version, l.map EntM.p⟩ = false) := Lib.hid (by rw [HE.out]; simp)
    go_enter Tryz.func47, Tryz.ntmps47
    go_wp2
    go_ret
    exact ⟨by rw [HF.out]; rfl, (Below.refl _ _).alloc (Nat.le_refl _) _⟩
  have hd0 : ((next : Int) == 0) = false := by simp; omega
  by_cases h64 : n ≤ 64
  · have hd1 : decide ((64 : Int) < (n : Int)) = false := by simp; omega
    have HE2 : Hid (mayP ⟨next, version, l.map EntM.p⟩ = mayL next 0 (l.map EntM.p)) := Lib.hid (by rw [HE.out, decide_eq_true ⟨h0, h64⟩, Bool.true_and])
    clear HE h0
    go_enter Tryz.func47, Tryz.ntmps47
    go_wp2
    go_loopw [3, 18] (fun q i wr => ∃ k last : Nat, k ≤ n ∧ i = .int .i64 (k : Int) ∧ q = .int .u32 (last : Int) ∧ last ≤ 4294967295 ∧ Hid (mayL next 0 ((l.map EntM.p).take k) = true) ∧ Hid (last = if k = 0 then 0 else (((l.map EntM.p)[k - 1]?).getD (0, [])).1) ∧ Hid (Below w.heap.size w wr) ∧ Blk wr w.heap.size 31 #[.int .u32 (next : Int), .int .u32 (version : Int), .slice A n cap]) (fun _ i _ => n - (intOf i).toNat)
    case atStart => exact ⟨0, 0, by omega, rfl, rfl, by omega, Lib.hid rfl, Lib.hid rfl, Lib.hid ((Below.refl _ _).alloc (Nat.le_refl _) _), Blk.new _ _ _⟩
    case round =>
      obtain ⟨k, last, hk, rfl, rfl, hlast, HM, HLa, HW, hblk⟩ := hrel
      have q0 := hblk.cell 0
      have q2 := hblk.cell 2
      simp at q0 q2
      have HB := Lib.hid hblk
      have hlt0 := hblk.lt
      clear hblk
      by_cases hlt : k < n
      · obtain ⟨b, o, e, rfl, he, hb, -, hok, c0, c1⟩ := ent_at (HL.out.below HW.out) hlt
        have hid := hok.2.2
        have hxn := hok.1.1
        have hnn := hok.1.2.1
        have hcc := hok.1.2.2.1
        unfold maxLen at hcc
        have HT := Lib.hid (mayL_take next (l.map EntM.p) 0 k e.p (by rw [List.getElem?_map, he]; rfl))
        have HMe : Hid (mayL next 0 ((l.map EntM.p).take (k + 1)) = decide (last < e.id ∧ e.id < next ∧ e.n ≤ 512)) := Lib.hid (by
          rw [HT.out, HM.out, ← HLa.out, Bool.true_and]
          show decide (last < e.id ∧ e.id < next ∧ e.xs.length ≤ 512) = _
          rw [hxn])
        have HNx : Hid (e.id = if k + 1 = 0 then 0 else (((l.map EntM.p)[k + 1 - 1]?).getD (0, [])).1) := Lib.hid (by
          rw [if_neg (by omega), Nat.add_sub_cancel, List.getElem?_map, he]
          rfl)
        have HFa : Hid (mayL next 0 ((l.map EntM.p).take (k + 1)) = false → mayL next 0 (l.map EntM.p) = false) := Lib.hid (fun h => by
          cases hq : mayL next 0 (l.map EntM.p) with
          | false => rfl
          | true => rw [mayL_pre _ _ _ _ hq] at h; cases h)
        clear he hok hxn HT HLa
        by_cases h1 : last < e.id
        · by_cases h2 : e.id < next
          · by_cases h3 : e.n ≤ 512
            · have d1 : decide (e.id ≤ last) = false := by simp; omega
              have d2 : decide (next ≤ e.id) = false := by simp; omega
              have d3 : decide ((512 : Int) < (e.n : Int)) = false := by simp; omega
              have HT2 : Hid (mayL next 0 ((l.map EntM.p).take (k + 1)) = true) := Lib.hid (by rw [HMe.out]; exact decide_eq_true ⟨h1, h2, h3⟩)
              clear h1 h2 h3
              go_wp2
              go_roundw
              case rel => exact ⟨k + 1, e.id, by omega, by go_num, rfl, hid, HT2, HNx, Lib.hid (HW.out.alloc HW.out.size _), HB.out.alloc _⟩
              case measure => simp [intOf]; omega
            · have d1 : decide (e.id ≤ last) = false := by simp; omega
              have d2 : decide (next ≤ e.id) = false := by simp; omega
              have d3 : decide ((512 : Int) < (e.n : Int)) = true := by simp; omega
              have HF : Hid (mayL next 0 (l.map EntM.p) = false) := Lib.hid (HFa.out (by rw [HMe.out]; exact decide_eq_false (fun h => h3 h.2.2)))
              clear h1 h2 h3
              go_wp2
              go_ret
              exact ⟨by rw [HE2.out, HF.out]; rfl, HW.out.alloc HW.out.size _⟩
          · have d1 : decide (e.id ≤ last) = false := by simp; omega
            have d2 : decide (next ≤ e.id) = true := by simp; omega
            have HF : Hid (mayL next 0 (l.map EntM.p) = false) := Lib.hid (HFa.out (by rw [HMe.out]; exact decide_eq_false (fun h => h2 h.2.1)))
            clear h1 h2
            go_wp2
            go_ret
            exact ⟨by rw [HE2.out, HF.out]; rfl, HW.out.alloc HW.out.size _⟩
        · have d1 : decide (e.id ≤ last) = true := by simp; omega
          have HF : Hid (mayL next 0 (l.map EntM.p) = false) := Lib.hid (HFa.out (by rw [HMe.out]; exact decide_eq_false (fun h => h1 h.1)))
          clear h1
          go_wp2
          go_ret
          exact ⟨by rw [HE2.out, HF.out]; rfl, HW.out.alloc HW.out.size _⟩
      · have hkn : k = n := by omega
        have HF : Hid (mayL next 0 (l.map EntM.p) = true) := Lib.hid (by
          have h := HM.out
          rwa [List.take_of_length_le (by have := Hll.out; simp; omega)] at h)
        have hd : decide (k < n) = false := decide_eq_false hlt
        clear hkn
        go_wp2
        go_ret
        exact ⟨by rw [HE2.out, HF.out]; rfl, HW.out⟩
  · have hd1 : decide ((64 : Int) < (n : Int)) = true := by simp; omega
    have HF : Hid (mayP ⟨next, version, l.map EntM.p⟩ = false) := Lib.hid (by rw [HE.out, decide_eq_false (fun h => h64 h.2)]; rfl)
    clear HE h0 h64
    go_enter Tryz.func47, Tryz.ntmps47
    go_wp2
    go_ret
    exact ⟨by rw [HF.out]; rfl, (Below.refl _ _).alloc (Nat.le_refl _) _⟩

end Go.Proofs.YtidbipbangifbaaGreatDoor

/- Bytes of a call's own, opened as a slice; blocks beside a row that grows. (The same words stand in En, Ej, Eq for the seat of ops.) -/
namespace Go.Proofs.YtidbipbangifbaaGreatDoor
set_option maxRecDepth 100000
open Go.RowKit

theorem own_open {w : World} {base : Nat} {v : Value} {n : Nat} {xs : List UInt8} (h : w.ownsRow base 5 1 v n (xs.map B8)) :
    ∃ A cap, v = .slice A n cap ∧ ByteSl w Empty A n cap xs ∧ (A = none → n = 0 ∧ cap = 0) := by
  obtain ⟨A, cap, e, hB, _⟩ := ByteSl.of_own (S := Empty) h (fun _ _ _ h => h)
  refine ⟨A, cap, e, hB, fun hA => ?_⟩
  subst hA
  rcases h.2 with ⟨h1, h2⟩ | ⟨g, c, cur, h1, _⟩
  · rw [e] at h1
    simp at h1
    exact ⟨h2, h1.2⟩
  · rw [e] at h1
    cases h1
theorem own_ne_ {w : World} {base : Nat} {v : Value} {n q : Nat} {xs : List Value} {t : TypeId} {cs : Array Value} (h : w.ownsRow base 5 1 v n xs) (hq : Blk w q t cs) (ht : 5 ≠ t) : ∀ g, v.ownBlock = some g → g ≠ q := by
  intro g hg
  rcases h.2 with ⟨rfl, _⟩ | ⟨g', c, cur, rfl, _, hh, _⟩
  · cases hg
  · cases hg
    exact Blk.ne_ (w := w) (cs := cur) hh hq ht
theorem own_ge {w : World} {base : Nat} {v : Value} {n : Nat} {xs : List Value} (h : w.ownsRow base 5 1 v n xs) : ∀ q, v.ownBlock = some q → base ≤ q := by
  intro q hq
  rcases h.2 with ⟨rfl, _⟩ | ⟨g, c, cur, rfl, hb, _⟩
  · cases hq
  · cases hq
    exact hb
/-- A block that isn't the row's stays where the row grows. -/
theorem grown_blk {W W' : World} {row : Option Nat} {q : Nat} {t : TypeId} {cs : Array Value} (h : W.grownBy W' row) (hq : Blk W q t cs) (hne : ∀ g, row = some g → g ≠ q) : Blk W' q t cs :=
  (Only.of_grown (S := fun p => row = some p) h (fun k e _ => e)).blk hq (fun e => hne q e rfl)
theorem own_none (w : World) (base : Nat) : w.ownsRow base 5 1 (.slice none 0 0) ([] : List UInt8).length (([] : List UInt8).map B8) := ⟨rfl, Or.inl ⟨rfl, rfl⟩⟩
/-- Bytes that a call has made, behind an error. -/
def GotEnc (w w' : World) (e : Ending) (c : Int) (bs : List UInt8) : Prop := (∃ u, e = .returned (.tuple #[u, .int .i64 c]) ∧ w'.ownsRow w.heap.size 5 1 u bs.length (bs.map B8)) ∧ Below w.heap.size w w'

end Go.Proofs.YtidbipbangifbaaGreatDoor

/- rms.Bytes. -/
namespace Go.Proofs.YtidbipbangifbaaGreatDoor
set_option maxRecDepth 100000
open Go.RowKit

theorem entsB_take (l : List Ent) (k : Nat) (e : Ent) (h : l[k]? = some e) : entsB (l.take (k + 1)) = ((entsB (l.take k) ++ putL e.1 4) ++ putL e.2.length 2) ++ e.2 := by
  unfold entsB
  rw [take_one l k e h, List.flatMap_append]
  simp [entB]
theorem mayL_len {next : Nat} : ∀ {l : List Ent} {last : Nat}, mayL next last l = true → ∀ e ∈ l, e.2.length ≤ 512 ∧ e.1 < next
  | [], _, _, e, he => by simp at he
  | x :: t, last, h, e, he => by
    unfold mayL at h
    rw [Bool.and_eq_true] at h
    have h1 := of_decide_eq_true h.1
    rcases List.mem_cons.1 he with rfl | he
    · exact ⟨h1.2.2, h1.2.1⟩
    · exact mayL_len h.2 e he
theorem entsB_le {l : List Ent} (h : ∀ e ∈ l, e.2.length ≤ 512) : (entsB l).length ≤ 518 * l.length := by
  induction l with
  | nil => simp [entsB]
  | cons x t ih =>
    have h1 := h x (List.mem_cons_self ..)
    have h2 := ih (fun e he => h e (List.mem_cons_of_mem _ he))
    unfold entsB at h2 ⊢
    rw [List.flatMap_cons, List.length_append, List.length_cons]
    simp only [entB, List.length_append, putL_len]
    omega

/-- The loop's state: the record's box, the row of bytes. -/
structure RcW (w W : World) (q0 : Nat) (R : Array Value) (v : Value) (zs : List UInt8) : Prop where
  box : Blk W q0 31 R
  own : W.ownsRow w.heap.size 5 1 v zs.length (zs.map B8)
  below : Below w.heap.size w W
section
variable {w W W' : World} {q0 : Nat} {R : Array Value} {v v' : Value} {zs ys : List UInt8}
theorem RcW.next (h : RcW w W q0 R v zs) (k : Below W.heap.size W W') : RcW w W' q0 R v zs :=
  ⟨h.box.of (k.block q0 h.box.lt), own_only h.own (Only.of_below (S := Empty) k) (fun _ _ _ h => h), h.below.trans (k.mono h.below.size)⟩
theorem RcW.grow (h : RcW w W q0 R v zs) (g : W.grownBy W' v.ownBlock) (k : W'.ownsRow w.heap.size 5 1 v' ((zs ++ ys).length) ((zs ++ ys).map B8)) : RcW w W' q0 R v' (zs ++ ys) :=
  ⟨grown_blk g h.box (own_ne_ h.own h.box (by decide)), k, below_grown h.below h.below.size g (own_ge h.own)⟩
theorem RcW.open_ (h : RcW w W q0 R v zs) : ∃ A cap, v = .slice A zs.length cap ∧ ByteSl W Empty A zs.length cap zs ∧ (A = none → zs.length = 0 ∧ cap = 0) := own_open h.own
end

set_option maxHeartbeats 4000000 in
theorem rmBytes_no (next version : Nat) (A : Option Addr) (n cap : Nat) (l : List EntM) (w : World) (hn : next ≤ 4294967295) (hL : EntsAt w Empty A n cap l) (hm : mayP ⟨next, version, l.map EntM.p⟩ = false) :
    Calls Tryz.prog 20 #[.agg #[.int .u32 (next : Int), .int .u32 (version : Int), .slice A n cap]] w fun e w' => GotEnc w w' e 8 [] := by
  have HMb : Hid (Calls Tryz.prog 47 #[.agg #[.int .u32 (next : Int), .int .u32 (version : Int), .slice A n cap]] (w.alloc (.cells #[.int .u32 (next : Int), .int .u32 (version : Int), .slice A n cap] 31)) fun e w' => e = .returned (.bool false) ∧ Below (w.alloc (.cells #[.int .u32 (next : Int), .int .u32 (version : Int), .slice A n cap] 31)).heap.size (w.alloc (.cells #[.int .u32 (next : Int), .int .u32 (version : Int), .slice A n cap] 31)) w') := Lib.hid (by
    have h := rmMayBe_any next version A n cap l _ hn (hL.below ((Below.refl w.heap.size w).alloc (Nat.le_refl _) (.cells #[.int .u32 (next : Int), .int .u32 (version : Int), .slice A n cap] 31)))
    rwa [hm] at h)
  clear hL hm
  go_enter Tryz.func20, Tryz.ntmps20
  go_wp2_with fail
  refine HMb.out.mono ?_
  rintro e1 w1 ⟨rfl, hb1⟩
  have HW1 : Hid (Below w.heap.size w w1) := Lib.hid (((Below.refl _ _).alloc (Nat.le_refl _) _).trans (hb1.mono (by simp)))
  clear hb1
  go_wp2
  go_ret2
  exact ⟨⟨_, rfl, own_none _ _⟩, HW1.out⟩

set_option maxHeartbeats 8000000 in
theorem rmBytes_yes (next version : Nat) (A : Option Addr) (n cap : Nat) (l : List EntM) (w : World) (hn : next ≤ 4294967295) (hv : version ≤ 4294967295) (hL : EntsAt w Empty A n cap l) (hm : mayP ⟨next, version, l.map EntM.p⟩ = true) :
    Calls Tryz.prog 20 #[.agg #[.int .u32 (next : Int), .int .u32 (version : Int), .slice A n cap]] w fun e w' => GotEnc w w' e 0 (rcB ⟨next, version, l.map EntM.p⟩) := by
  obtain ⟨R, hR⟩ : ∃ R : Array Value, R = #[.int .u32 (next : Int), .int .u32 (version : Int), .slice A n cap] := ⟨_, rfl⟩
  have hll := hL.row.1
  have hnc := hL.row.2.1
  have hcm := hL.row.2.2.1
  unfold maxLen at hcm
  have hmm := hm
  unfold mayP at hmm
  rw [Bool.and_eq_true] at hmm
  have h64 : n ≤ 64 := by have := (of_decide_eq_true hmm.1).2; simp at this; omega
  have Hlen : Hid (∀ e ∈ l.map EntM.p, e.2.length ≤ 512) := Lib.hid (fun e he => (mayL_len hmm.2 e he).1)
  have HMb : Hid (Calls Tryz.prog 47 #[.agg #[.int .u32 (next : Int), .int .u32 (version : Int), .slice A n cap]] (w.alloc (.cells #[.int .u32 (next : Int), .int .u32 (version : Int), .slice A n cap] 31)) fun e w' => e = .returned (.bool true) ∧ Below (w.alloc (.cells #[.int .u32 (next : Int), .int .u32 (version : Int), .slice A n cap] 31)).heap.size (w.alloc (.cells #[.int .u32 (next : Int), .int .u32 (version : Int), .slice A n cap] 31)) w') := Lib.hid (by
    have h := rmMayBe_any next version A n cap l _ hn (hL.below ((Below.refl w.heap.size w).alloc (Nat.le_refl _) (.cells #[.int .u32 (next : Int), .int .u32 (version : Int), .slice A n cap] 31)))
    rwa [hm] at h)
  have HE : Hid (rcB ⟨next, version, l.map EntM.p⟩ = (putL next 4 ++ putL version 4 ++ putL n 2) ++ entsB (l.map EntM.p)) := Lib.hid (by unfold rcB; simp [hll])
  have HL := Lib.hid hL
  have Hll := Lib.hid hll
  clear hL hm hmm hll hR
  go_enter Tryz.func20, Tryz.ntmps20
  go_wp2_with fail
  refine HMb.out.mono ?_
  rintro e1 w1 ⟨rfl, hb1⟩
  have hblk1 : Blk w1 w.heap.size 31 #[.int .u32 (next : Int), .int .u32 (version : Int), .slice A n cap] := (Blk.new w 31 _).of (hb1.block w.heap.size (by simp))
  have HR1 : Hid (RcW w w1 w.heap.size #[.int .u32 (next : Int), .int .u32 (version : Int), .slice A n cap] (.slice none 0 0) []) := Lib.hid ⟨hblk1, own_none _ _, ((Below.refl _ _).alloc (Nat.le_refl _) _).trans (hb1.mono (by simp))⟩
  have q0 := hblk1.cell 0
  simp at q0
  clear hb1 hblk1
  go_wp2_with fail
  refine (put_yes none 0 0 [] next 4 _ (ByteSl.nil_ _ _ _ _ (by unfold maxLen; omega)) (by omega) (by omega) (by omega) (by omega)).mono ?_
  rintro e2 w2 ⟨⟨u2, rfl, hu2⟩, hb2⟩
  rw [Nat.zero_add, List.nil_append] at hu2
  have HR2 : Hid (RcW w w2 w.heap.size #[.int .u32 (next : Int), .int .u32 (version : Int), .slice A n cap] u2 (putL next 4)) := Lib.hid ⟨(HR1.out.next hb2).box, by rw [putL_len]; exact own_base hu2 HR1.out.below.size, (HR1.out.next hb2).below⟩
  obtain ⟨A2, c2, rfl, hB2, hN2⟩ := HR2.out.open_
  have HB2 := Lib.hid hB2
  have q1 := HR2.out.box.cell 1
  simp at q1
  clear hu2 hb2 hB2 hN2 q0
  rw [putL_len] at HB2 HR2 ⊢
  go_wp2_with fail
  refine (put_yes A2 4 c2 (putL next 4) version 4 _ HB2.out (by omega) (by omega) (by omega) (by omega)).mono ?_
  rintro e3 w3 ⟨⟨u3, rfl, hu3⟩, hb3⟩
  have HR3 : Hid (RcW w w3 w.heap.size #[.int .u32 (next : Int), .int .u32 (version : Int), .slice A n cap] u3 (putL next 4 ++ putL version 4)) := Lib.hid ⟨(HR2.out.next hb3).box, by rw [List.length_append, putL_len, putL_len]; exact own_base hu3 HR2.out.below.size, (HR2.out.next hb3).below⟩
  obtain ⟨A3, c3, rfl, hB3, hN3⟩ := HR3.out.open_
  have HB3 := Lib.hid hB3
  have q2 := HR3.out.box.cell 2
  simp at q2
  have hl8 : (putL next 4 ++ putL version 4).length = 8 := by rw [List.length_append, putL_len, putL_len]
  clear hu3 hb3 hB3 hN3 q1
  rw [hl8] at HB3 HR3 ⊢
  clear hl8
  go_wp2_with fail
  refine (put_yes A3 8 c3 (putL next 4 ++ putL version 4) n 2 _ HB3.out (by omega) (by omega) (by omega) (by omega)).mono ?_
  rintro e4 w4 ⟨⟨u4, rfl, hu4⟩, hb4⟩
  have HR4 : Hid (RcW w w4 w.heap.size #[.int .u32 (next : Int), .int .u32 (version : Int), .slice A n cap] u4 (putL next 4 ++ putL version 4 ++ putL n 2)) := Lib.hid ⟨(HR3.out.next hb4).box, by rw [List.length_append, List.length_append, putL_len, putL_len, putL_len]; exact own_base hu4 HR3.out.below.size, (HR3.out.next hb4).below⟩
  have q2' := HR4.out.box.cell 2
  simp at q2'
  clear hu4 hb4 q2
  obtain ⟨z0, hz0⟩ : ∃ z0, z0 = putL next 4 ++ putL version 4 ++ putL n 2 := ⟨_, rfl⟩
  have hz0l : z0.length = 10 := by rw [hz0, List.length_append, List.length_append, putL_len, putL_len, putL_len]
  rw [← hz0] at HR4 HE
  have Hz0l := Lib.hid hz0l
  clear hz0 hz0l
  go_wp2
  go_loopw [4, 28] (fun v i wr => ∃ k : Nat, k ≤ n ∧ i = .int .i64 (k : Int) ∧ Hid (RcW w wr w.heap.size #[.int .u32 (next : Int), .int .u32 (version : Int), .slice A n cap] v (z0 ++ entsB ((l.map EntM.p).take k)))) (fun _ i _ => n - (intOf i).toNat)
  case atStart => exact ⟨0, by omega, rfl, Lib.hid (by simpa [entsB] using HR4.out)⟩
  case round =>
    clear HR4 q2'
    obtain ⟨k, hk, rfl, HW⟩ := hrel
    by_cases hlt : k < n
    · obtain ⟨b, o, e, rfl, he, hb, -, hok, c0, c1⟩ := ent_at (HL.out.below HW.out.below) hlt
      have hid := hok.2.2
      have hxn := hok.1.1
      have hnn := hok.1.2.1
      have hcc := hok.1.2.2.1
      unfold maxLen at hcc
      have HBw : Hid (∀ W, Below w.heap.size w W → ByteSl W Empty e.A e.n e.cap e.xs) := Lib.hid (fun W hW => (HL.out.ok e (List.mem_of_getElem? he)).1.only (Only.of_below (S := Empty) hW) (fun _ _ h => h))
      have HNe := Lib.hid hok.2.1
      have hep : (l.map EntM.p)[k]? = some e.p := by rw [List.getElem?_map, he]; rfl
      have HT := Lib.hid (entsB_take (l.map EntM.p) k e.p hep)
      have h512 : e.n ≤ 512 := by
        have := Hlen.out e.p (List.mem_of_getElem? hep)
        have h2 : e.p.2 = e.xs := rfl
        rw [h2, hxn] at this
        exact this
      have HZl : Hid ((entsB ((l.map EntM.p).take k)).length ≤ 518 * 64) := Lib.hid (by
        have h1 := entsB_le (l := (l.map EntM.p).take k) (fun x hx => Hlen.out x (List.mem_of_mem_take hx))
        have h2 : ((l.map EntM.p).take k).length ≤ k := List.length_take_le _ _
        omega)
      have HT2 : Hid (entsB ((l.map EntM.p).take (k + 1)) = ((entsB ((l.map EntM.p).take k) ++ putL e.id 4) ++ putL e.n 2) ++ e.xs) := Lib.hid (by rw [HT.out]; show _ ++ putL e.xs.length 2 ++ e.xs = _; rw [hxn]; rfl)
      have Hxn := Lib.hid hxn
      clear hok he hep HT hxn
      generalize entsB ((l.map EntM.p).take k) = zk at *
      have hal := (Below.refl wr.heap.size wr).alloc (Nat.le_refl _) (.cells #[.int .u32 (e.id : Int), .slice e.A e.n e.cap] 91)
      have HW1 := Lib.hid (HW.out.next hal)
      have HE1 : Hid (Blk (wr.alloc (.cells #[.int .u32 (e.id : Int), .slice e.A e.n e.cap] 91)) wr.heap.size 91 #[.int .u32 (e.id : Int), .slice e.A e.n e.cap]) := Lib.hid (Blk.new _ _ _)
      clear hal
      go_wp2_with fail
      refine (put_yes none 0 0 [] e.id 4 _ (ByteSl.nil_ _ _ _ _ (by unfold maxLen; omega)) (by omega) (by omega) (by omega) (by omega)).mono ?_
      rintro e5 w5 ⟨⟨u5, rfl, hu5⟩, hb5⟩
      rw [Nat.zero_add, List.nil_append] at hu5
      obtain ⟨A5, c5, rfl, hB5, hN5⟩ := own_open hu5
      have HB5 := Lib.hid hB5
      have HN5 := Lib.hid hN5
      have HW5 := Lib.hid (HW1.out.next hb5)
      have HE5 := Lib.hid (HE1.out.of (hb5.block _ HE1.out.lt))
      clear hu5 hb5 hB5 hN5 c0 c1
      go_wp2_with (at_builtin; refine wpList_append_bytes rfl (.tmp 32) (.tmp 36) rfl w.heap.size u4 rfl _ _ HW5.out.own A5 4 c5 (putL e.id 4) Empty rfl HB5.out HN5.out (by have := HZl.out; have := Hz0l.out; rw [List.length_append]; omega) HW5.out.below.size ?_; intro v6 w6 ho6 hg6 hn6; have HW6 := Lib.hid (HW5.out.grow hg6 (by rw [List.length_append, putL_len]; exact ho6)); have HE6 := Lib.hid (grown_blk hg6 HE5.out (own_ne_ HW5.out.own HE5.out (by decide))); have k1 := HE6.out.cell 1; simp at k1; clear ho6 hg6 hn6)
      refine (put_yes none 0 0 [] e.n 2 _ (ByteSl.nil_ _ _ _ _ (by unfold maxLen; omega)) (by omega) (by omega) (by omega) (by omega)).mono ?_
      rintro e7 w7 ⟨⟨u7, rfl, hu7⟩, hb7⟩
      rw [Nat.zero_add, List.nil_append] at hu7
      obtain ⟨A7, c7, rfl, hB7, hN7⟩ := own_open hu7
      have HB7 := Lib.hid hB7
      have HN7 := Lib.hid hN7
      have HW7 := Lib.hid (HW6.out.next hb7)
      have HE7 := Lib.hid (HE6.out.of (hb7.block _ HE6.out.lt))
      clear hu7 hb7 hB7 hN7 k1
      go_wp2_with (first
        | (at_builtin; refine wpList_append_bytes rfl (.tmp 38) (.tmp 43) rfl w.heap.size v6 rfl _ _ HW7.out.own A7 2 c7 (putL e.n 2) Empty rfl HB7.out HN7.out (by have := HZl.out; have := Hz0l.out; rw [List.length_append, List.length_append, putL_len]; omega) HW7.out.below.size ?_; intro v8 w8 ho8 hg8 hn8; have HW8 := Lib.hid (HW7.out.grow hg8 (by rw [List.length_append, putL_len]; exact ho8)); have HE8 := Lib.hid (grown_blk hg8 HE7.out (own_ne_ HW7.out.own HE7.out (by decide))); have k1 := HE8.out.cell 1; simp at k1; clear ho8 hg8 hn8)
        | (at_builtin; refine wpList_append_bytes rfl (.tmp 45) (.tmp 47) rfl w.heap.size v8 rfl _ _ HW8.out.own e.A e.n e.cap e.xs Empty rfl (HBw.out _ HW8.out.below) HNe.out (by have := HZl.out; have := Hz0l.out; rw [List.length_append, List.length_append, List.length_append, putL_len, putL_len]; omega) HW8.out.below.size ?_; intro v9 w9 ho9 hg9 hn9; have HW9 := Lib.hid (HW8.out.grow hg9 (by rw [List.length_append, Hxn.out]; exact ho9)); clear ho9 hg9 hn9))
      go_roundw
      case rel =>
        refine ⟨k + 1, by omega, by go_num, Lib.hid ?_⟩
        rw [HT2.out]
        have h := HW9.out
        simpa only [List.append_assoc] using h
      case measure => simp [intOf]; omega
    · have hkn : k = n := by omega
      have HF := Lib.hid HW.out
      have hd : decide (k < n) = false := decide_eq_false hlt
      have HTk : Hid ((l.map EntM.p).take k = l.map EntM.p) := Lib.hid (List.take_of_length_le (by have := Hll.out; simp; omega))
      clear hkn
      go_wp2
      go_ret2
      refine ⟨⟨_, rfl, ?_⟩, HF.out.below⟩
      have h := HF.out.own
      rw [HTk.out] at h
      rw [HE.out]
      exact h

end Go.Proofs.YtidbipbangifbaaGreatDoor
