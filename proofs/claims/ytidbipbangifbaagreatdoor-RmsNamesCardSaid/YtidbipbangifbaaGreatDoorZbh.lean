/- All that a plan stands on, in one: its rows, its keys, the store's map, the flash, the lists of its steps. -/
import Derived.Test.YtidbipbangifbaaGreatDoorZbg
import Derived.Test.YtidbipbangifbaaGreatDoorZbf
import Derived.Deep.LoopGhost
namespace Go.Proofs.YtidbipbangifbaaGreatDoor
set_option maxRecDepth 100000
open Go.RowKit Go.Maps

/-- The types of the blocks that making room turns. -/
def EPK (t : TypeId) : Prop := EP t ∨ t = 53 ∨ t = 9
structure PQ (g base : Nat) (w w' : World) : Prop where
  only : Only (PlanT g base) w w'
  keep : Keep EPK w w'
theorem PQ.trans {g base : Nat} {a b c : World} (h : PQ g base a b) (k : PQ g base b c) : PQ g base a c := ⟨h.only.trans k.only, h.keep.trans k.keep⟩
theorem PO.pq {g base : Nat} {a b : World} (h : PO g base a b) : PQ g base a b := ⟨h.only, h.keep.mono (fun _ h => Or.inl h)⟩
theorem PQ.of_below {g base : Nat} {a b : World} (h : Below a.heap.size a b) : PQ g base a b := (PO.of_below h).pq
theorem PQ.refl (g base : Nat) (a : World) : PQ g base a a := (PO.refl _ _ _).pq
theorem PQ.size {g base : Nat} {a b : World} (h : PQ g base a b) : a.heap.size ≤ b.heap.size := h.only.size

theorem GotR.keep {α : Type} {cells : α → List Value} {k n cap base : Nat} {t : TypeId} {w w' : World} {A : Option Addr} {l : List α} {E : TypeId → Prop} (hk : ∀ f, (cells f).length = k) (h : GotR cells k t base w A n cap l) (hK : Keep E w w') (hE : ¬ E t) : GotR cells k t base w' A n cap l := by
  have hown : w'.ownsRow base t k (.slice A n cap) n (l.flatMap cells) := by
    refine ⟨h.own.1, ?_⟩
    rcases h.own.2 with h0 | ⟨g, cap', cur', e, hg, hb, h1, h2, h3, h4⟩
    · exact Or.inl h0
    · have hb2 : Blk w g t cur' := hb
      exact Or.inr ⟨g, cap', cur', e, hg, hK g t cur' hb2 hE, h1, h2, h3, h4⟩
  obtain ⟨A', c', he, hG⟩ := GotR.of_own hk hown h.row.1
  cases he
  exact hG

theorem KeysAt.keep {w w' : World} {base bi cap : Nat} {A : Option Addr} {K : List Kr} {E : TypeId → Prop} (h : KeysAt w base bi A cap K) (hK : Keep E w w') (h1 : ¬ E 53) (h2 : ¬ E 9) : KeysAt w' base bi A cap K :=
  ⟨h.le, h.outer.keep kr_len hK h1, fun i k hk => (h.inner i k hk).keep strC_len hK h2, h.apart⟩

/-- What lies beside a step that a plan has made. -/
def StAt (w : World) (base : Nat) (M : Al Sv) : Stp → Prop
  | .lay _ _ _ A n cap l => GotR Ch.cells 3 103 base w A n cap l ∧ ∃ F : List (List UInt8), l = F.map (keyCh M)
  | _ => True
theorem ep_change : ¬ EPK 103 := by unfold EPK EP; decide
theorem StAt.pq {w w' : World} {g base : Nat} {M : Al Sv} {s : Stp} (h : StAt w base M s) (k : PQ g base w w') : StAt w' base M s := by
  cases s with
  | lay k0 o t A n cap l => exact ⟨h.1.keep chg_len k.keep ep_change, h.2⟩
  | _ => trivial

structure PW (w : World) (g base bi p c e mb Z L : Nat) (ss : List (Nat × List UInt8)) (nM : Nat) (M : Al Sv) (KA : Option Addr) (kn kcap : Nat) (R : PP) (P : PV) (K : List Kr) : Prop where
  plan : PlanAt w g base p mb Z (.slice KA kn kcap) R P
  keys : KeysAt w base bi KA kcap K
  kn : K.length = kn
  map : StM w mb nM M
  bl : BlobsAt w (PlanT g base) M
  fs : FS w p c e Z L ss
  sts : ∀ s ∈ P.sts, StAt w base M s

/-- What stays while room is made. -/
structure PC (g base p c e mb Z L : Nat) (ss : List (Nat × List UInt8)) (M : Al Sv) : Prop where
  three : ∀ q, Three p c e q → q < base ∧ q ≠ g
  mb : mb < base ∧ mb ≠ g
  fair : FairM M

section
variable {w w' : World} {g base bi p c e mb Z L nM kn kcap : Nat} {ss : List (Nat × List UInt8)} {M : Al Sv} {KA : Option Addr} {R R' : PP} {P P' : PV} {K : List Kr}
theorem PW.pq_ (h : PW w g base bi p c e mb Z L ss nM M KA kn kcap R P K) (C : PC g base p c e mb Z L ss M) (k : PQ g base w w') {K' : List Kr} (hP : PlanAt w' g base p mb Z (.slice KA kn kcap) R' P') (hK : KeysAt w' base bi KA kcap K') (hl : K'.length = kn) (hs : ∀ s ∈ P'.sts, s ∈ P.sts ∨ StAt w' base M s) : PW w' g base bi p c e mb Z L ss nM M KA kn kcap R' P' K' := by
  have hm : ¬ PlanT g base mb := fun h2 => by
    have := C.mb
    rcases h2 with h2 | h2 <;> omega
  refine ⟨hP, hK, hl, h.map.only k.only hm, h.bl.only k.only (fun _ _ h => h), ?_, fun s hs2 => ?_⟩
  · have hn : ∀ q, Three p c e q → ¬ PlanT g base q := fun q h1 h2 => by
      have := C.three q h1
      rcases h2 with h2 | h2 <;> omega
    exact h.fs.of k.only (hn p (Or.inl rfl)) (hn c (Or.inr (Or.inl rfl))) (hn e (Or.inr (Or.inr rfl)))
  · rcases hs s hs2 with h1 | h1
    · exact (h.sts s h1).pq k
    · exact h1
theorem PW.po (h : PW w g base bi p c e mb Z L ss nM M KA kn kcap R P K) (C : PC g base p c e mb Z L ss M) (k : PO g base w w') (hP : PlanAt w' g base p mb Z (.slice KA kn kcap) R' P') (hs : ∀ s ∈ P'.sts, s ∈ P.sts ∨ StAt w' base M s) : PW w' g base bi p c e mb Z L ss nM M KA kn kcap R' P' K :=
  h.pq_ C k.pq hP (h.keys.keep k.keep (by unfold EP; decide) (by unfold EP; decide)) h.kn hs
theorem PW.below (h : PW w g base bi p c e mb Z L ss nM M KA kn kcap R P K) (C : PC g base p c e mb Z L ss M) (k : Below w.heap.size w w') : PW w' g base bi p c e mb Z L ss nM M KA kn kcap R P K :=
  h.po C (PO.of_below k) (h.plan.below k) (fun s hs => Or.inl hs)
end

/-- A row of keys that was taken out of the plan's. -/
structure KRow (w : World) (K : List Kr) (A : Option Addr) (n cap : Nat) (ks : List (List UInt8)) : Prop where
  row : RowSl strC 1 w Empty A n cap ks
  isNil : A = none → n = 0 ∧ cap = 0
  blk : A = none ∨ ∃ kb o cur, A = some ⟨kb, o, none⟩ ∧ Blk w kb 9 cur ∧ ∀ k ∈ K, k.A ≠ some ⟨kb, 0, none⟩

theorem RowSl.take_ {α : Type} {cells : α → List Value} {k : Nat} {w : World} {S : Nat → Prop} {A : Option Addr} {n cap : Nat} {l : List α} (h : RowSl cells k w S A n cap l) {i : Nat} (hi : i ≤ n) : RowSl cells k w S A i cap (l.take i) := by
  refine ⟨by rw [List.length_take, h.1]; omega, by have := h.2.1; omega, h.2.2.1, fun h0 => ?_⟩
  obtain ⟨b, o, e, hb, hs, hc⟩ := h.2.2.2 (by omega)
  refine ⟨b, o, e, hb, hs, fun j f hf => hc j f ?_⟩
  rw [List.getElem?_take] at hf
  split at hf
  · exact hf
  · cases hf
theorem RowSl.drop_ {α : Type} {cells : α → List Value} {k : Nat} {w : World} {S : Nat → Prop} {b o n cap : Nat} {l : List α} (h : RowSl cells k w S (some ⟨b, o, none⟩) n cap l) {i : Nat} (hi : i ≤ n) : RowSl cells k w S (some ⟨b, o + i * k, none⟩) (n - i) (cap - i) (l.drop i) := by
  refine ⟨by rw [List.length_drop, h.1], by have := h.2.1; omega, by have := h.2.2.1; omega, fun h0 => ?_⟩
  obtain ⟨b2, o2, e, hb, hs, hc⟩ := h.2.2.2 (by omega)
  cases e
  refine ⟨b, _, rfl, hb, hs, fun j f hf q hq => ?_⟩
  rw [List.getElem?_drop] at hf
  have h1 := hc (i + j) f hf q hq
  have e1 : o + i * k + j * k + q = o + (i + j) * k + q := by rw [Nat.add_mul]; omega
  rw [e1]
  exact h1

section
variable {w w' : World} {K K' : List Kr} {A : Option Addr} {n cap : Nat} {ks : List (List UInt8)}
theorem KRow.move (h : KRow w K A n cap ks) (hs : w.heap.size ≤ w'.heap.size) (hm : ∀ q cur, Blk w q 9 cur → (∀ k ∈ K, k.A ≠ some ⟨q, 0, none⟩) → Blk w' q 9 cur) (hK : ∀ k' ∈ K', (∃ k ∈ K, k'.A = k.A) ∨ k'.A = none ∨ ∃ q, k'.A = some ⟨q, 0, none⟩ ∧ w.heap.size ≤ q) : KRow w' K' A n cap ks := by
  rcases h.blk with rfl | ⟨kb, o, cur, rfl, hb, hne⟩
  · refine ⟨⟨h.row.1, h.row.2.1, h.row.2.2.1, fun h0 => ?_⟩, h.isNil, Or.inl rfl⟩
    have := (h.isNil rfl).1
    omega
  · have hb2 := hm kb cur hb hne
    refine ⟨⟨h.row.1, h.row.2.1, h.row.2.2.1, fun h0 => ?_⟩, h.isNil, Or.inr ⟨kb, o, cur, rfl, hb2, fun k' hk' he => ?_⟩⟩
    · obtain ⟨b2, o2, e, hb3, hs2, hc⟩ := h.row.2.2.2 h0
      cases e
      exact ⟨kb, o, rfl, hb2.lt, fun h => h, fun i f hf j hj => by rw [hb2.cell, ← hb.cell]; exact hc i f hf j hj⟩
    · rcases hK k' hk' with ⟨k, hk, e⟩ | e | ⟨q, e, hq⟩
      · exact hne k hk (by rw [← e]; exact he)
      · rw [e] at he; cases he
      · rw [e] at he
        cases he
        have := hb.lt
        omega
theorem KRow.keep {E : TypeId → Prop} (h : KRow w K A n cap ks) (hs : w.heap.size ≤ w'.heap.size) (hk : Keep E w w') (hE : ¬ E 9) : KRow w' K A n cap ks :=
  h.move hs (fun q cur hq _ => hk q _ cur hq hE) (fun k hk => Or.inl ⟨k, hk, rfl⟩)
theorem KRow.none_ (h : KRow w K A n cap ks) (hA : A ≠ none) : KRow w K A 0 0 [] := ⟨RowSl.nil_ _ _ _ _ (Nat.zero_le _), fun e => absurd e hA, h.blk⟩
theorem KRow.drop_ {b o : Nat} (h : KRow w K (some ⟨b, o, none⟩) n cap ks) {i : Nat} (hi : i ≤ n) : KRow w K (some ⟨b, o + i, none⟩) (n - i) (cap - i) (ks.drop i) := by
  have h1 := h.row.drop_ hi
  rw [Nat.mul_one] at h1
  refine ⟨h1, (fun h => by cases h), ?_⟩
  rcases h.blk with hn | ⟨kb, o2, cur, e, hb, hne⟩
  · cases hn
  · cases e
    exact Or.inr ⟨b, o + i, cur, rfl, hb, hne⟩
end

end Go.Proofs.YtidbipbangifbaaGreatDoor

/- Keys are put once more: the plain model; how a row of keys grows. -/
namespace Go.Proofs.YtidbipbangifbaaGreatDoor
set_option maxRecDepth 100000
open Go.RowKit Go.Maps

/-- A change, a step, a plan without where they lie. -/
def Ch.nm (f : Ch) : Ch := ⟨f.del, f.s, none, f.n, 0, f.blob⟩
def Stp.nm : Stp → Stp
  | .lay k o t _ n _ l => .lay k o t none n 0 (l.map Ch.nm)
  | s => s
def PV.nm (P : PV) : PV := ⟨P.l, P.h, P.sts.map Stp.nm⟩
theorem PV.opened_nm (P : PV) (i Z : Nat) (s : Sc) : (P.opened i Z s).nm = P.nm.opened i Z s := by
  simp [PV.nm, PV.opened, Stp.nm]
theorem nm_sz (l : List Ch) : roomL (l.map Ch.nm) = roomL l := by
  unfold roomL
  rw [List.map_map]
  rfl
theorem PV.laid_nm (P : PV) (k o t : Nat) (A : Option Addr) (n cap : Nat) (l : List Ch) : (P.laid k o t A n cap l).nm = P.nm.laid k o t none n 0 (l.map Ch.nm) := by
  simp [PV.nm, PV.laid, Stp.nm, nm_sz]
theorem goSts_nm (L i : Nat) (s : Sc) : (goSts L i s).map Stp.nm = goSts L i s := by
  unfold goSts
  split <;> rfl
theorem PV.letGo_nm (P : PV) (L i : Nat) (s : Sc) : (P.letGo L i s).nm = P.nm.letGo L i s := by
  simp [PV.nm, PV.letGo, goSts_nm]

/-- The bounds of a plan's numbers. -/
structure Bd (P : PV) : Prop where
  q : Q32 P.l
  len : P.l.length ≤ 64
  sts : P.sts.length ≤ 1000000
  er : ∀ s ∈ P.l, 0 ≤ s.er ∧ s.er ≤ 2097152
theorem Bd.of_nm {P : PV} (h : Bd P.nm) : Bd P := ⟨h.q, h.len, by have := h.sts; simpa [PV.nm] using this, h.er⟩

/-- A plan's head, as its place in a sector. -/
structure HdOk (Z : Nat) (h : HeadV) (k o t : Nat) : Prop where
  sec : h.sec = (k : Int)
  next : h.next = ((k * Z + o : Nat) : Int)
  txn : h.txn + 1 = (t : Int)
  t0 : 0 ≤ h.txn
  t1 : h.txn ≤ 4294901759
  far : k * Z + o ≤ 4194304
  l0 : 0 ≤ h.left
  l1 : h.left ≤ 65536

/-- A sector is opened. -/
structure Opens (L : Nat) (P : PV) (i : Nat) (s : Sc) : Prop where
  best : best (opensB (L : Int)) Sc.er P.l P.l.length = some i
  at_ : P.l[i]? = some s
  more : ¬ lastQ P.l = 4294967295
  bd : Bd P
/-- None can be. -/
structure NoOpen (L : Nat) (P : PV) : Prop where
  no : best (opensB (L : Int)) Sc.er P.l P.l.length = none ∨ lastQ P.l = 4294967295
  bd : Bd P

/-- Keys are put once more. -/
inductive Again (Z L : Nat) (M : Al Sv) : Nat → PV → List (List (List UInt8)) → List (List UInt8) → Bool → PV → List (List (List UInt8)) → Prop
  | done (P K) : Again Z L M 0 P K [] true P K
  | opened (t P K ks b P' K' i s) : ks ≠ [] → fit M P.h ks = [] → Opens L P i s → Again Z L M t (P.opened i Z s) K ks b P' K' → Again Z L M (t + 1) P K ks b P' K'
  | stuck (P K ks) : ks ≠ [] → fit M P.h ks = [] → NoOpen L P → Again Z L M 0 P K ks false P K
  | lay (t P K ks b P' K' k o u kk) : ks ≠ [] → fit M P.h ks ≠ [] → HdOk Z P.h k o u → Bd P → K[k]? = some kk → kk.length ≤ 1048576 →
      Again Z L M t (P.laid k o u none (fit M P.h ks).length 0 ((fit M P.h ks).map fun x => (keyCh M x).nm)) (K.set k (kk ++ fit M P.h ks)) (ks.drop (fit M P.h ks).length) b P' K' → Again Z L M (t + 1) P K ks b P' K'

theorem Again.inv {Z L : Nat} {M : Al Sv} {t : Nat} {P : PV} {K : List (List (List UInt8))} {ks : List (List UInt8)} {b : Bool} {P' : PV} {K' : List (List (List UInt8))} (h : Again Z L M t P K ks b P' K') (hne : ks ≠ []) :
    (fit M P.h ks = [] ∧ ∃ t0 i s, t = t0 + 1 ∧ Opens L P i s ∧ Again Z L M t0 (P.opened i Z s) K ks b P' K') ∨ (fit M P.h ks = [] ∧ NoOpen L P ∧ b = false ∧ P' = P ∧ K' = K) ∨
    (fit M P.h ks ≠ [] ∧ ∃ t0 k o u kk, t = t0 + 1 ∧ HdOk Z P.h k o u ∧ Bd P ∧ K[k]? = some kk ∧ kk.length ≤ 1048576 ∧ Again Z L M t0 (P.laid k o u none (fit M P.h ks).length 0 ((fit M P.h ks).map fun x => (keyCh M x).nm)) (K.set k (kk ++ fit M P.h ks)) (ks.drop (fit M P.h ks).length) b P' K') := by
  cases h with
  | done => exact absurd rfl hne
  | opened t P K ks b P' K' i s h1 h2 h3 h4 => exact Or.inl ⟨h2, t, i, s, rfl, h3, h4⟩
  | stuck P K ks h1 h2 h3 => exact Or.inr (Or.inl ⟨h2, h3, rfl, rfl, rfl⟩)
  | lay t P K ks b P' K' k o u kk h1 h2 h3 h4 h5 h6 h7 => exact Or.inr (Or.inr ⟨h2, t, k, o, u, kk, rfl, h3, h4, h5, h6, h7⟩)
theorem Again.nil_ {Z L : Nat} {M : Al Sv} {t : Nat} {P : PV} {K : List (List (List UInt8))} {b : Bool} {P' : PV} {K' : List (List (List UInt8))} (h : Again Z L M t P K [] b P' K') : b = true ∧ P' = P ∧ K' = K := by
  cases h with
  | done => exact ⟨rfl, rfl, rfl⟩
  | opened t P K ks b P' K' i s h1 _ _ _ => exact absurd rfl h1
  | stuck P K ks h1 _ _ => exact absurd rfl h1
  | lay t P K ks b P' K' k o u kk h1 _ _ _ _ _ _ => exact absurd rfl h1

theorem fitL_pre (M : Al Sv) (h : HeadV) : ∀ (ks : List (List UInt8)) (r : Nat), ∃ m, m ≤ ks.length ∧ fitL M h r ks = ks.take m
  | [], _ => ⟨0, Nat.le_refl _, rfl⟩
  | k :: ks, r => by
    unfold fitL
    split
    · obtain ⟨m, h1, h2⟩ := fitL_pre M h ks (r + (keyCh M k).sz)
      exact ⟨m + 1, by simpa using h1, by rw [h2]; rfl⟩
    · exact ⟨0, Nat.zero_le _, rfl⟩
theorem fit_take (M : Al Sv) (h : HeadV) (ks : List (List UInt8)) : fit M h ks = ks.take (fit M h ks).length ∧ (fit M h ks).length ≤ ks.length ∧ (fit M h ks).length ≤ 16 := by
  obtain ⟨m, h1, h2⟩ := fitL_pre M h (ks.take 16) 16
  have h3 : fit M h ks = (ks.take 16).take m := h2
  rw [List.length_take] at h1
  have h4 : (fit M h ks).length = m := by rw [h3, List.length_take, List.length_take]; omega
  rw [h4]
  refine ⟨?_, by omega, by omega⟩
  rw [h3, List.take_take, Nat.min_eq_left (by omega)]

theorem chs_of {w : World} {base : Nat} {A : Option Addr} {n cap : Nat} {l : List Ch} (h : GotR Ch.cells 3 103 base w A n cap l) (hb : ∀ f ∈ l, ByteSl w Empty f.A f.n f.cap f.blob ∧ (f.A = none → f.n = 0 ∧ f.cap = 0)) : Chs w Empty A n cap l :=
  ⟨h.row.1, h.row.2.1, h.row.2.2.1, h.row.2.2.2, hb⟩

/-- append onto a row of the call's own, as an equation, and where the new row lies. -/
theorem run_append_at {α : Type} {cells : α → List Value} {k : Nat} {w : World} {S : Nat → Prop} (hk : ∀ f, (cells f).length = k) (h1 : ∀ f, ∀ v ∈ cells f, v.oneCell' = true) (hk0 : 0 < k)
    (ts te : TypeId) (zero : Value) (bytes : Nat) (hts : Tryz.prog.underlying ts = some (.slice te)) (hinfo : (Tryz.prog.info? te).map (fun i => (i.zero, i.size, i.bytes)) = some (some zero, k, bytes)) (hzc : zero.cells.size = k) (hby : bytes ≤ 1024) (ty : TypeId)
    (base : Nat) (B : Option Addr) (m0 c0 : Nat) (zs : List α) (hown : GotR cells k te base w B m0 c0 zs) (ad : Addr) (m c : Nat) (l : List α) (hB : RowSl cells k w S (some ad) m c l) (hm : m0 + m ≤ 16777216) (hbase : base ≤ w.heap.size) :
    ∃ A' c' w', (Builtin.append_ #[ts, ts] ty #[.slice B m0 c0, .slice (some ad) m c]).run Tryz.prog w = .ok (.slice A' (m0 + m) c') w' ∧ GotR cells k te base w' A' (m0 + m) c' (zs ++ l) ∧ w.grownBy w' (Value.slice B m0 c0).ownBlock ∧ (∀ g, (Value.slice B m0 c0).ownBlock = some g → base ≤ g) ∧
      ((Value.slice A' (m0 + m) c').ownBlock = (Value.slice B m0 c0).ownBlock ∨ (Value.slice A' (m0 + m) c').ownBlock = some w.heap.size) := by
  obtain ⟨i0, hi, hz0, hz1, hz2⟩ := info_parts hinfo
  have hown1 : ∀ g, (Value.slice B m0 c0).ownBlock = some g → base ≤ g := fun g hg => (hown.own.lt g hg).1
  obtain ⟨v', w', hr, h2, h3, _, h5⟩ := run_append_own_at (P := Tryz.prog) w base ts ty te i0 _ k bytes hts hi hz0 hz1 hz2 hzc hk0 _ m0 (zs.flatMap cells) hown.own ad m c (l.flatMap cells) (by rw [rows_len hk, hB.1]) (hB.news hk hk0) (fun v hv => by
    obtain ⟨f, _, hf⟩ := List.mem_flatMap.1 hv
    exact h1 f v hf) (by unfold maxLen; omega) (by have h2 : (m0 + m) * bytes ≤ 16777216 * 1024 := Nat.mul_le_mul hm hby; omega) hbase
  obtain ⟨A', c', rfl, h4⟩ := GotR.of_own hk (l := zs ++ l) (by rw [List.flatMap_append]; exact h2) (by rw [List.length_append, hown.row.1, hB.1])
  exact ⟨A', c', w', hr, h4, h3, hown1, h5⟩

/-- The types of the rows of keys. -/
def EK (t : TypeId) : Prop := t = 53 ∨ t = 9
theorem PlanAt.keep {w w' : World} {g base p mb Z : Nat} {vk : Value} {R : PP} {P : PV} {E : TypeId → Prop} (h : PlanAt w g base p mb Z vk R P) (hK : Keep E w w') (h1 : ¬ E 144) (h2 : ¬ E 81) (h3 : ¬ E 132) : PlanAt w' g base p mb Z vk R P :=
  ⟨hK _ _ _ h.blk h1, h.secs.keep Sc.cells_len hK h2, h.sts.keep (stp_len p Z) hK h3⟩

section
variable {w : World} {g base bi p c e mb Z L nM kn kcap : Nat} {ss : List (Nat × List UInt8)} {M : Al Sv} {KA : Option Addr} {R : PP} {P : PV} {K : List Kr} {A : Option Addr} {n cap : Nat} {ks : List (List UInt8)}
/-- A row of keys grows by the first keys of another. -/
theorem PW.keys_step (h : PW w g base bi p c e mb Z L ss nM M KA kn kcap R P K) (C : PC g base p c e mb Z L ss M) (hr : KRow w K A n cap ks) {k m : Nat} {kk : Kr} (hk : K[k]? = some kk) (hm : m ≤ n) (hm0 : 0 < m) (hm1 : m ≤ 16) (hkl : kk.ks.length ≤ 1048576) (hbi : bi ≤ w.heap.size) :
    ∃ kg A4 c4 w4, KA = some ⟨kg, 0, none⟩ ∧ (Builtin.append_ #[53, 53] 53 #[.slice kk.A kk.ks.length kk.cap, .slice A m cap]).run Tryz.prog w = .ok (.slice A4 (kk.ks.length + m) c4) w4 ∧
      PW (w4.setCell ⟨kg, k, none⟩ (.slice A4 (kk.ks.length + m) c4)) g base bi p c e mb Z L ss nM M KA kn kcap R P (K.set k ⟨A4, c4, kk.ks ++ ks.take m⟩) ∧
      KRow (w4.setCell ⟨kg, k, none⟩ (.slice A4 (kk.ks.length + m) c4)) (K.set k ⟨A4, c4, kk.ks ++ ks.take m⟩) A n cap ks ∧ PQ g base w (w4.setCell ⟨kg, k, none⟩ (.slice A4 (kk.ks.length + m) c4)) ∧
      w4.frozen? ⟨kg, k, none⟩ = false ∧ kg < w4.heap.size ∧ PQ g base w w4 ∧ w.cell? ⟨kg, k, none⟩ = some (.slice kk.A kk.ks.length kk.cap) ∧ w4.cell? ⟨kg, k, none⟩ = some (.slice kk.A kk.ks.length kk.cap) ∧ kg ≠ g ∧ kg < w.heap.size ∧ PlanAt w4 g base p mb Z (.slice KA kn kcap) R P := by
  have hkl0 : k < K.length := (List.getElem?_eq_some_iff.1 hk).1
  obtain ⟨kg, rfl⟩ : ∃ kg, KA = some ⟨kg, 0, none⟩ := by
    rcases h.keys.outer.here with hn | ⟨q, cur, he, _⟩
    · have := (h.keys.outer.isNil hn).1
      omega
    · exact ⟨q, he⟩
  obtain ⟨ad, rfl⟩ : ∃ ad, A = some ad := by
    cases A with
    | none => have := (hr.isNil rfl).1; omega
    | some ad => exact ⟨ad, rfl⟩
  have hki := h.keys.inner k kk hk
  obtain ⟨A4, c4, w4, hrun, hG, hgr, hro, hloc⟩ := run_append_at strC_len strC_one (by decide) 53 9 _ 16 Tryz.underlying53 Tryz.infoStr (by simp [Value.cells]) (by decide) 53 bi kk.A kk.ks.length kk.cap kk.ks hki ad m cap (ks.take m) (hr.row.take_ hm) (by omega) hbi
  have hlm : (ks.take m).length = m := by rw [List.length_take, hr.row.1]; omega
  have hput := h.keys.put rfl hk hG hlm hgr (hloc.imp id (fun e => ⟨_, e, Nat.le_refl _⟩))
  obtain ⟨curg, hBg⟩ : ∃ cur, Blk w kg 53 cur := by
    rcases h.keys.outer.here with hn | ⟨q, cur, he, _, hB, _⟩
    · cases hn
    · cases he
      exact ⟨cur, hB⟩
  have hkgb : base ≤ kg := by
    rcases h.keys.outer.here with hn | ⟨q, cur, he, hb, _⟩
    · cases hn
    · cases he
      exact hb
  -- the block of the row that grows
  have hrow : kk.A = none ∨ ∃ q cur, kk.A = some ⟨q, 0, none⟩ ∧ Blk w q 9 cur ∧ bi ≤ q := by
    rcases hki.here with hn | ⟨q, cur, he, hb, hB, _⟩
    · exact Or.inl hn
    · exact Or.inr ⟨q, cur, he, hB, hb⟩
  have hO4 : Only (fun q => kk.A = some ⟨q, 0, none⟩) w w4 := Only.of_grown hgr (fun q e _ => by
    rw [own_block] at e
    rcases hrow with hn | ⟨q2, cur, he, _⟩
    · rw [hn] at e; cases e
    · rw [he] at e ⊢
      simp at e
      rw [e])
  have hKp4 : Keep EK w w4 := fun q t cs h1 h2 => hO4.blk h1 (fun he => by
    rcases hrow with hn | ⟨q2, cur, he2, hB, _⟩
    · rw [hn] at he; cases he
    · rw [he2] at he
      cases he
      exact Blk.ne_ h1 hB (fun e2 => h2 (Or.inr e2)) rfl)
  have hBg4 : Blk w4 kg 53 curg := hO4.blk hBg (fun he => by
    rcases hrow with hn | ⟨q2, cur, he2, hB, _⟩
    · rw [hn] at he; cases he
    · rw [he2] at he
      cases he
      exact Blk.ne_ hBg hB (by decide) rfl)
  have hO5 : Only (· = kg) w4 (w4.setCell ⟨kg, k, none⟩ (.slice A4 (kk.ks.length + m) c4)) := (Only.refl (· = kg) w4).setCell (p := ⟨kg, k, none⟩) (Or.inl rfl) _
  have hKp5 : Keep EK w4 (w4.setCell ⟨kg, k, none⟩ (.slice A4 (kk.ks.length + m) c4)) := Keep.of_block hBg4 (Or.inl rfl) hO5
  have hEK : ∀ t, EK t → EPK t := fun t h => Or.inr h
  have hq4 : PQ g base w w4 := ⟨hO4.mono (fun q _ hq => by
    rcases hrow with hn | ⟨q2, cur, he2, hB, hb⟩
    · rw [hn] at hq; cases hq
    · rw [he2] at hq
      cases hq
      exact Or.inr (Nat.le_trans h.keys.le hb)), hKp4.mono hEK⟩
  have hq5 : PQ g base w (w4.setCell ⟨kg, k, none⟩ (.slice A4 (kk.ks.length + m) c4)) := hq4.trans ⟨hO5.mono (fun q _ hq => Or.inr (by omega)), hKp5.mono hEK⟩
  have hc := h.keys.outer.cell1 hk rfl
  have hcell : w.cell? ⟨kg, k, none⟩ = some (.slice kk.A kk.ks.length kk.cap) := hc.1
  refine ⟨kg, A4, c4, w4, rfl, hrun, ?_, ?_, hq5, hBg4.frozen k, hBg4.lt, hq4, hcell, ?_, fun e => Blk.ne_ hBg h.plan.blk (by decide) e, hBg.lt, h.plan.keep hKp4 (by unfold EK; decide) (by unfold EK; decide) (by unfold EK; decide)⟩
  · exact h.pq_ C hq5 (h.plan.keep (hKp4.trans hKp5) (by unfold EK; decide) (by unfold EK; decide) (by unfold EK; decide)) hput (by rw [List.length_set]; exact h.kn) (fun s hs => Or.inl hs)
  · refine hr.move hq5.size (fun q cur hq hne => ?_) (fun k' hk' => ?_)
    · have h4 : Blk w4 q 9 cur := hO4.blk hq (fun he => hne kk (List.mem_of_getElem? hk) he)
      exact hO5.blk h4 (fun e => Blk.ne_ h4 hBg4 (by decide) e)
    · rcases List.mem_or_eq_of_mem_set hk' with h1 | rfl
      · exact Or.inl ⟨k', h1, rfl⟩
      · show (∃ k ∈ K, A4 = k.A) ∨ A4 = none ∨ ∃ q, A4 = some ⟨q, 0, none⟩ ∧ w.heap.size ≤ q
        rcases strs_addr hG with h1 | ⟨n1, h1, _, _⟩
        · exact Or.inr (Or.inl h1)
        · rcases hloc with hl | hl
          · refine Or.inl ⟨kk, List.mem_of_getElem? hk, ?_⟩
            rw [own_block, own_block, h1] at hl
            rcases hrow with hn | ⟨q2, cur, he2, _⟩
            · rw [hn] at hl; cases hl
            · rw [he2] at hl ⊢
              simp at hl
              rw [h1, hl]
          · rw [own_block, h1] at hl
            simp at hl
            exact Or.inr (Or.inr ⟨n1, h1, by omega⟩)
  · rw [← hcell, hBg4.cell, hBg.cell]
end

end Go.Proofs.YtidbipbangifbaaGreatDoor

/- The walk over a plan's putAgain. (Printed by gen/gen_lc.py.) -/
namespace Go.Proofs.YtidbipbangifbaaGreatDoor
set_option maxRecDepth 100000
open Go.RowKit Go.Maps

/-- Where keys are put once more: what is so far. -/
structure PAt (wr w : World) (g base bi p c e mb Z L : Nat) (ss : List (Nat × List UInt8)) (nM : Nat) (M : Al Sv) (KA : Option Addr) (kn kcap : Nat) (R : PP) (P : PV) (K : List Kr) (A : Option Addr) (n cap : Nat) (ks : List (List UInt8)) : Prop where
  pw : PW wr g base bi p c e mb Z L ss nM M KA kn kcap R P K
  row : KRow wr K A n cap ks
  pq : PQ g base w wr
  len : P.l.length = ss.length
  key : ∀ k ∈ ks, k.length ≤ 64

set_option maxHeartbeats 4000000 in
theorem putAgain_any (g base bi p c e mb Z L nM kn kcap t : Nat) (ss : List (Nat × List UInt8)) (M : Al Sv) (KA : Option Addr) (R : PP) (P : PV) (K : List Kr) (A : Option Addr) (n cap : Nat) (ks : List (List UInt8)) (bF : Bool) (PF : PV) (KF : List (List (List UInt8))) (w : World)
    (h : PW w g base bi p c e mb Z L ss nM M KA kn kcap R P K) (C : PC g base p c e mb Z L ss M) (hr : KRow w K A n cap ks) (hA : Again Z L M t P.nm (K.map Kr.ks) ks bF PF KF) (hss : P.l.length = ss.length) (hk : ∀ k ∈ ks, k.length ≤ 64) (hbase : base ≤ w.heap.size) (hbi : bi ≤ w.heap.size) :
    Calls Tryz.prog 169 #[.pointer (some ⟨g, 0, none⟩), .slice A n cap] w fun e1 w' => e1 = .returned (.bool bF) ∧ (∃ R' P' K', PW w' g base bi p c e mb Z L ss nM M KA kn kcap R' P' K' ∧ P'.nm = PF ∧ K'.map Kr.ks = KF ∧ P'.l.length = ss.length) ∧ PQ g base w w' := by
  have HX := Lib.hid (PAt.mk h hr (PQ.refl g base w) hss hk)
  have HA := Lib.hid hA
  have HC := Lib.hid C
  clear h C hr hA hss hk
  go_enter Tryz.func169, Tryz.ntmps169
  go_wp2_with fail
  go_loopg [1] (t) (fun u v wr => ∃ (A : Option Addr) (n cap : Nat) (ks : List (List UInt8)) (R : PP) (P : PV) (K : List Kr), v = .slice A n cap ∧ Hid (PAt wr w g base bi p c e mb Z L ss nM M KA kn kcap R P K A n cap ks) ∧ Hid (Again Z L M u P.nm (K.map Kr.ks) ks bF PF KF))
  case atStart => exact ⟨A, n, cap, ks, R, P, K, rfl, HX, HA⟩
  case round =>
    clear HX HA
    obtain ⟨A, n, cap, ks, R, P, K, rfl, HX, HA⟩ := hrel
    by_cases hlt : 0 < n
    · have hlen := HX.out.row.row.1
      have hne : ks ≠ [] := fun e => by rw [e] at hlen; simp at hlen; omega
      have hncap : n ≤ cap := HX.out.row.row.2.1
      have hcap2 : cap ≤ 9223372036854775807 := by have := HX.out.row.row.2.2.1; unfold maxLen at this; omega
      have Hfit := Lib.hid (fitting_any g base p mb Z _ R P nM M A n cap ks wr HX.out.pw.plan HX.out.pw.map HC.out.fair HX.out.row.row HX.out.row.isNil HX.out.key)
      have hinv := HA.out.inv hne
      obtain ⟨F, hF⟩ : ∃ F, F = fit M P.h ks := ⟨_, rfl⟩
      have hnmh : P.nm.h = P.h := rfl
      rw [hnmh, ← hF] at hinv
      rw [← hF] at Hfit
      obtain ⟨m, hm⟩ : ∃ m, m = F.length := ⟨_, rfl⟩
      rw [← hm] at Hfit
      have hft := fit_take M P.h ks
      rw [← hF, ← hm] at hft
      have HF := Lib.hid hF
      have Hm := Lib.hid hm
      have Hft := Lib.hid hft
      have Hinv := Lib.hid hinv
      have hmn : m ≤ n ∧ m ≤ 16 := by have := hft.2; omega
      have Hlen := Lib.hid hlen
      have Hne := Lib.hid hne
      clear hF hm hft hinv hlen hne hnmh
      go_wp2_with fail
      refine Hfit.out.mono ?_
      rintro e2 w2 ⟨⟨A2, c2, rfl, hG2⟩, hb2⟩
      have HW2 := Lib.hid (HX.out.pw.below HC.out hb2)
      have HR2 := Lib.hid (HX.out.row.keep (E := Empty) hb2.size (Keep.of_empty (Only.of_below (S := Empty) hb2)) (fun h => h))
      have HQ2 := Lib.hid (HX.out.pq.trans (PQ.of_below hb2))
      have HG2 := Lib.hid hG2
      have Hsz2 := Lib.hid hb2.size
      clear hb2 hG2 Hfit
      have hinv := Hinv.out
      rcases hinv with ⟨hF0, t0, i, s, rfl, hop, hag⟩ | ⟨hF0, hno, rfl, hPe, hKe⟩ | ⟨hF0, t0, k, o, u, kk0, rfl, hhd, hbd, hkk, hkl, hag⟩
      · have hm0 : m = 0 := by rw [Hm.out, hF0]; rfl
        subst hm0
        have hbd := hop.bd.of_nm
        have Hop := Lib.hid (pOpen_yes g base p c e mb Z L _ R P i s ss w2 HW2.out.plan HW2.out.fs HC.out.three hbd.q hbd.len hbd.sts (by have := HQ2.out.size; omega) hop.best hop.at_ (hbd.er s (List.mem_of_getElem? hop.at_)) hop.more HX.out.len.symm)
        have Hag := Lib.hid hag
        clear hop hag hbd hF0 Hinv
        go_wp2_with fail
        refine Hop.out.mono ?_
        rintro e3 w3 ⟨rfl, ⟨R3, hP3⟩, hO3⟩
        have HW3 := Lib.hid (HW2.out.po HC.out hO3 hP3 (fun s hs => by
          rcases List.mem_append.1 hs with h1 | h1
          · exact Or.inl h1
          · refine Or.inr ?_
            rw [List.mem_singleton.1 h1]
            trivial))
        have HR3 := Lib.hid (HR2.out.keep hO3.size hO3.keep (by unfold EP; decide))
        have HQ3 := Lib.hid (HQ2.out.trans hO3.pq)
        clear hP3 hO3 Hop
        go_wp2_with fail
        go_roundg t0
        case measure => omega
        case rel => exact ⟨A, n, cap, ks, R3, _, K, rfl, Lib.hid ⟨HW3.out, HR3.out, HQ3.out, by show (P.l.set i _).length = _; rw [List.length_set]; exact HX.out.len, HX.out.key⟩, Lib.hid (by rw [PV.opened_nm]; exact Hag.out)⟩
      · have hm0 : m = 0 := by rw [Hm.out, hF0]; rfl
        subst hm0
        have hbd := hno.bd.of_nm
        have Hop := Lib.hid (pOpen_no g base p c e mb Z L _ R P ss w2 HW2.out.plan HW2.out.fs hbd.q hbd.len _ rfl hno.no)
        have HP := Lib.hid hPe
        have HKe := Lib.hid hKe
        clear hno hbd hPe hKe hF0 Hinv HA
        go_wp2_with fail
        refine Hop.out.mono ?_
        rintro e3 w3 ⟨rfl, hb3⟩
        have HW3 := Lib.hid (HW2.out.below HC.out hb3)
        have HQ3 := Lib.hid (HQ2.out.trans (PQ.of_below hb3))
        clear hb3 Hop
        go_wp2_with fail
        go_ret
        exact ⟨rfl, ⟨R, P, K, HW3.out, HP.out.symm, HKe.out.symm, HX.out.len⟩, HQ3.out⟩
      · have hm0 : 0 < m := by
          rw [Hm.out]
          exact List.length_pos_iff.2 hF0
        have hm0b : (m == 0) = false := by simp; omega
        obtain ⟨kk, hkk2, rfl⟩ : ∃ kk, K[k]? = some kk ∧ kk.ks = kk0 := by
          rw [List.getElem?_map] at hkk
          cases hq : K[k]? with
          | none => rw [hq] at hkk; cases hkk
          | some kk => rw [hq] at hkk; exact ⟨kk, rfl, by simpa using hkk⟩
        have hbd2 := hbd.of_nm
        have hC2 : ∀ W, PO g base w2 W → Chs W Empty A2 m c2 (F.map (keyCh M)) := fun W hW => by
          refine chs_of (HG2.out.keep chg_len hW.keep (by unfold EP; decide)) (fun f hf => ?_)
          obtain ⟨x, _, rfl⟩ := List.mem_map.1 hf
          have h1 := BlobsAt.at_ (HW2.out.bl.only hW.only (fun _ _ h => h)) x
          exact ⟨h1.1.mono (T := Empty) (fun _ _ h => h.elim), h1.2⟩
        have hfair : Fair (F.map (keyCh M)) := fun f hf => by
          obtain ⟨x, hx, rfl⟩ := List.mem_map.1 hf
          have h1 : x ∈ ks := by rw [Hft.out.1] at hx; exact List.mem_of_mem_take hx
          exact (fit_sz HC.out.fair x (HX.out.key x h1)).2
        have Hlay := Lib.hid (pLay_any g base p mb Z _ R P k o u A2 m c2 (F.map (keyCh M)) w2 HW2.out.plan (by rw [List.length_map, Hm.out]) hC2 hfair (by omega) hbd2.sts (by have := HQ2.out.size; omega) hhd.next hhd.txn hhd.t0 hhd.t1 hhd.far ⟨hhd.l0, hhd.l1⟩)
        have Hag := Lib.hid hag
        have Hkk := Lib.hid hkk2
        have Hkl := Lib.hid hkl
        have Hhs := Lib.hid hhd.sec
        have HC2 := Lib.hid (hC2)
        clear hag hhd hbd hbd2 hkk hkk2 hkl hC2 hfair hF0 Hinv HA
        go_wp2_with fail
        refine Hlay.out.mono ?_
        rintro e3 w3 ⟨rfl, ⟨R3, hP3⟩, hO3⟩
        have HW3 := Lib.hid (HW2.out.po HC.out hO3 hP3 (fun s hs => by
          rcases List.mem_append.1 hs with h1 | h1
          · exact Or.inl h1
          · refine Or.inr ?_
            rw [List.mem_singleton.1 h1]
            exact ⟨(HG2.out.keep chg_len hO3.keep (by unfold EP; decide)).lower (by have := HX.out.pq.size; omega), F, rfl⟩))
        have HR3 := Lib.hid (HR2.out.keep hO3.size hO3.keep (by unfold EP; decide))
        have HQ3 := Lib.hid (HQ2.out.trans hO3.pq)
        have hgl3 := HW3.out.plan.blk.lt
        have q4 : w3.cell? ⟨g, 4, none⟩ = some (.int .i64 (k : Int)) := by
          have h1 := HW3.out.plan.blk.cell 4
          have h2 : w3.cell? ⟨g, 4, none⟩ = some (.int .i64 P.h.sec) := h1
          rw [h2, Hhs.out]
        clear hP3 hO3 Hlay HC2
        go_wp2_with fail
        have hD3 : PO g base w3 w3.drew := (PO.refl g base w3).drew
        have hWd := HW3.out.po HC.out hD3 HW3.out.plan.drew (fun s hs => Or.inl hs)
        have hRd := HR3.out.keep hD3.size hD3.keep (by unfold EP; decide)
        obtain ⟨kg, A4, c4, w4, rfl, hrun, hW5, hR5, hQ5, f5, hkgl4, hQ4, hc1, hc4, hkgg, hkgl, hP4⟩ := hWd.keys_step HC.out hRd Hkk.out hmn.1 hm0 hmn.2 Hkl.out (by have := HQ3.out.size; have := hD3.size; omega)
        have hB3 : w3.drew.cell? ⟨g, 3, none⟩ = some (.slice (some ⟨kg, 0, none⟩) kn kcap) := hWd.plan.blk.cell 3
        have hklt : k < kn := by rw [← hWd.kn]; exact (List.getElem?_eq_some_iff.1 Hkk.out).1
        have hkcap : kn ≤ kcap := by rw [← hWd.kn]; exact hWd.keys.outer.row.2.1
        have hkc2 : kcap ≤ 9223372036854775807 := by have := hWd.keys.outer.row.2.2.1; unfold maxLen at this; omega
        have hB5 : (w4.setCell ⟨kg, k, none⟩ (.slice A4 (kk.ks.length + m) c4)).cell? ⟨g, 3, none⟩ = some (.slice (some ⟨kg, 0, none⟩) kn kcap) := hW5.plan.blk.cell 3
        have hB4 : w4.cell? ⟨g, 3, none⟩ = some (.slice (some ⟨kg, 0, none⟩) kn kcap) := hP4.blk.cell 3
        have HW5 := Lib.hid hW5
        have HR5 := Lib.hid hR5
        have HQ5 := Lib.hid ((HQ3.out.trans hD3.pq).trans hQ5)
        obtain ⟨N, hN⟩ : ∃ N, N = kk.ks.length := ⟨_, rfl⟩
        rw [← hN] at hrun HW5 HR5 HQ5 hc1 hc4 hB5
        obtain ⟨ad, hAd⟩ : ∃ ad, A = some ad := by
          cases hA : A with
          | none => have := (HX.out.row.isNil hA).1; omega
          | some ad => exact ⟨ad, rfl⟩
        have HN := Lib.hid hN
        have HAd := Lib.hid hAd
        have hgl3 := hWd.plan.blk.lt
        have hmcap : m ≤ cap := by omega
        clear hWd hRd hW5 hR5 hQ5 hQ4 hD3 hN hAd q4 hP4
        refine wp_region_held_drew (S := fun W => W.cell? ⟨g, 3, none⟩ = some (.slice (some ⟨kg, 0, none⟩) kn kcap)) (by kernel_rfl) hB3 (fun hHeld => ?_)
        refine take_yes 0 27 ?_ rfl rfl (by kernel_rfl) (by kernel_rfl) (by kernel_rfl) (fun _ _ _ h => h) (by kernel_rfl) ?_ (by assumption) ?_; rotate_left; (focus (intro w hSw; (try dsimp only at hSw); go_simp; all_goals with_reducible rfl)); simp only [Act.put, List.setIfInBounds_toArray, List.set_cons_zero, List.set_cons_succ]
        refine take_yes 1 28 ?_ rfl rfl (by kernel_rfl) (by kernel_rfl) (by kernel_rfl) (fun _ _ _ h => h) (by kernel_rfl) ?_ (by assumption) ?_; rotate_left; (focus (intro w hSw; (try dsimp only at hSw); go_simp; all_goals with_reducible rfl)); simp only [Act.put, List.setIfInBounds_toArray, List.set_cons_zero, List.set_cons_succ]
        refine take_yes 2 29 ?_ rfl rfl (by kernel_rfl) (by kernel_rfl) (by kernel_rfl) (fun _ _ _ h => h) (by kernel_rfl) ?_ (by assumption) ?_; rotate_left; (focus (intro w hSw; (try dsimp only at hSw); go_simp; all_goals with_reducible rfl)); simp only [Act.put, List.setIfInBounds_toArray, List.set_cons_zero, List.set_cons_succ]
        refine take_yes 3 30 ?_ rfl rfl (by kernel_rfl) (by kernel_rfl) (by kernel_rfl) (fun _ _ _ h => h) (by kernel_rfl) ?_ (by assumption) ?_; rotate_left; (focus (intro w hSw; (try dsimp only at hSw); go_simp; all_goals with_reducible rfl)); simp only [Act.put, List.setIfInBounds_toArray, List.set_cons_zero, List.set_cons_succ]
        refine take_yes 4 31 ?_ rfl rfl (by kernel_rfl) (by kernel_rfl) (by kernel_rfl) (fun _ _ _ h => h) (by kernel_rfl) ?_ (by assumption) ?_; rotate_left; (focus (intro w hSw; (try dsimp only at hSw); go_simp; all_goals with_reducible rfl)); simp only [Act.put, List.setIfInBounds_toArray, List.set_cons_zero, List.set_cons_succ]
        refine take_yes 5 32 ?_ rfl rfl (by kernel_rfl) (by kernel_rfl) (by kernel_rfl) (fun _ _ _ h => h) (by kernel_rfl) ?_ (by assumption) ?_; rotate_left; (focus (intro w hSw; (try dsimp only at hSw); go_simp; all_goals with_reducible rfl)); simp only [Act.put, List.setIfInBounds_toArray, List.set_cons_zero, List.set_cons_succ]
        refine take_yes 6 33 ?_ rfl rfl (by kernel_rfl) (by kernel_rfl) (by kernel_rfl) (fun _ _ _ h => h) (by kernel_rfl) ?_ (by assumption) ?_; rotate_left; (focus (intro w hSw; (try dsimp only at hSw); go_simp; all_goals with_reducible rfl)); simp only [Act.put, List.setIfInBounds_toArray, List.set_cons_zero, List.set_cons_succ]
        refine take_yes 7 34 ?_ rfl rfl (by kernel_rfl) (by kernel_rfl) (by kernel_rfl) (fun _ _ _ h => h) (by kernel_rfl) ?_ (by assumption) ?_; rotate_left; (focus (intro w hSw; (try dsimp only at hSw); go_simp; all_goals with_reducible rfl)); simp only [Act.put, List.setIfInBounds_toArray, List.set_cons_zero, List.set_cons_succ]
        refine take_yes 8 35 ?_ rfl rfl (by kernel_rfl) (by kernel_rfl) (by kernel_rfl) (fun _ _ _ h => h) (by kernel_rfl) ?_ (by assumption) ?_; rotate_left; (focus (intro w hSw; (try dsimp only at hSw); go_simp; all_goals with_reducible rfl)); simp only [Act.put, List.setIfInBounds_toArray, List.set_cons_zero, List.set_cons_succ]
        refine take_yes 9 36 ?_ rfl rfl (by kernel_rfl) (by kernel_rfl) (by kernel_rfl) (fun _ _ _ h => h) (by kernel_rfl) ?_ (by assumption) ?_; rotate_left; (focus (intro w hSw; (try dsimp only at hSw); go_simp; all_goals with_reducible rfl)); simp only [Act.put, List.setIfInBounds_toArray, List.set_cons_zero, List.set_cons_succ]
        refine take_yes 10 37 ?_ rfl rfl (by kernel_rfl) (by kernel_rfl) (by kernel_rfl) (fun _ _ _ h => h) (by kernel_rfl) ?_ (by assumption) ?_; rotate_left; (focus (intro w hSw; (try dsimp only at hSw); go_simp; all_goals with_reducible rfl)); simp only [Act.put, List.setIfInBounds_toArray, List.set_cons_zero, List.set_cons_succ]
        refine take_yes 12 39 ?_ rfl rfl (by kernel_rfl) (by kernel_rfl) (by kernel_rfl) (fun _ _ _ h => h) (by kernel_rfl) ?_ (by assumption) ?_; rotate_left; (focus (intro w hSw; (try dsimp only at hSw); go_simp; all_goals with_reducible rfl)); simp only [Act.put, List.setIfInBounds_toArray, List.set_cons_zero, List.set_cons_succ]
        refine take_yes 13 40 ?_ rfl rfl (by kernel_rfl) (by kernel_rfl) (by kernel_rfl) (fun _ _ _ h => h) (by kernel_rfl) ?_ (by assumption) ?_; rotate_left; (focus (intro w hSw; (try dsimp only at hSw); go_simp; all_goals with_reducible rfl)); simp only [Act.put, List.setIfInBounds_toArray, List.set_cons_zero, List.set_cons_succ]
        refine take_yes 14 41 ?_ rfl rfl (by kernel_rfl) (by kernel_rfl) (by kernel_rfl) (fun _ _ _ h => h) (by kernel_rfl) ?_ (by assumption) ?_; rotate_left; (focus (intro w hSw; (try dsimp only at hSw); go_simp; all_goals with_reducible rfl)); simp only [Act.put, List.setIfInBounds_toArray, List.set_cons_zero, List.set_cons_succ]
        refine take_yes 15 42 ?_ rfl rfl (by kernel_rfl) (by kernel_rfl) (by kernel_rfl) (fun _ _ _ h => h) (by kernel_rfl) ?_ (by assumption) ?_; rotate_left; (focus (intro w hSw; (try dsimp only at hSw); go_simp; all_goals with_reducible rfl)); simp only [Act.put, List.setIfInBounds_toArray, List.set_cons_zero, List.set_cons_succ]
        refine wpAnyH_ready (rs := [11]) (by kernel_rfl) (by simp) ?_
        refine AllReadyH.cons rfl (fun K hK => ?_) AllReadyH.nil
        go_simp
        refine hK.out _ _ (hB3) (fun _ => ?_)
        clear hK K
        try simp only [Act.put, List.setIfInBounds_toArray, List.set_cons_zero, List.set_cons_succ]
        refine wpAnyH_ready (rs := [16]) (by kernel_rfl) (by simp) ?_
        refine AllReadyH.cons rfl (fun K hK => ?_) AllReadyH.nil
        refine step_append_eq (ts := 53) rfl (.tmp 38) (.tmp 42) rfl rfl rfl rfl hrun ?_
        refine hK.out _ _ hB4 (fun _ => ?_)
        clear hK K
        try simp only [Act.put, List.setIfInBounds_toArray, List.set_cons_zero, List.set_cons_succ]
        refine take_yes 17 44 ?_ rfl rfl (by kernel_rfl) (by kernel_rfl) (by kernel_rfl) (fun _ _ _ h => h) (by kernel_rfl) ?_ (by assumption) ?_; rotate_left; (focus (intro w hSw; (try dsimp only at hSw); go_simp; all_goals with_reducible rfl)); simp only [Act.put, List.setIfInBounds_toArray, List.set_cons_zero, List.set_cons_succ]
        refine wpAnyH_ready (rs := [18]) (by kernel_rfl) (by simp) ?_
        refine AllReadyH.cons rfl (fun K hK => ?_) AllReadyH.nil
        go_simp
        refine hK.out _ _ (hB5) (fun _ => ?_)
        clear hK K
        try simp only [Act.put, List.setIfInBounds_toArray, List.set_cons_zero, List.set_cons_succ]
        refine wpAnyH_done (by kernel_rfl) ?_ _
        obtain ⟨w5, h5⟩ : ∃ w5, w5 = w4.setCell ⟨kg, k, none⟩ (.slice A4 (N + m) c4) := ⟨_, rfl⟩
        rw [← h5] at HW5 HR5 HQ5 ⊢
        have HagN : Hid (Again Z L M t0 (P.laid k o u A2 m c2 (F.map (keyCh M))).nm ((K.set k ⟨A4, c4, kk.ks ++ ks.take m⟩).map Kr.ks) (ks.drop m) bF PF KF) := Lib.hid (by
          rw [PV.laid_nm, List.map_map, List.map_set, ← Hft.out.1, Hm.out]
          exact Hag.out)
        clear h5 hrun hc1 hc4 f5 hB3 hB4 hB5 hHeld hkgl4 hkgl hgl3 Hag
        go_wp2_with fail
        · have hnm : n - m = 0 := by omega
          have hks : ks.drop m = [] := List.drop_eq_nil_iff.2 (by have := Hlen.out; omega)
          go_roundg t0
          case measure => omega
          case rel => exact ⟨A, n - m, 0, ks.drop m, R3, _, _, rfl, Lib.hid ⟨HW5.out, by rw [hnm, hks]; exact HR5.out.none_ (by rw [HAd.out]; exact fun h => by cases h), HQ5.out, HX.out.len, fun x hx => HX.out.key x (List.mem_of_mem_drop hx)⟩, HagN⟩
        · obtain ⟨ab, ao, rfl⟩ : ∃ ab ao, A = some ⟨ab, ao, none⟩ := by
            rcases HX.out.row.blk with hn | ⟨kb, o2, cur, he, _⟩
            · rw [HAd.out] at hn; cases hn
            · exact ⟨kb, o2, he⟩
          go_roundg t0
          case measure => omega
          case rel => exact ⟨some ⟨ab, ao + m, none⟩, n - m, cap - m, ks.drop m, R3, _, _, (by simp [Addr.add]; omega), Lib.hid ⟨HW5.out, HR5.out.drop_ hmn.1, HQ5.out, HX.out.len, fun x hx => HX.out.key x (List.mem_of_mem_drop hx)⟩, HagN⟩
    · have hn0 : n = 0 := by omega
      subst hn0
      have hk0 : ks = [] := List.eq_nil_of_length_eq_zero HX.out.row.row.1
      subst hk0
      have hnil := HA.out.nil_
      obtain ⟨rfl, hPe, hKe⟩ := hnil
      have HP := Lib.hid hPe
      have HKe := Lib.hid hKe
      clear hPe hKe HA
      go_wp2_with fail
      go_ret
      exact ⟨rfl, ⟨R, P, K, HX.out.pw, HP.out.symm, HKe.out.symm, HX.out.len⟩, HX.out.pq⟩

end Go.Proofs.YtidbipbangifbaaGreatDoor

/- The walk over a plan's clean. -/
namespace Go.Proofs.YtidbipbangifbaaGreatDoor
set_option maxRecDepth 100000
open Go.RowKit Go.Maps

/-- A plan whose head isn't sector i. -/
def PV.unhead (P : PV) (i : Nat) : PV := if (i : Int) = P.h.sec then ⟨P.l, ⟨0, 0, 0, 0⟩, P.sts⟩ else P
theorem PV.unhead_nm (P : PV) (i : Nat) : (P.unhead i).nm = P.nm.unhead i := by
  unfold PV.unhead PV.nm
  simp only
  split <;> rfl
theorem PV.unhead_l (P : PV) (i : Nat) : (P.unhead i).l = P.l := by unfold PV.unhead; split <;> rfl
theorem PV.unhead_sts (P : PV) (i : Nat) : (P.unhead i).sts = P.sts := by unfold PV.unhead; split <;> rfl

/-- The oldest sector is cleaned. -/
def Clean (Z L : Nat) (M : Al Sv) (t : Nat) (P : PV) (K : List (List (List UInt8))) (b : Bool) (P' : PV) (K' : List (List (List UInt8))) : Prop :=
  (best usedB Sc.q P.l P.l.length = none ∧ b = false ∧ P' = P ∧ K' = K) ∨
  ∃ i kk b1 P2 K2, best usedB Sc.q P.l P.l.length = some i ∧ K[i]? = some kk ∧ Again Z L M t (P.unhead i) (K.set i []) kk b1 P2 K2 ∧
    ((b1 = false ∧ b = false ∧ P' = P2 ∧ K' = K2) ∨ (b1 = true ∧ b = true ∧ (∃ s, P2.l[i]? = some s ∧ Bd P2 ∧ P' = P2.letGo L i s) ∧ K' = K2))

section
variable {w : World} {g base bi p c e mb Z L nM kn kcap : Nat} {ss : List (Nat × List UInt8)} {M : Al Sv} {KA : Option Addr} {R : PP} {P : PV} {K : List Kr}
/-- A row of keys is taken out. -/
theorem PW.keys_nil (h : PW w g base bi p c e mb Z L ss nM M KA kn kcap R P K) (C : PC g base p c e mb Z L ss M) {i : Nat} {k : Kr} (hk : K[i]? = some k) :
    ∃ kg, KA = some ⟨kg, 0, none⟩ ∧ PW (w.setCell ⟨kg, i, none⟩ (.slice none 0 0)) g base bi p c e mb Z L ss nM M KA kn kcap R P (K.set i ⟨none, 0, []⟩) ∧ KRow (w.setCell ⟨kg, i, none⟩ (.slice none 0 0)) (K.set i ⟨none, 0, []⟩) k.A k.ks.length k.cap k.ks ∧
      PQ g base w (w.setCell ⟨kg, i, none⟩ (.slice none 0 0)) ∧ w.cell? ⟨kg, i, none⟩ = some (.slice k.A k.ks.length k.cap) ∧ w.frozen? ⟨kg, i, none⟩ = false ∧ kg < w.heap.size ∧ kg ≠ g := by
  have hil : i < K.length := (List.getElem?_eq_some_iff.1 hk).1
  obtain ⟨kg, rfl⟩ : ∃ kg, KA = some ⟨kg, 0, none⟩ := by
    rcases h.keys.outer.here with hn | ⟨q, cur, he, _⟩
    · have := (h.keys.outer.isNil hn).1
      omega
    · exact ⟨q, he⟩
  have hki := h.keys.inner i k hk
  obtain ⟨curg, hBg, hkgb⟩ : ∃ cur, Blk w kg 53 cur ∧ base ≤ kg := by
    rcases h.keys.outer.here with hn | ⟨q, cur, he, hb, hB, _⟩
    · cases hn
    · cases he
      exact ⟨cur, hB, hb⟩
  have hO : Only (· = kg) w (w.setCell ⟨kg, i, none⟩ (.slice none 0 0)) := (Only.refl (· = kg) w).setCell (p := ⟨kg, i, none⟩) (Or.inl rfl) _
  have hKp : Keep EK w (w.setCell ⟨kg, i, none⟩ (.slice none 0 0)) := Keep.of_block hBg (Or.inl rfl) hO
  have hq : PQ g base w (w.setCell ⟨kg, i, none⟩ (.slice none 0 0)) := ⟨hO.mono (fun q _ hq => Or.inr (by omega)), hKp.mono (fun t h => Or.inr h)⟩
  have hc := h.keys.outer.cell1 hk rfl
  have hkeys : KeysAt (w.setCell ⟨kg, i, none⟩ (.slice none 0 0)) base bi (some ⟨kg, 0, none⟩) kcap (K.set i ⟨none, 0, []⟩) := by
    refine ⟨h.keys.le, ?_, ?_, ?_⟩
    · rw [List.length_set]
      exact h.keys.outer.set1 kr_len i _ _ rfl
    · intro j q hq2
      by_cases hij : i = j
      · subst hij
        rw [List.getElem?_set_self hil] at hq2
        cases hq2
        exact GotR.nil_ _ _ _ _ _
      · rw [List.getElem?_set_ne hij] at hq2
        exact (h.keys.inner j q hq2).far strC_len hBg (by decide) hO
    · intro a b qa qb ha hb hab
      by_cases hia : i = a
      · subst hia
        rw [List.getElem?_set_self hil] at ha
        cases ha
        exact Or.inl rfl
      · rw [List.getElem?_set_ne hia] at ha
        by_cases hib : i = b
        · subst hib
          rw [List.getElem?_set_self hil] at hb
          cases hb
          by_cases hn : qa.A = none
          · exact Or.inl hn
          · exact Or.inr hn
        · rw [List.getElem?_set_ne hib] at hb
          exact h.keys.apart a b qa qb ha hb hab
  refine ⟨kg, rfl, h.pq_ C hq (h.plan.keep hKp (by unfold EK; decide) (by unfold EK; decide) (by unfold EK; decide)) hkeys (by rw [List.length_set]; exact h.kn) (fun s hs => Or.inl hs), ?_, hq, hc.1, hc.2.1, hc.2.2, fun e => Blk.ne_ hBg h.plan.blk (by decide) e⟩
  have hki2 : Strs bi (w.setCell ⟨kg, i, none⟩ (.slice none 0 0)) k.A k.ks.length k.cap k.ks := hki.far strC_len hBg (by decide) hO
  refine ⟨hki2.row, hki2.isNil, ?_⟩
  rcases hki2.here with hn | ⟨q, cur, he, _, hB, _⟩
  · exact Or.inl hn
  · refine Or.inr ⟨q, 0, cur, he, hB, fun k' hk' he2 => ?_⟩
    obtain ⟨j, hj, hjk⟩ := List.mem_iff_getElem.1 hk'
    have hj2 : (K.set i ⟨none, 0, []⟩)[j]? = some k' := by rw [← hjk]; exact List.getElem?_eq_getElem hj
    by_cases hij : i = j
    · subst hij
      rw [List.getElem?_set_self hil] at hj2
      cases hj2
      cases he2
    · rw [List.getElem?_set_ne hij] at hj2
      rcases h.keys.apart i j k k' hk hj2 hij with h1 | h1
      · rw [he] at h1; cases h1
      · exact h1 (by rw [he, he2])
end

set_option maxHeartbeats 4000000 in
theorem clean_any (g base bi p c e mb Z L nM kn kcap t : Nat) (ss : List (Nat × List UInt8)) (M : Al Sv) (KA : Option Addr) (R : PP) (P : PV) (K : List Kr) (bF : Bool) (PF : PV) (KF : List (List (List UInt8))) (w : World)
    (h : PW w g base bi p c e mb Z L ss nM M KA kn kcap R P K) (C : PC g base p c e mb Z L ss M) (hA : Clean Z L M t P.nm (K.map Kr.ks) bF PF KF) (hss : P.l.length = ss.length) (hkn : kn = ss.length) (hk : ∀ k ∈ K, ∀ x ∈ k.ks, x.length ≤ 64) (hbase : base ≤ w.heap.size) (hbi : bi ≤ w.heap.size) :
    Calls Tryz.prog 135 #[.pointer (some ⟨g, 0, none⟩)] w fun e1 w' => e1 = .returned (.bool bF) ∧ (∃ R' P' K', PW w' g base bi p c e mb Z L ss nM M KA kn kcap R' P' K' ∧ P'.nm = PF ∧ K'.map Kr.ks = KF ∧ P'.l.length = ss.length) ∧ PQ g base w w' := by
  have hz := h.fs.bz
  have hrow := h.plan.secs.row
  obtain ⟨r, hr⟩ : ∃ r, best usedB Sc.q P.l P.l.length = r := ⟨_, rfl⟩
  have Hold := Lib.hid (oldest_any R.A P.l.length R.cap P.l w hrow (by omega) r hr)
  have c2 : w.cell? ⟨g, 2, none⟩ = some (.slice R.A P.l.length R.cap) := h.plan.blk.cell 2
  have hgl := h.plan.blk.lt
  obtain ⟨n, hn⟩ : ∃ n, n = P.l.length := ⟨_, rfl⟩
  rw [← hn] at Hold c2
  have HW := Lib.hid h
  have HC := Lib.hid C
  have HA := Lib.hid hA
  have Hk := Lib.hid hk
  have Hn := Lib.hid hn
  have Hss := Lib.hid hss
  have Hr := Lib.hid hr
  have Hkn := Lib.hid hkn
  clear h C hA hk hn hss hr hkn hrow
  cases hrs : r with
  | none =>
    subst hrs
    have hpl : placeV (none : Option Nat) = .int .i64 0 := rfl
    have hb : bF = false ∧ PF = P.nm ∧ KF = K.map Kr.ks := by
      rcases HA.out with ⟨_, h1, h2, h3⟩ | ⟨i, _, _, _, _, h1, _⟩
      · exact ⟨h1, h2, h3⟩
      · have h2 : best usedB Sc.q P.l P.l.length = some i := h1
        rw [Hr.out] at h2
        cases h2
    obtain ⟨rfl, hPe, hKe⟩ := hb
    have HPe := Lib.hid hPe
    have HKe := Lib.hid hKe
    simp only [Option.isSome_none, hpl] at Hold
    clear hPe hKe HA hpl
    go_enter Tryz.func135, Tryz.ntmps135
    go_wp2_with fail
    refine Hold.out.mono ?_
    rintro e1 w1 ⟨rfl, hb1⟩
    have Hb1 := Lib.hid hb1
    clear hb1
    go_wp2_with fail
    go_ret
    exact ⟨rfl, ⟨R, P, K, HW.out.below HC.out Hb1.out, HPe.out.symm, HKe.out.symm, Hss.out⟩, PQ.of_below Hb1.out⟩
  | some i =>
    subst hrs
    have hpl : placeV (some i) = .int .i64 (i : Int) := rfl
    simp only [Option.isSome_some, hpl] at Hold
    have hb : ∃ kk b1 P2 K2, (K.map Kr.ks)[i]? = some kk ∧ Again Z L M t (P.nm.unhead i) ((K.map Kr.ks).set i []) kk b1 P2 K2 ∧
        ((b1 = false ∧ bF = false ∧ PF = P2 ∧ KF = K2) ∨ (b1 = true ∧ bF = true ∧ (∃ s, P2.l[i]? = some s ∧ Bd P2 ∧ PF = P2.letGo L i s) ∧ KF = K2)) := by
      rcases HA.out with ⟨h1, _⟩ | ⟨i2, kk, b1, P2, K2, h1, h2, h3, h4⟩
      · have h2 : best usedB Sc.q P.l P.l.length = none := h1
        rw [Hr.out] at h2
        cases h2
      · have h5 : best usedB Sc.q P.l P.l.length = some i2 := h1
        rw [Hr.out] at h5
        cases h5
        exact ⟨kk, b1, P2, K2, h2, h3, h4⟩
    obtain ⟨kk0, b1, P2, K2, hkk, hag, hend⟩ := hb
    obtain ⟨kk, hkk2, rfl⟩ : ∃ kk, K[i]? = some kk ∧ kk.ks = kk0 := by
      rw [List.getElem?_map] at hkk
      cases hq : K[i]? with
      | none => rw [hq] at hkk; cases hkk
      | some kk => rw [hq] at hkk; exact ⟨kk, rfl, by simpa using hkk⟩
    have hag2 : Again Z L M t (P.unhead i).nm ((K.set i ⟨none, 0, []⟩).map Kr.ks) kk.ks b1 P2 K2 := by
      rw [PV.unhead_nm, List.map_set]
      exact hag
    have Hag := Lib.hid hag2
    have Hend := Lib.hid hend
    have Hkk := Lib.hid hkk2
    have hin : i < kn := by rw [← HW.out.kn]; exact (List.getElem?_eq_some_iff.1 hkk2).1
    have hkcap : kn ≤ kcap := by rw [← HW.out.kn]; exact HW.out.keys.outer.row.2.1
    have hkc2 : kcap ≤ 9223372036854775807 := by have := HW.out.keys.outer.row.2.2.1; unfold maxLen at this; omega
    clear hkk hag hag2 hend hkk2 HA hpl
    -- behind the test of the head
    have Hmid : Hid (∀ W R1, PW W g base bi p c e mb Z L ss nM M KA kn kcap R1 (P.unhead i) K → ∃ kg, KA = some ⟨kg, 0, none⟩ ∧ PW (W.setCell ⟨kg, i, none⟩ (.slice none 0 0)) g base bi p c e mb Z L ss nM M KA kn kcap R1 (P.unhead i) (K.set i ⟨none, 0, []⟩) ∧ KRow (W.setCell ⟨kg, i, none⟩ (.slice none 0 0)) (K.set i ⟨none, 0, []⟩) kk.A kk.ks.length kk.cap kk.ks ∧
      PQ g base W (W.setCell ⟨kg, i, none⟩ (.slice none 0 0)) ∧ W.cell? ⟨kg, i, none⟩ = some (.slice kk.A kk.ks.length kk.cap) ∧ W.frozen? ⟨kg, i, none⟩ = false ∧ kg < W.heap.size ∧ kg ≠ g) := Lib.hid (fun W R1 h1 => h1.keys_nil HC.out Hkk.out)
    go_enter Tryz.func135, Tryz.ntmps135
    go_wp2_with fail
    refine Hold.out.mono ?_
    rintro e1 w1 ⟨rfl, hb1⟩
    have HW1 := Lib.hid (HW.out.below HC.out hb1)
    have HQ1 := Lib.hid (PQ.of_below (g := g) (base := base) hb1)
    have q4 : w1.cell? ⟨g, 4, none⟩ = some (.int .i64 P.h.sec) := HW1.out.plan.blk.cell 4
    have q5 : w1.cell? ⟨g, 5, none⟩ = some (.int .i64 P.h.next) := HW1.out.plan.blk.cell 5
    have q6 : w1.cell? ⟨g, 6, none⟩ = some (.int .i64 P.h.left) := HW1.out.plan.blk.cell 6
    have q7 : w1.cell? ⟨g, 7, none⟩ = some (.int .u32 P.h.txn) := HW1.out.plan.blk.cell 7
    have r4 := HW1.out.plan.blk.frozen 4
    have r5 := HW1.out.plan.blk.frozen 5
    have r6 := HW1.out.plan.blk.frozen 6
    have r7 := HW1.out.plan.blk.frozen 7
    have hgl1 := HW1.out.plan.blk.lt
    have c3 : w1.cell? ⟨g, 3, none⟩ = some (.slice KA kn kcap) := HW1.out.plan.blk.cell 3
    have hsh := HW1.out.plan.set_head ⟨0, 0, 0, 0⟩
    have Hsh := Lib.hid hsh
    clear hb1 hsh c2 hgl
    by_cases heq : (i : Int) = P.h.sec
    · have heq2 : ((i : Int) == P.h.sec) = true := by simpa using heq
      have Hun : Hid (P.unhead i = ⟨P.l, ⟨0, 0, 0, 0⟩, P.sts⟩) := Lib.hid (if_pos heq)
      have heq3 := heq
      obtain ⟨sec, hsec⟩ : ∃ sec, sec = P.h.sec := ⟨_, rfl⟩
      rw [← hsec] at q4 heq heq2
      subst heq
      clear hsec heq3
      go_upto_region 6 with (fail)
      obtain ⟨wA, hwA⟩ : ∃ wA, wA = ((((w1.setCell ⟨g, 4, none⟩ (.int .i64 0)).setCell ⟨g, 5, none⟩ (.int .i64 0)).setCell ⟨g, 6, none⟩ (.int .i64 0)).setCell ⟨g, 7, none⟩ (.int .u32 0)) := ⟨_, rfl⟩
      rw [← hwA] at Hsh ⊢
      have HWm : Hid (PW wA g base bi p c e mb Z L ss nM M KA kn kcap R (P.unhead i) K) := Lib.hid (by
        rw [Hun.out]
        exact HW1.out.po HC.out Hsh.out.2 Hsh.out.1 (fun s hs => Or.inl hs))
      have HQm := Lib.hid (HQ1.out.trans Hsh.out.2.pq)
      have c3 : wA.cell? ⟨g, 3, none⟩ = some (.slice KA kn kcap) := HWm.out.plan.blk.cell 3
      have hglm := HWm.out.plan.blk.lt
      clear hwA q4 q5 q6 q7 r4 r5 r6 r7 hgl1
      obtain ⟨kg, rfl, hW5, hR5, hQ5, kc, kf, kl, kgg⟩ := Hmid.out wA _ HWm.out
      have HW5 := Lib.hid hW5
      have HR5 := Lib.hid hR5
      have HQ5 := Lib.hid (HQm.out.trans hQ5)
      have Hput := Lib.hid (putAgain_any g base bi p c e mb Z L nM kn kcap t ss M _ _ _ _ kk.A kk.ks.length kk.cap kk.ks b1 P2 K2 _ HW5.out HC.out HR5.out Hag.out (by rw [PV.unhead_l]; exact Hss.out) (fun x hx => Hk.out kk (List.mem_of_getElem? Hkk.out) x hx) (by have := HQ5.out.size; omega) (by have := HQ5.out.size; omega))
      clear hW5 hR5 hQ5 Hmid Hsh
      go_wp2_with fail
      refine Hput.out.mono ?_
      rintro e6 w6 ⟨rfl, ⟨R6, P6, K6, hW6, hP6, hK6, hl6⟩, hQ6⟩
      have HW6 := Lib.hid hW6
      have HP6 := Lib.hid hP6
      have HK6 := Lib.hid hK6
      have Hl6 := Lib.hid hl6
      have HQ6 := Lib.hid (HQ5.out.trans hQ6)
      have hend := Hend.out
      clear hW6 hP6 hK6 hl6 hQ6 Hput kc kf kl kgg c3 Hend
      rcases hend with ⟨rfl, rfl, hPe, hKe⟩ | ⟨rfl, rfl, ⟨s, hs, hbd, hPe⟩, hKe⟩
      · have HPe := Lib.hid hPe
        have HKe := Lib.hid hKe
        clear hPe hKe
        go_wp2_with fail
        go_ret
        exact ⟨rfl, ⟨R6, P6, K6, HW6.out, by rw [HP6.out, HPe.out], by rw [HK6.out, HKe.out], Hl6.out⟩, HQ6.out⟩
      · have HPe := Lib.hid hPe
        have HKe := Lib.hid hKe
        have hbd6 : Bd P6 := Bd.of_nm (by rw [HP6.out]; exact hbd)
        have hs6 : P6.l[i]? = some s := by
          have h1 : P6.nm.l[i]? = some s := by rw [HP6.out]; exact hs
          exact h1
        have Hgo := Lib.hid (pLetGo_any g base p c e mb Z L _ R6 P6 i s ss w6 HW6.out.plan HW6.out.fs HC.out.three hbd6.len hbd6.sts (by have := HQ6.out.size; omega) hs6 (hbd6.er s (List.mem_of_getElem? hs6)))
        clear hPe hKe hbd6 hs6 hs hbd
        go_wp2_with fail
        refine Hgo.out.mono ?_
        rintro e7 w7 ⟨rfl, ⟨R7, hP7⟩, hO7⟩
        have HW7 := Lib.hid (HW6.out.po HC.out hO7 hP7 (fun x hx => by
          rcases List.mem_append.1 hx with h1 | h1
          · exact Or.inl h1
          · refine Or.inr ?_
            unfold goSts at h1
            split at h1
            · rw [List.mem_singleton.1 h1]; trivial
            · rcases List.mem_cons.1 h1 with rfl | h1
              · trivial
              · rw [List.mem_singleton.1 h1]; trivial))
        have HQ7 := Lib.hid (HQ6.out.trans hO7.pq)
        clear hP7 hO7 Hgo
        go_wp2_with fail
        go_ret
        exact ⟨rfl, ⟨R7, _, K6, HW7.out, by rw [PV.letGo_nm, HP6.out, HPe.out], by rw [HK6.out, HKe.out], by show (P6.l.set i _).length = _; rw [List.length_set]; exact Hl6.out⟩, HQ7.out⟩
    · have heq2 : ((i : Int) == P.h.sec) = false := by simpa using heq
      have Hun : Hid (P.unhead i = P) := Lib.hid (if_neg heq)
      obtain ⟨sec, hsec⟩ : ∃ sec, sec = P.h.sec := ⟨_, rfl⟩
      rw [← hsec] at q4 heq heq2
      clear hsec
      go_upto_region 6 with (fail)
      obtain ⟨wA, hwA⟩ : ∃ wA, wA = w1 := ⟨_, rfl⟩
      rw [← hwA] at HW1 HQ1 c3 ⊢
      have HWm : Hid (PW wA g base bi p c e mb Z L ss nM M KA kn kcap R (P.unhead i) K) := Lib.hid (by
        rw [Hun.out]
        exact HW1.out)
      have HQm := HQ1
      have hglm := HWm.out.plan.blk.lt
      clear hwA q4 q5 q6 q7 r4 r5 r6 r7 hgl1 heq heq2
      obtain ⟨kg, rfl, hW5, hR5, hQ5, kc, kf, kl, kgg⟩ := Hmid.out wA _ HWm.out
      have HW5 := Lib.hid hW5
      have HR5 := Lib.hid hR5
      have HQ5 := Lib.hid (HQm.out.trans hQ5)
      have Hput := Lib.hid (putAgain_any g base bi p c e mb Z L nM kn kcap t ss M _ _ _ _ kk.A kk.ks.length kk.cap kk.ks b1 P2 K2 _ HW5.out HC.out HR5.out Hag.out (by rw [PV.unhead_l]; exact Hss.out) (fun x hx => Hk.out kk (List.mem_of_getElem? Hkk.out) x hx) (by have := HQ5.out.size; omega) (by have := HQ5.out.size; omega))
      clear hW5 hR5 hQ5 Hmid Hsh
      go_wp2_with fail
      refine Hput.out.mono ?_
      rintro e6 w6 ⟨rfl, ⟨R6, P6, K6, hW6, hP6, hK6, hl6⟩, hQ6⟩
      have HW6 := Lib.hid hW6
      have HP6 := Lib.hid hP6
      have HK6 := Lib.hid hK6
      have Hl6 := Lib.hid hl6
      have HQ6 := Lib.hid (HQ5.out.trans hQ6)
      have hend := Hend.out
      clear hW6 hP6 hK6 hl6 hQ6 Hput kc kf kl kgg c3 Hend
      rcases hend with ⟨rfl, rfl, hPe, hKe⟩ | ⟨rfl, rfl, ⟨s, hs, hbd, hPe⟩, hKe⟩
      · have HPe := Lib.hid hPe
        have HKe := Lib.hid hKe
        clear hPe hKe
        go_wp2_with fail
        go_ret
        exact ⟨rfl, ⟨R6, P6, K6, HW6.out, by rw [HP6.out, HPe.out], by rw [HK6.out, HKe.out], Hl6.out⟩, HQ6.out⟩
      · have HPe := Lib.hid hPe
        have HKe := Lib.hid hKe
        have hbd6 : Bd P6 := Bd.of_nm (by rw [HP6.out]; exact hbd)
        have hs6 : P6.l[i]? = some s := by
          have h1 : P6.nm.l[i]? = some s := by rw [HP6.out]; exact hs
          exact h1
        have Hgo := Lib.hid (pLetGo_any g base p c e mb Z L _ R6 P6 i s ss w6 HW6.out.plan HW6.out.fs HC.out.three hbd6.len hbd6.sts (by have := HQ6.out.size; omega) hs6 (hbd6.er s (List.mem_of_getElem? hs6)))
        clear hPe hKe hbd6 hs6 hs hbd
        go_wp2_with fail
        refine Hgo.out.mono ?_
        rintro e7 w7 ⟨rfl, ⟨R7, hP7⟩, hO7⟩
        have HW7 := Lib.hid (HW6.out.po HC.out hO7 hP7 (fun x hx => by
          rcases List.mem_append.1 hx with h1 | h1
          · exact Or.inl h1
          · refine Or.inr ?_
            unfold goSts at h1
            split at h1
            · rw [List.mem_singleton.1 h1]; trivial
            · rcases List.mem_cons.1 h1 with rfl | h1
              · trivial
              · rw [List.mem_singleton.1 h1]; trivial))
        have HQ7 := Lib.hid (HQ6.out.trans hO7.pq)
        clear hP7 hO7 Hgo
        go_wp2_with fail
        go_ret
        exact ⟨rfl, ⟨R7, _, K6, HW7.out, by rw [PV.letGo_nm, HP6.out, HPe.out], by rw [HK6.out, HKe.out], by show (P6.l.set i _).length = _; rw [List.length_set]; exact Hl6.out⟩, HQ7.out⟩

end Go.Proofs.YtidbipbangifbaaGreatDoor

/- The walk over a plan's makeRoom. -/
namespace Go.Proofs.YtidbipbangifbaaGreatDoor
set_option maxRecDepth 100000
open Go.RowKit Go.Maps

/-- A plan's makeRoom. -/
def MakeRoom (Z L : Nat) (M : Al Sv) (t : Nat) (P : PV) (K : List (List (List UInt8))) (b : Bool) (P' : PV) (K' : List (List (List UInt8))) : Prop :=
  (2 ≤ P.l.countP (opensB (L : Int)) ∧ (∃ i s, Opens L P i s ∧ b = true ∧ P' = P.opened i Z s ∧ K' = K)) ∨
  (2 ≤ P.l.countP (opensB (L : Int)) ∧ NoOpen L P ∧ b = false ∧ P' = P ∧ K' = K) ∨
  (P.l.countP (opensB (L : Int)) < 2 ∧ Clean Z L M t P K b P' K')

set_option maxHeartbeats 4000000 in
theorem makeRoom_any (g base bi p c e mb Z L nM kn kcap t : Nat) (ss : List (Nat × List UInt8)) (M : Al Sv) (KA : Option Addr) (R : PP) (P : PV) (K : List Kr) (bF : Bool) (PF : PV) (KF : List (List (List UInt8))) (w : World)
    (h : PW w g base bi p c e mb Z L ss nM M KA kn kcap R P K) (C : PC g base p c e mb Z L ss M) (hA : MakeRoom Z L M t P.nm (K.map Kr.ks) bF PF KF) (hss : P.l.length = ss.length) (hkn : kn = ss.length) (hk : ∀ k ∈ K, ∀ x ∈ k.ks, x.length ≤ 64) (hbase : base ≤ w.heap.size) (hbi : bi ≤ w.heap.size) :
    Calls Tryz.prog 109 #[.pointer (some ⟨g, 0, none⟩)] w fun e1 w' => e1 = .returned (.bool bF) ∧ (∃ R' P' K', PW w' g base bi p c e mb Z L ss nM M KA kn kcap R' P' K' ∧ P'.nm = PF ∧ K'.map Kr.ks = KF ∧ P'.l.length = ss.length) ∧ PQ g base w w' := by
  have hz := h.fs.bz
  have hrow := h.plan.secs.row
  have c2 : w.cell? ⟨g, 2, none⟩ = some (.slice R.A P.l.length R.cap) := h.plan.blk.cell 2
  obtain ⟨n, hn⟩ : ∃ n, n = P.l.length := ⟨_, rfl⟩
  obtain ⟨fr, hfr⟩ : ∃ fr, fr = P.l.countP (opensB (L : Int)) := ⟨_, rfl⟩
  have Hlim := Lib.hid (fun W (hW : Only Empty w W) => limit_any g p c e Z L _ ss W (hW.blk h.plan.blk (fun h => h)) rfl (h.fs.of hW (fun h => h) (fun h => h) (fun h => h)))
  have Hfree := Lib.hid (fun W (hW : Only Empty w W) => free_any R.A P.l.length R.cap P.l (L : Int) W (hrow.only hW (fun _ _ h => h)) (by omega))
  have HS0 : Hid (∀ W, Only Empty w W → W.cell? ⟨g, 2, none⟩ = some (.slice R.A n R.cap)) := Lib.hid (fun W hW => by rw [hn]; exact (hW.blk h.plan.blk (fun h => h)).cell 2)
  rw [← hn, ← hfr] at Hfree
  rw [← hn] at c2
  have hA2 : MakeRoom Z L M t P.nm (K.map Kr.ks) bF PF KF := hA
  unfold MakeRoom at hA2
  rw [show P.nm.l = P.l from rfl, ← hfr] at hA2
  have hfl : fr ≤ 64 := by rw [hfr]; exact Nat.le_trans List.countP_le_length (by omega)
  have HW := Lib.hid h
  have HC := Lib.hid C
  have HA := Lib.hid hA2
  have Hk := Lib.hid hk
  have Hss := Lib.hid hss
  have Hkn := Lib.hid hkn
  clear h C hA hA2 hk hn hss hkn hrow hfr
  go_enter Tryz.func109, Tryz.ntmps109
  go_wp2_with fail
  have hD := (Only.refl Empty w).drew
  have hs1 := HS0.out _ hD
  have HD := Lib.hid hD
  clear hD
  go_region_held3 (fun W => W.cell? ⟨g, 2, none⟩ = some (.slice R.A n R.cap)) (first | with_reducible exact hs1 | with_reducible exact hs10 | with_reducible exact hs11)
    (first | (go_at_call 133; (with_reducible refine (Hlim.out _ HD.out).mono ?_); rintro e10 w10 ⟨rfl, hb10⟩; have hO10 := HD.out.trans (Only.of_below (S := Empty) hb10); have hs10 := HS0.out _ hO10)
           | (go_at_call 29; (with_reducible refine (Hfree.out _ hO10).mono ?_); rintro e11 w11 ⟨rfl, hb11⟩; have hO11 := hO10.trans (Only.of_below (S := Empty) hb11); have hs11 := HS0.out _ hO11))
  have hpo := PO.of_empty (g := g) (base := base) hO11
  have HW11 := Lib.hid (HW.out.po HC.out hpo (HW.out.plan.only hO11 (fun h => h) (fun _ _ _ h => h)) (fun s hs => Or.inl hs))
  have HQ11 := Lib.hid hpo.pq
  have ha := HA.out
  clear hpo hO11 hO10 hs1 hs10 hs11 hb10 hb11 HD Hfree Hlim HS0 c2 HA
  rcases ha with ⟨h2, i, s, hop, rfl, hPe, hKe⟩ | ⟨h2, hno, rfl, hPe, hKe⟩ | ⟨h2, hcl⟩
  · have hbd := hop.bd.of_nm
    have Hop := Lib.hid (pOpen_yes g base p c e mb Z L _ R P i s ss w11 HW11.out.plan HW11.out.fs HC.out.three hbd.q hbd.len hbd.sts (by have := HQ11.out.size; omega) hop.best hop.at_ (hbd.er s (List.mem_of_getElem? hop.at_)) hop.more Hss.out.symm)
    have HPe := Lib.hid hPe
    have HKe := Lib.hid hKe
    clear hop hbd hPe hKe
    go_wp2_with fail
    refine Hop.out.mono ?_
    rintro e3 w3 ⟨rfl, ⟨R3, hP3⟩, hO3⟩
    have HW3 := Lib.hid (HW11.out.po HC.out hO3 hP3 (fun s hs => by
      rcases List.mem_append.1 hs with h1 | h1
      · exact Or.inl h1
      · refine Or.inr ?_
        rw [List.mem_singleton.1 h1]
        trivial))
    have HQ3 := Lib.hid (HQ11.out.trans hO3.pq)
    clear hP3 hO3 Hop
    go_wp2_with fail
    go_ret
    exact ⟨rfl, ⟨R3, _, K, HW3.out, by rw [PV.opened_nm, HPe.out], HKe.out.symm, by show (P.l.set i _).length = _; rw [List.length_set]; exact Hss.out⟩, HQ3.out⟩
  · have hbd := hno.bd.of_nm
    have Hop := Lib.hid (pOpen_no g base p c e mb Z L _ R P ss w11 HW11.out.plan HW11.out.fs hbd.q hbd.len _ rfl hno.no)
    have HPe := Lib.hid hPe
    have HKe := Lib.hid hKe
    clear hno hbd hPe hKe
    go_wp2_with fail
    refine Hop.out.mono ?_
    rintro e3 w3 ⟨rfl, hb3⟩
    have HW3 := Lib.hid (HW11.out.below HC.out hb3)
    have HQ3 := Lib.hid (HQ11.out.trans (PQ.of_below hb3))
    clear hb3 Hop
    go_wp2_with fail
    go_ret
    exact ⟨rfl, ⟨R, P, K, HW3.out, HPe.out.symm, HKe.out.symm, Hss.out⟩, HQ3.out⟩
  · have Hcl := Lib.hid (clean_any g base bi p c e mb Z L nM kn kcap t ss M KA R P K bF PF KF w11 HW11.out HC.out hcl Hss.out Hkn.out Hk.out (by have := HQ11.out.size; omega) (by have := HQ11.out.size; omega))
    have h2b : ¬ 2 ≤ fr := by omega
    clear hcl
    go_wp2_with fail
    refine Hcl.out.mono ?_
    rintro e3 w3 ⟨rfl, hx, hq⟩
    have HX := Lib.hid hx
    have HQ3 := Lib.hid (HQ11.out.trans hq)
    clear hx hq Hcl
    go_wp2_with fail
    go_ret
    exact ⟨rfl, HX.out, HQ3.out⟩

/-- Rounds of makeRoom, up to so many. -/
inductive Rounds (Z L : Nat) (M : Al Sv) (room : Int) : Nat → PV → List (List (List UInt8)) → Bool → PV → List (List (List UInt8)) → Prop
  | out (P K) : Rounds Z L M room 0 P K false P K
  | no (n t P K P' K') : MakeRoom Z L M t P K false P' K' → Rounds Z L M room (n + 1) P K false P' K'
  | yes (n t P K P' K') : MakeRoom Z L M t P K true P' K' → takesB P'.h room = true → Rounds Z L M room (n + 1) P K true P' K'
  | more (n t P K P1 K1 b P' K') : MakeRoom Z L M t P K true P1 K1 → takesB P1.h room = false → (∀ ks ∈ K1, ∀ x ∈ ks, x.length ≤ 64) → Rounds Z L M room n P1 K1 b P' K' → Rounds Z L M room (n + 1) P K b P' K'
theorem Rounds.inv {Z L : Nat} {M : Al Sv} {room : Int} {n : Nat} {P : PV} {K : List (List (List UInt8))} {b : Bool} {P' : PV} {K' : List (List (List UInt8))} (h : Rounds Z L M room (n + 1) P K b P' K') :
    (∃ t, MakeRoom Z L M t P K false P' K' ∧ b = false) ∨ (∃ t, MakeRoom Z L M t P K true P' K' ∧ takesB P'.h room = true ∧ b = true) ∨
    (∃ t P1 K1, MakeRoom Z L M t P K true P1 K1 ∧ takesB P1.h room = false ∧ (∀ ks ∈ K1, ∀ x ∈ ks, x.length ≤ 64) ∧ Rounds Z L M room n P1 K1 b P' K') := by
  cases h with
  | no n t P K P' K' h1 => exact Or.inl ⟨t, h1, rfl⟩
  | yes n t P K P' K' h1 h2 => exact Or.inr (Or.inl ⟨t, h1, h2, rfl⟩)
  | more n t P K P1 K1 b P' K' h1 h2 h3 h4 => exact Or.inr (Or.inr ⟨t, P1, K1, h1, h2, h3, h4⟩)
theorem Rounds.zero {Z L : Nat} {M : Al Sv} {room : Int} {P : PV} {K : List (List (List UInt8))} {b : Bool} {P' : PV} {K' : List (List (List UInt8))} (h : Rounds Z L M room 0 P K b P' K') : b = false := by
  cases h
  rfl

end Go.Proofs.YtidbipbangifbaaGreatDoor
