/- Keys are put once more: the plain model; how a row of keys grows. -/
import Derived.Test.YtnhfmcijadficaaGreatDoorZba
import Derived.Test.YtnhfmcijadficaaGreatDoorZax
import Derived.Deep.LoopGhost
namespace Go.Proofs.YtnhfmcijadficaaGreatDoor
set_option maxRecDepth 100000
open Go.RowKit Go.Maps

/-- A change, a step, a plan without where they lie. -/
def Ch.nm (f : Ch) : Ch := ⟨f.del, f.s, none, f.n, 0, f.blob⟩
def Stp.nm : Stp → Stp
  | .lay k o t _ n _ l => .lay k o t none n 0 (l.map Ch.nm)
  | s => s
def PV.nm (P : PV) : PV := ⟨P.l, P.h, P.sts.map Stp.nm⟩
theorem PV.opened_nm (P : PV) (i Z : Nat) (s : Sc) : (P.opened i Z s).nm = P.nm.opened i Z s := by
  simp [PV.nm, PV.opened, Stp.nm]
theorem nm_sz (l : List Ch) : roomL (l.map Ch.nm) = roomL l := by
  unfold roomL
  rw [List.map_map]
  rfl
theorem PV.laid_nm (P : PV) (k o t : Nat) (A : Option Addr) (n cap : Nat) (l : List Ch) : (P.laid k o t A n cap l).nm = P.nm.laid k o t none n 0 (l.map Ch.nm) := by
  simp [PV.nm, PV.laid, Stp.nm, nm_sz]
theorem goSts_nm (L i : Nat) (s : Sc) : (goSts L i s).map Stp.nm = goSts L i s := by
  unfold goSts
  split <;> rfl
theorem PV.letGo_nm (P : PV) (L i : Nat) (s : Sc) : (P.letGo L i s).nm = P.nm.letGo L i s := by
  simp [PV.nm, PV.letGo, goSts_nm]

/-- The bounds of a plan's numbers. -/
structure Bd (P : PV) : Prop where
  q : Q32 P.l
  len : P.l.length ≤ 64
  sts : P.sts.length ≤ 1000000
  er : ∀ s ∈ P.l, 0 ≤ s.er ∧ s.er ≤ 2097152
theorem Bd.of_nm {P : PV} (h : Bd P.nm) : Bd P := ⟨h.q, h.len, by have := h.sts; simpa [PV.nm] using this, h.er⟩

/-- A plan's head, as its place in a sector. -/
structure HdOk (Z : Nat) (h : HeadV) (k o t : Nat) : Prop where
  sec : h.sec = (k : Int)
  next : h.next = ((k * Z + o : Nat) : Int)
  txn : h.txn + 1 = (t : Int)
  t0 : 0 ≤ h.txn
  t1 : h.txn ≤ 4294901759
  far : k * Z + o ≤ 4194304
  l0 : 0 ≤ h.left
  l1 : h.left ≤ 65536

/-- A sector is opened. -/
structure Opens (L : Nat) (P : PV) (i : Nat) (s : Sc) : Prop where
  best : best (opensB (L : Int)) Sc.er P.l P.l.length = some i
  at_ : P.l[i]? = some s
  more : ¬ lastQ P.l = 4294967295
  bd : Bd P
/-- None can be. -/
structure NoOpen (L : Nat) (P : PV) : Prop where
  no : best (opensB (L : Int)) Sc.er P.l P.l.length = none ∨ lastQ P.l = 4294967295
  bd : Bd P

/-- Keys are put once more. -/
inductive Again (Z L : Nat) (M : Al Sv) : Nat → PV → List (List (List UInt8)) → List (List UInt8) → Bool → PV → List (List (List UInt8)) → Prop
  | done (P K) : Again Z L M 0 P K [] true P K
  | opened (t P K ks b P' K' i s) : ks ≠ [] → fit M P.h ks = [] → Opens L P i s → Again Z L M t (P.opened i Z s) K ks b P' K' → Again Z L M (t + 1) P K ks b P' K'
  | stuck (P K ks) : ks ≠ [] → fit M P.h ks = [] → NoOpen L P → Again Z L M 0 P K ks false P K
  | lay (t P K ks b P' K' k o u kk) : ks ≠ [] → fit M P.h ks ≠ [] → HdOk Z P.h k o u → Bd P → K[k]? = some kk → kk.length ≤ 1048576 →
      Again Z L M t (P.laid k o u none (fit M P.h ks).length 0 ((fit M P.h ks).map fun x => (keyCh M x).nm)) (K.set k (kk ++ fit M P.h ks)) (ks.drop (fit M P.h ks).length) b P' K' → Again Z L M (t + 1) P K ks b P' K'

theorem Again.inv {Z L : Nat} {M : Al Sv} {t : Nat} {P : PV} {K : List (List (List UInt8))} {ks : List (List UInt8)} {b : Bool} {P' : PV} {K' : List (List (List UInt8))} (h : Again Z L M t P K ks b P' K') (hne : ks ≠ []) :
    (fit M P.h ks = [] ∧ ∃ t0 i s, t = t0 + 1 ∧ Opens L P i s ∧ Again Z L M t0 (P.opened i Z s) K ks b P' K') ∨ (fit M P.h ks = [] ∧ NoOpen L P ∧ b = false ∧ P' = P ∧ K' = K) ∨
    (fit M P.h ks ≠ [] ∧ ∃ t0 k o u kk, t = t0 + 1 ∧ HdOk Z P.h k o u ∧ Bd P ∧ K[k]? = some kk ∧ kk.length ≤ 1048576 ∧ Again Z L M t0 (P.laid k o u none (fit M P.h ks).length 0 ((fit M P.h ks).map fun x => (keyCh M x).nm)) (K.set k (kk ++ fit M P.h ks)) (ks.drop (fit M P.h ks).length) b P' K') := by
  cases h with
  | done => exact absurd rfl hne
  | opened t P K ks b P' K' i s h1 h2 h3 h4 => exact Or.inl ⟨h2, t, i, s, rfl, h3, h4⟩
  | stuck P K ks h1 h2 h3 => exact Or.inr (Or.inl ⟨h2, h3, rfl, rfl, rfl⟩)
  | lay t P K ks b P' K' k o u kk h1 h2 h3 h4 h5 h6 h7 => exact Or.inr (Or.inr ⟨h2, t, k, o, u, kk, rfl, h3, h4, h5, h6, h7⟩)
theorem Again.nil_ {Z L : Nat} {M : Al Sv} {t : Nat} {P : PV} {K : List (List (List UInt8))} {b : Bool} {P' : PV} {K' : List (List (List UInt8))} (h : Again Z L M t P K [] b P' K') : b = true ∧ P' = P ∧ K' = K := by
  cases h with
  | done => exact ⟨rfl, rfl, rfl⟩
  | opened t P K ks b P' K' i s h1 _ _ _ => exact absurd rfl h1
  | stuck P K ks h1 _ _ => exact absurd rfl h1
  | lay t P K ks b P' K' k o u kk h1 _ _ _ _ _ _ => exact absurd rfl h1

theorem fitL_pre (M : Al Sv) (h : HeadV) : ∀ (ks : List (List UInt8)) (r : Nat), ∃ m, m ≤ ks.length ∧ fitL M h r ks = ks.take m
  | [], _ => ⟨0, Nat.le_refl _, rfl⟩
  | k :: ks, r => by
    unfold fitL
    split
    · obtain ⟨m, h1, h2⟩ := fitL_pre M h ks (r + (keyCh M k).sz)
      exact ⟨m + 1, by simpa using h1, by rw [h2]; rfl⟩
    · exact ⟨0, Nat.zero_le _, rfl⟩
theorem fit_take (M : Al Sv) (h : HeadV) (ks : List (List UInt8)) : fit M h ks = ks.take (fit M h ks).length ∧ (fit M h ks).length ≤ ks.length ∧ (fit M h ks).length ≤ 16 := by
  obtain ⟨m, h1, h2⟩ := fitL_pre M h (ks.take 16) 16
  have h3 : fit M h ks = (ks.take 16).take m := h2
  rw [List.length_take] at h1
  have h4 : (fit M h ks).length = m := by rw [h3, List.length_take, List.length_take]; omega
  rw [h4]
  refine ⟨?_, by omega, by omega⟩
  rw [h3, List.take_take, Nat.min_eq_left (by omega)]

theorem chs_of {w : World} {base : Nat} {A : Option Addr} {n cap : Nat} {l : List Ch} (h : GotR Ch.cells 3 37 base w A n cap l) (hb : ∀ f ∈ l, ByteSl w Empty f.A f.n f.cap f.blob ∧ (f.A = none → f.n = 0 ∧ f.cap = 0)) : Chs w Empty A n cap l :=
  ⟨h.row.1, h.row.2.1, h.row.2.2.1, h.row.2.2.2, hb⟩

/-- append onto a row of the call's own, as an equation, and where the new row lies. -/
theorem run_append_at {α : Type} {cells : α → List Value} {k : Nat} {w : World} {S : Nat → Prop} (hk : ∀ f, (cells f).length = k) (h1 : ∀ f, ∀ v ∈ cells f, v.oneCell' = true) (hk0 : 0 < k)
    (ts te : TypeId) (zero : Value) (bytes : Nat) (hts : Tryz.prog.underlying ts = some (.slice te)) (hinfo : (Tryz.prog.info? te).map (fun i => (i.zero, i.size, i.bytes)) = some (some zero, k, bytes)) (hzc : zero.cells.size = k) (hby : bytes ≤ 1024) (ty : TypeId)
    (base : Nat) (B : Option Addr) (m0 c0 : Nat) (zs : List α) (hown : GotR cells k te base w B m0 c0 zs) (ad : Addr) (m c : Nat) (l : List α) (hB : RowSl cells k w S (some ad) m c l) (hm : m0 + m ≤ 16777216) (hbase : base ≤ w.heap.size) :
    ∃ A' c' w', (Builtin.append_ #[ts, ts] ty #[.slice B m0 c0, .slice (some ad) m c]).run Tryz.prog w = .ok (.slice A' (m0 + m) c') w' ∧ GotR cells k te base w' A' (m0 + m) c' (zs ++ l) ∧ w.grownBy w' (Value.slice B m0 c0).ownBlock ∧ (∀ g, (Value.slice B m0 c0).ownBlock = some g → base ≤ g) ∧
      ((Value.slice A' (m0 + m) c').ownBlock = (Value.slice B m0 c0).ownBlock ∨ (Value.slice A' (m0 + m) c').ownBlock = some w.heap.size) := by
  obtain ⟨i0, hi, hz0, hz1, hz2⟩ := info_parts hinfo
  have hown1 : ∀ g, (Value.slice B m0 c0).ownBlock = some g → base ≤ g := fun g hg => (hown.own.lt g hg).1
  obtain ⟨v', w', hr, h2, h3, _, h5⟩ := run_append_own_at (P := Tryz.prog) w base ts ty te i0 _ k bytes hts hi hz0 hz1 hz2 hzc hk0 _ m0 (zs.flatMap cells) hown.own ad m c (l.flatMap cells) (by rw [rows_len hk, hB.1]) (hB.news hk hk0) (fun v hv => by
    obtain ⟨f, _, hf⟩ := List.mem_flatMap.1 hv
    exact h1 f v hf) (by unfold maxLen; omega) (by have h2 : (m0 + m) * bytes ≤ 16777216 * 1024 := Nat.mul_le_mul hm hby; omega) hbase
  obtain ⟨A', c', rfl, h4⟩ := GotR.of_own hk (l := zs ++ l) (by rw [List.flatMap_append]; exact h2) (by rw [List.length_append, hown.row.1, hB.1])
  exact ⟨A', c', w', hr, h4, h3, hown1, h5⟩

/-- The types of the rows of keys. -/
def EK (t : TypeId) : Prop := t = 67 ∨ t = 9
theorem PlanAt.keep {w w' : World} {g base p mb Z : Nat} {vk : Value} {R : PP} {P : PV} {E : TypeId → Prop} (h : PlanAt w g base p mb Z vk R P) (hK : Keep E w w') (h1 : ¬ E 109) (h2 : ¬ E 96) (h3 : ¬ E 150) : PlanAt w' g base p mb Z vk R P :=
  ⟨hK _ _ _ h.blk h1, h.secs.keep Sc.cells_len hK h2, h.sts.keep (stp_len p Z) hK h3⟩

section
variable {w : World} {g base bi p c e mb Z L nM kn kcap : Nat} {ss : List (Nat × List UInt8)} {M : Al Sv} {KA : Option Addr} {R : PP} {P : PV} {K : List Kr} {A : Option Addr} {n cap : Nat} {ks : List (List UInt8)}
/-- A row of keys grows by the first keys of another. -/
theorem PW.keys_step (h : PW w g base bi p c e mb Z L ss nM M KA kn kcap R P K) (C : PC g base p c e mb Z L ss M) (hr : KRow w K A n cap ks) {k m : Nat} {kk : Kr} (hk : K[k]? = some kk) (hm : m ≤ n) (hm0 : 0 < m) (hm1 : m ≤ 16) (hkl : kk.ks.length ≤ 1048576) (hbi : bi ≤ w.heap.size) :
    ∃ kg A4 c4 w4, KA = some ⟨kg, 0, none⟩ ∧ (Builtin.append_ #[67, 67] 67 #[.slice kk.A kk.ks.length kk.cap, .slice A m cap]).run Tryz.prog w = .ok (.slice A4 (kk.ks.length + m) c4) w4 ∧
      PW (w4.setCell ⟨kg, k, none⟩ (.slice A4 (kk.ks.length + m) c4)) g base bi p c e mb Z L ss nM M KA kn kcap R P (K.set k ⟨A4, c4, kk.ks ++ ks.take m⟩) ∧
      KRow (w4.setCell ⟨kg, k, none⟩ (.slice A4 (kk.ks.length + m) c4)) (K.set k ⟨A4, c4, kk.ks ++ ks.take m⟩) A n cap ks ∧ PQ g base w (w4.setCell ⟨kg, k, none⟩ (.slice A4 (kk.ks.length + m) c4)) ∧
      w4.frozen? ⟨kg, k, none⟩ = false ∧ kg < w4.heap.size ∧ PQ g base w w4 ∧ w.cell? ⟨kg, k, none⟩ = some (.slice kk.A kk.ks.length kk.cap) ∧ w4.cell? ⟨kg, k, none⟩ = some (.slice kk.A kk.ks.length kk.cap) ∧ kg ≠ g ∧ kg < w.heap.size ∧ PlanAt w4 g base p mb Z (.slice KA kn kcap) R P := by
  have hkl0 : k < K.length := (List.getElem?_eq_some_iff.1 hk).1
  obtain ⟨kg, rfl⟩ : ∃ kg, KA = some ⟨kg, 0, none⟩ := by
    rcases h.keys.outer.here with hn | ⟨q, cur, he, _⟩
    · have := (h.keys.outer.isNil hn).1
      omega
    · exact ⟨q, he⟩
  obtain ⟨ad, rfl⟩ : ∃ ad, A = some ad := by
    cases A with
    | none => have := (hr.isNil rfl).1; omega
    | some ad => exact ⟨ad, rfl⟩
  have hki := h.keys.inner k kk hk
  obtain ⟨A4, c4, w4, hrun, hG, hgr, hro, hloc⟩ := run_append_at strC_len strC_one (by decide) 67 9 _ 16 Tryz.underlying67 Tryz.infoStr (by simp [Value.cells]) (by decide) 67 bi kk.A kk.ks.length kk.cap kk.ks hki ad m cap (ks.take m) (hr.row.take_ hm) (by omega) hbi
  have hlm : (ks.take m).length = m := by rw [List.length_take, hr.row.1]; omega
  have hput := h.keys.put rfl hk hG hlm hgr (hloc.imp id (fun e => ⟨_, e, Nat.le_refl _⟩))
  obtain ⟨curg, hBg⟩ : ∃ cur, Blk w kg 67 cur := by
    rcases h.keys.outer.here with hn | ⟨q, cur, he, _, hB, _⟩
    · cases hn
    · cases he
      exact ⟨cur, hB⟩
  have hkgb : base ≤ kg := by
    rcases h.keys.outer.here with hn | ⟨q, cur, he, hb, _⟩
    · cases hn
    · cases he
      exact hb
  -- the block of the row that grows
  have hrow : kk.A = none ∨ ∃ q cur, kk.A = some ⟨q, 0, none⟩ ∧ Blk w q 9 cur ∧ bi ≤ q := by
    rcases hki.here with hn | ⟨q, cur, he, hb, hB, _⟩
    · exact Or.inl hn
    · exact Or.inr ⟨q, cur, he, hB, hb⟩
  have hO4 : Only (fun q => kk.A = some ⟨q, 0, none⟩) w w4 := Only.of_grown hgr (fun q e _ => by
    rw [own_block] at e
    rcases hrow with hn | ⟨q2, cur, he, _⟩
    · rw [hn] at e; cases e
    · rw [he] at e ⊢
      simp at e
      rw [e])
  have hKp4 : Keep EK w w4 := fun q t cs h1 h2 => hO4.blk h1 (fun he => by
    rcases hrow with hn | ⟨q2, cur, he2, hB, _⟩
    · rw [hn] at he; cases he
    · rw [he2] at he
      cases he
      exact Blk.ne_ h1 hB (fun e2 => h2 (Or.inr e2)) rfl)
  have hBg4 : Blk w4 kg 67 curg := hO4.blk hBg (fun he => by
    rcases hrow with hn | ⟨q2, cur, he2, hB, _⟩
    · rw [hn] at he; cases he
    · rw [he2] at he
      cases he
      exact Blk.ne_ hBg hB (by decide) rfl)
  have hO5 : Only (· = kg) w4 (w4.setCell ⟨kg, k, none⟩ (.slice A4 (kk.ks.length + m) c4)) := (Only.refl (· = kg) w4).setCell (p := ⟨kg, k, none⟩) (Or.inl rfl) _
  have hKp5 : Keep EK w4 (w4.setCell ⟨kg, k, none⟩ (.slice A4 (kk.ks.length + m) c4)) := Keep.of_block hBg4 (Or.inl rfl) hO5
  have hEK : ∀ t, EK t → EPK t := fun t h => Or.inr h
  have hq4 : PQ g base w w4 := ⟨hO4.mono (fun q _ hq => by
    rcases hrow with hn | ⟨q2, cur, he2, hB, hb⟩
    · rw [hn] at hq; cases hq
    · rw [he2] at hq
      cases hq
      exact Or.inr (Nat.le_trans h.keys.le hb)), hKp4.mono hEK⟩
  have hq5 : PQ g base w (w4.setCell ⟨kg, k, none⟩ (.slice A4 (kk.ks.length + m) c4)) := hq4.trans ⟨hO5.mono (fun q _ hq => Or.inr (by omega)), hKp5.mono hEK⟩
  have hc := h.keys.outer.cell1 hk rfl
  have hcell : w.cell? ⟨kg, k, none⟩ = some (.slice kk.A kk.ks.length kk.cap) := hc.1
  refine ⟨kg, A4, c4, w4, rfl, hrun, ?_, ?_, hq5, hBg4.frozen k, hBg4.lt, hq4, hcell, ?_, fun e => Blk.ne_ hBg h.plan.blk (by decide) e, hBg.lt, h.plan.keep hKp4 (by unfold EK; decide) (by unfold EK; decide) (by unfold EK; decide)⟩
  · exact h.pq_ C hq5 (h.plan.keep (hKp4.trans hKp5) (by unfold EK; decide) (by unfold EK; decide) (by unfold EK; decide)) hput (by rw [List.length_set]; exact h.kn) (fun s hs => Or.inl hs)
  · refine hr.move hq5.size (fun q cur hq hne => ?_) (fun k' hk' => ?_)
    · have h4 : Blk w4 q 9 cur := hO4.blk hq (fun he => hne kk (List.mem_of_getElem? hk) he)
      exact hO5.blk h4 (fun e => Blk.ne_ h4 hBg4 (by decide) e)
    · rcases List.mem_or_eq_of_mem_set hk' with h1 | rfl
      · exact Or.inl ⟨k', h1, rfl⟩
      · show (∃ k ∈ K, A4 = k.A) ∨ A4 = none ∨ ∃ q, A4 = some ⟨q, 0, none⟩ ∧ w.heap.size ≤ q
        rcases strs_addr hG with h1 | ⟨n1, h1, _, _⟩
        · exact Or.inr (Or.inl h1)
        · rcases hloc with hl | hl
          · refine Or.inl ⟨kk, List.mem_of_getElem? hk, ?_⟩
            rw [own_block, own_block, h1] at hl
            rcases hrow with hn | ⟨q2, cur, he2, _⟩
            · rw [hn] at hl; cases hl
            · rw [he2] at hl ⊢
              simp at hl
              rw [h1, hl]
          · rw [own_block, h1] at hl
            simp at hl
            exact Or.inr (Or.inr ⟨n1, h1, by omega⟩)
  · rw [← hcell, hBg4.cell, hBg.cell]
end

end Go.Proofs.YtnhfmcijadficaaGreatDoor

/- A plan's open where the sector is blank, and where none can be opened. -/
namespace Go.Proofs.YtnhfmcijadficaaGreatDoor
set_option maxRecDepth 100000
open Go.RowKit

set_option maxHeartbeats 1000000 in
theorem pOpen_blank (g base p c e mb Z L : Nat) (vk : Value) (R : PP) (P : PV) (i : Nat) (s : Sc) (ss : List (Nat × List UInt8)) (w : World) (hP : PlanAt w g base p mb Z vk R P) (hs : FS w p c e Z L ss) (hTh : ∀ q, Three p c e q → q < base ∧ q ≠ g) (hq : Q32 P.l) (hn : P.l.length ≤ 64) (hst : P.sts.length ≤ 1000000)
    (hbase : base ≤ w.heap.size) (hbest : best (opensB (L : Int)) Sc.er P.l P.l.length = some i) (hi : P.l[i]? = some s) (her : 0 ≤ s.er ∧ s.er ≤ 2097152) (hlq : ¬ lastQ P.l = 4294967295) (hst1 : (s.st == 1) = false) (hss : ss.length = P.l.length) :
    Calls Tryz.prog 126 #[.pointer (some ⟨g, 0, none⟩)] w fun e1 w' => Opened g base p mb Z vk P i s w w' e1 := by
  obtain ⟨A, cap, As, cs⟩ := R
  have hilt : i < P.l.length := (List.getElem?_eq_some_iff.1 hi).1
  have hz := hs.bz
  have hq32 := lastQ_le P.l hq
  have hit : i * Z ≤ 4194304 := by
    have h1 : i * Z ≤ ss.length * Z := Nat.mul_le_mul_right _ (by omega)
    omega
  have HP := Lib.hid hP
  have HS := Lib.hid hs
  have HTh := Lib.hid hTh
  have HQ := Lib.hid hq
  have Hbest := Lib.hid hbest
  have Hi := Lib.hid hi
  have hopd : Hid (P.opened i Z s = ⟨P.l.set i ⟨2, lastQ P.l + 1, s.er⟩, ⟨(i : Int), ((i * Z + 12 : Nat) : Int), ((Z - 12 : Nat) : Int), 0⟩, P.sts ++ [.open_ i (lastQ P.l + 1).toNat]⟩) := Lib.hid (by
    unfold PV.opened
    rw [if_neg (by simpa using hst1)])
  obtain ⟨Q, hQ⟩ : ∃ Q : Int, Q = lastQ P.l := ⟨_, rfl⟩
  have hns : Hid (nsV P.l = .tuple #[.int .u32 (Q + 1), .bool true]) := Lib.hid (by unfold nsV; rw [if_neg hlq, hQ])
  rw [← hQ] at hopd hq32 hlq
  have hQ1 : 0 ≤ Q + 1 ∧ Q + 1 ≤ 4294967295 := by omega
  obtain ⟨n, hne⟩ : ∃ n, n = P.l.length := ⟨_, rfl⟩
  obtain ⟨T, hT⟩ : ∃ T, T = i * Z := ⟨_, rfl⟩
  obtain ⟨V, hV⟩ : ∃ V, V = Z - 12 := ⟨_, rfl⟩
  rw [← hT, ← hV] at hopd
  rw [← hT] at hit
  have HT := Lib.hid hT
  have HV := Lib.hid hV
  have c2 : w.cell? ⟨g, 2, none⟩ = some (.slice A n cap) := by rw [hne]; exact hP.blk.cell 2
  have hO0 : Hid (∀ W, Only Empty w W → W.cell? ⟨g, 2, none⟩ = some (.slice A n cap)) := Lib.hid (fun W hW => by rw [hne]; exact (hW.blk hP.blk (fun h => h)).cell 2)
  have Hlim := Lib.hid (fun W (hW : Only Empty w W) => limit_any g p c e Z L _ ss W (hW.blk hP.blk (fun h => h)) rfl (hs.of hW (fun h => h) (fun h => h) (fun h => h)))
  have Hnx := Lib.hid (fun W (hW : Only Empty w W) => next_any A n cap P.l (L : Int) W (by rw [hne]; exact hP.secs.row.only hW (fun _ _ h => h)) (by omega) (some i) (by rw [hne]; exact hbest))
  have hpv : placeV (some i) = .int .i64 (i : Int) := rfl
  have hin : i < n := by omega
  have hncap : n ≤ cap := by rw [hne]; exact hP.secs.row.2.1
  simp only [hpv, Option.isSome_some] at Hnx
  have Hne := Lib.hid hne
  clear hP hs hTh hq hbest hi hz hT hV hQ hlq hne hpv hss
  go_enter Tryz.func126, Tryz.ntmps126
  go_wp2_with fail
  have hD := (Only.refl Empty w).drew
  have hs1 := hO0.out _ hD
  have HD := Lib.hid hD
  clear hD
  first | (go_region_held3 (fun W => W.cell? ⟨g, 2, none⟩ = some (.slice A n cap)) (first | with_reducible exact hs1 | with_reducible exact hs10 | with_reducible exact hs11)
    (first | (go_at_call 125; (with_reducible refine (Hlim.out _ HD.out).mono ?_); rintro e10 w10 ⟨rfl, hb10⟩; have hO10 := HD.out.trans (Only.of_below (S := Empty) hb10); have hs10 := hO0.out _ hO10)
           | (go_at_call 160; (with_reducible refine (Hnx.out _ hO10).mono ?_); rintro e11 w11 ⟨rfl, hb11⟩; have hO11 := hO10.trans (Only.of_below (S := Empty) hb11); have hs11 := hO0.out _ hO11))) | fail
  have HP11 := Lib.hid (HP.out.only hO11 (fun h => h) (fun _ _ _ h => h))
  have HS11 := Lib.hid (HS.out.of hO11 (fun h => h) (fun h => h) (fun h => h))
  have HO11 := Lib.hid (PO.of_empty (g := g) (base := base) hO11)
  have hnx := nextSeq_any g base p mb Z vk _ P w11 HP11.out HQ.out (by omega)
  rw [hns.out] at hnx
  have HNS := Lib.hid hnx
  clear hO11 hs1 hb10 hO10 hs10 hb11 hnx Hnx Hlim hO0 HD c2
  go_wp2_with fail
  refine HNS.out.mono ?_
  rintro e12 w12 ⟨rfl, hb12⟩
  have HP12 := Lib.hid (HP11.out.below hb12)
  have HS12 := Lib.hid (HS11.out.below hb12)
  have HO12 := Lib.hid (HO11.out.trans (PO.of_below (g := g) (base := base) hb12))
  obtain ⟨b, cur, hA, hb, hB, hbg, hcl⟩ := HP12.out.gs hilt
  simp only at hA
  subst hA
  have d0 := hcl s Hi.out 0 (by omega)
  have d1 := hcl s Hi.out 1 (by omega)
  have d2 := hcl s Hi.out 2 (by omega)
  simp [Sc.cells] at d0 d1 d2
  have f0 := hB.frozen (i * 3)
  have f1 := hB.frozen (i * 3 + 1)
  have f2 := hB.frozen (i * 3 + 2)
  have c2 : w12.cell? ⟨g, 2, none⟩ = some (.slice (some ⟨b, 0, none⟩) n cap) := by rw [Hne.out]; exact HP12.out.blk.cell 2
  have hset := HP12.out.set_sec hilt rfl hb hB ⟨2, Q + 1, s.er⟩
  have Hset := Lib.hid hset
  have hgl := HP12.out.blk.lt
  have hbl := hB.lt
  clear hb12 hset hcl hB
  go_wp2_with fail
  obtain ⟨w13, h13⟩ : ∃ w13, w13 = ((w12.setCell ⟨b, i * 3, none⟩ (.int .i64 2)).setCell ⟨b, i * 3 + 1, none⟩ (.int .u32 (Q + 1))).setCell ⟨b, i * 3 + 2, none⟩ (.int .i64 (s.er)) := ⟨_, rfl⟩
  rw [← h13] at Hset ⊢
  have HP13 := Lib.hid Hset.out.1.drew
  have HO13 := Lib.hid (HO12.out.trans Hset.out.2).drew
  clear h13 Hset d0 d1 d2 f0 f1 f2 c2 hgl hbl HP12 HP11 HP hst1 HNS
  have hsz13 : base ≤ w13.drew.heap.size := Nat.le_trans hbase HO13.out.size
  obtain ⟨As2, cs2, w14, hrun, hP14, hO14, c8b, f8b, -⟩ := HP13.out.step_run (.open_ i (Q + 1).toNat) (Nat.le_trans hst (by decide)) hsz13
  have hv : Stp.v p Z (.open_ i (Q + 1).toNat) = .func (.func 162) #[.agg #[.pointer (some ⟨p, 0, none⟩), .int .i64 (i : Int), .int .u32 (Q + 1)]] #[] := by
    show Value.func _ #[.agg #[_, _, .int .u32 (((Q + 1).toNat : Nat) : Int)]] _ = _
    rw [Int.toNat_of_nonneg hQ1.1]
  rw [hv] at hrun
  have c0 : w13.cell? ⟨g, 0, none⟩ = some (.pointer (some ⟨p, 0, none⟩)) := HP13.out.blk.cell 0
  have c8 : w13.cell? ⟨g, 8, none⟩ = some (.slice As P.sts.length cs) := HP13.out.blk.cell 8
  have hgl : g < w13.heap.size := HP13.out.blk.lt
  replace hrun : (Builtin.append_ #[93, 93] 93 #[.slice As P.sts.length cs, .slice (some ⟨w13.heap.size, 0, none⟩) 1 1]).run Tryz.prog (w13.alloc (.cells #[.func (.func 162) #[.agg #[.pointer (some ⟨p, 0, none⟩), .int .i64 (i : Int), .int .u32 (Q + 1)]] #[]] 150)).drew = .ok (.slice As2 (P.sts.length + 1) cs2) w14 := hrun
  simp only at hrun c8b hP14 hO14
  obtain ⟨k, hk⟩ : ∃ k, k = P.sts.length := ⟨_, rfl⟩
  rw [← hk] at hrun c8 c8b hP14 hO14 hst
  have Hk := Lib.hid hk
  have HP14 := Lib.hid hP14
  have HO14 := Lib.hid (HO13.out.trans hO14)
  clear hv hk hP14 hO14
  go_region_law (refine step_append_eq (ts := 93) rfl (.tmp 62) (.tmp 71) rfl rfl rfl rfl hrun ?_)
  all_goals
    obtain ⟨w15, h15⟩ : ∃ w15, w15 = w14.setCell ⟨g, 8, none⟩ (.slice As2 (k + 1) cs2) := ⟨_, rfl⟩
    rw [← h15] at HP14 HO14 ⊢
    have HS15 := Lib.hid (HS.out.plan HO14.out HTh.out)
    have e0 : w15.cell? ⟨g, 0, none⟩ = some (.pointer (some ⟨p, 0, none⟩)) := HP14.out.blk.cell 0
    have hgz := geo_field1 (ss.length : Int) (Z : Int) (L : Int)
    have hmul : (i : Int) * (Z : Int) = (T : Int) := by rw [HT.out]; simp
    clear h15 hrun c0 c8 c8b f8b hgl hsz13
    go_wp2_with fail
    refine HS15.out.geo.mono ?_
    rintro e16 w16 ⟨rfl, hb16⟩
    have HP16 := Lib.hid (HP14.out.below hb16)
    have HO16 := Lib.hid (HO14.out.trans (PO.of_below (g := g) (base := base) hb16))
    have e1 : w16.cell? ⟨g, 0, none⟩ = some (.pointer (some ⟨p, 0, none⟩)) := HP16.out.blk.cell 0
    have Hbe := Lib.hid (behind_any p c e Z L ss w16 (HS15.out.below hb16))
    rw [← HV.out] at Hbe
    clear hb16 e0
    go_wp2_with fail
    refine Hbe.out.mono ?_
    rintro e17 w17 ⟨rfl, hb17⟩
    have HP17 := Lib.hid (HP16.out.below hb17)
    have HO17 := Lib.hid (HO16.out.trans (PO.of_below (g := g) (base := base) hb17))
    have q4 : w17.cell? ⟨g, 4, none⟩ = some (.int .i64 P.h.sec) := HP17.out.blk.cell 4
    have q5 : w17.cell? ⟨g, 5, none⟩ = some (.int .i64 P.h.next) := HP17.out.blk.cell 5
    have q6 : w17.cell? ⟨g, 6, none⟩ = some (.int .i64 P.h.left) := HP17.out.blk.cell 6
    have q7 : w17.cell? ⟨g, 7, none⟩ = some (.int .u32 P.h.txn) := HP17.out.blk.cell 7
    have r4 := HP17.out.blk.frozen 4
    have r5 := HP17.out.blk.frozen 5
    have r6 := HP17.out.blk.frozen 6
    have r7 := HP17.out.blk.frozen 7
    have hsh := HP17.out.set_head ⟨(i : Int), ((T + 12 : Nat) : Int), (V : Int), 0⟩
    have hT12 : ((T + 12 : Nat) : Int) = (T : Int) + 12 := by simp
    rw [hT12] at hsh hopd
    have Hsh := Lib.hid hsh
    have hgl17 := HP17.out.blk.lt
    clear hb17 e1 hsh Hbe
    go_wp2_with fail
    go_ret
    exact ⟨rfl, ⟨_, by rw [hopd.out]; exact Hsh.out.1⟩, HO17.out.trans Hsh.out.2⟩


set_option maxHeartbeats 1000000 in
theorem pOpen_no (g base p c e mb Z L : Nat) (vk : Value) (R : PP) (P : PV) (ss : List (Nat × List UInt8)) (w : World) (hP : PlanAt w g base p mb Z vk R P) (hs : FS w p c e Z L ss) (hq : Q32 P.l) (hn : P.l.length ≤ 64) (r : Option Nat)
    (hbest : best (opensB (L : Int)) Sc.er P.l P.l.length = r) (hno : r = none ∨ lastQ P.l = 4294967295) :
    Calls Tryz.prog 126 #[.pointer (some ⟨g, 0, none⟩)] w fun e1 w' => e1 = .returned (.bool false) ∧ Below w.heap.size w w' := by
  obtain ⟨A, cap, As, cs⟩ := R
  obtain ⟨sn, sb, hns, hor⟩ : ∃ (sn : Int) (sb : Bool), nsV P.l = .tuple #[.int .u32 sn, .bool sb] ∧ (r.isSome = false ∨ sb = false) := by
    unfold nsV
    by_cases h : lastQ P.l = 4294967295
    · rw [if_pos h]
      exact ⟨0, false, rfl, Or.inr rfl⟩
    · rw [if_neg h]
      rcases hno with rfl | h2
      · exact ⟨_, true, rfl, Or.inl rfl⟩
      · exact absurd h2 h
  have HP := Lib.hid hP
  have HQ := Lib.hid hq
  obtain ⟨n, hne⟩ : ∃ n, n = P.l.length := ⟨_, rfl⟩
  have c2 : w.cell? ⟨g, 2, none⟩ = some (.slice A n cap) := by rw [hne]; exact hP.blk.cell 2
  have hO0 : Hid (∀ W, Only Empty w W → W.cell? ⟨g, 2, none⟩ = some (.slice A n cap)) := Lib.hid (fun W hW => by rw [hne]; exact (hW.blk hP.blk (fun h => h)).cell 2)
  have Hlim := Lib.hid (fun W (hW : Only Empty w W) => limit_any g p c e Z L _ ss W (hW.blk hP.blk (fun h => h)) rfl (hs.of hW (fun h => h) (fun h => h) (fun h => h)))
  have Hnx := Lib.hid (fun W (hW : Only Empty w W) => next_any A n cap P.l (L : Int) W (by rw [hne]; exact hP.secs.row.only hW (fun _ _ h => h)) (by omega) r (by rw [hne]; exact hbest))
  obtain ⟨pv, hpv⟩ : ∃ pv, placeV r = .int .i64 pv := by cases r <;> exact ⟨_, rfl⟩
  obtain ⟨rb, hrb⟩ : ∃ rb, rb = r.isSome := ⟨_, rfl⟩
  rw [hpv, ← hrb] at Hnx
  rw [← hrb] at hor
  have Hns := Lib.hid hns
  clear hP hs hq hbest hno hne hpv hrb hns
  go_enter Tryz.func126, Tryz.ntmps126
  go_wp2_with fail
  have hD := (Only.refl Empty w).drew
  have hs1 := hO0.out _ hD
  have HD := Lib.hid hD
  clear hD
  first | (go_region_held3 (fun W => W.cell? ⟨g, 2, none⟩ = some (.slice A n cap)) (first | with_reducible exact hs1 | with_reducible exact hs10 | with_reducible exact hs11)
    (first | (go_at_call 125; (with_reducible refine (Hlim.out _ HD.out).mono ?_); rintro e10 w10 ⟨rfl, hb10⟩; have hO10 := HD.out.trans (Only.of_below (S := Empty) hb10); have hs10 := hO0.out _ hO10)
           | (go_at_call 160; (with_reducible refine (Hnx.out _ hO10).mono ?_); rintro e11 w11 ⟨rfl, hb11⟩; have hO11 := hO10.trans (Only.of_below (S := Empty) hb11); have hs11 := hO0.out _ hO11))) | fail
  have HP11 := Lib.hid (HP.out.only hO11 (fun h => h) (fun _ _ _ h => h))
  have HO11 := Lib.hid (hO11.below (B := w.heap.size) (Nat.le_refl _) (fun _ _ h => h))
  have hnx := nextSeq_any g base p mb Z vk _ P w11 HP11.out HQ.out (by omega)
  rw [Hns.out] at hnx
  have HNS := Lib.hid hnx
  clear hO11 hs1 hb10 hO10 hs10 hb11 hnx Hnx Hlim hO0 HD c2
  rcases hor with rfl | rfl
  · go_wp2_with fail
    refine HNS.out.mono ?_
    rintro e12 w12 ⟨rfl, hb12⟩
    have HB12 := Lib.hid (HO11.out.trans (hb12.mono HO11.out.size))
    clear hb12
    go_wp2_with fail
    go_ret
    exact ⟨rfl, HB12.out⟩
  · cases rb
    · go_wp2_with fail
      refine HNS.out.mono ?_
      rintro e12 w12 ⟨rfl, hb12⟩
      have HB12 := Lib.hid (HO11.out.trans (hb12.mono HO11.out.size))
      clear hb12
      go_wp2_with fail
      go_ret
      exact ⟨rfl, HB12.out⟩
    · go_wp2_with fail
      refine HNS.out.mono ?_
      rintro e12 w12 ⟨rfl, hb12⟩
      have HB12 := Lib.hid (HO11.out.trans (hb12.mono HO11.out.size))
      clear hb12
      go_wp2_with fail
      go_ret
      exact ⟨rfl, HB12.out⟩

theorem pOpen_yes (g base p c e mb Z L : Nat) (vk : Value) (R : PP) (P : PV) (i : Nat) (s : Sc) (ss : List (Nat × List UInt8)) (w : World) (hP : PlanAt w g base p mb Z vk R P) (hs : FS w p c e Z L ss) (hTh : ∀ q, Three p c e q → q < base ∧ q ≠ g) (hq : Q32 P.l) (hn : P.l.length ≤ 64) (hst : P.sts.length ≤ 1000000)
    (hbase : base ≤ w.heap.size) (hbest : best (opensB (L : Int)) Sc.er P.l P.l.length = some i) (hi : P.l[i]? = some s) (her : 0 ≤ s.er ∧ s.er ≤ 2097152) (hlq : ¬ lastQ P.l = 4294967295) (hss : ss.length = P.l.length) :
    Calls Tryz.prog 126 #[.pointer (some ⟨g, 0, none⟩)] w fun e1 w' => Opened g base p mb Z vk P i s w w' e1 := by
  cases h : s.st == 1
  · exact pOpen_blank g base p c e mb Z L vk R P i s ss w hP hs hTh hq hn hst hbase hbest hi her hlq h hss
  · exact pOpen_dirty g base p c e mb Z L vk R P i s ss w hP hs hTh hq hn hst hbase hbest hi her hlq h hss

end Go.Proofs.YtnhfmcijadficaaGreatDoor

/- The walk over a plan's putAgain. (Printed by gen/gen_lc.py.) -/
namespace Go.Proofs.YtnhfmcijadficaaGreatDoor
set_option maxRecDepth 100000
open Go.RowKit Go.Maps

/-- Where keys are put once more: what is so far. -/
structure PAt (wr w : World) (g base bi p c e mb Z L : Nat) (ss : List (Nat × List UInt8)) (nM : Nat) (M : Al Sv) (KA : Option Addr) (kn kcap : Nat) (R : PP) (P : PV) (K : List Kr) (A : Option Addr) (n cap : Nat) (ks : List (List UInt8)) : Prop where
  pw : PW wr g base bi p c e mb Z L ss nM M KA kn kcap R P K
  row : KRow wr K A n cap ks
  pq : PQ g base w wr
  len : P.l.length = ss.length
  key : ∀ k ∈ ks, k.length ≤ 64

set_option maxHeartbeats 4000000 in
theorem putAgain_any (g base bi p c e mb Z L nM kn kcap t : Nat) (ss : List (Nat × List UInt8)) (M : Al Sv) (KA : Option Addr) (R : PP) (P : PV) (K : List Kr) (A : Option Addr) (n cap : Nat) (ks : List (List UInt8)) (bF : Bool) (PF : PV) (KF : List (List (List UInt8))) (w : World)
    (h : PW w g base bi p c e mb Z L ss nM M KA kn kcap R P K) (C : PC g base p c e mb Z L ss M) (hr : KRow w K A n cap ks) (hA : Again Z L M t P.nm (K.map Kr.ks) ks bF PF KF) (hss : P.l.length = ss.length) (hk : ∀ k ∈ ks, k.length ≤ 64) (hbase : base ≤ w.heap.size) (hbi : bi ≤ w.heap.size) :
    Calls Tryz.prog 164 #[.pointer (some ⟨g, 0, none⟩), .slice A n cap] w fun e1 w' => e1 = .returned (.bool bF) ∧ (∃ R' P' K', PW w' g base bi p c e mb Z L ss nM M KA kn kcap R' P' K' ∧ P'.nm = PF ∧ K'.map Kr.ks = KF ∧ P'.l.length = ss.length) ∧ PQ g base w w' := by
  have HX := Lib.hid (PAt.mk h hr (PQ.refl g base w) hss hk)
  have HA := Lib.hid hA
  have HC := Lib.hid C
  clear h C hr hA hss hk
  go_enter Tryz.func164, Tryz.ntmps164
  go_wp2_with fail
  go_loopg [1] (t) (fun u v wr => ∃ (A : Option Addr) (n cap : Nat) (ks : List (List UInt8)) (R : PP) (P : PV) (K : List Kr), v = .slice A n cap ∧ Hid (PAt wr w g base bi p c e mb Z L ss nM M KA kn kcap R P K A n cap ks) ∧ Hid (Again Z L M u P.nm (K.map Kr.ks) ks bF PF KF))
  case atStart => exact ⟨A, n, cap, ks, R, P, K, rfl, HX, HA⟩
  case round =>
    clear HX HA
    obtain ⟨A, n, cap, ks, R, P, K, rfl, HX, HA⟩ := hrel
    by_cases hlt : 0 < n
    · have hlen := HX.out.row.row.1
      have hne : ks ≠ [] := fun e => by rw [e] at hlen; simp at hlen; omega
      have hncap : n ≤ cap := HX.out.row.row.2.1
      have hcap2 : cap ≤ 9223372036854775807 := by have := HX.out.row.row.2.2.1; unfold maxLen at this; omega
      have Hfit := Lib.hid (fitting_any g base p mb Z _ R P nM M A n cap ks wr HX.out.pw.plan HX.out.pw.map HC.out.fair HX.out.row.row HX.out.row.isNil HX.out.key)
      have hinv := HA.out.inv hne
      obtain ⟨F, hF⟩ : ∃ F, F = fit M P.h ks := ⟨_, rfl⟩
      have hnmh : P.nm.h = P.h := rfl
      rw [hnmh, ← hF] at hinv
      rw [← hF] at Hfit
      obtain ⟨m, hm⟩ : ∃ m, m = F.length := ⟨_, rfl⟩
      rw [← hm] at Hfit
      have hft := fit_take M P.h ks
      rw [← hF, ← hm] at hft
      have HF := Lib.hid hF
      have Hm := Lib.hid hm
      have Hft := Lib.hid hft
      have Hinv := Lib.hid hinv
      have hmn : m ≤ n ∧ m ≤ 16 := by have := hft.2; omega
      have Hlen := Lib.hid hlen
      have Hne := Lib.hid hne
      clear hF hm hft hinv hlen hne hnmh
      go_wp2_with fail
      refine Hfit.out.mono ?_
      rintro e2 w2 ⟨⟨A2, c2, rfl, hG2⟩, hb2⟩
      have HW2 := Lib.hid (HX.out.pw.below HC.out hb2)
      have HR2 := Lib.hid (HX.out.row.keep (E := Empty) hb2.size (Keep.of_empty (Only.of_below (S := Empty) hb2)) (fun h => h))
      have HQ2 := Lib.hid (HX.out.pq.trans (PQ.of_below hb2))
      have HG2 := Lib.hid hG2
      have Hsz2 := Lib.hid hb2.size
      clear hb2 hG2 Hfit
      have hinv := Hinv.out
      rcases hinv with ⟨hF0, t0, i, s, rfl, hop, hag⟩ | ⟨hF0, hno, rfl, hPe, hKe⟩ | ⟨hF0, t0, k, o, u, kk0, rfl, hhd, hbd, hkk, hkl, hag⟩
      · have hm0 : m = 0 := by rw [Hm.out, hF0]; rfl
        subst hm0
        have hbd := hop.bd.of_nm
        have Hop := Lib.hid (pOpen_yes g base p c e mb Z L _ R P i s ss w2 HW2.out.plan HW2.out.fs HC.out.three hbd.q hbd.len hbd.sts (by have := HQ2.out.size; omega) hop.best hop.at_ (hbd.er s (List.mem_of_getElem? hop.at_)) hop.more HX.out.len.symm)
        have Hag := Lib.hid hag
        clear hop hag hbd hF0 Hinv
        go_wp2_with fail
        refine Hop.out.mono ?_
        rintro e3 w3 ⟨rfl, ⟨R3, hP3⟩, hO3⟩
        have HW3 := Lib.hid (HW2.out.po HC.out hO3 hP3 (fun s hs => by
          rcases List.mem_append.1 hs with h1 | h1
          · exact Or.inl h1
          · refine Or.inr ?_
            rw [List.mem_singleton.1 h1]
            trivial))
        have HR3 := Lib.hid (HR2.out.keep hO3.size hO3.keep (by unfold EP; decide))
        have HQ3 := Lib.hid (HQ2.out.trans hO3.pq)
        clear hP3 hO3 Hop
        go_wp2_with fail
        go_roundg t0
        case measure => omega
        case rel => exact ⟨A, n, cap, ks, R3, _, K, rfl, Lib.hid ⟨HW3.out, HR3.out, HQ3.out, by show (P.l.set i _).length = _; rw [List.length_set]; exact HX.out.len, HX.out.key⟩, Lib.hid (by rw [PV.opened_nm]; exact Hag.out)⟩
      · have hm0 : m = 0 := by rw [Hm.out, hF0]; rfl
        subst hm0
        have hbd := hno.bd.of_nm
        have Hop := Lib.hid (pOpen_no g base p c e mb Z L _ R P ss w2 HW2.out.plan HW2.out.fs hbd.q hbd.len _ rfl hno.no)
        have HP := Lib.hid hPe
        have HKe := Lib.hid hKe
        clear hno hbd hPe hKe hF0 Hinv HA
        go_wp2_with fail
        refine Hop.out.mono ?_
        rintro e3 w3 ⟨rfl, hb3⟩
        have HW3 := Lib.hid (HW2.out.below HC.out hb3)
        have HQ3 := Lib.hid (HQ2.out.trans (PQ.of_below hb3))
        clear hb3 Hop
        go_wp2_with fail
        go_ret
        exact ⟨rfl, ⟨R, P, K, HW3.out, HP.out.symm, HKe.out.symm, HX.out.len⟩, HQ3.out⟩
      · have hm0 : 0 < m := by
          rw [Hm.out]
          exact List.length_pos_iff.2 hF0
        have hm0b : (m == 0) = false := by simp; omega
        obtain ⟨kk, hkk2, rfl⟩ : ∃ kk, K[k]? = some kk ∧ kk.ks = kk0 := by
          rw [List.getElem?_map] at hkk
          cases hq : K[k]? with
          | none => rw [hq] at hkk; cases hkk
          | some kk => rw [hq] at hkk; exact ⟨kk, rfl, by simpa using hkk⟩
        have hbd2 := hbd.of_nm
        have hC2 : ∀ W, PO g base w2 W → Chs W Empty A2 m c2 (F.map (keyCh M)) := fun W hW => by
          refine chs_of (HG2.out.keep chg_len hW.keep (by unfold EP; decide)) (fun f hf => ?_)
          obtain ⟨x, _, rfl⟩ := List.mem_map.1 hf
          have h1 := BlobsAt.at_ (HW2.out.bl.only hW.only (fun _ _ h => h)) x
          exact ⟨h1.1.mono (T := Empty) (fun _ _ h => h.elim), h1.2⟩
        have hfair : Fair (F.map (keyCh M)) := fun f hf => by
          obtain ⟨x, hx, rfl⟩ := List.mem_map.1 hf
          have h1 : x ∈ ks := by rw [Hft.out.1] at hx; exact List.mem_of_mem_take hx
          exact (fit_sz HC.out.fair x (HX.out.key x h1)).2
        have Hlay := Lib.hid (pLay_any g base p mb Z _ R P k o u A2 m c2 (F.map (keyCh M)) w2 HW2.out.plan (by rw [List.length_map, Hm.out]) hC2 hfair (by omega) hbd2.sts (by have := HQ2.out.size; omega) hhd.next hhd.txn hhd.t0 hhd.t1 hhd.far ⟨hhd.l0, hhd.l1⟩)
        have Hag := Lib.hid hag
        have Hkk := Lib.hid hkk2
        have Hkl := Lib.hid hkl
        have Hhs := Lib.hid hhd.sec
        have HC2 := Lib.hid (hC2)
        clear hag hhd hbd hbd2 hkk hkk2 hkl hC2 hfair hF0 Hinv HA
        go_wp2_with fail
        refine Hlay.out.mono ?_
        rintro e3 w3 ⟨rfl, ⟨R3, hP3⟩, hO3⟩
        have HW3 := Lib.hid (HW2.out.po HC.out hO3 hP3 (fun s hs => by
          rcases List.mem_append.1 hs with h1 | h1
          · exact Or.inl h1
          · refine Or.inr ?_
            rw [List.mem_singleton.1 h1]
            exact ⟨(HG2.out.keep chg_len hO3.keep (by unfold EP; decide)).lower (by have := HX.out.pq.size; omega), F, rfl⟩))
        have HR3 := Lib.hid (HR2.out.keep hO3.size hO3.keep (by unfold EP; decide))
        have HQ3 := Lib.hid (HQ2.out.trans hO3.pq)
        have hgl3 := HW3.out.plan.blk.lt
        have q4 : w3.cell? ⟨g, 4, none⟩ = some (.int .i64 (k : Int)) := by
          have h1 := HW3.out.plan.blk.cell 4
          have h2 : w3.cell? ⟨g, 4, none⟩ = some (.int .i64 P.h.sec) := h1
          rw [h2, Hhs.out]
        clear hP3 hO3 Hlay HC2
        go_wp2_with fail
        have hD3 : PO g base w3 w3.drew := (PO.refl g base w3).drew
        have hWd := HW3.out.po HC.out hD3 HW3.out.plan.drew (fun s hs => Or.inl hs)
        have hRd := HR3.out.keep hD3.size hD3.keep (by unfold EP; decide)
        obtain ⟨kg, A4, c4, w4, rfl, hrun, hW5, hR5, hQ5, f5, hkgl4, hQ4, hc1, hc4, hkgg, hkgl, hP4⟩ := hWd.keys_step HC.out hRd Hkk.out hmn.1 hm0 hmn.2 Hkl.out (by have := HQ3.out.size; have := hD3.size; omega)
        have hB3 : w3.drew.cell? ⟨g, 3, none⟩ = some (.slice (some ⟨kg, 0, none⟩) kn kcap) := hWd.plan.blk.cell 3
        have hklt : k < kn := by rw [← hWd.kn]; exact (List.getElem?_eq_some_iff.1 Hkk.out).1
        have hkcap : kn ≤ kcap := by rw [← hWd.kn]; exact hWd.keys.outer.row.2.1
        have hkc2 : kcap ≤ 9223372036854775807 := by have := hWd.keys.outer.row.2.2.1; unfold maxLen at this; omega
        have hB5 : (w4.setCell ⟨kg, k, none⟩ (.slice A4 (kk.ks.length + m) c4)).cell? ⟨g, 3, none⟩ = some (.slice (some ⟨kg, 0, none⟩) kn kcap) := hW5.plan.blk.cell 3
        have hB4 : w4.cell? ⟨g, 3, none⟩ = some (.slice (some ⟨kg, 0, none⟩) kn kcap) := hP4.blk.cell 3
        have HW5 := Lib.hid hW5
        have HR5 := Lib.hid hR5
        have HQ5 := Lib.hid ((HQ3.out.trans hD3.pq).trans hQ5)
        obtain ⟨N, hN⟩ : ∃ N, N = kk.ks.length := ⟨_, rfl⟩
        rw [← hN] at hrun HW5 HR5 HQ5 hc1 hc4 hB5
        obtain ⟨ad, hAd⟩ : ∃ ad, A = some ad := by
          cases hA : A with
          | none => have := (HX.out.row.isNil hA).1; omega
          | some ad => exact ⟨ad, rfl⟩
        have HN := Lib.hid hN
        have HAd := Lib.hid hAd
        have hgl3 := hWd.plan.blk.lt
        have hmcap : m ≤ cap := by omega
        clear hWd hRd hW5 hR5 hQ5 hQ4 hD3 hN hAd q4 hP4
        refine wp_region_held_drew (S := fun W => W.cell? ⟨g, 3, none⟩ = some (.slice (some ⟨kg, 0, none⟩) kn kcap)) (by kernel_rfl) hB3 (fun hHeld => ?_)
        refine take_yes 0 27 ?_ rfl rfl (by kernel_rfl) (by kernel_rfl) (by kernel_rfl) (fun _ _ _ h => h) (by kernel_rfl) ?_ (by assumption) ?_; rotate_left; (focus (intro w hSw; (try dsimp only at hSw); go_simp; all_goals with_reducible rfl)); simp only [Act.put, List.setIfInBounds_toArray, List.set_cons_zero, List.set_cons_succ]
        refine take_yes 1 28 ?_ rfl rfl (by kernel_rfl) (by kernel_rfl) (by kernel_rfl) (fun _ _ _ h => h) (by kernel_rfl) ?_ (by assumption) ?_; rotate_left; (focus (intro w hSw; (try dsimp only at hSw); go_simp; all_goals with_reducible rfl)); simp only [Act.put, List.setIfInBounds_toArray, List.set_cons_zero, List.set_cons_succ]
        refine take_yes 2 29 ?_ rfl rfl (by kernel_rfl) (by kernel_rfl) (by kernel_rfl) (fun _ _ _ h => h) (by kernel_rfl) ?_ (by assumption) ?_; rotate_left; (focus (intro w hSw; (try dsimp only at hSw); go_simp; all_goals with_reducible rfl)); simp only [Act.put, List.setIfInBounds_toArray, List.set_cons_zero, List.set_cons_succ]
        refine take_yes 3 30 ?_ rfl rfl (by kernel_rfl) (by kernel_rfl) (by kernel_rfl) (fun _ _ _ h => h) (by kernel_rfl) ?_ (by assumption) ?_; rotate_left; (focus (intro w hSw; (try dsimp only at hSw); go_simp; all_goals with_reducible rfl)); simp only [Act.put, List.setIfInBounds_toArray, List.set_cons_zero, List.set_cons_succ]
        refine take_yes 4 31 ?_ rfl rfl (by kernel_rfl) (by kernel_rfl) (by kernel_rfl) (fun _ _ _ h => h) (by kernel_rfl) ?_ (by assumption) ?_; rotate_left; (focus (intro w hSw; (try dsimp only at hSw); go_simp; all_goals with_reducible rfl)); simp only [Act.put, List.setIfInBounds_toArray, List.set_cons_zero, List.set_cons_succ]
        refine take_yes 5 32 ?_ rfl rfl (by kernel_rfl) (by kernel_rfl) (by kernel_rfl) (fun _ _ _ h => h) (by kernel_rfl) ?_ (by assumption) ?_; rotate_left; (focus (intro w hSw; (try dsimp only at hSw); go_simp; all_goals with_reducible rfl)); simp only [Act.put, List.setIfInBounds_toArray, List.set_cons_zero, List.set_cons_succ]
        refine take_yes 6 33 ?_ rfl rfl (by kernel_rfl) (by kernel_rfl) (by kernel_rfl) (fun _ _ _ h => h) (by kernel_rfl) ?_ (by assumption) ?_; rotate_left; (focus (intro w hSw; (try dsimp only at hSw); go_simp; all_goals with_reducible rfl)); simp only [Act.put, List.setIfInBounds_toArray, List.set_cons_zero, List.set_cons_succ]
        refine take_yes 7 34 ?_ rfl rfl (by kernel_rfl) (by kernel_rfl) (by kernel_rfl) (fun _ _ _ h => h) (by kernel_rfl) ?_ (by assumption) ?_; rotate_left; (focus (intro w hSw; (try dsimp only at hSw); go_simp; all_goals with_reducible rfl)); simp only [Act.put, List.setIfInBounds_toArray, List.set_cons_zero, List.set_cons_succ]
        refine take_yes 8 35 ?_ rfl rfl (by kernel_rfl) (by kernel_rfl) (by kernel_rfl) (fun _ _ _ h => h) (by kernel_rfl) ?_ (by assumption) ?_; rotate_left; (focus (intro w hSw; (try dsimp only at hSw); go_simp; all_goals with_reducible rfl)); simp only [Act.put, List.setIfInBounds_toArray, List.set_cons_zero, List.set_cons_succ]
        refine take_yes 9 36 ?_ rfl rfl (by kernel_rfl) (by kernel_rfl) (by kernel_rfl) (fun _ _ _ h => h) (by kernel_rfl) ?_ (by assumption) ?_; rotate_left; (focus (intro w hSw; (try dsimp only at hSw); go_simp; all_goals with_reducible rfl)); simp only [Act.put, List.setIfInBounds_toArray, List.set_cons_zero, List.set_cons_succ]
        refine take_yes 10 37 ?_ rfl rfl (by kernel_rfl) (by kernel_rfl) (by kernel_rfl) (fun _ _ _ h => h) (by kernel_rfl) ?_ (by assumption) ?_; rotate_left; (focus (intro w hSw; (try dsimp only at hSw); go_simp; all_goals with_reducible rfl)); simp only [Act.put, List.setIfInBounds_toArray, List.set_cons_zero, List.set_cons_succ]
        refine take_yes 12 39 ?_ rfl rfl (by kernel_rfl) (by kernel_rfl) (by kernel_rfl) (fun _ _ _ h => h) (by kernel_rfl) ?_ (by assumption) ?_; rotate_left; (focus (intro w hSw; (try dsimp only at hSw); go_simp; all_goals with_reducible rfl)); simp only [Act.put, List.setIfInBounds_toArray, List.set_cons_zero, List.set_cons_succ]
        refine take_yes 13 40 ?_ rfl rfl (by kernel_rfl) (by kernel_rfl) (by kernel_rfl) (fun _ _ _ h => h) (by kernel_rfl) ?_ (by assumption) ?_; rotate_left; (focus (intro w hSw; (try dsimp only at hSw); go_simp; all_goals with_reducible rfl)); simp only [Act.put, List.setIfInBounds_toArray, List.set_cons_zero, List.set_cons_succ]
        refine take_yes 14 41 ?_ rfl rfl (by kernel_rfl) (by kernel_rfl) (by kernel_rfl) (fun _ _ _ h => h) (by kernel_rfl) ?_ (by assumption) ?_; rotate_left; (focus (intro w hSw; (try dsimp only at hSw); go_simp; all_goals with_reducible rfl)); simp only [Act.put, List.setIfInBounds_toArray, List.set_cons_zero, List.set_cons_succ]
        refine take_yes 15 42 ?_ rfl rfl (by kernel_rfl) (by kernel_rfl) (by kernel_rfl) (fun _ _ _ h => h) (by kernel_rfl) ?_ (by assumption) ?_; rotate_left; (focus (intro w hSw; (try dsimp only at hSw); go_simp; all_goals with_reducible rfl)); simp only [Act.put, List.setIfInBounds_toArray, List.set_cons_zero, List.set_cons_succ]
        refine wpAnyH_ready (rs := [11]) (by kernel_rfl) (by simp) ?_
        refine AllReadyH.cons rfl (fun K hK => ?_) AllReadyH.nil
        go_simp
        refine hK.out _ _ (hB3) (fun _ => ?_)
        clear hK K
        try simp only [Act.put, List.setIfInBounds_toArray, List.set_cons_zero, List.set_cons_succ]
        refine wpAnyH_ready (rs := [16]) (by kernel_rfl) (by simp) ?_
        refine AllReadyH.cons rfl (fun K hK => ?_) AllReadyH.nil
        refine step_append_eq (ts := 67) rfl (.tmp 38) (.tmp 42) rfl rfl rfl rfl hrun ?_
        refine hK.out _ _ hB4 (fun _ => ?_)
        clear hK K
        try simp only [Act.put, List.setIfInBounds_toArray, List.set_cons_zero, List.set_cons_succ]
        refine take_yes 17 44 ?_ rfl rfl (by kernel_rfl) (by kernel_rfl) (by kernel_rfl) (fun _ _ _ h => h) (by kernel_rfl) ?_ (by assumption) ?_; rotate_left; (focus (intro w hSw; (try dsimp only at hSw); go_simp; all_goals with_reducible rfl)); simp only [Act.put, List.setIfInBounds_toArray, List.set_cons_zero, List.set_cons_succ]
        refine wpAnyH_ready (rs := [18]) (by kernel_rfl) (by simp) ?_
        refine AllReadyH.cons rfl (fun K hK => ?_) AllReadyH.nil
        go_simp
        refine hK.out _ _ (hB5) (fun _ => ?_)
        clear hK K
        try simp only [Act.put, List.setIfInBounds_toArray, List.set_cons_zero, List.set_cons_succ]
        refine wpAnyH_done (by kernel_rfl) ?_ _
        obtain ⟨w5, h5⟩ : ∃ w5, w5 = w4.setCell ⟨kg, k, none⟩ (.slice A4 (N + m) c4) := ⟨_, rfl⟩
        rw [← h5] at HW5 HR5 HQ5 ⊢
        have HagN : Hid (Again Z L M t0 (P.laid k o u A2 m c2 (F.map (keyCh M))).nm ((K.set k ⟨A4, c4, kk.ks ++ ks.take m⟩).map Kr.ks) (ks.drop m) bF PF KF) := Lib.hid (by
          rw [PV.laid_nm, List.map_map, List.map_set, ← Hft.out.1, Hm.out]
          exact Hag.out)
        clear h5 hrun hc1 hc4 f5 hB3 hB4 hB5 hHeld hkgl4 hkgl hgl3 Hag
        go_wp2_with fail
        · have hnm : n - m = 0 := by omega
          have hks : ks.drop m = [] := List.drop_eq_nil_iff.2 (by have := Hlen.out; omega)
          go_roundg t0
          case measure => omega
          case rel => exact ⟨A, n - m, 0, ks.drop m, R3, _, _, rfl, Lib.hid ⟨HW5.out, by rw [hnm, hks]; exact HR5.out.none_ (by rw [HAd.out]; exact fun h => by cases h), HQ5.out, HX.out.len, fun x hx => HX.out.key x (List.mem_of_mem_drop hx)⟩, HagN⟩
        · obtain ⟨ab, ao, rfl⟩ : ∃ ab ao, A = some ⟨ab, ao, none⟩ := by
            rcases HX.out.row.blk with hn | ⟨kb, o2, cur, he, _⟩
            · rw [HAd.out] at hn; cases hn
            · exact ⟨kb, o2, he⟩
          go_roundg t0
          case measure => omega
          case rel => exact ⟨some ⟨ab, ao + m, none⟩, n - m, cap - m, ks.drop m, R3, _, _, (by simp [Addr.add]; omega), Lib.hid ⟨HW5.out, HR5.out.drop_ hmn.1, HQ5.out, HX.out.len, fun x hx => HX.out.key x (List.mem_of_mem_drop hx)⟩, HagN⟩
    · have hn0 : n = 0 := by omega
      subst hn0
      have hk0 : ks = [] := List.eq_nil_of_length_eq_zero HX.out.row.row.1
      subst hk0
      have hnil := HA.out.nil_
      obtain ⟨rfl, hPe, hKe⟩ := hnil
      have HP := Lib.hid hPe
      have HKe := Lib.hid hKe
      clear hPe hKe HA
      go_wp2_with fail
      go_ret
      exact ⟨rfl, ⟨R, P, K, HX.out.pw, HP.out.symm, HKe.out.symm, HX.out.len⟩, HX.out.pq⟩

end Go.Proofs.YtnhfmcijadficaaGreatDoor
