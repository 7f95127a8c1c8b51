/- A plan's steps against the flash: what the plan tells of its sectors is what they are behind its steps. -/
import Derived.Test.YtnhfmcijadficaaGreatDoorZbb
import Derived.Test.YtnhfmcijadficaaGreatDoorZbf
import Derived.Test.YtnhfmcijadficaaGreatDoorZaf
import Derived.Carry
namespace Go.Proofs.YtnhfmcijadficaaGreatDoor
set_option maxRecDepth 100000
open Go.RowKit Go.Maps

/-- Sectors of a flash. -/
def WFs (Z L : Nat) (ss : List (Nat × List UInt8)) : Prop := ∀ x ∈ ss, x.2.length = Z ∧ x.1 ≤ L
theorem WFs.at_ {Z L : Nat} {ss : List (Nat × List UInt8)} (h : WFs Z L ss) {i m : Nat} {xs : List UInt8} (hi : ss[i]? = some (m, xs)) : xs.length = Z ∧ m ≤ L := h _ (List.mem_of_getElem? hi)
theorem WFs.set {Z L : Nat} {ss : List (Nat × List UInt8)} (h : WFs Z L ss) (i m : Nat) (xs : List UInt8) (h1 : xs.length = Z) (h2 : m ≤ L) : WFs Z L (ss.set i (m, xs)) := by
  intro x hx
  rcases List.mem_or_eq_of_mem_set hx with h3 | rfl
  · exact h x h3
  · exact ⟨h1, h2⟩
theorem WFs.of_fs {w : World} {p c e Z L : Nat} {ss : List (Nat × List UInt8)} (h : FS w p c e Z L ss) : WFs Z L ss := by
  intro x hx
  obtain ⟨i, hi, rfl⟩ := List.mem_iff_getElem.1 hx
  have h1 : ss[i]? = some (ss[i].1, ss[i].2) := List.getElem?_eq_getElem hi
  exact ⟨h.len h1, h.le h1⟩

structure Sim (Z L : Nat) (ss0 : List (Nat × List UInt8)) (P : PV) : Prop where
  ok : Stp.Oks Z L ss0 P.sts
  l : P.l = secsOf (Stp.runs Z ss0 P.sts)
  wf : WFs Z L (Stp.runs Z ss0 P.sts)
/-- A head in whose sector there is room. -/
structure HLive (Z : Nat) (ss : List (Nat × List UInt8)) (h : HeadV) (k o : Nat) : Prop where
  sec : h.sec = (k : Int)
  next : h.next = ((k * Z + o : Nat) : Int)
  left : h.left = ((Z - o : Nat) : Int)
  le : o ≤ Z
  ge : 12 ≤ o
  t0 : 0 ≤ h.txn
  t1 : h.txn ≤ 4294967295
  at_ : ∃ m xs, ss[k]? = some (m, xs) ∧ stU xs = true ∧ Blank xs o (Z - o)
def HInv (Z : Nat) (ss : List (Nat × List UInt8)) (h : HeadV) : Prop := h = ⟨0, 0, 0, 0⟩ ∨ ∃ k o, HLive Z ss h k o

section
variable {Z L : Nat} {ss0 : List (Nat × List UInt8)} {P : PV}
theorem Sim.len (h : Sim Z L ss0 P) : P.l.length = ss0.length := by rw [h.l, secsOf_len, Stp.runs_len]
theorem Sim.opens {i : Nat} (hb : best (opensB (L : Int)) Sc.er P.l P.l.length = some i) : ∃ s, P.l[i]? = some s ∧ opensB (L : Int) s = true := by
  have h1 := best_is (opensB (L : Int)) Sc.er P.l P.l.length (Nat.le_refl _)
  rw [hb] at h1
  exact ⟨_, h1.2.choose_spec.1, h1.2.choose_spec.2.1⟩
theorem opensB_st {L : Nat} {s : Sc} (h : opensB (L : Int) s = true) : s.st = 0 ∨ (s.st = 1 ∧ s.er < (L : Int)) := by
  unfold opensB at h
  simpa using h

theorem Sim.opened (h : Sim Z L ss0 P) (hz : 12 ≤ Z) {i : Nat} {s : Sc} (hb : best (opensB (L : Int)) Sc.er P.l P.l.length = some i) (hi : P.l[i]? = some s) (hq : ¬ lastQ P.l = 4294967295) :
    Sim Z L ss0 (P.opened i Z s) ∧ HLive Z (Stp.runs Z ss0 (P.opened i Z s).sts) (P.opened i Z s).h i 12 ∧ s.st ≠ 2 := by
  obtain ⟨s2, hs2, ho⟩ := Sim.opens hb
  rw [hi] at hs2
  cases hs2
  have hst := opensB_st ho
  have hl := h.l
  rw [hl] at hi
  obtain ⟨m, xs, hx, rfl⟩ := secsOf_at hi
  simp only at hst
  have hwf := h.wf.at_ hx
  have hQ := lastQ_le P.l (by rw [hl]; exact secsOf_q _)
  have hu : stU xs = false := by
    rcases stS_cases xs with ⟨h1, _⟩ | ⟨_, h2, _⟩ | ⟨_, h2, _⟩
    · rw [h1] at hst; omega
    · exact h2
    · exact h2
  have hml : ¬ xs.count 255 = xs.length → m < L := fun hne => by
    rcases stS_cases xs with ⟨h1, _⟩ | ⟨_, _, h2⟩ | ⟨h1, _⟩
    · rw [h1] at hst; omega
    · exact absurd h2 hne
    · rw [h1] at hst; omega
  obtain ⟨q, hqq⟩ : ∃ q : Nat, q = (lastQ P.l + 1).toNat := ⟨_, rfl⟩
  have hq1 : (q : Int) = lastQ P.l + 1 := by omega
  have hq2 : q ≤ 4294967295 := by omega
  have hop := open_st Z q hz hq2
  have hrun : Stp.runs Z ss0 (P.sts ++ [Stp.open_ i q]) = (Stp.runs Z ss0 P.sts).set i (if xs.count 255 = xs.length then m else m + 1, openB Z q) := by
    rw [Stp.runs_snoc]
    show List.set _ i _ = _
    rw [Stp.at_eq hx]
  have hil : i < (Stp.runs Z ss0 P.sts).length := (List.getElem?_eq_some_iff.1 hx).1
  have hopd : P.opened i Z ⟨stS xs, stQ xs, (m : Int)⟩ = ⟨P.l.set i ⟨2, lastQ P.l + 1, if stS xs = 1 then (m : Int) + 1 else (m : Int)⟩, ⟨(i : Int), ((i * Z + 12 : Nat) : Int), ((Z - 12 : Nat) : Int), 0⟩, P.sts ++ [Stp.open_ i q]⟩ := by
    unfold PV.opened
    rw [hqq]
  rw [hopd]
  refine ⟨⟨h.ok.app ⟨⟨m, xs, hx, hu, hml, hq2⟩, trivial⟩, ?_, ?_⟩, ⟨rfl, rfl, rfl, hz, Nat.le_refl _, Int.le_refl _, (by show (0 : Int) ≤ 4294967295; omega), ?_⟩, ?_⟩
  · show P.l.set i _ = _
    rw [hrun, secsOf_set, ← hl]
    congr 1
    show _ = (⟨stS (openB Z q), stQ (openB Z q), _⟩ : Sc)
    rw [hop.2.2, hop.2.1, hq1]
    rcases stS_cases xs with ⟨h1, _⟩ | ⟨h1, _, h2⟩ | ⟨h1, _, h2⟩
    · rw [h1] at hst; omega
    · rw [h1, if_pos h2, if_neg (by decide)]
    · rw [h1, if_neg h2, if_pos rfl]; simp
  · rw [hrun]
    refine h.wf.set _ _ _ (openB_all Z q hz).1 ?_
    split
    · exact hwf.2
    · rename_i h1
      have := hml h1
      omega
  · rw [hrun, List.getElem?_set_self hil]
    refine ⟨_, _, rfl, hop.1, fun j h1 h2 => ?_⟩
    rw [(openB_all Z q hz).2, if_neg (by omega), if_neg (by omega), if_pos (by omega)]
  · show stS xs ≠ 2
    intro h1
    rw [h1] at hst
    omega

/-- Lists whose blobs have their length. -/
def BlobLen (l : List Ch) : Prop := ∀ f ∈ l, f.rB.length = f.rN
theorem commitB_len (l : List Ch) (t : Nat) (h : BlobLen l) : (commitB l t).length = roomL l := by
  unfold commitB
  rw [flat_len, recsL_sum]
  intro r hr
  unfold recsL at hr
  rcases List.mem_append.1 hr with h1 | h1
  · obtain ⟨f, hf, rfl⟩ := List.mem_map.1 h1
    exact h f hf
  · rw [List.mem_singleton.1 h1]
    rfl

theorem Sim.laid (h : Sim Z L ss0 P) {k o : Nat} (hl : HLive Z (Stp.runs Z ss0 P.sts) P.h k o) (l : List Ch) (n t : Nat) (hm : ∀ f ∈ l, f.may = true) (hb : BlobLen l) (hn : n ≤ 16) (hr : o + roomL l ≤ Z) (ht : P.h.txn + 1 = (t : Int)) (ht1 : P.h.txn ≤ 4294901759) :
    Sim Z L ss0 (P.laid k o t none n 0 l) ∧ HLive Z (Stp.runs Z ss0 (P.laid k o t none n 0 l).sts) (P.laid k o t none n 0 l).h k (o + roomL l) := by
  obtain ⟨m, xs, hx, hu, hbl⟩ := hl.at_
  have hwf := h.wf.at_ hx
  have hge := hl.ge
  have ht0 := hl.t0
  have hcl := commitB_len l t hb
  have hrun : Stp.runs Z ss0 (P.sts ++ [Stp.lay k o t none n 0 l]) = (Stp.runs Z ss0 P.sts).set k (m, splice xs o (commitB l t)) := by
    rw [Stp.runs_snoc]
    show List.set _ k _ = _
    rw [Stp.at_eq hx]
  have hkl : k < (Stp.runs Z ss0 P.sts).length := (List.getElem?_eq_some_iff.1 hx).1
  have hfit : o + (commitB l t).length ≤ xs.length := by omega
  have hst := lay_st xs (commitB l t) o hge hfit
  refine ⟨⟨h.ok.app ⟨⟨m, xs, hx, hm, hn, by omega, by omega, hr, fun j h1 h2 => hbl j h1 (by omega)⟩, trivial⟩, ?_, ?_⟩, ⟨hl.sec, ?_, ?_, hr, by omega, ?_, ?_, ?_⟩⟩
  · show P.l = secsOf (Stp.runs Z ss0 (P.sts ++ [Stp.lay k o t none n 0 l]))
    rw [hrun, secsOf_set, h.l]
    have e : secOf (m, splice xs o (commitB l t)) = secOf (m, xs) := by
      show (⟨stS _, stQ _, _⟩ : Sc) = ⟨stS _, stQ _, _⟩
      rw [hst.2, stS_used (hst.1.trans hu), stS_used hu]
    rw [e]
    apply List.ext_getElem?
    intro j
    rw [List.getElem?_set]
    split
    · rename_i h1
      subst h1
      rw [if_pos (by rw [secsOf_len]; exact hkl)]
      unfold secsOf
      rw [List.getElem?_map, hx]
      rfl
    · rfl
  · show WFs Z L (Stp.runs Z ss0 (P.sts ++ [Stp.lay k o t none n 0 l]))
    rw [hrun]
    exact h.wf.set _ _ _ (by rw [splice_len _ _ _ hfit]; exact hwf.1) hwf.2
  · show P.h.next + (roomL l : Int) = _
    rw [hl.next]
    omega
  · show P.h.left - (roomL l : Int) = _
    rw [hl.left]
    omega
  · show 0 ≤ P.h.txn + 1
    omega
  · show P.h.txn + 1 ≤ _
    omega
  · show ∃ m xs, (Stp.runs Z ss0 (P.sts ++ [Stp.lay k o t none n 0 l]))[k]? = some (m, xs) ∧ _
    rw [hrun, List.getElem?_set_self hkl]
    refine ⟨_, _, rfl, hst.1.trans hu, ?_⟩
    have h1 := hbl.behind (commitB l t) (by omega) (by omega)
    rw [hcl] at h1
    have e : Z - o - roomL l = Z - (o + roomL l) := by omega
    rw [e] at h1
    exact h1

theorem Sim.letGo (h : Sim Z L ss0 P) (hz : 12 ≤ Z) {i : Nat} {s : Sc} (hi : P.l[i]? = some s) (hs : s.st = 2) :
    Sim Z L ss0 (P.letGo L i s) ∧ ∀ j, j ≠ i → (Stp.runs Z ss0 (P.letGo L i s).sts)[j]? = (Stp.runs Z ss0 P.sts)[j]? := by
  have hl := h.l
  rw [hl] at hi
  obtain ⟨m, xs, hx, rfl⟩ := secsOf_at hi
  have hwf := h.wf.at_ hx
  have hil : i < (Stp.runs Z ss0 P.sts).length := (List.getElem?_eq_some_iff.1 hx).1
  have hv := void_st xs (by omega)
  have hrun1 : Stp.run Z (Stp.runs Z ss0 P.sts) (.void i) = (Stp.runs Z ss0 P.sts).set i (m, splice xs 9 [0]) := by
    show List.set _ i _ = _
    rw [Stp.at_eq hx]
  have hvl : (splice xs 9 [0]).length = Z := by rw [splice_len _ _ _ (by simp; omega)]; exact hwf.1
  by_cases hL : (L : Int) ≤ (m : Int)
  · have hgo : P.letGo L i ⟨stS xs, stQ xs, (m : Int)⟩ = ⟨P.l.set i ⟨1, 0, (m : Int)⟩, P.h, P.sts ++ [Stp.void i]⟩ := by
      unfold PV.letGo goSts
      rw [if_pos hL, if_pos hL]
    have hrun : Stp.runs Z ss0 (P.sts ++ [Stp.void i]) = (Stp.runs Z ss0 P.sts).set i (m, splice xs 9 [0]) := by rw [Stp.runs_snoc, hrun1]
    rw [hgo]
    refine ⟨⟨h.ok.app ⟨⟨m, xs, hx⟩, trivial⟩, ?_, ?_⟩, fun j hj => ?_⟩
    · show P.l.set i _ = _
      rw [hrun, secsOf_set, ← hl]
      congr 1
      show _ = (⟨stS _, stQ _, _⟩ : Sc)
      rw [hv.2.2, hv.2.1]
    · show WFs Z L (Stp.runs Z ss0 (P.sts ++ [Stp.void i]))
      rw [hrun]
      exact h.wf.set _ _ _ hvl hwf.2
    · show (Stp.runs Z ss0 (P.sts ++ [Stp.void i]))[j]? = _
      rw [hrun, List.getElem?_set_ne (fun e => hj e.symm)]
  · have hgo : P.letGo L i ⟨stS xs, stQ xs, (m : Int)⟩ = ⟨P.l.set i ⟨0, 0, (m : Int) + 1⟩, P.h, P.sts ++ [Stp.void i, Stp.erase i]⟩ := by
      unfold PV.letGo goSts
      rw [if_neg hL, if_neg hL]
    have hb := blank_st Z hz
    have hx1 : ((Stp.runs Z ss0 P.sts).set i (m, splice xs 9 [0]))[i]? = some (m, splice xs 9 [0]) := List.getElem?_set_self hil
    have hrun : Stp.runs Z ss0 (P.sts ++ [Stp.void i, Stp.erase i]) = (Stp.runs Z ss0 P.sts).set i (m + 1, List.replicate Z 255) := by
      rw [Stp.runs_app]
      show Stp.run Z (Stp.run Z (Stp.runs Z ss0 P.sts) (.void i)) (.erase i) = _
      rw [hrun1]
      show List.set _ i _ = _
      rw [Stp.at_eq hx1, List.set_set]
    rw [hgo]
    refine ⟨⟨h.ok.app ⟨⟨m, xs, hx⟩, ⟨m, splice xs 9 [0], by rw [hrun1]; exact hx1, by omega⟩, trivial⟩, ?_, ?_⟩, fun j hj => ?_⟩
    · show P.l.set i _ = _
      rw [hrun, secsOf_set, ← hl]
      congr 1
      show _ = (⟨stS _, stQ _, ((m + 1 : Nat) : Int)⟩ : Sc)
      rw [hb.2.2, hb.2.1]
      simp
    · show WFs Z L (Stp.runs Z ss0 (P.sts ++ [Stp.void i, Stp.erase i]))
      rw [hrun]
      exact h.wf.set _ _ _ (by simp) (by omega)
    · show (Stp.runs Z ss0 (P.sts ++ [Stp.void i, Stp.erase i]))[j]? = _
      rw [hrun, List.getElem?_set_ne (fun e => hj e.symm)]
end

end Go.Proofs.YtnhfmcijadficaaGreatDoor

/- Making room always comes to an end: the plain half. -/
namespace Go.Proofs.YtnhfmcijadficaaGreatDoor
set_option maxRecDepth 100000
open Go.RowKit Go.Maps

structure Geo (Z L S : Nat) : Prop where
  z0 : 64 ≤ Z
  z1 : Z ≤ 65536
  s : S ≤ 64
  sz : S * Z ≤ 4194304
  l1 : L ≤ 1048576
/-- What a key must be so that its put may be laid. -/
def KeyOk (M : Al Sv) (k : List UInt8) : Prop := k.length ≤ 64 ∧ (keyCh M k).may = true ∧ (afind M k).isSome = true
def LenM (M : Al Sv) : Prop := ∀ q ∈ M, q.2.xs.length = q.2.n
theorem LenM.svAt {M : Al Sv} (h : LenM M) (k : List UInt8) : (svAt M k).xs.length = (svAt M k).n := by
  unfold Go.Proofs.YtnhfmcijadficaaGreatDoor.svAt
  cases hf : afind M k with
  | none => rfl
  | some f => exact h _ (afind_mem hf)
def AllK (q : List UInt8 → Prop) (K : List (List (List UInt8))) : Prop := ∀ ks ∈ K, ∀ x ∈ ks, q x
def total (K : List (List (List UInt8))) : Nat := (K.map List.length).sum

theorem countP_set {α : Type} (p : α → Bool) (l : List α) (i : Nat) (x s : α) (hi : l[i]? = some s) : (l.set i x).countP p + (if p s then 1 else 0) = l.countP p + (if p x then 1 else 0) := by
  induction l generalizing i with
  | nil => simp at hi
  | cons a l ih =>
    cases i with
    | zero =>
      simp at hi
      subst hi
      rw [List.set_cons_zero, List.countP_cons, List.countP_cons]
      omega
    | succ i =>
      simp at hi
      rw [List.set_cons_succ, List.countP_cons, List.countP_cons]
      have := ih i hi
      omega
theorem total_set (K : List (List (List UInt8))) (i : Nat) (kk x : List (List UInt8)) (hi : K[i]? = some kk) : total (K.set i x) + kk.length = total K + x.length := by
  unfold total
  induction K generalizing i with
  | nil => simp at hi
  | cons a l ih =>
    cases i with
    | zero =>
      simp at hi
      subst hi
      rw [List.set_cons_zero, List.map_cons, List.map_cons, List.sum_cons, List.sum_cons]
      omega
    | succ i =>
      simp at hi
      rw [List.set_cons_succ, List.map_cons, List.map_cons, List.sum_cons, List.sum_cons]
      have := ih i hi
      omega
theorem total_le {K : List (List (List UInt8))} {i : Nat} {kk : List (List UInt8)} (hi : K[i]? = some kk) : kk.length ≤ total K := by
  have := total_set K i kk [] hi
  simp at this
  omega
theorem AllK.set {q : List UInt8 → Prop} {K : List (List (List UInt8))} (h : AllK q K) (i : Nat) {x : List (List UInt8)} (hx : ∀ y ∈ x, q y) : AllK q (K.set i x) := by
  intro ks hks
  rcases List.mem_or_eq_of_mem_set hks with h1 | rfl
  · exact h ks h1
  · exact hx

theorem takes_mono {h : HeadV} {a b : Int} (hab : b ≤ a) (ht : takesB h a = true) : takesB h b = true := by
  unfold takesB at ht ⊢
  simp at ht ⊢
  omega
theorem fitL_takes (M : Al Sv) (h : HeadV) : ∀ (ks : List (List UInt8)) (r : Nat), fitL M h r ks ≠ [] → takesB h ((r + ((fitL M h r ks).map fun k => (keyCh M k).sz).sum : Nat) : Int) = true
  | [], _, hne => absurd rfl hne
  | k :: ks, r, hne => by
    unfold fitL at hne ⊢
    split at hne
    · rename_i h1
      rw [if_pos h1, List.map_cons, List.sum_cons]
      by_cases he : fitL M h (r + (keyCh M k).sz) ks = []
      · rw [he]
        simpa using h1
      · have h2 := fitL_takes M h ks (r + (keyCh M k).sz) he
        have e : r + ((keyCh M k).sz + ((fitL M h (r + (keyCh M k).sz) ks).map fun k => (keyCh M k).sz).sum) = r + (keyCh M k).sz + ((fitL M h (r + (keyCh M k).sz) ks).map fun k => (keyCh M k).sz).sum := by omega
        rw [e]
        exact h2
    · exact absurd rfl hne
theorem fit_takes (M : Al Sv) (h : HeadV) (ks : List (List UInt8)) (hne : fit M h ks ≠ []) : takesB h (roomL ((fit M h ks).map (keyCh M)) : Int) = true := by
  have h1 := fitL_takes M h (ks.take 16) 16 hne
  unfold roomL
  rw [List.map_map]
  exact h1

theorem takes_live {Z : Nat} {ss : List (Nat × List UInt8)} {h : HeadV} {room : Int} (hh : HInv Z ss h) (hr : 0 < room) (ht : takesB h room = true) : h.txn ≤ 4294901759 ∧ room ≤ h.left ∧ ∃ k o, HLive Z ss h k o := by
  unfold takesB at ht
  simp at ht
  rcases hh with rfl | hl
  · simp at ht
    omega
  · exact ⟨ht.1, ht.2, hl⟩

section
variable {Z L : Nat} {ss0 : List (Nat × List UInt8)} {M : Al Sv}
theorem Sim.bd {P : PV} (h : Sim Z L ss0 P) (hg : Geo Z L ss0.length) (hst : P.sts.length ≤ 1000000) : Bd P := by
  refine ⟨by rw [h.l]; exact secsOf_q _, by rw [h.len]; exact hg.s, hst, fun s hs => ?_⟩
  rw [h.l] at hs
  unfold secsOf at hs
  obtain ⟨x, hx, rfl⟩ := List.mem_map.1 hs
  have h1 := (h.wf x hx).2
  have h2 := hg.l1
  show 0 ≤ (x.1 : Int) ∧ (x.1 : Int) ≤ 2097152
  omega
theorem HLive.hdOk {h : HeadV} {k o : Nat} {ss : List (Nat × List UInt8)} (hl : HLive Z ss h k o) (hg : Geo Z L ss.length) (ht : h.txn ≤ 4294901759) : HdOk Z h k o (h.txn + 1).toNat := by
  obtain ⟨m, xs, hx, _⟩ := hl.at_
  have hk : k < ss.length := (List.getElem?_eq_some_iff.1 hx).1
  have h0 := hl.t0
  have h1 : (k + 1) * Z ≤ ss.length * Z := Nat.mul_le_mul_right _ hk
  have h2 := hg.sz
  have h3 := hl.le
  have h4 := hg.z1
  rw [Nat.add_mul, Nat.one_mul] at h1
  refine ⟨hl.sec, hl.next, by omega, h0, ht, by omega, ?_, ?_⟩
  · rw [hl.left]; omega
  · rw [hl.left]; omega

/-- Sector i stays used and isn't the head. -/
structure Away (Z : Nat) (ss : List (Nat × List UInt8)) (i : Nat) (P : PV) : Prop where
  used : ∃ s, P.l[i]? = some s ∧ s.st = 2
  hd : P.h = ⟨0, 0, 0, 0⟩ ∨ ∃ k o, HLive Z ss P.h k o ∧ k ≠ i

theorem Away.inv {ss : List (Nat × List UInt8)} {i : Nat} {P : PV} (h : Away Z ss i P) : HInv Z ss P.h := by
  rcases h.hd with h1 | ⟨k, o, h1, _⟩
  · exact Or.inl h1
  · exact Or.inr ⟨k, o, h1⟩

theorem opened_oc {P : PV} {i : Nat} {s : Sc} (hi : P.l[i]? = some s) (ho : opensB (L : Int) s = true) : (P.opened i Z s).l.countP (opensB (L : Int)) + 1 = P.l.countP (opensB (L : Int)) := by
  have h1 := countP_set (opensB (L : Int)) P.l i ⟨2, lastQ P.l + 1, if s.st = 1 then s.er + 1 else s.er⟩ s hi
  have h2 : opensB (L : Int) ⟨2, lastQ P.l + 1, if s.st = 1 then s.er + 1 else s.er⟩ = false := by unfold opensB; simp
  rw [ho, h2] at h1
  simpa [PV.opened] using h1

theorem again_ex (hg : Geo Z L ss0.length) (hlm : LenM M) (i : Nat) : ∀ (f : Nat) (P : PV) (K : List (List (List UInt8))) (ks : List (List UInt8)), P.l.countP (opensB (L : Int)) + ks.length ≤ f →
    Sim Z L ss0 P → Away Z (Stp.runs Z ss0 P.sts) i P → K.length = ss0.length → AllK (KeyOk M) K → (∀ x ∈ ks, KeyOk M x) → total K + ks.length ≤ 1000000 → P.sts.length + P.l.countP (opensB (L : Int)) + ks.length ≤ 1000000 →
    ∃ t b P' K', Again Z L M t P K ks b P' K' ∧ Sim Z L ss0 P' ∧ Away Z (Stp.runs Z ss0 P'.sts) i P' ∧ K'.length = ss0.length ∧ AllK (KeyOk M) K' ∧ total K' ≤ total K + ks.length ∧ (b = true → total K' = total K + ks.length) ∧ P'.sts.length + P'.l.countP (opensB (L : Int)) ≤ P.sts.length + P.l.countP (opensB (L : Int)) + ks.length ∧ P'.l.countP (opensB (L : Int)) ≤ P.l.countP (opensB (L : Int)) := by
  intro f
  induction f with
  | zero =>
    intro P K ks hf hs ha hk hK hx ht hst
    have : ks = [] := List.eq_nil_of_length_eq_zero (by omega)
    subst this
    exact ⟨0, true, P, K, .done P K, hs, ha, hk, hK, by simp, fun _ => by simp, by simp, Nat.le_refl _⟩
  | succ f ih =>
    intro P K ks hf hs ha hk hK hx ht hst
    by_cases hne : ks = []
    · subst hne
      exact ⟨0, true, P, K, .done P K, hs, ha, hk, hK, by simp, fun _ => by simp, by simp, Nat.le_refl _⟩
    · have hbd := hs.bd hg (by omega)
      by_cases hF : fit M P.h ks = []
      · by_cases hno : best (opensB (L : Int)) Sc.er P.l P.l.length = none ∨ lastQ P.l = 4294967295
        · exact ⟨0, false, P, K, .stuck P K ks hne hF ⟨hno, hbd⟩, hs, ha, hk, hK, by omega, (fun h => by cases h), by omega, Nat.le_refl _⟩
        · obtain ⟨j, hj⟩ : ∃ j, best (opensB (L : Int)) Sc.er P.l P.l.length = some j := by
            cases hq : best (opensB (L : Int)) Sc.er P.l P.l.length with
            | none => exact absurd (Or.inl hq) hno
            | some j => exact ⟨j, rfl⟩
          obtain ⟨s, hjs, hos⟩ := Sim.opens hj
          have hq : ¬ lastQ P.l = 4294967295 := fun h => hno (Or.inr h)
          obtain ⟨hs2, hl2, hn2⟩ := hs.opened (by have := hg.z0; omega) hj hjs hq
          have hoc := opened_oc (Z := Z) hjs hos
          have hij : j ≠ i := by
            rintro rfl
            obtain ⟨s', hs', h2⟩ := ha.used
            rw [hjs] at hs'
            cases hs'
            exact hn2 h2
          have hsl : (P.opened j Z s).sts.length = P.sts.length + 1 := by simp [PV.opened]
          obtain ⟨t, b, P', K', h1, h2, h3, h4, h5, h6, h7, h8, h9⟩ := ih (P.opened j Z s) K ks (by omega) hs2 ⟨by
            obtain ⟨s', hs', h2⟩ := ha.used
            exact ⟨s', by show (P.l.set j _)[i]? = _; rw [List.getElem?_set_ne hij]; exact hs', h2⟩, Or.inr ⟨j, 12, hl2, hij⟩⟩ hk hK hx ht (by omega)
          exact ⟨t + 1, b, P', K', .opened t P K ks b P' K' j s hne hF ⟨hj, hjs, hq, hbd⟩ h1, h2, h3, h4, h5, h6, h7, by omega, by omega⟩
      · have htk := fit_takes M P.h ks hF
        obtain ⟨ht1, hroom, k, o, hl⟩ := takes_live ha.inv (by unfold roomL; omega) htk
        have hki : k ≠ i := by
          rcases ha.hd with h0 | ⟨k2, o2, h2, h3⟩
          · have := hl.left
            rw [h0] at hroom
            simp at hroom
            unfold roomL at hroom
            omega
          · have e1 := hl.sec
            have e2 := h2.sec
            omega
        obtain ⟨hft1, hft2, hft3⟩ := fit_take M P.h ks
        have hhd := hl.hdOk (by rw [Stp.runs_len]; exact hg) ht1
        obtain ⟨m, xs, hx2, _⟩ := hl.at_
        have hkl : k < K.length := by rw [hk, ← Stp.runs_len Z P.sts]; exact (List.getElem?_eq_some_iff.1 hx2).1
        obtain ⟨kk, hkk⟩ : ∃ kk, K[k]? = some kk := ⟨_, List.getElem?_eq_getElem hkl⟩
        have hkkl := total_le hkk
        have hfx : ∀ x ∈ fit M P.h ks, KeyOk M x := fun x hx2 => hx x (by rw [hft1] at hx2; exact List.mem_of_mem_take hx2)
        have hnmm : ((fit M P.h ks).map fun x => (keyCh M x).nm) = ((fit M P.h ks).map (keyCh M)).map Ch.nm := by rw [List.map_map]; rfl
        have hmay : ∀ c ∈ ((fit M P.h ks).map fun x => (keyCh M x).nm), c.may = true := by
          rw [hnmm, nm_may]
          intro c hc
          obtain ⟨x, hx3, rfl⟩ := List.mem_map.1 hc
          exact (hfx x hx3).2.1
        have hbl : BlobLen ((fit M P.h ks).map fun x => (keyCh M x).nm) := by
          intro c hc
          obtain ⟨x, hx3, rfl⟩ := List.mem_map.1 hc
          exact hlm.svAt x
        have hrm : roomL ((fit M P.h ks).map fun x => (keyCh M x).nm) = roomL ((fit M P.h ks).map (keyCh M)) := by rw [hnmm, nm_sz]
        have hleft := hl.left
        have hfl : 0 < (fit M P.h ks).length := List.length_pos_iff.2 hF
        obtain ⟨hs2, hl2⟩ := hs.laid hl _ (fit M P.h ks).length _ hmay hbl hft3 (by rw [hrm]; have := hl.le; omega) hhd.txn ht1
        have hts := total_set K k kk (kk ++ fit M P.h ks) hkk
        rw [List.length_append] at hts
        have hsl : ∀ t, (P.laid k o t none (fit M P.h ks).length 0 ((fit M P.h ks).map fun x => (keyCh M x).nm)).sts.length = P.sts.length + 1 := fun t => by simp [PV.laid]
        have hdl : (ks.drop (fit M P.h ks).length).length = ks.length - (fit M P.h ks).length := List.length_drop
        obtain ⟨t, b, P', K', h1, h2, h3, h4, h5, h6, h7, h8, h9⟩ := ih (P.laid k o (P.h.txn + 1).toNat none (fit M P.h ks).length 0 ((fit M P.h ks).map fun x => (keyCh M x).nm)) (K.set k (kk ++ fit M P.h ks)) (ks.drop (fit M P.h ks).length)
          (by show P.l.countP _ + _ ≤ f; omega) hs2 ⟨ha.used, Or.inr ⟨k, _, hl2, hki⟩⟩ (by rw [List.length_set]; exact hk)
          (hK.set k (fun y hy => by
            rcases List.mem_append.1 hy with h1 | h1
            · exact hK kk (List.mem_of_getElem? hkk) y h1
            · exact hfx y h1)) (fun x hx3 => hx x (List.mem_of_mem_drop hx3)) (by omega) (by rw [hsl]; show P.sts.length + 1 + P.l.countP _ + _ ≤ _; omega)
        rw [hsl] at h8
        have hll : (P.laid k o (P.h.txn + 1).toNat none (fit M P.h ks).length 0 ((fit M P.h ks).map fun x => (keyCh M x).nm)).l = P.l := rfl
        rw [hll] at h8 h9
        exact ⟨t + 1, b, P', K', .lay t P K ks b P' K' k o _ kk hne hF hhd hbd hkk (by omega) h1, h2, h3, h4, h5, by omega, fun hb => by have := h7 hb; omega, by omega, h9⟩

theorem unhead_away {P : PV} {i : Nat} {s : Sc} (hh : HInv Z (Stp.runs Z ss0 P.sts) P.h) (hi : P.l[i]? = some s) (h2 : s.st = 2) : Away Z (Stp.runs Z ss0 (P.unhead i).sts) i (P.unhead i) := by
  rw [PV.unhead_sts]
  refine ⟨⟨s, by rw [PV.unhead_l]; exact hi, h2⟩, ?_⟩
  unfold PV.unhead
  by_cases he : (i : Int) = P.h.sec
  · rw [if_pos he]
    exact Or.inl rfl
  · rw [if_neg he]
    rcases hh with h | ⟨k, o, h⟩
    · exact Or.inl h
    · refine Or.inr ⟨k, o, h, ?_⟩
      rintro rfl
      exact he h.sec.symm
theorem Sim.unhead {P : PV} (h : Sim Z L ss0 P) (i : Nat) : Sim Z L ss0 (P.unhead i) := by
  refine ⟨by rw [PV.unhead_sts]; exact h.ok, by rw [PV.unhead_sts, PV.unhead_l]; exact h.l, by rw [PV.unhead_sts]; exact h.wf⟩

/-- What a plan keeps from round to round. -/
structure RInv (Z L : Nat) (ss0 : List (Nat × List UInt8)) (M : Al Sv) (N : Nat) (P : PV) (K : List (List (List UInt8))) : Prop where
  sim : Sim Z L ss0 P
  hd : HInv Z (Stp.runs Z ss0 P.sts) P.h
  kl : K.length = ss0.length
  key : AllK (KeyOk M) K
  tot : total K ≤ N

theorem letGo_st (L i : Nat) (s : Sc) : (goSts L i s).length ≤ 2 := by unfold goSts; split <;> simp
theorem letGo_oc {P : PV} {i : Nat} {s : Sc} (hi : P.l[i]? = some s) : (P.letGo L i s).l.countP (opensB (L : Int)) ≤ P.l.countP (opensB (L : Int)) + 1 := by
  have h1 := countP_set (opensB (L : Int)) P.l i (if (L : Int) ≤ s.er then ⟨1, 0, s.er⟩ else ⟨0, 0, s.er + 1⟩) s hi
  have b1 : ∀ b : Bool, (if b = true then 1 else 0 : Nat) ≤ 1 := fun b => by cases b <;> simp
  have h2 := b1 (opensB (L : Int) (if (L : Int) ≤ s.er then ⟨1, 0, s.er⟩ else ⟨0, 0, s.er + 1⟩))
  show (P.l.set i _).countP _ ≤ _
  omega

theorem clean_ex (hg : Geo Z L ss0.length) (hlm : LenM M) {N : Nat} (hN : N ≤ 3000) (P : PV) (K : List (List (List UInt8))) (h : RInv Z L ss0 M N P K) (hst : P.sts.length ≤ 990000) :
    ∃ t b P' K', Clean Z L M t P K b P' K' ∧ (b = true → RInv Z L ss0 M N P' K' ∧ P'.sts.length ≤ P.sts.length + (66 + N)) := by
  have hoc : P.l.countP (opensB (L : Int)) ≤ 64 := Nat.le_trans List.countP_le_length (by rw [h.sim.len]; exact hg.s)
  cases hb : best usedB Sc.q P.l P.l.length with
  | none => exact ⟨0, false, P, K, Or.inl ⟨hb, rfl, rfl, rfl⟩, fun h => by cases h⟩
  | some i =>
    have hbi := best_is usedB Sc.q P.l P.l.length (Nat.le_refl _)
    rw [hb] at hbi
    obtain ⟨hil, s, hs, hus, _⟩ := hbi
    have hs2 : s.st = 2 := by unfold usedB at hus; simpa using hus
    obtain ⟨kk, hkk⟩ : ∃ kk, K[i]? = some kk := ⟨_, List.getElem?_eq_getElem (by rw [h.kl, ← h.sim.len]; exact hil)⟩
    have hts := total_set K i kk [] hkk
    have htot := h.tot
    simp only [List.length_nil, Nat.add_zero] at hts
    have ha := unhead_away h.hd hs hs2
    obtain ⟨t, b, P2, K2, h1, h2, h3, h4, h5, h6, h7, h8, h9⟩ := again_ex hg hlm i _ (P.unhead i) (K.set i []) kk (Nat.le_refl _) (h.sim.unhead i) ha (by rw [List.length_set]; exact h.kl) (h.key.set i (fun y hy => by cases hy)) (fun x hx => h.key kk (List.mem_of_getElem? hkk) x hx) (by omega) (by rw [PV.unhead_sts, PV.unhead_l]; omega)
    rw [PV.unhead_sts, PV.unhead_l] at h8
    cases b with
    | false => exact ⟨t, false, P2, K2, Or.inr ⟨i, kk, false, P2, K2, hb, hkk, h1, Or.inl ⟨rfl, rfl, rfl, rfl⟩⟩, fun h => by cases h⟩
    | true =>
      obtain ⟨s3, hs3, hs4⟩ := h3.used
      have hbd := h2.bd hg (by omega)
      obtain ⟨hsl, hfar⟩ := h2.letGo (by have := hg.z0; omega) hs3 hs4
      have hgl := letGo_st L i s3
      have hsts : (P2.letGo L i s3).sts.length = P2.sts.length + (goSts L i s3).length := by simp [PV.letGo]
      refine ⟨t, true, P2.letGo L i s3, K2, Or.inr ⟨i, kk, true, P2, K2, hb, hkk, h1, Or.inr ⟨rfl, rfl, ⟨s3, hs3, hbd, rfl⟩, rfl⟩⟩, fun _ => ⟨⟨hsl, ?_, h4, h5, by omega⟩, by omega⟩⟩
      rcases h3.hd with h0 | ⟨k, o, hl, hki⟩
      · exact Or.inl h0
      · refine Or.inr ⟨k, o, hl.sec, hl.next, hl.left, hl.le, hl.ge, hl.t0, hl.t1, ?_⟩
        obtain ⟨m, xs, hx, hr⟩ := hl.at_
        exact ⟨m, xs, by rw [hfar k hki]; exact hx, hr⟩

theorem makeRoom_ex (hg : Geo Z L ss0.length) (hlm : LenM M) {N : Nat} (hN : N ≤ 3000) (P : PV) (K : List (List (List UInt8))) (h : RInv Z L ss0 M N P K) (hst : P.sts.length ≤ 990000) :
    ∃ t b P' K', MakeRoom Z L M t P K b P' K' ∧ (b = true → RInv Z L ss0 M N P' K' ∧ P'.sts.length ≤ P.sts.length + (66 + N)) := by
  by_cases h2 : 2 ≤ P.l.countP (opensB (L : Int))
  · have hbd := h.sim.bd hg (by omega)
    by_cases hno : best (opensB (L : Int)) Sc.er P.l P.l.length = none ∨ lastQ P.l = 4294967295
    · exact ⟨0, false, P, K, Or.inr (Or.inl ⟨h2, ⟨hno, hbd⟩, rfl, rfl, rfl⟩), fun h => by cases h⟩
    · obtain ⟨j, hj⟩ : ∃ j, best (opensB (L : Int)) Sc.er P.l P.l.length = some j := by
        cases hq : best (opensB (L : Int)) Sc.er P.l P.l.length with
        | none => exact absurd (Or.inl hq) hno
        | some j => exact ⟨j, rfl⟩
      obtain ⟨s, hjs, hos⟩ := Sim.opens hj
      have hq : ¬ lastQ P.l = 4294967295 := fun h => hno (Or.inr h)
      obtain ⟨hs2, hl2, hn2⟩ := h.sim.opened (by have := hg.z0; omega) hj hjs hq
      refine ⟨0, true, P.opened j Z s, K, Or.inl ⟨h2, j, s, ⟨hj, hjs, hq, hbd⟩, rfl, rfl, rfl⟩, fun _ => ⟨⟨hs2, Or.inr ⟨j, 12, hl2⟩, h.kl, h.key, h.tot⟩, ?_⟩⟩
      have : (P.opened j Z s).sts.length = P.sts.length + 1 := by simp [PV.opened]
      omega
  · obtain ⟨t, b, P', K', h1, h3⟩ := clean_ex hg hlm hN P K h hst
    exact ⟨t, b, P', K', Or.inr (Or.inr ⟨by omega, h1⟩), h3⟩

theorem rounds_ex (hg : Geo Z L ss0.length) (hlm : LenM M) {N : Nat} (hN : N ≤ 3000) (room : Int) : ∀ (n : Nat) (P : PV) (K : List (List (List UInt8))), RInv Z L ss0 M N P K → P.sts.length + n * (66 + N) ≤ 990000 →
    ∃ b P' K', Rounds Z L M room n P K b P' K' ∧ (b = true → RInv Z L ss0 M N P' K' ∧ P'.sts.length ≤ 1000000 ∧ takesB P'.h room = true)
  | 0, P, K, _, _ => ⟨false, P, K, .out P K, fun h => by cases h⟩
  | n + 1, P, K, h, hst => by
    have hmul : (n + 1) * (66 + N) = n * (66 + N) + (66 + N) := by rw [Nat.add_mul, Nat.one_mul]
    obtain ⟨t, b, P1, K1, h1, h2⟩ := makeRoom_ex hg hlm hN P K h (by omega)
    cases b with
    | false => exact ⟨false, P1, K1, .no n t P K P1 K1 h1, fun h => by cases h⟩
    | true =>
      obtain ⟨h3, h4⟩ := h2 rfl
      cases htk : takesB P1.h room with
      | true => exact ⟨true, P1, K1, .yes n t P K P1 K1 h1 htk, fun _ => ⟨h3, by omega, htk⟩⟩
      | false =>
        obtain ⟨b, P', K', h5, h6⟩ := rounds_ex hg hlm hN room n P1 K1 h3 (by omega)
        exact ⟨b, P', K', .more n t P K P1 K1 b P' K' h1 htk (fun ks hks x hx => (h3.key ks hks x hx).1) h5, h6⟩
end

end Go.Proofs.YtnhfmcijadficaaGreatDoor

/- The walk over blob's Commit, where it is refused, or there is no room. -/
namespace Go.Proofs.YtnhfmcijadficaaGreatDoor
set_option maxRecDepth 100000
open Go.RowKit Go.Maps

set_option maxHeartbeats 4000000 in
theorem commit_refused (s mb p c e Z L : Nat) (M : Al Sv) (h : HeadV) (ss : List (Nat × List UInt8)) (A : Option Addr) (n cap : Nat) (l : List Ch) (E : Int) (w : World) (hS : StoreAt w s mb p c e M h false) (hs : FS w p c e Z L ss)
    (hC : Chs w (Mut s mb p c e) A n cap l) (hn : n ≤ 1048576) (href : refuC l (Z - 12) = E) (hE : E ≠ 0) :
    Calls Tryz.prog 12 #[.pointer (some ⟨s, 0, none⟩), .slice A n cap] w fun e1 w' => e1 = .returned (.int .i64 E) ∧ Below w.heap.size w w' := by
  have hz := hs.bz
  have Hdown := Lib.hid (down_any s p mb h false w hS.blk)
  have s0 : w.cell? ⟨s, 0, none⟩ = some (.pointer (some ⟨p, 0, none⟩)) := hS.blk.cell 0
  have hsl := hS.blk.lt
  have Hbe := Lib.hid (behind_any p c e Z L ss w hs)
  have Hre := Lib.hid (fun W (hW : Below w.heap.size w W) => refusal_any A n cap l (Z - 12) W ((hC.below hW).mono (T := Empty) (fun _ _ h => h.elim)) (by omega) hn)
  rw [href] at Hre
  obtain ⟨V, hV⟩ : ∃ V, V = Z - 12 := ⟨_, rfl⟩
  rw [← hV] at Hbe Hre
  have hEb : (E == 0) = false := by simpa using hE
  clear hS hs hC href hV
  go_enter Tryz.func12, Tryz.ntmps12
  go_wp2_with fail
  refine Hdown.out.mono ?_
  rintro e1 w1 ⟨rfl, rfl⟩
  clear Hdown
  go_wp2_with fail
  refine Hbe.out.mono ?_
  rintro e2 w2 ⟨rfl, hb2⟩
  have Hb2 := Lib.hid hb2
  clear hb2 Hbe
  go_wp2_with fail
  refine (Hre.out w2 Hb2.out).mono ?_
  rintro e3 w3 ⟨rfl, hb3⟩
  have Hb3 := Lib.hid (Hb2.out.trans (hb3.mono Hb2.out.size))
  clear hb3 Hre
  go_wp2_with fail
  go_ret
  exact ⟨rfl, Hb3.out⟩

set_option maxHeartbeats 4000000 in
theorem commit_space (s mb p c e Z L : Nat) (M : Al Sv) (h : HeadV) (ss : List (Nat × List UInt8)) (A : Option Addr) (n cap : Nat) (l : List Ch) (PF : PV) (KF : List (List (List UInt8))) (w : World) (hS : StoreAt w s mb p c e M h false) (hs : FS w p c e Z L ss) (hMark : Mark w) (hM : M.length ≤ 1048500) (hF : FairM M) (hsecs : SecsIn M ss.length)
    (hC : Chs w (Mut s mb p c e) A n cap l) (hn : n ≤ 1048576) (href : refuC l (Z - 12) = 0) (htk : takesB h (roomL l : Int) = false) (hplan : Rounds Z L M (roomL l : Int) (4 * ss.length) ⟨secsOf ss, h, []⟩ (kbsL M ss.length (M.map (·.1))) false PF KF) :
    Calls Tryz.prog 12 #[.pointer (some ⟨s, 0, none⟩), .slice A n cap] w fun e1 w' => e1 = .returned (.int .i64 10) ∧ Below w.heap.size w w' := by
  have hz := hs.bz
  have hr0 := refuC_zero href
  have hln : l.length = n := hC.1
  have hfair := fair_of hr0.2.2.1
  have hl16 : n ≤ 16 := by omega
  have hl0 : 0 < n := by omega
  have hrl := roomL_le l hfair
  rw [hln] at hrl
  have Hdown := Lib.hid (down_any s p mb h false w hS.blk)
  have s0 : w.cell? ⟨s, 0, none⟩ = some (.pointer (some ⟨p, 0, none⟩)) := hS.blk.cell 0
  have hsl := hS.blk.lt
  have Hbe := Lib.hid (behind_any p c e Z L ss w hs)
  have Hre := Lib.hid (fun W (hW : Below w.heap.size w W) => refusal_any A n cap l (Z - 12) W ((hC.below hW).mono (T := Empty) (fun _ _ h => h.elim)) (by omega) hn)
  rw [href] at Hre
  have Hro := Lib.hid (fun W (hW : Below w.heap.size w W) => roomOf_any A n cap l W ((hC.below hW).mono (T := Empty) (fun _ _ h => h.elim)) hfair (by omega))
  obtain ⟨V, hV⟩ : ∃ V, V = Z - 12 := ⟨_, rfl⟩
  obtain ⟨RM, hRM⟩ : ∃ RM, RM = roomL l := ⟨_, rfl⟩
  rw [← hV] at Hbe Hre
  rw [← hRM] at Hro hplan hrl htk
  have HS := Lib.hid hS
  have HFS := Lib.hid hs
  have HMk := Lib.hid hMark
  have HF := Lib.hid hF
  have HSec := Lib.hid hsecs
  have HC := Lib.hid hC
  have Hplan := Lib.hid hplan
  have HRM := Lib.hid hRM
  have Hln := Lib.hid hln
  have Hr0 := Lib.hid hr0
  have Hfair := Lib.hid hfair
  have hcapn : n ≤ cap := hC.2.1
  have hcap2 : cap ≤ 9223372036854775807 := by have := hC.2.2.1; unfold maxLen at this; omega
  clear hS hs hMark hF hsecs hC href hplan hV hRM hln hr0 hfair
  go_enter Tryz.func12, Tryz.ntmps12
  go_wp2_with fail
  refine Hdown.out.mono ?_
  rintro e1 w1 ⟨rfl, rfl⟩
  clear Hdown
  go_wp2_with fail
  refine Hbe.out.mono ?_
  rintro e2 w2 ⟨rfl, hb2⟩
  have Hb2 := Lib.hid hb2
  clear hb2 Hbe
  go_wp2_with fail
  refine (Hre.out w2 Hb2.out).mono ?_
  rintro e3 w3 ⟨rfl, hb3⟩
  have Hb3 := Lib.hid (Hb2.out.trans (hb3.mono Hb2.out.size))
  clear hb3 Hre
  go_wp2_with fail
  refine (Hro.out w3 Hb3.out).mono ?_
  rintro e4 w4 ⟨rfl, hb4⟩
  have Hb4 := Lib.hid (Hb3.out.trans (hb4.mono Hb3.out.size))
  clear hb4 Hro
  go_wp2_with fail
  have Hpl := Lib.hid (plan_made s mb p c e Z L M h false ss (RM : Int) false PF KF w4 (HS.out.below Hb4.out) (HFS.out.below Hb4.out) (HMk.out.below Hb4.out) (by omega) HF.out HSec.out htk Hplan.out)
  refine Hpl.out.mono ?_
  rintro e5 w5 ⟨hpl, hb5⟩
  have he5 : e5 = .returned (.tuple #[.agg #[.pointer none, .map none, .slice none 0 0, .slice none 0 0, .int .i64 0, .int .i64 0, .int .i64 0, .int .u32 0, .slice none 0 0], .int .i64 10]) := by
    rcases hpl with ⟨_, h1⟩ | ⟨h1, _⟩
    · exact h1
    · cases h1
  subst he5
  have Hb5 := Lib.hid (Hb4.out.trans (hb5.mono Hb4.out.size))
  clear hb5 Hpl hpl
  have Hend := Lib.hid ((Hb5.out.trans (((Below.refl w5.heap.size w5).alloc (Nat.le_refl _) (.cells #[.pointer none, .map none, .slice none 0 0, .slice none 0 0, .int .i64 0, .int .i64 0, .int .i64 0, .int .u32 0, .slice none 0 0] 109)).mono Hb5.out.size)))
  go_wp2_with fail
  go_ret
  exact ⟨rfl, Hend.out⟩

end Go.Proofs.YtnhfmcijadficaaGreatDoor

/- A commit on a store that commits have made: it always comes to an end, and the store is one again. -/
namespace Go.Proofs.YtnhfmcijadficaaGreatDoor
set_option maxRecDepth 100000
open Go.RowKit Go.Maps

/-- A store's map, by keys: its blobs may be records, their sectors are there. -/
def OkX (S : Nat) (X : Al (Int × List UInt8)) : Prop := ∀ q ∈ X, q.1.length ≤ 64 ∧ mayB 1 1 (q.1.length : Int) (q.2.2.length : Int) 0 = true ∧ 0 ≤ q.2.1 ∧ q.2.1 < (S : Int)

theorem mem_of_isSome {α : Type} {M : Al α} {k : List UInt8} (h : (afind M k).isSome = true) : ∃ v, afind M k = some v ∧ (k, v) ∈ M := by
  obtain ⟨v, hv⟩ := Option.isSome_iff_exists.1 h
  exact ⟨v, hv, afind_mem hv⟩
theorem okX_put {S : Nat} {X : Al (Int × List UInt8)} (h : OkX S X) (k : List UInt8) (j : Int) (b : List UInt8) (h1 : k.length ≤ 64) (h2 : mayB 1 1 (k.length : Int) (b.length : Int) 0 = true) (h3 : 0 ≤ j ∧ j < (S : Int)) : OkX S (aput X k (j, b)) := by
  intro q hq
  rcases (aput_mem _ _ _ q).1 hq with rfl | ⟨h4, _⟩
  · exact ⟨h1, h2, h3.1, h3.2⟩
  · exact h q h4
theorem okX_del {S : Nat} {X : Al (Int × List UInt8)} (h : OkX S X) (k : List UInt8) : OkX S (adel X k) := fun q hq => h q ((adel_mem X k q).1 hq).1
theorem okX_reSec1 {S : Nat} {X : Al (Int × List UInt8)} (h : OkX S X) (j : Int) (k : List UInt8) (hj : 0 ≤ j ∧ j < (S : Int)) (hk : (afind X k).isSome = true) : OkX S (reSec1 j X k) ∧ ∀ k', (afind X k').isSome = true → (afind (reSec1 j X k) k').isSome = true := by
  obtain ⟨v, hv, hm⟩ := mem_of_isSome hk
  have h1 := h _ hm
  unfold reSec1
  rw [hv]
  exact ⟨okX_put h k j v.2 h1.1 h1.2.1 hj, fun k' h2 => isSome_aput _ _ _ _ h2⟩
theorem okX_reSecL {S : Nat} (j : Int) (hj : 0 ≤ j ∧ j < (S : Int)) : ∀ (ks : List (List UInt8)) (X : Al (Int × List UInt8)), OkX S X → (∀ k ∈ ks, (afind X k).isSome = true) → OkX S (reSecL j X ks) ∧ ∀ k', (afind X k').isSome = true → (afind (reSecL j X ks) k').isSome = true
  | [], X, h, _ => ⟨h, fun _ h => h⟩
  | k :: ks, X, h, hk => by
    obtain ⟨h1, h2⟩ := okX_reSec1 h j k hj (hk k List.mem_cons_self)
    obtain ⟨h3, h4⟩ := okX_reSecL j hj ks (reSec1 j X k) h1 (fun k' hk' => h2 k' (hk k' (List.mem_cons_of_mem _ hk')))
    exact ⟨h3, fun k' h5 => h4 k' (h2 k' h5)⟩
theorem okX_reSecK {S : Nat} : ∀ (K : List (List (List UInt8))) (j : Nat) (X : Al (Int × List UInt8)), j + K.length ≤ S → OkX S X → (∀ ks ∈ K, ∀ k ∈ ks, (afind X k).isSome = true) → OkX S (reSecK j X K) ∧ ∀ k', (afind X k').isSome = true → (afind (reSecK j X K) k').isSome = true
  | [], j, X, _, h, _ => ⟨h, fun _ h => h⟩
  | ks :: K, j, X, hj, h, hk => by
    have hl : (ks :: K).length = K.length + 1 := rfl
    obtain ⟨h1, h2⟩ := okX_reSecL (S := S) (j : Int) ⟨by omega, by omega⟩ ks X h (hk ks List.mem_cons_self)
    obtain ⟨h3, h4⟩ := okX_reSecK K (j + 1) (reSecL (j : Int) X ks) (by omega) h1 (fun ks' hks' k' hk' => h2 k' (hk ks' (List.mem_cons_of_mem _ hks') k' hk'))
    exact ⟨h3, fun k' h5 => h4 k' (h2 k' h5)⟩
theorem size_data (s : ByteArray) : s.data.toList.length = s.size := by rw [Array.length_toList]; rfl
theorem okX_applyL {S : Nat} (k : Nat) (hk : k < S) : ∀ (l : List Ch) (X : Al (Int × List UInt8)), OkX S X → (∀ f ∈ l, f.may = true ∧ f.blob.length = f.n) → OkX S (applyL X l (k : Int))
  | [], X, h, _ => h
  | f :: l, X, h, hf => by
    obtain ⟨h1, h2⟩ := hf f List.mem_cons_self
    refine okX_applyL k hk l (applyA X f k) ?_ (fun g hg => hf g (List.mem_cons_of_mem _ hg))
    unfold applyA
    cases hd : f.del
    · simp only [Bool.false_eq_true, if_false]
      have hfair := f.may_fair h1
      have hrk : f.rk = 1 := by unfold Ch.rk; rw [hd]; rfl
      have hrn : f.rN = f.n := by unfold Ch.rN; rw [hd]; rfl
      unfold Ch.may at h1
      rw [hrk, hrn] at h1
      refine okX_put h _ _ _ (by rw [size_data]; exact hfair.1) ?_ ⟨by omega, by omega⟩
      rw [size_data, h2]
      exact h1
    · simp only [if_true]
      exact okX_del h _

/-- A store that commits have made. -/
structure GoodX (w : World) (s mb p c e Z L : Nat) (M : Al Sv) (h : HeadV) (ss : List (Nat × List UInt8)) : Prop where
  st : StoreAt w s mb p c e M h false
  fs : FS w p c e Z L ss
  mark : Mark w
  ok : OkX ss.length (amap Sv.a M)
  hd : HInv Z ss h
theorem GoodX.below {w w' : World} {s mb p c e Z L : Nat} {M : Al Sv} {h : HeadV} {ss : List (Nat × List UInt8)} (g : GoodX w s mb p c e Z L M h ss) (b : Below w.heap.size w w') : GoodX w' s mb p c e Z L M h ss :=
  ⟨g.st.below b, g.fs.below b, g.mark.below b, g.ok, g.hd⟩

section
variable {w : World} {s mb p c e Z L : Nat} {M : Al Sv} {h : HeadV} {ss : List (Nat × List UInt8)}
theorem GoodX.lenM (g : GoodX w s mb p c e Z L M h ss) : LenM M := fun q hq => (g.st.bl q hq).1.1
theorem GoodX.at_ (g : GoodX w s mb p c e Z L M h ss) {q : List UInt8 × Sv} (hq : q ∈ M) : q.1.length ≤ 64 ∧ mayB 1 1 (q.1.length : Int) (q.2.n : Int) 0 = true ∧ 0 ≤ q.2.sec ∧ q.2.sec < (ss.length : Int) := by
  have h1 : (q.1, q.2.a) ∈ amap Sv.a M := by
    unfold amap
    exact List.mem_map_of_mem (f := fun q : List UInt8 × Sv => (q.1, q.2.a)) hq
  have h2 := g.ok _ h1
  rw [← g.lenM q hq]
  exact h2
theorem GoodX.secsIn (g : GoodX w s mb p c e Z L M h ss) : SecsIn M ss.length := fun q hq => (g.at_ hq).2.2
theorem GoodX.keyOk (g : GoodX w s mb p c e Z L M h ss) {q : List UInt8 × Sv} (hq : q ∈ M) : KeyOk M q.1 := by
  have h1 := g.at_ hq
  have hf := afind_of_mem g.st.map.sorted hq
  have hv := svAt_v hf
  refine ⟨h1.1, ?_, by rw [hf]; rfl⟩
  show mayB 1 1 (((⟨q.1.toArray⟩ : ByteArray).size : Nat) : Int) ((svAt M q.1).n : Int) 0 = true
  rw [hv]
  have e : (⟨q.1.toArray⟩ : ByteArray).size = q.1.length := by simp [ByteArray.size]
  rw [e]
  exact h1.2.1
theorem GoodX.fair (g : GoodX w s mb p c e Z L M h ss) : FairM M := fun q hq => by
  have h1 := (g.keyOk hq).2.1
  have h2 := (keyCh M q.1).may_fair h1
  have hv := svAt_v (afind_of_mem g.st.map.sorted hq)
  refine ⟨(g.at_ hq).1, ?_⟩
  have h3 : (keyCh M q.1).rN = (svAt M q.1).n := rfl
  rw [h3, hv] at h2
  exact h2.2
theorem GoodX.geo (g : GoodX w s mb p c e Z L M h ss) : Geo Z L ss.length := by
  have := g.fs.bz
  exact ⟨by omega, by omega, by omega, by omega, by omega⟩

theorem kbsL_total (S : Nat) (hs : SecsIn M S) (hso : M.Pairwise (fun p q => bytesBefore p.1 q.1 = true)) : ∀ i, i ≤ (M.map (·.1)).length → total (kbsL M S ((M.map (·.1)).take i)) ≤ i
  | 0, _ => by
    rw [List.take_zero, kbsL_nil]
    unfold total
    rw [List.map_replicate]
    simp
  | i + 1, hi => by
    have ih := kbsL_total S hs hso i (by omega)
    obtain ⟨x, hx⟩ : ∃ x, (M.map (·.1))[i]? = some x := ⟨_, List.getElem?_eq_getElem (by omega)⟩
    have htk := take_snoc (M.map (·.1)) i x hx
    obtain ⟨q, hq, rfl⟩ := List.mem_map.1 (List.mem_of_getElem? hx)
    have h1 := hs q hq
    have hv := svAt_v (afind_of_mem hso hq)
    have hj : (svAt M q.1).sec = ((q.2.sec.toNat : Nat) : Int) := by rw [hv]; omega
    obtain ⟨ks, hks⟩ : ∃ ks, (kbsL M S ((M.map (·.1)).take i))[q.2.sec.toNat]? = some ks := ⟨_, List.getElem?_eq_getElem (by rw [kbsL_len]; omega)⟩
    rw [htk, kbsL_snoc M S _ q.1 q.2.sec.toNat ks hj hks]
    have h2 := total_set _ _ ks (ks ++ [q.1]) hks
    rw [List.length_append] at h2
    simp at h2
    omega
theorem GoodX.start (g : GoodX w s mb p c e Z L M h ss) : RInv Z L ss M M.length ⟨secsOf ss, h, []⟩ (kbsL M ss.length (M.map (·.1))) := by
  refine ⟨⟨trivial, rfl, WFs.of_fs g.fs⟩, g.hd, kbsL_len _ _ _, ?_, ?_⟩
  · intro ks hks x hx
    unfold kbsL at hks
    obtain ⟨j, _, rfl⟩ := List.mem_map.1 hks
    obtain ⟨q, hq, rfl⟩ := List.mem_map.1 (List.mem_filter.1 hx).1
    exact g.keyOk hq
  · have h1 := kbsL_total ss.length g.secsIn g.st.map.sorted (M.map (·.1)).length (Nat.le_refl _)
    rw [List.take_length, List.length_map] at h1
    exact h1
end

/-- What a commit comes to. -/
def Outcome (s mb p c e Z L : Nat) (M : Al Sv) (h : HeadV) (ss : List (Nat × List UInt8)) (l : List Ch) (w w' : World) (e1 : Ending) : Prop :=
  (refuC l (Z - 12) ≠ 0 ∧ e1 = .returned (.int .i64 (refuC l (Z - 12))) ∧ Below w.heap.size w w') ∨
  (refuC l (Z - 12) = 0 ∧ e1 = .returned (.int .i64 10) ∧ Below w.heap.size w w' ∧ takesB h (roomL l : Int) = false ∧ ∃ PF KF, Rounds Z L M (roomL l : Int) (4 * ss.length) ⟨secsOf ss, h, []⟩ (kbsL M ss.length (M.map (·.1))) false PF KF) ∨
  (refuC l (Z - 12) = 0 ∧ e1 = .returned (.int .i64 0) ∧ ∃ (PF : PV) (KF : List (List (List UInt8))) (M' : Al Sv) (h' : HeadV) (ss' : List (Nat × List UInt8)) (k o : Nat), PlanM Z L M h ss (roomL l : Int) PF KF ∧ GoodX w' s mb p c e Z L M' h' ss' ∧ ss'.length = ss.length ∧ amap Sv.a M' = applyL (reSecK 0 (amap Sv.a M) KF) l (k : Int) ∧ M'.length ≤ M.length + 16 ∧
    HLive Z (Stp.runs Z ss PF.sts) PF.h k o ∧ o + roomL l ≤ Z ∧ h' = (PF.laid k o (PF.h.txn + 1).toNat none l.length 0 (l.map Ch.nm)).h ∧ ss' = Stp.runs Z ss (PF.sts ++ [.lay k o (PF.h.txn + 1).toNat none l.length 0 (l.map Ch.nm)]) ∧ AllK (KeyOk M) KF ∧ KF.length ≤ ss.length ∧ Only (Mut s mb p c e) w w' ∧
    Sim Z L ss ⟨secsOf (Stp.runs Z ss PF.sts), PF.h, PF.sts⟩ ∧ secsOf ss' = secsOf (Stp.runs Z ss PF.sts) ∧ (takesB h (roomL l : Int) = false → PF.l = secsOf (Stp.runs Z ss PF.sts)))

theorem commit_any (s mb p c e Z L : Nat) (M : Al Sv) (h : HeadV) (ss : List (Nat × List UInt8)) (A : Option Addr) (n cap : Nat) (l : List Ch) (w : World) (hG : GoodX w s mb p c e Z L M h ss) (hM : M.length ≤ 3000)
    (hC : Chs w (Mut s mb p c e) A n cap l) (hn : n ≤ 1048576) (hT : ∀ q, Three p c e q → q ≠ s ∧ q ≠ mb) (h0 : ¬ Mut s mb p c e 0) (hS : 4 * ss.length * (66 + M.length) ≤ 990000) :
    Calls Tryz.prog 12 #[.pointer (some ⟨s, 0, none⟩), .slice A n cap] w fun e1 w' => Outcome s mb p c e Z L M h ss l w w' e1 := by
  by_cases href : refuC l (Z - 12) = 0
  · have hr0 := refuC_zero href
    have hln := hC.1
    have hgeo := hG.geo
    have hz0 := hgeo.z0
    have hbl : BlobLen (l.map Ch.nm) := by
      intro f hf
      obtain ⟨g, hg, rfl⟩ := List.mem_map.1 hf
      have h1 := (hC.2.2.2.2 g hg).1.1
      unfold Ch.rB Ch.rN Ch.nm
      simp only
      split
      · rfl
      · exact h1
    -- what is done, from a plan whose steps go and whose head takes the commit
    have hdone : ∀ PF KF, PlanM Z L M h ss (roomL l : Int) PF KF → Sim Z L ss ⟨secsOf (Stp.runs Z ss PF.sts), PF.h, PF.sts⟩ → HInv Z (Stp.runs Z ss PF.sts) PF.h → takesB PF.h (roomL l : Int) = true → PF.sts.length ≤ 1000000 → AllK (KeyOk M) KF → total KF ≤ M.length → KF.length ≤ ss.length → (takesB h (roomL l : Int) = false → PF.l = secsOf (Stp.runs Z ss PF.sts)) →
        Calls Tryz.prog 12 #[.pointer (some ⟨s, 0, none⟩), .slice A n cap] w fun e1 w' => Outcome s mb p c e Z L M h ss l w w' e1 := by
      intro PF KF hpl hsim hinv htk hst hkey htot hkl hpl2
      obtain ⟨ht1, hroom, k, o, hl⟩ := takes_live hinv (by unfold roomL; omega) htk
      have hhd := hl.hdOk (by rw [Stp.runs_len]; exact hgeo) ht1
      have hleft := hl.left
      have hle := hl.le
      have hrm : roomL (l.map Ch.nm) = roomL l := nm_sz l
      have hor : o + roomL l ≤ Z := by omega
      obtain ⟨hs2, hl2⟩ := hsim.laid (k := k) (o := o) hl (l.map Ch.nm) l.length (PF.h.txn + 1).toNat ((nm_may l).2 hr0.2.2.1) hbl hr0.2.1 (by rw [hrm]; exact hor) hhd.txn ht1
      have hoks : Stp.Oks Z L ss (PF.sts ++ [.lay k o (PF.h.txn + 1).toNat none l.length 0 (l.map Ch.nm)]) := hs2.ok
      rw [hln] at hoks
      obtain ⟨m, xs, hx2, _⟩ := hl.at_
      have hkS : k < ss.length := by rw [← Stp.runs_len Z PF.sts]; exact (List.getElem?_eq_some_iff.1 hx2).1
      refine (commit_done s mb p c e Z L M h ss A n cap l PF KF k o (PF.h.txn + 1).toNat w hG.st hG.fs hG.mark (by omega) hG.fair hG.secsIn hC hn href hpl hhd hst hoks (fun ks hks => ⟨?_, fun x hx => (hkey ks hks x hx).2.2⟩) (by have := hgeo.s; omega) hT (fun h1 => h0 (Or.inr (Or.inr h1)))).mono ?_
      · obtain ⟨j, hj, rfl⟩ := List.mem_iff_getElem.1 hks
        have h1 := total_le (List.getElem?_eq_getElem hj)
        omega
      · rintro e1 w' ⟨rfl, ⟨M', hM', hX', hl'⟩, hF', hO'⟩
        have hrl : (Stp.runs Z ss (PF.sts ++ [Stp.lay k o (PF.h.txn + 1).toNat none n 0 (l.map Ch.nm)])).length = ss.length := Stp.runs_len _ _ _
        refine Or.inr (Or.inr ⟨href, rfl, PF, KF, M', _, _, k, o, hpl, ⟨hM', hF', hG.mark.only hO' h0, ?_, ?_⟩, hrl, hX', by omega, hl, hor, by rw [← hln], by rw [← hln], hkey, hkl, hO', hsim, by rw [← hln]; exact hs2.l.symm, hpl2⟩)
        · rw [hrl, hX']
          refine okX_applyL k hkS l _ (okX_reSecK KF 0 _ (by omega) hG.ok (fun ks hks x hx => ?_)).1 (fun f hf => ⟨hr0.2.2.1 f hf, (hC.2.2.2.2 f hf).1.1⟩)
          have h1 := (hkey ks hks x hx).2.2
          rw [afind_map, Option.isSome_map]
          exact h1
        · rw [← hln]
          exact Or.inr ⟨k, _, hl2⟩
    cases htk : takesB h (roomL l : Int) with
    | true => exact hdone ⟨[], h, []⟩ [] (Or.inl ⟨htk, rfl, rfl⟩) hG.start.sim hG.hd htk (by simp) (fun ks hks => by cases hks) (by simp [total]) (by simp) (fun hq => by rw [htk] at hq; cases hq)
    | false =>
      obtain ⟨b, PF, KF, h1, h2⟩ := rounds_ex hgeo hG.lenM (N := M.length) hM (roomL l : Int) (4 * ss.length) _ _ hG.start (by simpa using hS)
      cases b with
      | false =>
        refine (commit_space s mb p c e Z L M h ss A n cap l PF KF w hG.st hG.fs hG.mark (by omega) hG.fair hG.secsIn hC hn href htk h1).mono ?_
        rintro e1 w' ⟨rfl, hb⟩
        exact Or.inr (Or.inl ⟨href, rfl, hb, htk, PF, KF, h1⟩)
      | true =>
        obtain ⟨h3, h4, h5⟩ := h2 rfl
        exact hdone PF KF (Or.inr ⟨htk, h1⟩) (by rw [← h3.sim.l]; exact h3.sim) h3.hd h5 h4 h3.key h3.tot (by rw [h3.kl]; exact Nat.le_refl _) (fun _ => h3.sim.l)
  · refine (commit_refused s mb p c e Z L M h ss A n cap l _ w hG.st hG.fs hC hn rfl href).mono ?_
    rintro e1 w' ⟨rfl, hb⟩
    exact Or.inl ⟨href, rfl, hb⟩

end Go.Proofs.YtnhfmcijadficaaGreatDoor

/- Mount of a flash none of whose sectors is used. -/
namespace Go.Proofs.YtnhfmcijadficaaGreatDoor
set_option maxRecDepth 100000
open Go.RowKit Go.Maps

set_option maxHeartbeats 1000000 in
theorem ins_none (A : Option Addr) (cap : Nat) (f : Value) (w : World) : Calls Tryz.prog 139 #[.slice A 0 cap, .int .i64 0, .int .i64 0, f] w fun e w' => e = .returned (.tuple #[]) ∧ w = w' := by
  go_enter Tryz.func139, Tryz.ntmps139
  go_wp2_with fail
  refine wp_loop_rounds 1 ?_
  rw [rounds_succ]
  go_wp2_with fail
  go_end0
  exact ⟨rfl, rfl⟩

set_option maxHeartbeats 1000000 in
theorem stable_none (A : Option Addr) (cap : Nat) (f : Value) (w : World) : Calls Tryz.prog 71 #[.slice A 0 cap, f] w fun e w' => e = .returned (.tuple #[]) ∧ w = w' := by
  have H : Calls Tryz.prog 112 #[.slice A 0 cap, .int .i64 0, f] w fun e w' => e = .returned (.tuple #[]) ∧ w = w' := by
    have Hi := Lib.hid (ins_none A cap f w)
    go_enter Tryz.func112, Tryz.ntmps112
    go_wp2_with fail
    refine wp_loop_rounds 1 ?_
    rw [rounds_succ]
    go_wp2_with fail
    refine Hi.out.mono ?_
    rintro e1 w1 ⟨rfl, rfl⟩
    go_wp2_with fail
    refine wp_loop_rounds 1 ?_
    rw [rounds_succ]
    go_wp2_with fail
    go_end0
    exact ⟨rfl, rfl⟩
  have HH := Lib.hid H
  clear H
  go_enter Tryz.func71, Tryz.ntmps71
  go_wp2_with fail
  refine HH.out.mono ?_
  rintro e1 w1 ⟨rfl, rfl⟩
  go_wp2_with fail
  go_end0
  exact ⟨rfl, rfl⟩

set_option maxHeartbeats 2000000 in
theorem usedRow_none (A : Option Addr) (n cap : Nat) (l : List Sc) (w : World) (hS : Secs w Empty A n cap l) (hno : ∀ s ∈ l, s.st ≠ 2) (hn : n ≤ 1048576) :
    Calls Tryz.prog 36 #[.slice A n cap] w fun e w' => e = .returned (.slice none 0 0) ∧ Below w.heap.size w w' := by
  have HS := Lib.hid hS
  have Hno := Lib.hid hno
  have hncap : n ≤ cap := hS.2.1
  have hcap2 : cap ≤ 9223372036854775807 := by have := hS.2.2.1; unfold maxLen at this; omega
  have Hst := Lib.hid (stable_none none 0)
  clear hS hno
  go_enter Tryz.func36, Tryz.ntmps36
  go_wp2_with fail
  have hb0 := (Below.refl w.heap.size w).alloc (Nat.le_refl _) (.cells #[.slice A n cap] 84)
  have Hb0 := Lib.hid hb0
  clear hb0
  go_loopw [3, 8] (fun r v wr => ∃ i : Nat, i ≤ n ∧ v = .int .i64 (i : Int) ∧ r = .slice none 0 0 ∧ Hid (Below w.heap.size w wr)) (fun _ v _ => n - (intOf v).toNat)
  case atStart => exact ⟨0, Nat.zero_le _, rfl, rfl, Hb0⟩
  case round =>
    obtain ⟨i, hi, rfl, rfl, HB⟩ := hrel
    by_cases hlt : i < n
    · obtain ⟨b, o, s, rfl, hb, -, hf, hc⟩ := RowSl.at_ (cells := Sc.cells) (k := 3) (HS.out.only (Only.of_below (S := Empty) HB.out) (fun _ _ h => h)) hlt
      have hst := Hno.out s (List.mem_of_getElem? hf)
      have hst2 : (s.st == 2) = false := by simpa using hst
      have c0 : wr.cell? ⟨b, o + i * 3, none⟩ = some (.int .i64 s.st) := hc 0 (by omega)
      have c1 : wr.cell? ⟨b, o + i * 3 + 1, none⟩ = some (.int .u32 s.q) := hc 1 (by omega)
      have c2 : wr.cell? ⟨b, o + i * 3 + 2, none⟩ = some (.int .i64 s.er) := hc 2 (by omega)
      have Hal := Lib.hid (HB.out.trans (((Below.refl wr.heap.size wr).alloc (Nat.le_refl _) (.cells #[.int .i64 s.st, .int .u32 s.q, .int .i64 s.er] 96)).mono HB.out.size))
      clear hc hf hst
      go_wp2_with fail
      go_roundw
      case rel => exact ⟨i + 1, by omega, by simp, rfl, Hal⟩
      case measure => simp [intOf]; omega
    · have hin : i = n := by omega
      subst hin
      go_wp2_with fail
      refine (Hst.out _ _).mono ?_
      rintro e1 w1 ⟨rfl, rfl⟩
      go_wp2_with fail
      go_ret
      exact ⟨rfl, HB.out⟩

/-- A store as it is made. -/
theorem store_new (w : World) (p c e : Nat) (hT : ∀ q, Three p c e q → q < w.heap.size) :
    StoreAt ((w.alloc (.map #[] 0)).alloc (.cells (storeC p w.heap.size ⟨0, 0, 0, 0⟩ false) 106)) (w.heap.size + 1) w.heap.size p c e [] ⟨0, 0, 0, 0⟩ false := by
  have h1 := Blk.new (w.alloc (.map #[] 0)) 106 (storeC p w.heap.size ⟨0, 0, 0, 0⟩ false)
  refine ⟨by simpa using h1, (StM.made w).alloc _, fun q hq => by cases hq⟩

set_option maxHeartbeats 2000000 in
theorem told_none (p c e cap : Nat) (w : World) (hT : ∀ q, Three p c e q → q < w.heap.size) :
    Calls Tryz.prog 37 #[.pointer (some ⟨p, 0, none⟩), .slice none 0 cap] w fun e1 w' => (∃ s mb, e1 = .returned (.tuple #[.pointer (some ⟨s, 0, none⟩), .int .i64 0]) ∧ StoreAt w' s mb p c e [] ⟨0, 0, 0, 0⟩ false ∧ w.heap.size ≤ s ∧ w.heap.size ≤ mb) ∧ Below w.heap.size w w' := by
  have HN := Lib.hid (store_new w p c e hT)
  have Hb := Lib.hid (((Below.refl w.heap.size w).alloc (Nat.le_refl _) (.map #[] 0)).alloc (by simp) (.cells (storeC p w.heap.size ⟨0, 0, 0, 0⟩ false) 106))
  have hmm := @run_makeMap Tryz.prog
  unfold storeC at HN Hb
  clear hT
  go_enter Tryz.func37, Tryz.ntmps37
  go_wp2_with fail
  refine wp_loop_rounds 1 ?_
  rw [rounds_succ]
  go_wp2_with fail
  go_ret2
  exact ⟨⟨_, _, rfl, HN.out, by omega, Nat.le_refl _⟩, Hb.out⟩

/-- How a Mount ends that lets no sector go. -/
def Mounted (p c e Z L : Nat) (ss : List (Nat × List UInt8)) (w w' : World) (e1 : Ending) : Prop :=
  (∃ s mb, e1 = .returned (.tuple #[.pointer (some ⟨s, 0, none⟩), .int .i64 0]) ∧ GoodX w' s mb p c e Z L [] ⟨0, 0, 0, 0⟩ ss ∧ w.heap.size ≤ s ∧ w.heap.size ≤ mb) ∧ Below w.heap.size w w'

set_option maxHeartbeats 4000000 in
theorem mount_none (p c e Z L : Nat) (ss : List (Nat × List UInt8)) (w : World) (hs : FS w p c e Z L ss) (hMark : Mark w) (hno : ∀ x ∈ ss, stU x.2 = false) (hfree : 0 < (secsOf ss).countP (opensB (L : Int))) :
    Calls Tryz.prog 10 #[.pointer (some ⟨p, 0, none⟩)] w fun e1 w' => Mounted p c e Z L ss w w' e1 := by
  have hz := hs.bz
  have hg := geo_field2 (ss.length : Int) (Z : Int) (L : Int)
  have Hlook := Lib.hid (look_any p c e Z L ss w hs hMark)
  have hnu : ∀ x ∈ secsOf ss, x.st ≠ 2 := fun x hx => by
    unfold secsOf at hx
    obtain ⟨y, hy, rfl⟩ := List.mem_map.1 hx
    have h1 := hno y hy
    show stS y.2 ≠ 2
    rcases stS_cases y.2 with ⟨_, h2⟩ | ⟨h2, _⟩ | ⟨h2, _⟩
    · rw [h1] at h2; cases h2
    · rw [h2]; decide
    · rw [h2]; decide
  have HS := Lib.hid hs
  have HM := Lib.hid hMark
  have Hnu := Lib.hid hnu
  obtain ⟨n, hn⟩ : ∃ n, n = ss.length := ⟨_, rfl⟩
  obtain ⟨fr, hfr⟩ : ∃ fr, fr = (secsOf ss).countP (opensB (L : Int)) := ⟨_, rfl⟩
  rw [← hn] at Hlook hg
  rw [← hfr] at hfree
  have hfrl : fr ≤ 64 := by rw [hfr]; exact Nat.le_trans List.countP_le_length (by rw [secsOf_len]; omega)
  have hnb : n ≤ 64 := by omega
  have Hn := Lib.hid hn
  have Hfr := Lib.hid hfr
  clear hs hMark hno hnu hn hfr hz
  go_enter Tryz.func10, Tryz.ntmps10
  go_wp2_with fail
  refine Hlook.out.mono ?_
  rintro e1 w1 ⟨⟨A, cap, rfl, hG⟩, hb1⟩
  have HG := Lib.hid hG
  have Hb1 := Lib.hid hb1
  have Hur := Lib.hid (usedRow_none A n cap (secsOf ss) w1 hG.row Hnu.out (by omega))
  clear hG hb1 Hlook
  go_wp2_with fail
  refine Hur.out.mono ?_
  rintro e2 w2 ⟨rfl, hb2⟩
  have Hb2 := Lib.hid (Hb1.out.trans (hb2.mono Hb1.out.size))
  have HG2 := Lib.hid (HG.out.below Sc.cells_len hb2)
  have Hto := Lib.hid (told_none p c e 0 w2 (fun q hq => by have := HS.out.three_lt hq; have := Hb2.out.size; omega))
  clear hb2 Hur
  go_wp2_with fail
  refine Hto.out.mono ?_
  rintro e3 w3 ⟨⟨s, mb, rfl, hSt, hsw, hmw⟩, hb3⟩
  have Hb3 := Lib.hid (Hb2.out.trans (hb3.mono Hb2.out.size))
  have HG3 := Lib.hid (HG2.out.below Sc.cells_len hb3)
  have HSt := Lib.hid hSt
  have Hgeo := Lib.hid ((HS.out.below Hb3.out).geo)
  rw [← Hn.out] at Hgeo
  have Hfree := Lib.hid (fun W (hW : Below w3.heap.size w3 W) => free_any A n cap (secsOf ss) (L : Int) W ((HG3.out.below Sc.cells_len hW).row) (by omega))
  rw [← Hfr.out] at Hfree
  clear hSt hb3 Hto
  go_wp2_with fail
  refine Hgeo.out.mono ?_
  rintro e4 w4 ⟨rfl, hb4⟩
  have HSt4 := Lib.hid (HSt.out.below hb4)
  have Hb4 := Lib.hid (Hb3.out.trans (hb4.mono Hb3.out.size))
  have Hf4 := Lib.hid (Hfree.out w4 hb4)
  clear hb4 Hgeo Hfree
  go_wp2_with fail
  refine Hf4.out.mono ?_
  rintro e5 w5 ⟨rfl, hb5⟩
  have HSt5 := Lib.hid (HSt4.out.below hb5)
  have Hb5 := Lib.hid (Hb4.out.trans (hb5.mono Hb4.out.size))
  have hs2 : w.heap.size ≤ s := by have := Hb2.out.size; omega
  have hm2 : w.heap.size ≤ mb := by have := Hb2.out.size; omega
  clear hb5 Hf4
  go_wp2_with fail
  go_ret2
  exact ⟨⟨s, mb, rfl, ⟨HSt5.out, HS.out.below Hb5.out, HM.out.below Hb5.out, (fun q hq => by cases hq), Or.inl rfl⟩, hs2, hm2⟩, Hb5.out⟩

end Go.Proofs.YtnhfmcijadficaaGreatDoor
