/- What a sector's bytes tell, behind each step. -/
import Derived.Test.YtnhfmcijadficaaGreatDoorZaw
import Derived.Test.YtnhfmcijadficaaGreatDoorZau
import Derived.Test.YtnhfmcijadficaaGreatDoorZax
import Derived.Test.YtnhfmcijadficaaGreatDoorZbd
namespace Go.Proofs.YtnhfmcijadficaaGreatDoor
set_option maxRecDepth 100000
open Go.RowKit

theorem parse_take (xs : List UInt8) (h : 12 ≤ xs.length) : parseC xs = parseC (xs.take 12) ∧ parseH xs = parseH (xs.take 12) := by
  have hl : (xs.take 12).length = 12 := by rw [List.length_take]; omega
  have e1 : (xs.take 12).take 2 = xs.take 2 := by rw [List.take_take]; rfl
  have e2 : (xs.take 12).take 6 = xs.take 6 := by rw [List.take_take]; rfl
  have e3 : ((xs.take 12).drop 6).take 2 = (xs.drop 6).take 2 := by rw [List.drop_take, List.take_take]; rfl
  have e4 : ((xs.take 12).drop 2).take 4 = (xs.drop 2).take 4 := by rw [List.drop_take, List.take_take]; rfl
  have e5 : (xs.take 12)[8]? = xs[8]? := by rw [List.getElem?_take, if_pos (by omega)]
  have e6 : (xs.take 12)[9]? = xs[9]? := by rw [List.getElem?_take, if_pos (by omega)]
  have hC : parseC xs = parseC (xs.take 12) := by
    unfold parseC
    rw [if_neg (show ¬ xs.length < 12 by omega), if_neg (show ¬ (xs.take 12).length < 12 by omega), e1, e2, e3]
  refine ⟨hC, ?_⟩
  unfold parseH
  rw [← hC, e4, e5, e6]
theorem st_take {xs ys : List UInt8} (h : 12 ≤ xs.length) (h2 : 12 ≤ ys.length) (he : xs.take 12 = ys.take 12) : stU xs = stU ys ∧ stQ xs = stQ ys := by
  have a := parse_take xs h
  have b := parse_take ys h2
  have hu : stU xs = stU ys := by unfold stU; rw [a.1, a.2, b.1, b.2, he]
  refine ⟨hu, ?_⟩
  unfold stQ
  rw [hu, a.2, b.2, he]
theorem stU_void2 {xs : List UInt8} (h : xs[9]? = some 0) : stU xs = false := by
  unfold stU parseH
  by_cases hc : parseC xs = 0
  · rw [if_pos hc, h]
    simp
  · simp [hc]
theorem stU_mark2 {xs : List UInt8} (h : xs[0]? = some 255) : stU xs = false := by
  have h2 : xs.take 2 ≠ [67, 66] := by
    intro e
    have e0 := congrArg (fun l => l[0]?) e
    simp only [List.getElem?_take] at e0
    rw [if_pos (by omega), h] at e0
    simp at e0
  have hc : parseC xs ≠ 0 := by
    unfold parseC
    rw [if_neg h2]
    split <;> decide
  unfold stU
  simp [hc]
theorem stQ_lt (xs : List UInt8) : 0 ≤ stQ xs ∧ stQ xs ≤ 4294967295 := by
  unfold stQ
  split
  · unfold parseH
    split
    · have h1 := getV_lt ((xs.drop 2).take 4)
      have h2 : ((xs.drop 2).take 4).length ≤ 4 := by rw [List.length_take]; omega
      have h3 : 256 ^ ((xs.drop 2).take 4).length ≤ 256 ^ 4 := Nat.pow_le_pow_right (by omega) h2
      simp only
      have : (256 : Nat) ^ 4 = 4294967296 := by decide
      omega
    · simp
  · omega
theorem stS_cases (xs : List UInt8) : (stS xs = 2 ∧ stU xs = true) ∨ (stS xs = 0 ∧ stU xs = false ∧ xs.count 255 = xs.length) ∨ (stS xs = 1 ∧ stU xs = false ∧ ¬ xs.count 255 = xs.length) := by
  unfold stS
  cases h : stU xs
  · by_cases h2 : xs.count 255 = xs.length
    · exact Or.inr (Or.inl ⟨by simp [h2], rfl, h2⟩)
    · exact Or.inr (Or.inr ⟨by simp [h2], rfl, h2⟩)
  · exact Or.inl ⟨by simp, rfl⟩

theorem openB_all (Z s : Nat) (h : 12 ≤ Z) : (openB Z s).length = Z ∧ (∀ j, (openB Z s)[j]? = if j = 8 then some 0 else if j < 8 then (headB s)[j]? else if j < Z then some 255 else none) := by
  have h1 : (splice (List.replicate Z 255) 0 (headB s)).length = Z := by rw [splice_len _ _ _ (by rw [headB_len]; simp; omega), List.length_replicate]
  refine ⟨?_, fun j => ?_⟩
  · unfold openB
    rw [splice_len _ _ _ (by rw [h1]; simp; omega), h1]
  · unfold openB
    rw [splice_get _ _ _ _ (by rw [h1]; simp; omega), splice_get _ _ _ _ (by rw [headB_len]; simp; omega), headB_len, List.getElem?_replicate]
    by_cases h8 : j = 8
    · subst h8; rfl
    · rw [if_neg h8, if_neg (by simp; omega)]
      by_cases hl : j < 8
      · rw [if_pos (by omega), if_pos hl, Nat.sub_zero]
      · rw [if_neg (by omega), if_neg hl]
theorem openB_take (Z s : Nat) (h : 12 ≤ Z) : (openB Z s).take 12 = headB s ++ [0, 255, 255, 255] := by
  apply List.ext_getElem?
  intro j
  rw [List.getElem?_take, (openB_all Z s h).2, List.getElem?_append, headB_len]
  by_cases h1 : j < 8
  · rw [if_pos (by omega), if_neg (by omega), if_pos h1, if_pos h1]
  · by_cases h2 : j < 12
    · rw [if_pos h2]
      have h3 : j = 8 ∨ j = 9 ∨ j = 10 ∨ j = 11 := by omega
      rcases h3 with rfl | rfl | rfl | rfl
      · rfl
      · rw [if_neg (by omega), if_neg h1, if_pos (by omega), if_neg h1]; rfl
      · rw [if_neg (by omega), if_neg h1, if_pos (by omega), if_neg h1]; rfl
      · rw [if_neg (by omega), if_neg h1, if_pos (by omega), if_neg h1]; rfl
    · rw [if_neg h2, if_neg h1, List.getElem?_eq_none]
      show 4 ≤ j - 8
      omega
theorem open_st (Z s : Nat) (h : 12 ≤ Z) (hs : s ≤ 4294967295) : stU (openB Z s) = true ∧ stQ (openB Z s) = (s : Int) ∧ stS (openB Z s) = 2 := by
  have hl : 12 ≤ (headB s ++ [0, 255, 255, 255]).length := by simp [headB_len]
  have ht := st_take (xs := openB Z s) (ys := headB s ++ [0, 255, 255, 255]) (by rw [(openB_all Z s h).1]; exact h) hl (by rw [openB_take Z s h, List.take_of_length_le (by simp [headB_len])])
  have e1 : (headB s ++ [0, 255, 255, 255]).take 2 = [67, 66] := rfl
  have e6 : (headB s ++ [0, 255, 255, 255]).take 6 = head6 s := by
    rw [List.take_append_of_le_length (by rw [headB_len]; omega)]
    unfold headB
    rw [List.take_append_of_le_length (by rw [head6_len]; omega), List.take_of_length_le (by rw [head6_len]; omega)]
  have e3 : ((headB s ++ [0, 255, 255, 255]).drop 6).take 2 = putL (crc16 (head6 s)).toNat 2 := by
    rw [List.drop_append_of_le_length (by rw [headB_len]; omega), List.take_append_of_le_length (by rw [List.length_drop, headB_len]; omega)]
    unfold headB
    rw [List.drop_append_of_le_length (by rw [head6_len]; omega), List.drop_of_length_le (by rw [head6_len]; omega), List.nil_append, List.take_of_length_le (by rw [putL_len]; omega)]
  have e4 : ((headB s ++ [0, 255, 255, 255]).drop 2).take 4 = putL s 4 := by
    rw [List.drop_append_of_le_length (by rw [headB_len]; omega), List.take_append_of_le_length (by rw [List.length_drop, headB_len]; omega)]
    unfold headB head6
    rw [List.append_assoc]
    show (putL s 4 ++ _).take 4 = _
    rw [List.take_append_of_le_length (by rw [putL_len]; omega), List.take_of_length_le (by rw [putL_len]; omega)]
  have e8 : (headB s ++ [0, 255, 255, 255])[8]? = some 0 := by rw [List.getElem?_append_right (by rw [headB_len]; omega), headB_len]; rfl
  have e9 : (headB s ++ [0, 255, 255, 255])[9]? = some 255 := by rw [List.getElem?_append_right (by rw [headB_len]; omega), headB_len]; rfl
  have hC : parseC (headB s ++ [0, 255, 255, 255]) = 0 := by
    unfold parseC
    rw [if_neg (by omega), if_pos e1, e3, e6, getV_putL, if_pos]
    exact Nat.mod_eq_of_lt (crc16 (head6 s)).isLt
  have hu : stU (headB s ++ [0, 255, 255, 255]) = true := by
    unfold stU parseH
    rw [if_pos hC, e8, e9, hC]
    simp
  have hq : stQ (headB s ++ [0, 255, 255, 255]) = (s : Int) := by
    unfold stQ parseH
    rw [if_pos hu, if_pos hC, e4, getV_putL]
    simp only
    have : s % 2 ^ (8 * 4) = s := Nat.mod_eq_of_lt (by omega)
    rw [this]
  refine ⟨ht.1.trans hu, ht.2.trans hq, ?_⟩
  unfold stS
  rw [ht.1, hu, if_pos rfl]
theorem blank_st (Z : Nat) (h : 12 ≤ Z) : stU (List.replicate Z 255) = false ∧ stQ (List.replicate Z 255) = 0 ∧ stS (List.replicate Z 255) = 0 := by
  have hu : stU (List.replicate Z (255 : UInt8)) = false := stU_mark2 (by rw [List.getElem?_replicate, if_pos (by omega)])
  refine ⟨hu, ?_, ?_⟩
  · unfold stQ; rw [hu]; rfl
  · unfold stS; rw [hu]; simp
theorem void_st (xs : List UInt8) (h : 12 ≤ xs.length) : stU (splice xs 9 [0]) = false ∧ stQ (splice xs 9 [0]) = 0 ∧ stS (splice xs 9 [0]) = 1 := by
  have h9 : (splice xs 9 [0])[9]? = some 0 := by rw [splice_get _ _ _ _ (by simp; omega), if_pos (by simp)]; rfl
  have hu := stU_void2 h9
  refine ⟨hu, ?_, ?_⟩
  · unfold stQ; rw [hu]; rfl
  · rcases stS_cases (splice xs 9 [0]) with ⟨_, h2⟩ | ⟨_, _, h2⟩ | ⟨h1, _⟩
    · rw [hu] at h2; cases h2
    · have := List.count_eq_length.1 h2 0 (List.mem_of_getElem? h9)
      cases this
    · exact h1
/-- What is laid behind a header doesn't change what it tells. -/
theorem lay_st (xs ys : List UInt8) (o : Nat) (ho : 12 ≤ o) (h : o + ys.length ≤ xs.length) : stU (splice xs o ys) = stU xs ∧ stQ (splice xs o ys) = stQ xs := by
  refine st_take (by rw [splice_len _ _ _ h]; omega) (by omega) ?_
  apply List.ext_getElem?
  intro j
  rw [List.getElem?_take, List.getElem?_take]
  by_cases hj : j < 12
  · rw [if_pos hj, if_pos hj, splice_get _ _ _ _ h, if_neg (by omega)]
  · rw [if_neg hj, if_neg hj]
theorem stS_used {xs : List UInt8} (h : stU xs = true) : stS xs = 2 := by unfold stS; rw [if_pos h]

theorem secsOf_len (ss : List (Nat × List UInt8)) : (secsOf ss).length = ss.length := by simp [secsOf]
theorem secsOf_set (ss : List (Nat × List UInt8)) (i : Nat) (x : Nat × List UInt8) : secsOf (ss.set i x) = (secsOf ss).set i (secOf x) := by simp [secsOf, List.map_set]
theorem secsOf_at {ss : List (Nat × List UInt8)} {i : Nat} {s : Sc} (h : (secsOf ss)[i]? = some s) : ∃ m xs, ss[i]? = some (m, xs) ∧ s = ⟨stS xs, stQ xs, (m : Int)⟩ := by
  unfold secsOf at h
  rw [List.getElem?_map] at h
  cases hq : ss[i]? with
  | none => rw [hq] at h; cases h
  | some x =>
    rw [hq] at h
    obtain ⟨m, xs⟩ := x
    exact ⟨m, xs, rfl, by simpa [secOf] using h.symm⟩
theorem secsOf_q (ss : List (Nat × List UInt8)) : Q32 (secsOf ss) := by
  intro s hs
  unfold secsOf at hs
  obtain ⟨x, _, rfl⟩ := List.mem_map.1 hs
  exact stQ_lt x.2

end Go.Proofs.YtnhfmcijadficaaGreatDoor

/- A plan's steps against the flash: what the plan tells of its sectors is what they are behind its steps. -/
namespace Go.Proofs.YtnhfmcijadficaaGreatDoor
set_option maxRecDepth 100000
open Go.RowKit Go.Maps

/-- Sectors of a flash. -/
def WFs (Z L : Nat) (ss : List (Nat × List UInt8)) : Prop := ∀ x ∈ ss, x.2.length = Z ∧ x.1 ≤ L
theorem WFs.at_ {Z L : Nat} {ss : List (Nat × List UInt8)} (h : WFs Z L ss) {i m : Nat} {xs : List UInt8} (hi : ss[i]? = some (m, xs)) : xs.length = Z ∧ m ≤ L := h _ (List.mem_of_getElem? hi)
theorem WFs.set {Z L : Nat} {ss : List (Nat × List UInt8)} (h : WFs Z L ss) (i m : Nat) (xs : List UInt8) (h1 : xs.length = Z) (h2 : m ≤ L) : WFs Z L (ss.set i (m, xs)) := by
  intro x hx
  rcases List.mem_or_eq_of_mem_set hx with h3 | rfl
  · exact h x h3
  · exact ⟨h1, h2⟩
theorem WFs.of_fs {w : World} {p c e Z L : Nat} {ss : List (Nat × List UInt8)} (h : FS w p c e Z L ss) : WFs Z L ss := by
  intro x hx
  obtain ⟨i, hi, rfl⟩ := List.mem_iff_getElem.1 hx
  have h1 : ss[i]? = some (ss[i].1, ss[i].2) := List.getElem?_eq_getElem hi
  exact ⟨h.len h1, h.le h1⟩

structure Sim (Z L : Nat) (ss0 : List (Nat × List UInt8)) (P : PV) : Prop where
  ok : Stp.Oks Z L ss0 P.sts
  l : P.l = secsOf (Stp.runs Z ss0 P.sts)
  wf : WFs Z L (Stp.runs Z ss0 P.sts)
/-- A head in whose sector there is room. -/
structure HLive (Z : Nat) (ss : List (Nat × List UInt8)) (h : HeadV) (k o : Nat) : Prop where
  sec : h.sec = (k : Int)
  next : h.next = ((k * Z + o : Nat) : Int)
  left : h.left = ((Z - o : Nat) : Int)
  le : o ≤ Z
  ge : 12 ≤ o
  t0 : 0 ≤ h.txn
  t1 : h.txn ≤ 4294967295
  at_ : ∃ m xs, ss[k]? = some (m, xs) ∧ stU xs = true ∧ Blank xs o (Z - o)
def HInv (Z : Nat) (ss : List (Nat × List UInt8)) (h : HeadV) : Prop := h = ⟨0, 0, 0, 0⟩ ∨ ∃ k o, HLive Z ss h k o

section
variable {Z L : Nat} {ss0 : List (Nat × List UInt8)} {P : PV}
theorem Sim.len (h : Sim Z L ss0 P) : P.l.length = ss0.length := by rw [h.l, secsOf_len, Stp.runs_len]
theorem Sim.opens {i : Nat} (hb : best (opensB (L : Int)) Sc.er P.l P.l.length = some i) : ∃ s, P.l[i]? = some s ∧ opensB (L : Int) s = true := by
  have h1 := best_is (opensB (L : Int)) Sc.er P.l P.l.length (Nat.le_refl _)
  rw [hb] at h1
  exact ⟨_, h1.2.choose_spec.1, h1.2.choose_spec.2.1⟩
theorem opensB_st {L : Nat} {s : Sc} (h : opensB (L : Int) s = true) : s.st = 0 ∨ (s.st = 1 ∧ s.er < (L : Int)) := by
  unfold opensB at h
  simpa using h

theorem Sim.opened (h : Sim Z L ss0 P) (hz : 12 ≤ Z) {i : Nat} {s : Sc} (hb : best (opensB (L : Int)) Sc.er P.l P.l.length = some i) (hi : P.l[i]? = some s) (hq : ¬ lastQ P.l = 4294967295) :
    Sim Z L ss0 (P.opened i Z s) ∧ HLive Z (Stp.runs Z ss0 (P.opened i Z s).sts) (P.opened i Z s).h i 12 ∧ s.st ≠ 2 := by
  obtain ⟨s2, hs2, ho⟩ := Sim.opens hb
  rw [hi] at hs2
  cases hs2
  have hst := opensB_st ho
  have hl := h.l
  rw [hl] at hi
  obtain ⟨m, xs, hx, rfl⟩ := secsOf_at hi
  simp only at hst
  have hwf := h.wf.at_ hx
  have hQ := lastQ_le P.l (by rw [hl]; exact secsOf_q _)
  have hu : stU xs = false := by
    rcases stS_cases xs with ⟨h1, _⟩ | ⟨_, h2, _⟩ | ⟨_, h2, _⟩
    · rw [h1] at hst; omega
    · exact h2
    · exact h2
  have hml : ¬ xs.count 255 = xs.length → m < L := fun hne => by
    rcases stS_cases xs with ⟨h1, _⟩ | ⟨_, _, h2⟩ | ⟨h1, _⟩
    · rw [h1] at hst; omega
    · exact absurd h2 hne
    · rw [h1] at hst; omega
  obtain ⟨q, hqq⟩ : ∃ q : Nat, q = (lastQ P.l + 1).toNat := ⟨_, rfl⟩
  have hq1 : (q : Int) = lastQ P.l + 1 := by omega
  have hq2 : q ≤ 4294967295 := by omega
  have hop := open_st Z q hz hq2
  have hrun : Stp.runs Z ss0 (P.sts ++ [Stp.open_ i q]) = (Stp.runs Z ss0 P.sts).set i (if xs.count 255 = xs.length then m else m + 1, openB Z q) := by
    rw [Stp.runs_snoc]
    show List.set _ i _ = _
    rw [Stp.at_eq hx]
  have hil : i < (Stp.runs Z ss0 P.sts).length := (List.getElem?_eq_some_iff.1 hx).1
  have hopd : P.opened i Z ⟨stS xs, stQ xs, (m : Int)⟩ = ⟨P.l.set i ⟨2, lastQ P.l + 1, if stS xs = 1 then (m : Int) + 1 else (m : Int)⟩, ⟨(i : Int), ((i * Z + 12 : Nat) : Int), ((Z - 12 : Nat) : Int), 0⟩, P.sts ++ [Stp.open_ i q]⟩ := by
    unfold PV.opened
    rw [hqq]
  rw [hopd]
  refine ⟨⟨h.ok.app ⟨⟨m, xs, hx, hu, hml, hq2⟩, trivial⟩, ?_, ?_⟩, ⟨rfl, rfl, rfl, hz, Nat.le_refl _, Int.le_refl _, (by show (0 : Int) ≤ 4294967295; omega), ?_⟩, ?_⟩
  · show P.l.set i _ = _
    rw [hrun, secsOf_set, ← hl]
    congr 1
    show _ = (⟨stS (openB Z q), stQ (openB Z q), _⟩ : Sc)
    rw [hop.2.2, hop.2.1, hq1]
    rcases stS_cases xs with ⟨h1, _⟩ | ⟨h1, _, h2⟩ | ⟨h1, _, h2⟩
    · rw [h1] at hst; omega
    · rw [h1, if_pos h2, if_neg (by decide)]
    · rw [h1, if_neg h2, if_pos rfl]; simp
  · rw [hrun]
    refine h.wf.set _ _ _ (openB_all Z q hz).1 ?_
    split
    · exact hwf.2
    · rename_i h1
      have := hml h1
      omega
  · rw [hrun, List.getElem?_set_self hil]
    refine ⟨_, _, rfl, hop.1, fun j h1 h2 => ?_⟩
    rw [(openB_all Z q hz).2, if_neg (by omega), if_neg (by omega), if_pos (by omega)]
  · show stS xs ≠ 2
    intro h1
    rw [h1] at hst
    omega

/-- Lists whose blobs have their length. -/
def BlobLen (l : List Ch) : Prop := ∀ f ∈ l, f.rB.length = f.rN
theorem commitB_len (l : List Ch) (t : Nat) (h : BlobLen l) : (commitB l t).length = roomL l := by
  unfold commitB
  rw [flat_len, recsL_sum]
  intro r hr
  unfold recsL at hr
  rcases List.mem_append.1 hr with h1 | h1
  · obtain ⟨f, hf, rfl⟩ := List.mem_map.1 h1
    exact h f hf
  · rw [List.mem_singleton.1 h1]
    rfl

theorem Sim.laid (h : Sim Z L ss0 P) {k o : Nat} (hl : HLive Z (Stp.runs Z ss0 P.sts) P.h k o) (l : List Ch) (n t : Nat) (hm : ∀ f ∈ l, f.may = true) (hb : BlobLen l) (hn : n ≤ 16) (hr : o + roomL l ≤ Z) (ht : P.h.txn + 1 = (t : Int)) (ht1 : P.h.txn ≤ 4294901759) :
    Sim Z L ss0 (P.laid k o t none n 0 l) ∧ HLive Z (Stp.runs Z ss0 (P.laid k o t none n 0 l).sts) (P.laid k o t none n 0 l).h k (o + roomL l) := by
  obtain ⟨m, xs, hx, hu, hbl⟩ := hl.at_
  have hwf := h.wf.at_ hx
  have hge := hl.ge
  have ht0 := hl.t0
  have hcl := commitB_len l t hb
  have hrun : Stp.runs Z ss0 (P.sts ++ [Stp.lay k o t none n 0 l]) = (Stp.runs Z ss0 P.sts).set k (m, splice xs o (commitB l t)) := by
    rw [Stp.runs_snoc]
    show List.set _ k _ = _
    rw [Stp.at_eq hx]
  have hkl : k < (Stp.runs Z ss0 P.sts).length := (List.getElem?_eq_some_iff.1 hx).1
  have hfit : o + (commitB l t).length ≤ xs.length := by omega
  have hst := lay_st xs (commitB l t) o hge hfit
  refine ⟨⟨h.ok.app ⟨⟨m, xs, hx, hm, hn, by omega, by omega, hr, fun j h1 h2 => hbl j h1 (by omega)⟩, trivial⟩, ?_, ?_⟩, ⟨hl.sec, ?_, ?_, hr, by omega, ?_, ?_, ?_⟩⟩
  · show P.l = secsOf (Stp.runs Z ss0 (P.sts ++ [Stp.lay k o t none n 0 l]))
    rw [hrun, secsOf_set, h.l]
    have e : secOf (m, splice xs o (commitB l t)) = secOf (m, xs) := by
      show (⟨stS _, stQ _, _⟩ : Sc) = ⟨stS _, stQ _, _⟩
      rw [hst.2, stS_used (hst.1.trans hu), stS_used hu]
    rw [e]
    apply List.ext_getElem?
    intro j
    rw [List.getElem?_set]
    split
    · rename_i h1
      subst h1
      rw [if_pos (by rw [secsOf_len]; exact hkl)]
      unfold secsOf
      rw [List.getElem?_map, hx]
      rfl
    · rfl
  · show WFs Z L (Stp.runs Z ss0 (P.sts ++ [Stp.lay k o t none n 0 l]))
    rw [hrun]
    exact h.wf.set _ _ _ (by rw [splice_len _ _ _ hfit]; exact hwf.1) hwf.2
  · show P.h.next + (roomL l : Int) = _
    rw [hl.next]
    omega
  · show P.h.left - (roomL l : Int) = _
    rw [hl.left]
    omega
  · show 0 ≤ P.h.txn + 1
    omega
  · show P.h.txn + 1 ≤ _
    omega
  · show ∃ m xs, (Stp.runs Z ss0 (P.sts ++ [Stp.lay k o t none n 0 l]))[k]? = some (m, xs) ∧ _
    rw [hrun, List.getElem?_set_self hkl]
    refine ⟨_, _, rfl, hst.1.trans hu, ?_⟩
    have h1 := hbl.behind (commitB l t) (by omega) (by omega)
    rw [hcl] at h1
    have e : Z - o - roomL l = Z - (o + roomL l) := by omega
    rw [e] at h1
    exact h1

theorem Sim.letGo (h : Sim Z L ss0 P) (hz : 12 ≤ Z) {i : Nat} {s : Sc} (hi : P.l[i]? = some s) (hs : s.st = 2) :
    Sim Z L ss0 (P.letGo L i s) ∧ ∀ j, j ≠ i → (Stp.runs Z ss0 (P.letGo L i s).sts)[j]? = (Stp.runs Z ss0 P.sts)[j]? := by
  have hl := h.l
  rw [hl] at hi
  obtain ⟨m, xs, hx, rfl⟩ := secsOf_at hi
  have hwf := h.wf.at_ hx
  have hil : i < (Stp.runs Z ss0 P.sts).length := (List.getElem?_eq_some_iff.1 hx).1
  have hv := void_st xs (by omega)
  have hrun1 : Stp.run Z (Stp.runs Z ss0 P.sts) (.void i) = (Stp.runs Z ss0 P.sts).set i (m, splice xs 9 [0]) := by
    show List.set _ i _ = _
    rw [Stp.at_eq hx]
  have hvl : (splice xs 9 [0]).length = Z := by rw [splice_len _ _ _ (by simp; omega)]; exact hwf.1
  by_cases hL : (L : Int) ≤ (m : Int)
  · have hgo : P.letGo L i ⟨stS xs, stQ xs, (m : Int)⟩ = ⟨P.l.set i ⟨1, 0, (m : Int)⟩, P.h, P.sts ++ [Stp.void i]⟩ := by
      unfold PV.letGo goSts
      rw [if_pos hL, if_pos hL]
    have hrun : Stp.runs Z ss0 (P.sts ++ [Stp.void i]) = (Stp.runs Z ss0 P.sts).set i (m, splice xs 9 [0]) := by rw [Stp.runs_snoc, hrun1]
    rw [hgo]
    refine ⟨⟨h.ok.app ⟨⟨m, xs, hx⟩, trivial⟩, ?_, ?_⟩, fun j hj => ?_⟩
    · show P.l.set i _ = _
      rw [hrun, secsOf_set, ← hl]
      congr 1
      show _ = (⟨stS _, stQ _, _⟩ : Sc)
      rw [hv.2.2, hv.2.1]
    · show WFs Z L (Stp.runs Z ss0 (P.sts ++ [Stp.void i]))
      rw [hrun]
      exact h.wf.set _ _ _ hvl hwf.2
    · show (Stp.runs Z ss0 (P.sts ++ [Stp.void i]))[j]? = _
      rw [hrun, List.getElem?_set_ne (fun e => hj e.symm)]
  · have hgo : P.letGo L i ⟨stS xs, stQ xs, (m : Int)⟩ = ⟨P.l.set i ⟨0, 0, (m : Int) + 1⟩, P.h, P.sts ++ [Stp.void i, Stp.erase i]⟩ := by
      unfold PV.letGo goSts
      rw [if_neg hL, if_neg hL]
    have hb := blank_st Z hz
    have hx1 : ((Stp.runs Z ss0 P.sts).set i (m, splice xs 9 [0]))[i]? = some (m, splice xs 9 [0]) := List.getElem?_set_self hil
    have hrun : Stp.runs Z ss0 (P.sts ++ [Stp.void i, Stp.erase i]) = (Stp.runs Z ss0 P.sts).set i (m + 1, List.replicate Z 255) := by
      rw [Stp.runs_app]
      show Stp.run Z (Stp.run Z (Stp.runs Z ss0 P.sts) (.void i)) (.erase i) = _
      rw [hrun1]
      show List.set _ i _ = _
      rw [Stp.at_eq hx1, List.set_set]
    rw [hgo]
    refine ⟨⟨h.ok.app ⟨⟨m, xs, hx⟩, ⟨m, splice xs 9 [0], by rw [hrun1]; exact hx1, by omega⟩, trivial⟩, ?_, ?_⟩, fun j hj => ?_⟩
    · show P.l.set i _ = _
      rw [hrun, secsOf_set, ← hl]
      congr 1
      show _ = (⟨stS _, stQ _, ((m + 1 : Nat) : Int)⟩ : Sc)
      rw [hb.2.2, hb.2.1]
      simp
    · show WFs Z L (Stp.runs Z ss0 (P.sts ++ [Stp.void i, Stp.erase i]))
      rw [hrun]
      exact h.wf.set _ _ _ (by simp) (by omega)
    · show (Stp.runs Z ss0 (P.sts ++ [Stp.void i, Stp.erase i]))[j]? = _
      rw [hrun, List.getElem?_set_ne (fun e => hj e.symm)]
end

end Go.Proofs.YtnhfmcijadficaaGreatDoor

/- Making room always comes to an end: the plain half. -/
namespace Go.Proofs.YtnhfmcijadficaaGreatDoor
set_option maxRecDepth 100000
open Go.RowKit Go.Maps

structure Geo (Z L S : Nat) : Prop where
  z0 : 64 ≤ Z
  z1 : Z ≤ 65536
  s : S ≤ 64
  sz : S * Z ≤ 4194304
  l1 : L ≤ 1048576
/-- What a key must be so that its put may be laid. -/
def KeyOk (M : Al Sv) (k : List UInt8) : Prop := k.length ≤ 64 ∧ (keyCh M k).may = true ∧ (afind M k).isSome = true
def LenM (M : Al Sv) : Prop := ∀ q ∈ M, q.2.xs.length = q.2.n
theorem LenM.svAt {M : Al Sv} (h : LenM M) (k : List UInt8) : (svAt M k).xs.length = (svAt M k).n := by
  unfold Go.Proofs.YtnhfmcijadficaaGreatDoor.svAt
  cases hf : afind M k with
  | none => rfl
  | some f => exact h _ (afind_mem hf)
def AllK (q : List UInt8 → Prop) (K : List (List (List UInt8))) : Prop := ∀ ks ∈ K, ∀ x ∈ ks, q x
def total (K : List (List (List UInt8))) : Nat := (K.map List.length).sum

theorem countP_set {α : Type} (p : α → Bool) (l : List α) (i : Nat) (x s : α) (hi : l[i]? = some s) : (l.set i x).countP p + (if p s then 1 else 0) = l.countP p + (if p x then 1 else 0) := by
  induction l generalizing i with
  | nil => simp at hi
  | cons a l ih =>
    cases i with
    | zero =>
      simp at hi
      subst hi
      rw [List.set_cons_zero, List.countP_cons, List.countP_cons]
      omega
    | succ i =>
      simp at hi
      rw [List.set_cons_succ, List.countP_cons, List.countP_cons]
      have := ih i hi
      omega
theorem total_set (K : List (List (List UInt8))) (i : Nat) (kk x : List (List UInt8)) (hi : K[i]? = some kk) : total (K.set i x) + kk.length = total K + x.length := by
  unfold total
  induction K generalizing i with
  | nil => simp at hi
  | cons a l ih =>
    cases i with
    | zero =>
      simp at hi
      subst hi
      rw [List.set_cons_zero, List.map_cons, List.map_cons, List.sum_cons, List.sum_cons]
      omega
    | succ i =>
      simp at hi
      rw [List.set_cons_succ, List.map_cons, List.map_cons, List.sum_cons, List.sum_cons]
      have := ih i hi
      omega
theorem total_le {K : List (List (List UInt8))} {i : Nat} {kk : List (List UInt8)} (hi : K[i]? = some kk) : kk.length ≤ total K := by
  have := total_set K i kk [] hi
  simp at this
  omega
theorem AllK.set {q : List UInt8 → Prop} {K : List (List (List UInt8))} (h : AllK q K) (i : Nat) {x : List (List UInt8)} (hx : ∀ y ∈ x, q y) : AllK q (K.set i x) := by
  intro ks hks
  rcases List.mem_or_eq_of_mem_set hks with h1 | rfl
  · exact h ks h1
  · exact hx

theorem takes_mono {h : HeadV} {a b : Int} (hab : b ≤ a) (ht : takesB h a = true) : takesB h b = true := by
  unfold takesB at ht ⊢
  simp at ht ⊢
  omega
theorem fitL_takes (M : Al Sv) (h : HeadV) : ∀ (ks : List (List UInt8)) (r : Nat), fitL M h r ks ≠ [] → takesB h ((r + ((fitL M h r ks).map fun k => (keyCh M k).sz).sum : Nat) : Int) = true
  | [], _, hne => absurd rfl hne
  | k :: ks, r, hne => by
    unfold fitL at hne ⊢
    split at hne
    · rename_i h1
      rw [if_pos h1, List.map_cons, List.sum_cons]
      by_cases he : fitL M h (r + (keyCh M k).sz) ks = []
      · rw [he]
        simpa using h1
      · have h2 := fitL_takes M h ks (r + (keyCh M k).sz) he
        have e : r + ((keyCh M k).sz + ((fitL M h (r + (keyCh M k).sz) ks).map fun k => (keyCh M k).sz).sum) = r + (keyCh M k).sz + ((fitL M h (r + (keyCh M k).sz) ks).map fun k => (keyCh M k).sz).sum := by omega
        rw [e]
        exact h2
    · exact absurd rfl hne
theorem fit_takes (M : Al Sv) (h : HeadV) (ks : List (List UInt8)) (hne : fit M h ks ≠ []) : takesB h (roomL ((fit M h ks).map (keyCh M)) : Int) = true := by
  have h1 := fitL_takes M h (ks.take 16) 16 hne
  unfold roomL
  rw [List.map_map]
  exact h1

theorem takes_live {Z : Nat} {ss : List (Nat × List UInt8)} {h : HeadV} {room : Int} (hh : HInv Z ss h) (hr : 0 < room) (ht : takesB h room = true) : h.txn ≤ 4294901759 ∧ room ≤ h.left ∧ ∃ k o, HLive Z ss h k o := by
  unfold takesB at ht
  simp at ht
  rcases hh with rfl | hl
  · simp at ht
    omega
  · exact ⟨ht.1, ht.2, hl⟩

section
variable {Z L : Nat} {ss0 : List (Nat × List UInt8)} {M : Al Sv}
theorem Sim.bd {P : PV} (h : Sim Z L ss0 P) (hg : Geo Z L ss0.length) (hst : P.sts.length ≤ 1000000) : Bd P := by
  refine ⟨by rw [h.l]; exact secsOf_q _, by rw [h.len]; exact hg.s, hst, fun s hs => ?_⟩
  rw [h.l] at hs
  unfold secsOf at hs
  obtain ⟨x, hx, rfl⟩ := List.mem_map.1 hs
  have h1 := (h.wf x hx).2
  have h2 := hg.l1
  show 0 ≤ (x.1 : Int) ∧ (x.1 : Int) ≤ 2097152
  omega
theorem HLive.hdOk {h : HeadV} {k o : Nat} {ss : List (Nat × List UInt8)} (hl : HLive Z ss h k o) (hg : Geo Z L ss.length) (ht : h.txn ≤ 4294901759) : HdOk Z h k o (h.txn + 1).toNat := by
  obtain ⟨m, xs, hx, _⟩ := hl.at_
  have hk : k < ss.length := (List.getElem?_eq_some_iff.1 hx).1
  have h0 := hl.t0
  have h1 : (k + 1) * Z ≤ ss.length * Z := Nat.mul_le_mul_right _ hk
  have h2 := hg.sz
  have h3 := hl.le
  have h4 := hg.z1
  rw [Nat.add_mul, Nat.one_mul] at h1
  refine ⟨hl.sec, hl.next, by omega, h0, ht, by omega, ?_, ?_⟩
  · rw [hl.left]; omega
  · rw [hl.left]; omega

/-- Sector i stays used and isn't the head. -/
structure Away (Z : Nat) (ss : List (Nat × List UInt8)) (i : Nat) (P : PV) : Prop where
  used : ∃ s, P.l[i]? = some s ∧ s.st = 2
  hd : P.h = ⟨0, 0, 0, 0⟩ ∨ ∃ k o, HLive Z ss P.h k o ∧ k ≠ i

theorem Away.inv {ss : List (Nat × List UInt8)} {i : Nat} {P : PV} (h : Away Z ss i P) : HInv Z ss P.h := by
  rcases h.hd with h1 | ⟨k, o, h1, _⟩
  · exact Or.inl h1
  · exact Or.inr ⟨k, o, h1⟩

theorem opened_oc {P : PV} {i : Nat} {s : Sc} (hi : P.l[i]? = some s) (ho : opensB (L : Int) s = true) : (P.opened i Z s).l.countP (opensB (L : Int)) + 1 = P.l.countP (opensB (L : Int)) := by
  have h1 := countP_set (opensB (L : Int)) P.l i ⟨2, lastQ P.l + 1, if s.st = 1 then s.er + 1 else s.er⟩ s hi
  have h2 : opensB (L : Int) ⟨2, lastQ P.l + 1, if s.st = 1 then s.er + 1 else s.er⟩ = false := by unfold opensB; simp
  rw [ho, h2] at h1
  simpa [PV.opened] using h1

theorem again_ex (hg : Geo Z L ss0.length) (hlm : LenM M) (i : Nat) : ∀ (f : Nat) (P : PV) (K : List (List (List UInt8))) (ks : List (List UInt8)), P.l.countP (opensB (L : Int)) + ks.length ≤ f →
    Sim Z L ss0 P → Away Z (Stp.runs Z ss0 P.sts) i P → K.length = ss0.length → AllK (KeyOk M) K → (∀ x ∈ ks, KeyOk M x) → total K + ks.length ≤ 1000000 → P.sts.length + P.l.countP (opensB (L : Int)) + ks.length ≤ 1000000 →
    ∃ t b P' K', Again Z L M t P K ks b P' K' ∧ Sim Z L ss0 P' ∧ Away Z (Stp.runs Z ss0 P'.sts) i P' ∧ K'.length = ss0.length ∧ AllK (KeyOk M) K' ∧ total K' ≤ total K + ks.length ∧ (b = true → total K' = total K + ks.length) ∧ P'.sts.length + P'.l.countP (opensB (L : Int)) ≤ P.sts.length + P.l.countP (opensB (L : Int)) + ks.length ∧ P'.l.countP (opensB (L : Int)) ≤ P.l.countP (opensB (L : Int)) := by
  intro f
  induction f with
  | zero =>
    intro P K ks hf hs ha hk hK hx ht hst
    have : ks = [] := List.eq_nil_of_length_eq_zero (by omega)
    subst this
    exact ⟨0, true, P, K, .done P K, hs, ha, hk, hK, by simp, fun _ => by simp, by simp, Nat.le_refl _⟩
  | succ f ih =>
    intro P K ks hf hs ha hk hK hx ht hst
    by_cases hne : ks = []
    · subst hne
      exact ⟨0, true, P, K, .done P K, hs, ha, hk, hK, by simp, fun _ => by simp, by simp, Nat.le_refl _⟩
    · have hbd := hs.bd hg (by omega)
      by_cases hF : fit M P.h ks = []
      · by_cases hno : best (opensB (L : Int)) Sc.er P.l P.l.length = none ∨ lastQ P.l = 4294967295
        · exact ⟨0, false, P, K, .stuck P K ks hne hF ⟨hno, hbd⟩, hs, ha, hk, hK, by omega, (fun h => by cases h), by omega, Nat.le_refl _⟩
        · obtain ⟨j, hj⟩ : ∃ j, best (opensB (L : Int)) Sc.er P.l P.l.length = some j := by
            cases hq : best (opensB (L : Int)) Sc.er P.l P.l.length with
            | none => exact absurd (Or.inl hq) hno
            | some j => exact ⟨j, rfl⟩
          obtain ⟨s, hjs, hos⟩ := Sim.opens hj
          have hq : ¬ lastQ P.l = 4294967295 := fun h => hno (Or.inr h)
          obtain ⟨hs2, hl2, hn2⟩ := hs.opened (by have := hg.z0; omega) hj hjs hq
          have hoc := opened_oc (Z := Z) hjs hos
          have hij : j ≠ i := by
            rintro rfl
            obtain ⟨s', hs', h2⟩ := ha.used
            rw [hjs] at hs'
            cases hs'
            exact hn2 h2
          have hsl : (P.opened j Z s).sts.length = P.sts.length + 1 := by simp [PV.opened]
          obtain ⟨t, b, P', K', h1, h2, h3, h4, h5, h6, h7, h8, h9⟩ := ih (P.opened j Z s) K ks (by omega) hs2 ⟨by
            obtain ⟨s', hs', h2⟩ := ha.used
            exact ⟨s', by show (P.l.set j _)[i]? = _; rw [List.getElem?_set_ne hij]; exact hs', h2⟩, Or.inr ⟨j, 12, hl2, hij⟩⟩ hk hK hx ht (by omega)
          exact ⟨t + 1, b, P', K', .opened t P K ks b P' K' j s hne hF ⟨hj, hjs, hq, hbd⟩ h1, h2, h3, h4, h5, h6, h7, by omega, by omega⟩
      · have htk := fit_takes M P.h ks hF
        obtain ⟨ht1, hroom, k, o, hl⟩ := takes_live ha.inv (by unfold roomL; omega) htk
        have hki : k ≠ i := by
          rcases ha.hd with h0 | ⟨k2, o2, h2, h3⟩
          · have := hl.left
            rw [h0] at hroom
            simp at hroom
            unfold roomL at hroom
            omega
          · have e1 := hl.sec
            have e2 := h2.sec
            omega
        obtain ⟨hft1, hft2, hft3⟩ := fit_take M P.h ks
        have hhd := hl.hdOk (by rw [Stp.runs_len]; exact hg) ht1
        obtain ⟨m, xs, hx2, _⟩ := hl.at_
        have hkl : k < K.length := by rw [hk, ← Stp.runs_len Z P.sts]; exact (List.getElem?_eq_some_iff.1 hx2).1
        obtain ⟨kk, hkk⟩ : ∃ kk, K[k]? = some kk := ⟨_, List.getElem?_eq_getElem hkl⟩
        have hkkl := total_le hkk
        have hfx : ∀ x ∈ fit M P.h ks, KeyOk M x := fun x hx2 => hx x (by rw [hft1] at hx2; exact List.mem_of_mem_take hx2)
        have hnmm : ((fit M P.h ks).map fun x => (keyCh M x).nm) = ((fit M P.h ks).map (keyCh M)).map Ch.nm := by rw [List.map_map]; rfl
        have hmay : ∀ c ∈ ((fit M P.h ks).map fun x => (keyCh M x).nm), c.may = true := by
          rw [hnmm, nm_may]
          intro c hc
          obtain ⟨x, hx3, rfl⟩ := List.mem_map.1 hc
          exact (hfx x hx3).2.1
        have hbl : BlobLen ((fit M P.h ks).map fun x => (keyCh M x).nm) := by
          intro c hc
          obtain ⟨x, hx3, rfl⟩ := List.mem_map.1 hc
          exact hlm.svAt x
        have hrm : roomL ((fit M P.h ks).map fun x => (keyCh M x).nm) = roomL ((fit M P.h ks).map (keyCh M)) := by rw [hnmm, nm_sz]
        have hleft := hl.left
        have hfl : 0 < (fit M P.h ks).length := List.length_pos_iff.2 hF
        obtain ⟨hs2, hl2⟩ := hs.laid hl _ (fit M P.h ks).length _ hmay hbl hft3 (by rw [hrm]; have := hl.le; omega) hhd.txn ht1
        have hts := total_set K k kk (kk ++ fit M P.h ks) hkk
        rw [List.length_append] at hts
        have hsl : ∀ t, (P.laid k o t none (fit M P.h ks).length 0 ((fit M P.h ks).map fun x => (keyCh M x).nm)).sts.length = P.sts.length + 1 := fun t => by simp [PV.laid]
        have hdl : (ks.drop (fit M P.h ks).length).length = ks.length - (fit M P.h ks).length := List.length_drop
        obtain ⟨t, b, P', K', h1, h2, h3, h4, h5, h6, h7, h8, h9⟩ := ih (P.laid k o (P.h.txn + 1).toNat none (fit M P.h ks).length 0 ((fit M P.h ks).map fun x => (keyCh M x).nm)) (K.set k (kk ++ fit M P.h ks)) (ks.drop (fit M P.h ks).length)
          (by show P.l.countP _ + _ ≤ f; omega) hs2 ⟨ha.used, Or.inr ⟨k, _, hl2, hki⟩⟩ (by rw [List.length_set]; exact hk)
          (hK.set k (fun y hy => by
            rcases List.mem_append.1 hy with h1 | h1
            · exact hK kk (List.mem_of_getElem? hkk) y h1
            · exact hfx y h1)) (fun x hx3 => hx x (List.mem_of_mem_drop hx3)) (by omega) (by rw [hsl]; show P.sts.length + 1 + P.l.countP _ + _ ≤ _; omega)
        rw [hsl] at h8
        have hll : (P.laid k o (P.h.txn + 1).toNat none (fit M P.h ks).length 0 ((fit M P.h ks).map fun x => (keyCh M x).nm)).l = P.l := rfl
        rw [hll] at h8 h9
        exact ⟨t + 1, b, P', K', .lay t P K ks b P' K' k o _ kk hne hF hhd hbd hkk (by omega) h1, h2, h3, h4, h5, by omega, fun hb => by have := h7 hb; omega, by omega, h9⟩

theorem unhead_away {P : PV} {i : Nat} {s : Sc} (hh : HInv Z (Stp.runs Z ss0 P.sts) P.h) (hi : P.l[i]? = some s) (h2 : s.st = 2) : Away Z (Stp.runs Z ss0 (P.unhead i).sts) i (P.unhead i) := by
  rw [PV.unhead_sts]
  refine ⟨⟨s, by rw [PV.unhead_l]; exact hi, h2⟩, ?_⟩
  unfold PV.unhead
  by_cases he : (i : Int) = P.h.sec
  · rw [if_pos he]
    exact Or.inl rfl
  · rw [if_neg he]
    rcases hh with h | ⟨k, o, h⟩
    · exact Or.inl h
    · refine Or.inr ⟨k, o, h, ?_⟩
      rintro rfl
      exact he h.sec.symm
theorem Sim.unhead {P : PV} (h : Sim Z L ss0 P) (i : Nat) : Sim Z L ss0 (P.unhead i) := by
  refine ⟨by rw [PV.unhead_sts]; exact h.ok, by rw [PV.unhead_sts, PV.unhead_l]; exact h.l, by rw [PV.unhead_sts]; exact h.wf⟩

/-- What a plan keeps from round to round. -/
structure RInv (Z L : Nat) (ss0 : List (Nat × List UInt8)) (M : Al Sv) (N : Nat) (P : PV) (K : List (List (List UInt8))) : Prop where
  sim : Sim Z L ss0 P
  hd : HInv Z (Stp.runs Z ss0 P.sts) P.h
  kl : K.length = ss0.length
  key : AllK (KeyOk M) K
  tot : total K ≤ N

theorem letGo_st (L i : Nat) (s : Sc) : (goSts L i s).length ≤ 2 := by unfold goSts; split <;> simp
theorem letGo_oc {P : PV} {i : Nat} {s : Sc} (hi : P.l[i]? = some s) : (P.letGo L i s).l.countP (opensB (L : Int)) ≤ P.l.countP (opensB (L : Int)) + 1 := by
  have h1 := countP_set (opensB (L : Int)) P.l i (if (L : Int) ≤ s.er then ⟨1, 0, s.er⟩ else ⟨0, 0, s.er + 1⟩) s hi
  have b1 : ∀ b : Bool, (if b = true then 1 else 0 : Nat) ≤ 1 := fun b => by cases b <;> simp
  have h2 := b1 (opensB (L : Int) (if (L : Int) ≤ s.er then ⟨1, 0, s.er⟩ else ⟨0, 0, s.er + 1⟩))
  show (P.l.set i _).countP _ ≤ _
  omega

theorem clean_ex (hg : Geo Z L ss0.length) (hlm : LenM M) {N : Nat} (hN : N ≤ 3000) (P : PV) (K : List (List (List UInt8))) (h : RInv Z L ss0 M N P K) (hst : P.sts.length ≤ 990000) :
    ∃ t b P' K', Clean Z L M t P K b P' K' ∧ (b = true → RInv Z L ss0 M N P' K' ∧ P'.sts.length ≤ P.sts.length + (66 + N)) := by
  have hoc : P.l.countP (opensB (L : Int)) ≤ 64 := Nat.le_trans List.countP_le_length (by rw [h.sim.len]; exact hg.s)
  cases hb : best usedB Sc.q P.l P.l.length with
  | none => exact ⟨0, false, P, K, Or.inl ⟨hb, rfl, rfl, rfl⟩, fun h => by cases h⟩
  | some i =>
    have hbi := best_is usedB Sc.q P.l P.l.length (Nat.le_refl _)
    rw [hb] at hbi
    obtain ⟨hil, s, hs, hus, _⟩ := hbi
    have hs2 : s.st = 2 := by unfold usedB at hus; simpa using hus
    obtain ⟨kk, hkk⟩ : ∃ kk, K[i]? = some kk := ⟨_, List.getElem?_eq_getElem (by rw [h.kl, ← h.sim.len]; exact hil)⟩
    have hts := total_set K i kk [] hkk
    have htot := h.tot
    simp only [List.length_nil, Nat.add_zero] at hts
    have ha := unhead_away h.hd hs hs2
    obtain ⟨t, b, P2, K2, h1, h2, h3, h4, h5, h6, h7, h8, h9⟩ := again_ex hg hlm i _ (P.unhead i) (K.set i []) kk (Nat.le_refl _) (h.sim.unhead i) ha (by rw [List.length_set]; exact h.kl) (h.key.set i (fun y hy => by cases hy)) (fun x hx => h.key kk (List.mem_of_getElem? hkk) x hx) (by omega) (by rw [PV.unhead_sts, PV.unhead_l]; omega)
    rw [PV.unhead_sts, PV.unhead_l] at h8
    cases b with
    | false => exact ⟨t, false, P2, K2, Or.inr ⟨i, kk, false, P2, K2, hb, hkk, h1, Or.inl ⟨rfl, rfl, rfl, rfl⟩⟩, fun h => by cases h⟩
    | true =>
      obtain ⟨s3, hs3, hs4⟩ := h3.used
      have hbd := h2.bd hg (by omega)
      obtain ⟨hsl, hfar⟩ := h2.letGo (by have := hg.z0; omega) hs3 hs4
      have hgl := letGo_st L i s3
      have hsts : (P2.letGo L i s3).sts.length = P2.sts.length + (goSts L i s3).length := by simp [PV.letGo]
      refine ⟨t, true, P2.letGo L i s3, K2, Or.inr ⟨i, kk, true, P2, K2, hb, hkk, h1, Or.inr ⟨rfl, rfl, ⟨s3, hs3, hbd, rfl⟩, rfl⟩⟩, fun _ => ⟨⟨hsl, ?_, h4, h5, by omega⟩, by omega⟩⟩
      rcases h3.hd with h0 | ⟨k, o, hl, hki⟩
      · exact Or.inl h0
      · refine Or.inr ⟨k, o, hl.sec, hl.next, hl.left, hl.le, hl.ge, hl.t0, hl.t1, ?_⟩
        obtain ⟨m, xs, hx, hr⟩ := hl.at_
        exact ⟨m, xs, by rw [hfar k hki]; exact hx, hr⟩

theorem makeRoom_ex (hg : Geo Z L ss0.length) (hlm : LenM M) {N : Nat} (hN : N ≤ 3000) (P : PV) (K : List (List (List UInt8))) (h : RInv Z L ss0 M N P K) (hst : P.sts.length ≤ 990000) :
    ∃ t b P' K', MakeRoom Z L M t P K b P' K' ∧ (b = true → RInv Z L ss0 M N P' K' ∧ P'.sts.length ≤ P.sts.length + (66 + N)) := by
  by_cases h2 : 2 ≤ P.l.countP (opensB (L : Int))
  · have hbd := h.sim.bd hg (by omega)
    by_cases hno : best (opensB (L : Int)) Sc.er P.l P.l.length = none ∨ lastQ P.l = 4294967295
    · exact ⟨0, false, P, K, Or.inr (Or.inl ⟨h2, ⟨hno, hbd⟩, rfl, rfl, rfl⟩), fun h => by cases h⟩
    · obtain ⟨j, hj⟩ : ∃ j, best (opensB (L : Int)) Sc.er P.l P.l.length = some j := by
        cases hq : best (opensB (L : Int)) Sc.er P.l P.l.length with
        | none => exact absurd (Or.inl hq) hno
        | some j => exact ⟨j, rfl⟩
      obtain ⟨s, hjs, hos⟩ := Sim.opens hj
      have hq : ¬ lastQ P.l = 4294967295 := fun h => hno (Or.inr h)
      obtain ⟨hs2, hl2, hn2⟩ := h.sim.opened (by have := hg.z0; omega) hj hjs hq
      refine ⟨0, true, P.opened j Z s, K, Or.inl ⟨h2, j, s, ⟨hj, hjs, hq, hbd⟩, rfl, rfl, rfl⟩, fun _ => ⟨⟨hs2, Or.inr ⟨j, 12, hl2⟩, h.kl, h.key, h.tot⟩, ?_⟩⟩
      have : (P.opened j Z s).sts.length = P.sts.length + 1 := by simp [PV.opened]
      omega
  · obtain ⟨t, b, P', K', h1, h3⟩ := clean_ex hg hlm hN P K h hst
    exact ⟨t, b, P', K', Or.inr (Or.inr ⟨by omega, h1⟩), h3⟩

theorem rounds_ex (hg : Geo Z L ss0.length) (hlm : LenM M) {N : Nat} (hN : N ≤ 3000) (room : Int) : ∀ (n : Nat) (P : PV) (K : List (List (List UInt8))), RInv Z L ss0 M N P K → P.sts.length + n * (66 + N) ≤ 990000 →
    ∃ b P' K', Rounds Z L M room n P K b P' K' ∧ (b = true → RInv Z L ss0 M N P' K' ∧ P'.sts.length ≤ 1000000 ∧ takesB P'.h room = true)
  | 0, P, K, _, _ => ⟨false, P, K, .out P K, fun h => by cases h⟩
  | n + 1, P, K, h, hst => by
    have hmul : (n + 1) * (66 + N) = n * (66 + N) + (66 + N) := by rw [Nat.add_mul, Nat.one_mul]
    obtain ⟨t, b, P1, K1, h1, h2⟩ := makeRoom_ex hg hlm hN P K h (by omega)
    cases b with
    | false => exact ⟨false, P1, K1, .no n t P K P1 K1 h1, fun h => by cases h⟩
    | true =>
      obtain ⟨h3, h4⟩ := h2 rfl
      cases htk : takesB P1.h room with
      | true => exact ⟨true, P1, K1, .yes n t P K P1 K1 h1 htk, fun _ => ⟨h3, by omega, htk⟩⟩
      | false =>
        obtain ⟨b, P', K', h5, h6⟩ := rounds_ex hg hlm hN room n P1 K1 h3 (by omega)
        exact ⟨b, P', K', .more n t P K P1 K1 b P' K' h1 htk (fun ks hks x hx => (h3.key ks hks x hx).1) h5, h6⟩
end

end Go.Proofs.YtnhfmcijadficaaGreatDoor
