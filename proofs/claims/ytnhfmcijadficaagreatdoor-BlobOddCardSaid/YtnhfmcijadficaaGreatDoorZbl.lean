/- What a flash tells behind a commit that was laid. -/
import Derived.Test.YtnhfmcijadficaaGreatDoorZbk
import Derived.Test.YtnhfmcijadficaaGreatDoorZbi
namespace Go.Proofs.YtnhfmcijadficaaGreatDoor
set_option maxRecDepth 100000
open Go.RowKit Go.Maps

theorem recs_may (l : List Ch) (u : Nat) (hl : ∀ f ∈ l, f.may = true) (hn : l.length ≤ 16) (hu : u ≠ 0 ∧ u ≤ 4294967295) (hb : ∀ f ∈ l, f.blob.length = f.n) : ∀ r ∈ (recsL l u).map Rc.rn, r.may := by
  intro r hr
  obtain ⟨q, hq, rfl⟩ := List.mem_map.1 hr
  unfold recsL at hq
  rcases List.mem_append.1 hq with h | h
  · obtain ⟨f, hf, rfl⟩ := List.mem_map.1 h
    refine ⟨?_, hu.2⟩
    have h1 := f.may_rc u (hl f hf) hu.1
    have h2 : f.rB.length = f.rN := by
      unfold Ch.rB Ch.rN
      split
      · rfl
      · exact hb f hf
    have h3 : f.s.data.toList.length = f.s.size := by simp
    show mayB (f.rk : Int) (u : Int) (f.s.data.toList.length : Int) (f.rB.length : Int) 0 = true
    rw [h2, h3]
    exact h1
  · rw [List.mem_singleton] at h
    subst h
    refine ⟨?_, hu.2⟩
    show mayB 3 (u : Int) ((([] : List UInt8).length : Nat) : Int) ((([] : List UInt8).length : Nat) : Int) (l.length : Int) = true
    rw [mayB_iff]
    exact ⟨by omega, Or.inr (Or.inr ⟨rfl, rfl, rfl, by omega, by omega⟩)⟩

/-- What is found where a commit was laid at a sector's end. -/
def Tmore (T : Scans) (k : Nat) (l : List Ch) (u : Nat) : Scans := fun j => if j = k then ((T k).1 ++ fds (T k).2.1 ((recsL l u).map Rc.rn), (T k).2.1 + (commitB l u).length, false) else T j

theorem lay_tells {Z k e u : Nat} {ss : List (Nat × List UInt8)} {xs : List UInt8} {T : Scans} {l : List Ch} (hT : Tells ss T) (hk : ss[k]? = some (e, xs)) (hx : xs.length = Z) (h12 : 12 ≤ Z) (hc : (T k).2.2 = false) (hB : Blank xs (T k).2.1 (Z - (T k).2.1)) (hr : (T k).2.1 + (commitB l u).length ≤ Z)
    (hmay : ∀ r ∈ (recsL l u).map Rc.rn, r.may) : Tells (ss.set k (e, splice xs (T k).2.1 (commitB l u))) (Tmore T k l u) := by
  intro j m ys hj
  by_cases hjk : j = k
  · subst hjk
    rw [List.getElem?_set_self (lt_at hk)] at hj
    cases hj
    obtain ⟨en, hE, hR⟩ := hT j e xs hk
    rw [hc] at hR
    obtain ⟨en', hE'⟩ := IsEnd.exists_ (splice xs (T j).2.1 (commitB l u))
    refine ⟨en', hE', ?_⟩
    unfold Tmore
    rw [if_pos rfl]
    have hlen : (splice xs (T j).2.1 (commitB l u)).length = xs.length := splice_len _ _ _ (by omega)
    have htl : (xs.take (T j).2.1).length = (T j).2.1 := by rw [List.length_take]; omega
    have htk : (splice xs (T j).2.1 (commitB l u)).take (T j).2.1 = xs.take (T j).2.1 := by
      unfold splice
      rw [List.take_append_of_le_length (by omega), List.take_of_length_le (by omega)]
    have hdr : (splice xs (T j).2.1 (commitB l u)).drop (T j).2.1 = laid ((recsL l u).map Rc.rn) ++ List.replicate (Z - ((T j).2.1 + (commitB l u).length)) 255 := by
      unfold splice
      rw [List.drop_append_of_le_length (by omega), List.drop_of_length_le (by omega), List.nil_append, laid_rn]
      congr 1
      rw [List.eq_replicate_iff]
      refine ⟨by rw [List.length_drop]; omega, fun b hb => ?_⟩
      obtain ⟨i, hi⟩ := List.mem_iff_getElem?.1 hb
      rw [List.getElem?_drop] at hi
      have hlt := (List.getElem?_eq_some_iff.1 hi).1
      rw [hB _ (by omega) (by omega)] at hi
      exact (Option.some.inj hi).symm
    have h := runs_more hE' hmay hlen hR rfl (by omega) htk hdr
    rw [laid_rn] at h
    exact h
  · rw [List.getElem?_set_ne (fun h => hjk h.symm)] at hj
    obtain ⟨en, hE, hR⟩ := hT j m ys hj
    refine ⟨en, hE, ?_⟩
    unfold Tmore
    rw [if_neg hjk]
    exact hR

theorem told_keep {T T' : Scans} : ∀ (ks : List Nat) (X : AX), (∀ k ∈ ks, T' k = T k) → ks.foldl (fun X k => readX X (T' k).1 (k : Int)) X = ks.foldl (fun X k => readX X (T k).1 (k : Int)) X
  | [], X, _ => rfl
  | k :: ks, X, h => by
    rw [List.foldl_cons, List.foldl_cons, h k (by simp), told_keep ks _ (fun q hq => h q (by simp [hq]))]

/-- What a row of sectors tells whose last one a commit was laid in. -/
theorem told_more (T : Scans) (ks : List Nat) (k : Nat) (l : List Ch) (u : Nat) (hk : k ∉ ks) (hu : ∀ d ∈ (T k).1, d.t ≠ u) : toldX (Tmore T k l u) (ks ++ [k]) = applyL (toldX T (ks ++ [k])) l (k : Int) := by
  unfold toldX
  rw [fold_snoc, fold_snoc, told_keep (T := T) ks [] (fun q hq => by
    have hne : q ≠ k := fun h => hk (by rw [← h]; exact hq)
    unfold Tmore
    rw [if_neg hne])]
  have h1 : (Tmore T k l u k).1 = (T k).1 ++ fds (T k).2.1 ((recsL l u).map Rc.rn) := by unfold Tmore; rw [if_pos rfl]
  rw [h1, read_more _ _ _ _ _ _ hu]

end Go.Proofs.YtnhfmcijadficaaGreatDoor

/- What a flash tells behind a sector that was opened: the same, and the sector is the row's last. -/
namespace Go.Proofs.YtnhfmcijadficaaGreatDoor
set_option maxRecDepth 100000
open Go.RowKit Go.Maps Go.Sort

def Topen (T : Scans) (i : Nat) : Scans := fun j => if j = i then ([], 12, false) else T j
theorem open_tells {Z i e q : Nat} {ss : List (Nat × List UInt8)} {T : Scans} (hT : Tells ss T) (h12 : 12 ≤ Z) : Tells (ss.set i (e, openB Z q)) (Topen T i) := by
  intro j m ys hj
  by_cases hji : j = i
  · subst hji
    have hlt : j < ss.length := by have := lt_at hj; rw [List.length_set] at this; exact this
    rw [List.getElem?_set_self hlt] at hj
    cases hj
    obtain ⟨en, hE⟩ := IsEnd.exists_ (openB Z q)
    refine ⟨en, hE, ?_⟩
    unfold Topen
    rw [if_pos rfl]
    refine .stop _ _ (end_le hE (fun t h1 h2 => ?_))
    obtain ⟨h3, h4⟩ := openB_all Z q h12
    rw [h4, if_neg (by omega), if_neg (by omega), if_pos (by omega)]
  · rw [List.getElem?_set_ne (fun h => hji h.symm)] at hj
    obtain ⟨en, hE, hR⟩ := hT j m ys hj
    refine ⟨en, hE, ?_⟩
    unfold Topen
    rw [if_neg hji]
    exact hR

section
variable {m : Nat}
theorem usedRow_mem (sl : List Sc) (x : Fin (m + 1)) : x ∈ usedRow m sl ↔ usedP sl x = true := by
  unfold usedRow sortedBy
  rw [List.mem_mergeSort, List.mem_filter]
  simp
theorem usedRow_nodup (sl : List Sc) : (usedRow m sl).Nodup := by
  unfold usedRow sortedBy
  rw [(List.mergeSort_perm _ _).nodup_iff]
  exact (List.nodup_finRange _).filter _
theorem usedRow_sorted (sl : List Sc) : (usedRow m sl).Pairwise (fun x y => (!ltL (seqOf sl) y x) = true) := by
  unfold usedRow sortedBy
  refine List.pairwise_mergeSort (fun x y z h1 h2 => ?_) (fun x y => ?_) _
  · unfold ltL at *
    simp at *
    omega
  · unfold ltL
    simp
    omega

theorem usedRow_open (sl : List Sc) (hl : sl.length = m + 1) (i : Nat) (hi : i < m + 1) (s s' : Sc) (hs : sl[i]? = some s) (hun : usedB s = false) (hu : usedB s' = true) (hq : ∀ x ∈ sl, usedB x = true → x.q < s'.q) :
    usedRow m (sl.set i s') = usedRow m sl ++ [⟨i, hi⟩] := by
  have hne : ∀ x : Fin (m + 1), x.val ≠ i → (sl.set i s')[x.val]? = sl[x.val]? := fun x h => List.getElem?_set_ne (fun e => h e.symm)
  have hii : (sl.set i s')[i]? = some s' := List.getElem?_set_self (by omega)
  have hnot : ∀ x : Fin (m + 1), usedP sl x = true → x.val ≠ i := fun x hx e => by
    unfold usedP at hx
    rw [e, hs] at hx
    simp [hun] at hx
  have hP : ∀ x : Fin (m + 1), usedP (sl.set i s') x = true ↔ usedP sl x = true ∨ x = ⟨i, hi⟩ := fun x => by
    by_cases hx : x.val = i
    · have hxe : x = ⟨i, hi⟩ := Fin.ext hx
      subst hxe
      refine ⟨fun _ => Or.inr rfl, fun _ => ?_⟩
      unfold usedP
      rw [hii]
      simp [hu]
    · have h1 : usedP (sl.set i s') x = usedP sl x := by unfold usedP; rw [hne x hx]
      rw [h1]
      exact ⟨Or.inl, fun h => h.elim id (fun e => absurd (by rw [e]) hx)⟩
  have hS : ∀ x : Fin (m + 1), x.val ≠ i → seqOf (sl.set i s') x = seqOf sl x := fun x hx => by unfold seqOf; rw [hne x hx]
  have hSi : seqOf (sl.set i s') ⟨i, hi⟩ = s'.q := by unfold seqOf; rw [hii]; rfl
  refine List.Perm.eq_of_pairwise (le := fun x y => (!ltL (seqOf (sl.set i s')) y x) = true) ?_ (usedRow_sorted _) ?_ ?_
  · intro a b _ _ h1 h2
    exact ltL_total _ _ _ (by simpa using h2) (by simpa using h1)
  · rw [List.pairwise_append]
    refine ⟨?_, List.pairwise_singleton _ _, ?_⟩
    · refine (usedRow_sorted sl).imp_of_mem (fun ha hb h => ?_)
      have h1 := hnot _ ((usedRow_mem sl _).1 ha)
      have h2 := hnot _ ((usedRow_mem sl _).1 hb)
      unfold ltL at h ⊢
      rw [hS _ h1, hS _ h2]
      exact h
    · intro x hx y hy
      rw [List.mem_singleton] at hy
      subst hy
      have h0 := (usedRow_mem sl x).1 hx
      have h1 := hnot x h0
      have h2 : seqOf sl x < s'.q := by
        unfold usedP at h0
        unfold seqOf
        cases hx2 : sl[x.val]? with
        | none => rw [hx2] at h0; simp at h0
        | some z =>
          rw [hx2] at h0
          simp at h0
          exact hq z (List.mem_of_getElem? hx2) h0
      unfold ltL
      rw [hSi, hS x h1]
      simp
      omega
  · rw [List.perm_ext_iff_of_nodup (usedRow_nodup _)]
    · intro x
      rw [usedRow_mem, hP, List.mem_append, usedRow_mem, List.mem_singleton]
    · rw [List.nodup_append]
      refine ⟨usedRow_nodup _, by simp, fun x hx y hy e => ?_⟩
      rw [List.mem_singleton] at hy
      subst e
      exact hnot x ((usedRow_mem sl x).1 hx) (by rw [hy])
end

end Go.Proofs.YtnhfmcijadficaaGreatDoor

/- What a flash tells behind a commit, where no sector had to be cleaned. -/
namespace Go.Proofs.YtnhfmcijadficaaGreatDoor
set_option maxRecDepth 100000
open Go.RowKit Go.Maps Go.Sort

theorem usedK_nodup (m : Nat) (ss : List (Nat × List UInt8)) : (usedK m ss).Nodup := by
  unfold usedK
  rw [List.nodup_iff_pairwise_ne, List.pairwise_map]
  exact (usedRow_nodup _).imp (fun h e => h (Fin.ext e))

theorem told_head {Z : Nat} {T : Scans} {K : List Nat} {room : Nat} (ht : takesB (toldH Z T K) (room : Int) = true) (hr : 0 < room) :
    ∃ ks k, K = ks ++ [k] ∧ (T k).2.2 = false ∧ toldH Z T K = ⟨(k : Int), ((k * Z + (T k).2.1 : Nat) : Int), ((Z - (T k).2.1 : Nat) : Int), (maxT (T k).1 : Int)⟩ := by
  have hz : ¬ takesB ⟨0, 0, 0, 0⟩ (room : Int) = true := by
    unfold takesB
    simp
    omega
  rcases List.eq_nil_or_concat K with h | ⟨ks, k, h⟩
  · rw [h] at ht
    exact absurd ht hz
  · rw [List.concat_eq_append] at h
    have h1 : toldH Z T K = readH Z k (T k).1 (T k).2.1 (T k).2.2 := by
      rw [h]
      unfold toldH
      rw [fold_snoc]
    cases hc : (T k).2.2 with
    | true =>
      rw [h1, hc] at ht
      exact absurd ht hz
    | false =>
      refine ⟨ks, k, h, hc, ?_⟩
      rw [h1, hc]
      rfl

theorem laid_tells {Z m k e u : Nat} {ss : List (Nat × List UInt8)} {xs : List UInt8} {T : Scans} {l : List Ch} {ks : List Nat} (hT : Tells ss T) (hrow : usedK m ss = ks ++ [k]) (hk : ss[k]? = some (e, xs)) (hx : xs.length = Z) (h12 : 12 ≤ Z) (hc : (T k).2.2 = false)
    (hB : Blank xs (T k).2.1 (Z - (T k).2.1)) (hr : (T k).2.1 + roomL l ≤ Z) (hl : ∀ f ∈ l, f.may = true) (hn : l.length ≤ 16) (hb : ∀ f ∈ l, f.blob.length = f.n) (hu : u ≠ 0 ∧ u ≤ 4294967295) (hd : ∀ d ∈ (T k).1, d.t ≠ u)
    (hsec : secsOf (ss.set k (e, splice xs (T k).2.1 (commitB l u))) = secsOf ss) :
    Tells (ss.set k (e, splice xs (T k).2.1 (commitB l u))) (Tmore T k l u) ∧ toldX (Tmore T k l u) (usedK m (ss.set k (e, splice xs (T k).2.1 (commitB l u)))) = applyL (toldX T (usedK m ss)) l (k : Int) := by
  have hbl : BlobLen l := fun f hf => by
    unfold Ch.rB Ch.rN
    split
    · rfl
    · exact hb f hf
  have hcl := commitB_len l u hbl
  refine ⟨lay_tells hT hk hx h12 hc hB (by omega) (recs_may l u hl hn hu hb), ?_⟩
  have h1 : usedK m (ss.set k (e, splice xs (T k).2.1 (commitB l u))) = usedK m ss := by unfold usedK; rw [hsec]
  rw [h1, hrow]
  refine told_more T ks k l u (fun h => ?_) hd
  have h2 := usedK_nodup m ss
  rw [hrow, List.nodup_append] at h2
  exact h2.2.2 k h k (by simp) rfl

theorem maxT_ge {L : List FD} {d : FD} (h : d ∈ L) : d.t ≤ maxT L := by
  unfold maxT
  suffices ∀ (L : List FD) (a : Nat), a ≤ L.foldl (fun m d => max m d.t) a ∧ ∀ d ∈ L, d.t ≤ L.foldl (fun m d => max m d.t) a from (this L 0).2 d h
  intro L
  induction L with
  | nil => exact fun a => ⟨Nat.le_refl _, fun d h => by cases h⟩
  | cons b L ih =>
    intro a
    rw [List.foldl_cons]
    obtain ⟨i1, i2⟩ := ih (max a b.t)
    refine ⟨by omega, fun d hd => ?_⟩
    rcases List.mem_cons.1 hd with rfl | hd
    · omega
    · exact i2 d hd

theorem read_none (X : AX) (k : Int) : readX X [] k = X := rfl

theorem rounds_more {Z L : Nat} {M : Al Sv} {room : Int} {n : Nat} {P : PV} {K : List (List (List UInt8))} {PF : PV} {KF : List (List (List UInt8))} (h2 : 2 ≤ P.l.countP (opensB (L : Int))) (h : Rounds Z L M room (n + 1) P K true PF KF) : lastQ P.l ≠ 4294967295 := by
  have hm : ∀ t P1 K1, MakeRoom Z L M t P K true P1 K1 → lastQ P.l ≠ 4294967295 := fun t P1 K1 hm => by
    rcases hm with ⟨_, i, s, ho, _⟩ | ⟨_, _, h3, _⟩ | ⟨h3, _⟩
    · exact ho.more
    · cases h3
    · omega
  rcases h.inv with ⟨t, _, h3⟩ | ⟨t, h3, _⟩ | ⟨t, P1, K1, h3, _⟩
  · cases h3
  · exact hm _ _ _ h3
  · exact hm _ _ _ h3

section
variable {w w' : World} {s mb p c e Z L m : Nat} {M : Al Sv} {ss : List (Nat × List UInt8)} {T : Scans}
/-- A commit that asks for no cleaning, and what the flash tells behind it. -/
theorem Outcome.tells {l : List Ch} {e1 : Ending} (hO : Outcome s mb p c e Z L M (toldH Z T (usedK m ss)) ss l w w' e1) (G : GoodX w s mb p c e Z L M (toldH Z T (usedK m ss)) ss) (hT : Tells ss T) (hX0 : amap Sv.a M = toldX T (usedK m ss)) (hm : ss.length = m + 1) (href : refuC l (Z - 12) = 0) (hb : ∀ f ∈ l, f.blob.length = f.n)
    (h2 : 2 ≤ (secsOf ss).countP (opensB (L : Int))) :
    (e1 = .returned (.int .i64 10) ∧ Below w.heap.size w w') ∨ e1 = .returned (.int .i64 0) ∧ ∃ M' h' ss' T', GoodX w' s mb p c e Z L M' h' ss' ∧ Tells ss' T' ∧ ss'.length = ss.length ∧ blobsOf (amap Sv.a M') = applyBL (blobsOf (amap Sv.a M)) l ∧ blobsOf (toldX T' (usedK m ss')) = applyBL (blobsOf (amap Sv.a M)) l ∧ M'.length ≤ M.length + 16 ∧ (secsOf ss).countP (opensB (L : Int)) ≤ (secsOf ss').countP (opensB (L : Int)) + 1 ∧ Only (Mut s mb p c e) w w' := by
  have hr0 := refuC_zero href
  have hX : Srt (blobsOf (amap Sv.a M)) := Srt.amap (Srt.amap G.st.map.sorted _) _
  have hbz := G.fs.bz
  have hroom : 0 < roomL l := by unfold roomL; omega
  rcases hO with ⟨h9, _⟩ | ⟨_, h9, h10, _⟩ | ⟨_, rfl, PF, KF, M', h', ss', k, o, hpl, hG', hss, hX', hM', hl, hor, hh', hs', hkey, hkl, hon, hsim, hsec, -⟩
  · exact absurd href h9
  · exact Or.inl ⟨h9, h10⟩
  · have hbl := blobs_applyL (k : Int) l (toldX T (usedK m ss))
    rw [← hX0] at hbl
    have hmain : blobsOf (amap Sv.a M') = applyBL (blobsOf (amap Sv.a M)) l := by
      rw [hX', blobs_applyL, blobs_reSecK KF 0 hX (fun ks hks k hk => by rw [afind_map, Option.isSome_map]; exact (hkey ks hks k hk).2.2)]
    refine Or.inr ⟨rfl, M', h', ss', ?_⟩
    rw [Stp.runs_snoc] at hs'
    obtain ⟨mm, xs, hxk, hxu, hxb⟩ := hl.at_
    have hrun : Stp.run Z (Stp.runs Z ss PF.sts) (.lay k o (PF.h.txn + 1).toNat none l.length 0 (l.map Ch.nm)) = (Stp.runs Z ss PF.sts).set k (mm, splice xs o (commitB l (PF.h.txn + 1).toNat)) := by
      show List.set _ k _ = _
      rw [Stp.at_eq hxk, nm_commitB]
    rw [hrun] at hs'
    rcases hpl with ⟨ht, rfl, rfl⟩ | ⟨ht, hR⟩
    · obtain ⟨ks, k0, hrow, hc, hhd⟩ := told_head ht hroom
      have hl1 := hl.sec
      have hl2 := hl.next
      have htx := (by unfold takesB at ht; simp at ht; exact ht.1 : (toldH Z T (usedK m ss)).txn ≤ 4294901759)
      simp only at hl1 hl2 hs' hxk hsec
      rw [hhd] at hl1 hl2 hs' htx
      simp only at hl1 hl2 hs' htx
      have hkk : k = k0 := by omega
      subst hkk
      have hoo : o = (T k).2.1 := by omega
      subst hoo
      have htn : ((maxT (T k).1 : Int) + 1).toNat = maxT (T k).1 + 1 := by omega
      rw [htn] at hs'
      have hs2 : ss' = ss.set k (mm, splice xs (T k).2.1 (commitB l (maxT (T k).1 + 1))) := hs'
      have hsec2 : secsOf ss' = secsOf ss := hsec
      have hlen := G.fs.len hxk
      obtain ⟨g1, g2⟩ := laid_tells (l := l) (u := maxT (T k).1 + 1) hT hrow hxk hlen (by omega) hc hxb hor hr0.2.2.1 hr0.2.1 hb ⟨by omega, by omega⟩ (fun d hd => by have := maxT_ge hd; omega) (by rw [← hs2]; exact hsec2)
      rw [← hs2] at g1 g2
      refine ⟨_, hG', g1, hss, hmain, by rw [g2]; rw [← hX0]; exact hbl, hM', ?_, hon⟩
      rw [hsec2]
      exact Nat.le_succ _
    · obtain ⟨n, hn⟩ : ∃ n, 4 * ss.length = n + 1 := ⟨4 * ss.length - 1, by omega⟩
      rw [hn] at hR
      have h3 := h2
      have h4 : lastQ (secsOf ss) ≠ 4294967295 := rounds_more (P := ⟨secsOf ss, toldH Z T (usedK m ss), []⟩) h2 hR
      obtain ⟨-, -, i, s0, hop, hPF⟩ := one_round (P := ⟨secsOf ss, toldH Z T (usedK m ss), []⟩) h3 h4 (by have := hr0.2.2.2.2; omega) hR
      obtain ⟨s1, hs1, ho1⟩ := Sim.opens (L := L) hop.best
      have hq0 := lastQ_pos (secsOf ss)
      have hq1 := lastQ_le (secsOf ss) (secsOf_q _)
      obtain ⟨q, hqq⟩ : ∃ q : Nat, q = (lastQ (secsOf ss) + 1).toNat := ⟨_, rfl⟩
      have hqi : (q : Int) = lastQ (secsOf ss) + 1 := by omega
      have hst := open_st Z q (by omega) (by omega)
      have hil : i < ss.length := by have h8 := (List.getElem?_eq_some_iff.1 hs1).1; rw [secsOf_len] at h8; exact h8
      obtain ⟨e', he'⟩ : ∃ e', Stp.runs Z ss PF.sts = ss.set i (e', openB Z q) := by
        rw [hPF]
        exact ⟨_, by rw [hqq]; rfl⟩
      have hPh : PF.h = ⟨(i : Int), ((i * Z + 12 : Nat) : Int), ((Z - 12 : Nat) : Int), 0⟩ := by rw [hPF]; rfl
      have hl1 := hl.sec
      have hl2 := hl.next
      rw [hPh] at hl1 hl2
      simp only at hl1 hl2
      have hki : k = i := by omega
      subst hki
      have hoo : o = 12 := by omega
      subst hoo
      rw [hPh, he'] at hs'
      rw [he', List.getElem?_set_self hil] at hxk
      cases hxk
      rw [he'] at hsec
      have hun : usedB s1 = false := by
        have h8 := opensB_st ho1
        unfold usedB
        rw [decide_eq_false_iff_not]
        omega
      have hrow : usedK m (ss.set k (mm, openB Z q)) = usedK m ss ++ [k] := by
        unfold usedK
        rw [secsOf_set, usedRow_open (secsOf ss) (by rw [secsOf_len]; exact hm) k (by omega) s1 (secOf (mm, openB Z q)) hs1 hun ?_ ?_, List.map_append]
        · rfl
        · unfold usedB secOf
          rw [hst.2.2]
          rfl
        · intro x hx hxu2
          have h8 := lastQ_ge hx (of_decide_eq_true hxu2)
          show x.q < stQ (openB Z q)
          rw [hst.2.1]
          omega
      have hkn : k ∉ usedK m ss := fun h => by
        have h8 := usedK_nodup m (ss.set k (mm, openB Z q))
        rw [hrow, List.nodup_append] at h8
        exact h8.2.2 k h k (by simp) rfl
      have hT1 : Tells (ss.set k (mm, openB Z q)) (Topen T k) := open_tells hT (by omega)
      have hTk : Topen T k k = ([], 12, false) := by unfold Topen; rw [if_pos rfl]
      have hX1 : toldX (Topen T k) (usedK m (ss.set k (mm, openB Z q))) = toldX T (usedK m ss) := by
        rw [hrow]
        unfold toldX
        rw [fold_snoc, hTk, read_none]
        exact told_keep _ _ (fun j hj => by
          have hne : j ≠ k := fun h => hkn (by rw [← h]; exact hj)
          unfold Topen
          rw [if_neg hne])
      obtain ⟨g1, g2⟩ := laid_tells (l := l) (u := 1) (xs := openB Z q) (e := mm) hT1 hrow (List.getElem?_set_self hil) (openB_all Z q (by omega)).1 (by omega) (by rw [hTk]) (by rw [hTk]; exact hxb) (by rw [hTk]; exact hor) hr0.2.2.1 hr0.2.1 hb ⟨by omega, by omega⟩ (fun d hd => by rw [hTk] at hd; cases hd) (by
        rw [hTk]
        rw [show ((⟨(k : Int), ((k * Z + 12 : Nat) : Int), ((Z - 12 : Nat) : Int), 0⟩ : HeadV).txn + 1).toNat = 1 from rfl] at hs'
        rw [← hs']
        exact hsec)
      rw [hTk] at g1 g2
      rw [show ((⟨(k : Int), ((k * Z + 12 : Nat) : Int), ((Z - 12 : Nat) : Int), 0⟩ : HeadV).txn + 1).toNat = 1 from rfl] at hs'
      rw [← hs'] at g1 g2
      refine ⟨_, hG', g1, hss, hmain, by rw [g2, hX1, ← hX0]; exact hbl, hM', ?_, hon⟩
      rw [hsec, secsOf_set, List.countP_set (by rw [secsOf_len]; exact hil)]
      split <;> split <;> omega
end

end Go.Proofs.YtnhfmcijadficaaGreatDoor

/- Any bytes are programmed at any place of a new flash. -/
namespace Go.Proofs.YtnhfmcijadficaaGreatDoor
set_option maxRecDepth 100000
open Go.RowKit Go.Maps

theorem prog_fresh (p c e S Z L at_ n cap : Nat) (xs : List UInt8) (A : Option Addr) (w : World) (hf : FlashAt w p c e (Fl.fresh S Z L)) (hb : ByteSl w (Three p c e) A n cap xs) (hin : at_ + n ≤ S * Z) :
    Calls Tryz.prog 9 #[.pointer (some ⟨p, 0, none⟩), .int .i64 (at_ : Int), .slice A n cap] w fun e1 w' => e1 = .returned (.int .i64 0) ∧
      (∃ ss, FS w' p c e Z L ss ∧ ss.length = S ∧ ∀ k, k < S → (k * Z + Z ≤ at_ ∨ at_ + n ≤ k * Z) → ss[k]? = some (0, List.replicate Z 255)) ∧ Only (Three p c e) w w' := by
  have hfu : (Fl.fresh S Z L).fuse = -1 := rfl
  have hxl := hb.1
  refine (program_fits p c e at_ n cap _ xs A w hf rfl hb hin ?_).mono fun e1 w' ⟨he, hf2, ho⟩ => ⟨?_, ⟨(List.range S).map fun k => (0, secB ((Fl.fresh S Z L).prog at_ xs).bs k Z), ⟨_, hf2, ?_⟩, by simp, ?_⟩, ho⟩
  · intro j hj
    have h1 : ((Fl.fresh S Z L).bs[at_ + j]?).getD 0 = 255 := by
      show ((List.replicate (S * Z) 255)[at_ + j]?).getD 0 = 255
      rw [List.getElem?_replicate, if_pos (by omega)]
      rfl
    rw [h1]
    exact and_none _
  · rw [he, code_none hfu]
  · unfold Fl.prog
    rw [burn_none hfu, many_none hfu]
    refine ⟨rfl, hfu, by simp; rfl, rfl, rfl, ?_⟩
    intro k m ys hk
    rw [List.getElem?_map] at hk
    by_cases hlt : k < S
    · rw [List.getElem?_range hlt] at hk
      cases hk
      refine ⟨?_, rfl⟩
      show (List.replicate S 0)[k]? = some 0
      rw [List.getElem?_replicate, if_pos hlt]
    · rw [List.getElem?_eq_none (by simp; omega)] at hk
      cases hk
  · intro k hk hfar
    rw [List.getElem?_map, List.getElem?_range hk]
    show some (0, secB ((Fl.fresh S Z L).prog at_ xs).bs k Z) = _
    congr 2
    have hkz : k * Z + Z ≤ S * Z := kz_le hk
    unfold Fl.prog
    rw [burn_none hfu, many_none hfu]
    apply List.ext_getElem?
    intro i
    by_cases hi : i < Z
    · rw [secB_get _ _ _ _ hi, List.getElem?_mapIdx]
      have h1 : (Fl.fresh S Z L).bs[k * Z + i]? = some 255 := by
        show (List.replicate (S * Z) 255)[k * Z + i]? = some 255
        rw [List.getElem?_replicate, if_pos (by omega)]
      rw [h1, List.getElem?_replicate, if_pos hi]
      simp only [Option.map_some]
      unfold tornF
      rw [if_neg (by omega), if_neg (by omega)]
    · unfold secB
      rw [List.getElem?_eq_none (by rw [List.length_take]; omega), List.getElem?_eq_none (by simp; omega)]

theorem blank_opens {Z L : Nat} (h : 12 ≤ Z) : opensB (L : Int) (secOf (0, List.replicate Z 255)) = true := by
  have h1 := (opens_fresh (S := 2) (Z := Z) (L := L) h (by decide)).1
  have h2 : secsOf (freshS 2 Z) = [secOf (0, List.replicate Z 255), secOf (0, List.replicate Z 255)] := rfl
  rw [h2] at h1
  cases h3 : opensB (L : Int) (secOf (0, List.replicate Z 255)) with
  | true => rfl
  | false =>
    simp [List.countP_cons, h3] at h1

theorem count_two {α : Type} {P : α → Bool} {l : List α} {i j : Nat} {a b : α} (hij : i < j) (ha : l[i]? = some a) (hb : l[j]? = some b) (h1 : P a = true) (h2 : P b = true) : 2 ≤ l.countP P := by
  have e : l = l.take j ++ l.drop j := (List.take_append_drop j l).symm
  rw [e, List.countP_append]
  have h3 : a ∈ l.take j := List.mem_of_getElem? (i := i) (by rw [List.getElem?_take, if_pos hij]; exact ha)
  have h4 : b ∈ l.drop j := List.mem_of_getElem? (i := 0) (by rw [List.getElem?_drop, Nat.add_zero]; exact hb)
  have h5 : 0 < (l.take j).countP P := List.countP_pos_iff.2 ⟨a, h3, h1⟩
  have h6 : 0 < (l.drop j).countP P := List.countP_pos_iff.2 ⟨b, h4, h2⟩
  omega

/-- Behind at most 400 bytes at one of the first thousand places two of six sectors are blank. -/
theorem odd_free {ss : List (Nat × List UInt8)} {at_ n L : Nat} (h : ∀ k, k < 6 → (k * 256 + 256 ≤ at_ ∨ at_ + n ≤ k * 256) → ss[k]? = some (0, List.replicate 256 255)) (ha : at_ ≤ 1000) (hn : n ≤ 400) : 2 ≤ (secsOf ss).countP (opensB (L : Int)) := by
  have ho := blank_opens (Z := 256) (L := L) (by decide)
  have hs : ∀ k : Nat, ss[k]? = some (0, List.replicate 256 255) → (secsOf ss)[k]? = some (secOf (0, List.replicate 256 255)) := fun k hk => by
    unfold secsOf
    rw [List.getElem?_map, hk]
    rfl
  by_cases h5 : 512 ≤ at_
  · exact count_two (i := 0) (j := 1) (by decide) (hs 0 (h 0 (by decide) (by omega))) (hs 1 (h 1 (by decide) (by omega))) ho ho
  · exact count_two (i := 4) (j := 5) (by decide) (hs 4 (h 4 (by decide) (by omega))) (hs 5 (h 5 (by decide) (by omega))) ho ho

end Go.Proofs.YtnhfmcijadficaaGreatDoor
