/- A store that was mounted of any bytes stands as a commit asks. -/
import Derived.Test.YtnhfmcijadficaaGreatDoorZbo
namespace Go.Proofs.YtnhfmcijadficaaGreatDoor
set_option maxRecDepth 100000
open Go.RowKit Go.Maps

theorem okx_read {S : Nat} {X : AX} {L : List FD} {k : Nat} (hX : OkX S X) (hL : ∀ d ∈ L, d.okD) (hk : k < S) : OkX S (readX X L (k : Int)) := by
  unfold readX
  have hC : ∀ d ∈ commitsF L, d.okD ∧ d.k ≠ 3 := fun d hd => by
    obtain ⟨h1, h2⟩ := List.mem_filter.1 hd
    refine ⟨hL d h1, fun h3 => ?_⟩
    unfold keepT at h2
    rw [h3] at h2
    simp at h2
  generalize commitsF L = C at hC
  induction C generalizing X with
  | nil => exact hX
  | cons d C ih =>
    rw [List.foldl_cons]
    refine ih ?_ (fun q hq => hC q (by simp [hq]))
    obtain ⟨h1, h3⟩ := hC d (by simp)
    have h2 := mayB_iff.1 h1.1
    unfold applyD
    split
    · exact fun q hq => hX q ((adel_mem _ _ _).1 hq).1
    · next hne =>
      intro q hq
      rcases (aput_mem _ _ _ _).1 hq with h4 | h4
      · subst h4
        refine ⟨by show d.key.length ≤ 64; omega, ?_, by show (0 : Int) ≤ (k : Int); omega, by show (k : Int) < (S : Int); omega⟩
        show mayB 1 1 (d.key.length : Int) (d.blob.length : Int) 0 = true
        rw [mayB_iff]
        omega
      · exact hX q h4.1

theorem okx_told {ss : List (Nat × List UInt8)} {T : Scans} (hT : Tells ss T) (ks : List Nat) (hk : ∀ k ∈ ks, k < ss.length) : OkX ss.length (toldX T ks) := by
  unfold toldX
  have h0 : OkX ss.length ([] : AX) := fun q hq => by cases hq
  generalize ([] : AX) = X at h0
  induction ks generalizing X with
  | nil => exact h0
  | cons k ks ih =>
    rw [List.foldl_cons]
    have hlt := hk k (by simp)
    obtain ⟨en, hE, hR⟩ := hT k ss[k].1 ss[k].2 (by rw [List.getElem?_eq_getElem hlt])
    exact ih (fun q hq => hk q (by simp [hq])) _ (okx_read h0 hR.oks hlt)

theorem Runs.open_end {xs : List UInt8} {en pl to : Nat} {c c' : Bool} {L : List FD} (h : Runs xs en pl c L to c') : c' = false → en ≤ to := by
  induction h with
  | stop pl c h1 => exact fun _ => h1
  | bad => intro h; cases h
  | go pl c l to c' h1 h2 _ ih => exact ih

theorem used_at {m : Nat} {ss : List (Nat × List UInt8)} {k : Nat} (h : k ∈ usedK m ss) (hm : ss.length = m + 1) : k < ss.length ∧ ∃ e xs, ss[k]? = some (e, xs) ∧ stU xs = true := by
  unfold usedK usedRow sortedBy at h
  obtain ⟨x, hx, rfl⟩ := List.mem_map.1 h
  rw [List.mem_mergeSort] at hx
  have h1 := (List.mem_filter.1 hx).2
  have hlt : x.val < ss.length := by have := x.isLt; omega
  refine ⟨hlt, ss[x.val].1, ss[x.val].2, by rw [List.getElem?_eq_getElem hlt], ?_⟩
  unfold usedP secsOf at h1
  rw [List.getElem?_map, List.getElem?_eq_getElem hlt] at h1
  simp only [Option.map_some, Option.getD_some] at h1
  unfold usedB secOf at h1
  have h2 := of_decide_eq_true h1
  rcases stS_cases ss[x.val].2 with ⟨_, h3⟩ | ⟨h3, _⟩ | ⟨h3, _⟩
  · exact h3
  · simp only at h2
    rw [h3] at h2
    cases h2
  · simp only at h2
    rw [h3] at h2
    cases h2

theorem hinv_told {m Z : Nat} {ss : List (Nat × List UInt8)} {T : Scans} (hT : Tells ss T) (hm : ss.length = m + 1) (hZ : ∀ (k e : Nat) (xs : List UInt8), ss[k]? = some (e, xs) → xs.length = Z) (h12 : 12 ≤ Z) : HInv Z ss (toldH Z T (usedK m ss)) := by
  rcases List.eq_nil_or_concat (usedK m ss) with h | ⟨ks, k, h⟩
  · rw [h]
    exact Or.inl rfl
  · obtain ⟨hlt, e, xs, hx, hU⟩ := used_at (k := k) (by rw [h]; simp) hm
    obtain ⟨en, hE, hR⟩ := hT k e xs hx
    have hlen := hZ k e xs hx
    obtain ⟨f1, f2, f3⟩ := hR.few (by omega)
    have ht : toldH Z T (usedK m ss) = readH Z k (T k).1 (T k).2.1 (T k).2.2 := by
      rw [h, List.concat_eq_append]
      unfold toldH
      rw [fold_snoc]
    rw [ht]
    unfold readH
    cases hc : (T k).2.2 with
    | true => exact Or.inl rfl
    | false =>
      rw [hc] at hR
      have hen := hR.open_end rfl
      refine Or.inr ⟨k, (T k).2.1, rfl, rfl, rfl, by omega, f3, by show (0 : Int) ≤ ((maxT (T k).1 : Nat) : Int); omega, ?_, e, xs, hx, hU, fun j h1 h2 => hE.blank j (by omega) (by omega)⟩
      have := maxT_le (T k).1 (fun d hd => (hR.oks d hd).2)
      show ((maxT (T k).1 : Nat) : Int) ≤ 4294967295
      omega

/-- How a Mount of any bytes ends, for a commit. -/
theorem MountTo.good {p c e Z L m : Nat} {T : Scans} {ss : List (Nat × List UInt8)} {w w' : World} {e1 : Ending} (h : MountTo p c e Z T (usedK m ss) w w' e1) (hs : FS w p c e Z L ss) (hM : Mark w) (hT : Tells ss T) (hm : ss.length = m + 1) :
    (∃ s mb M, e1 = .returned (.tuple #[.pointer (some ⟨s, 0, none⟩), .int .i64 0]) ∧ GoodX w' s mb p c e Z L M (toldH Z T (usedK m ss)) ss ∧ amap Sv.a M = toldX T (usedK m ss) ∧ M.length ≤ (usedK m ss).length * 4096 ∧ w.heap.size ≤ s ∧ w.heap.size ≤ mb) ∧ Below w.heap.size w w' := by
  obtain ⟨⟨s, mb, M, h1, h2, h3, h4, h5, h6⟩, hb⟩ := h
  have hz := hs.bz
  refine ⟨⟨s, mb, M, h1, ⟨h2, hs.below hb, hM.below hb, ?_, hinv_told hT hm (fun k e xs hx => hs.len hx) (by omega)⟩, h3, h4, h5, h6⟩, hb⟩
  rw [h3]
  exact okx_told hT _ (fun k hk => (used_at hk hm).1)

end Go.Proofs.YtnhfmcijadficaaGreatDoor

/- What a flash tells behind a commit that was laid. -/
namespace Go.Proofs.YtnhfmcijadficaaGreatDoor
set_option maxRecDepth 100000
open Go.RowKit Go.Maps

theorem recs_may (l : List Ch) (u : Nat) (hl : ∀ f ∈ l, f.may = true) (hn : l.length ≤ 16) (hu : u ≠ 0 ∧ u ≤ 4294967295) (hb : ∀ f ∈ l, f.blob.length = f.n) : ∀ r ∈ (recsL l u).map Rc.rn, r.may := by
  intro r hr
  obtain ⟨q, hq, rfl⟩ := List.mem_map.1 hr
  unfold recsL at hq
  rcases List.mem_append.1 hq with h | h
  · obtain ⟨f, hf, rfl⟩ := List.mem_map.1 h
    refine ⟨?_, hu.2⟩
    have h1 := f.may_rc u (hl f hf) hu.1
    have h2 : f.rB.length = f.rN := by
      unfold Ch.rB Ch.rN
      split
      · rfl
      · exact hb f hf
    have h3 : f.s.data.toList.length = f.s.size := by simp
    show mayB (f.rk : Int) (u : Int) (f.s.data.toList.length : Int) (f.rB.length : Int) 0 = true
    rw [h2, h3]
    exact h1
  · rw [List.mem_singleton] at h
    subst h
    refine ⟨?_, hu.2⟩
    show mayB 3 (u : Int) ((([] : List UInt8).length : Nat) : Int) ((([] : List UInt8).length : Nat) : Int) (l.length : Int) = true
    rw [mayB_iff]
    exact ⟨by omega, Or.inr (Or.inr ⟨rfl, rfl, rfl, by omega, by omega⟩)⟩

/-- What is found where a commit was laid at a sector's end. -/
def Tmore (T : Scans) (k : Nat) (l : List Ch) (u : Nat) : Scans := fun j => if j = k then ((T k).1 ++ fds (T k).2.1 ((recsL l u).map Rc.rn), (T k).2.1 + (commitB l u).length, false) else T j

theorem lay_tells {Z k e u : Nat} {ss : List (Nat × List UInt8)} {xs : List UInt8} {T : Scans} {l : List Ch} (hT : Tells ss T) (hk : ss[k]? = some (e, xs)) (hx : xs.length = Z) (h12 : 12 ≤ Z) (hc : (T k).2.2 = false) (hB : Blank xs (T k).2.1 (Z - (T k).2.1)) (hr : (T k).2.1 + (commitB l u).length ≤ Z)
    (hmay : ∀ r ∈ (recsL l u).map Rc.rn, r.may) : Tells (ss.set k (e, splice xs (T k).2.1 (commitB l u))) (Tmore T k l u) := by
  intro j m ys hj
  by_cases hjk : j = k
  · subst hjk
    rw [List.getElem?_set_self (lt_at hk)] at hj
    cases hj
    obtain ⟨en, hE, hR⟩ := hT j e xs hk
    rw [hc] at hR
    obtain ⟨en', hE'⟩ := IsEnd.exists_ (splice xs (T j).2.1 (commitB l u))
    refine ⟨en', hE', ?_⟩
    unfold Tmore
    rw [if_pos rfl]
    have hlen : (splice xs (T j).2.1 (commitB l u)).length = xs.length := splice_len _ _ _ (by omega)
    have htl : (xs.take (T j).2.1).length = (T j).2.1 := by rw [List.length_take]; omega
    have htk : (splice xs (T j).2.1 (commitB l u)).take (T j).2.1 = xs.take (T j).2.1 := by
      unfold splice
      rw [List.take_append_of_le_length (by omega), List.take_of_length_le (by omega)]
    have hdr : (splice xs (T j).2.1 (commitB l u)).drop (T j).2.1 = laid ((recsL l u).map Rc.rn) ++ List.replicate (Z - ((T j).2.1 + (commitB l u).length)) 255 := by
      unfold splice
      rw [List.drop_append_of_le_length (by omega), List.drop_of_length_le (by omega), List.nil_append, laid_rn]
      congr 1
      rw [List.eq_replicate_iff]
      refine ⟨by rw [List.length_drop]; omega, fun b hb => ?_⟩
      obtain ⟨i, hi⟩ := List.mem_iff_getElem?.1 hb
      rw [List.getElem?_drop] at hi
      have hlt := (List.getElem?_eq_some_iff.1 hi).1
      rw [hB _ (by omega) (by omega)] at hi
      exact (Option.some.inj hi).symm
    have h := runs_more hE' hmay hlen hR rfl (by omega) htk hdr
    rw [laid_rn] at h
    exact h
  · rw [List.getElem?_set_ne (fun h => hjk h.symm)] at hj
    obtain ⟨en, hE, hR⟩ := hT j m ys hj
    refine ⟨en, hE, ?_⟩
    unfold Tmore
    rw [if_neg hjk]
    exact hR

theorem told_keep {T T' : Scans} : ∀ (ks : List Nat) (X : AX), (∀ k ∈ ks, T' k = T k) → ks.foldl (fun X k => readX X (T' k).1 (k : Int)) X = ks.foldl (fun X k => readX X (T k).1 (k : Int)) X
  | [], X, _ => rfl
  | k :: ks, X, h => by
    rw [List.foldl_cons, List.foldl_cons, h k (by simp), told_keep ks _ (fun q hq => h q (by simp [hq]))]

/-- What a row of sectors tells whose last one a commit was laid in. -/
theorem told_more (T : Scans) (ks : List Nat) (k : Nat) (l : List Ch) (u : Nat) (hk : k ∉ ks) (hu : ∀ d ∈ (T k).1, d.t ≠ u) : toldX (Tmore T k l u) (ks ++ [k]) = applyL (toldX T (ks ++ [k])) l (k : Int) := by
  unfold toldX
  rw [fold_snoc, fold_snoc, told_keep (T := T) ks [] (fun q hq => by
    have hne : q ≠ k := fun h => hk (by rw [← h]; exact hq)
    unfold Tmore
    rw [if_neg hne])]
  have h1 : (Tmore T k l u k).1 = (T k).1 ++ fds (T k).2.1 ((recsL l u).map Rc.rn) := by unfold Tmore; rw [if_pos rfl]
  rw [h1, read_more _ _ _ _ _ _ hu]

end Go.Proofs.YtnhfmcijadficaaGreatDoor

/- What a flash tells behind a sector that was opened: the same, and the sector is the row's last. -/
namespace Go.Proofs.YtnhfmcijadficaaGreatDoor
set_option maxRecDepth 100000
open Go.RowKit Go.Maps Go.Sort

def Topen (T : Scans) (i : Nat) : Scans := fun j => if j = i then ([], 12, false) else T j
theorem open_tells {Z i e q : Nat} {ss : List (Nat × List UInt8)} {T : Scans} (hT : Tells ss T) (h12 : 12 ≤ Z) : Tells (ss.set i (e, openB Z q)) (Topen T i) := by
  intro j m ys hj
  by_cases hji : j = i
  · subst hji
    have hlt : j < ss.length := by have := lt_at hj; rw [List.length_set] at this; exact this
    rw [List.getElem?_set_self hlt] at hj
    cases hj
    obtain ⟨en, hE⟩ := IsEnd.exists_ (openB Z q)
    refine ⟨en, hE, ?_⟩
    unfold Topen
    rw [if_pos rfl]
    refine .stop _ _ (end_le hE (fun t h1 h2 => ?_))
    obtain ⟨h3, h4⟩ := openB_all Z q h12
    rw [h4, if_neg (by omega), if_neg (by omega), if_pos (by omega)]
  · rw [List.getElem?_set_ne (fun h => hji h.symm)] at hj
    obtain ⟨en, hE, hR⟩ := hT j m ys hj
    refine ⟨en, hE, ?_⟩
    unfold Topen
    rw [if_neg hji]
    exact hR

section
variable {m : Nat}
theorem usedRow_mem (sl : List Sc) (x : Fin (m + 1)) : x ∈ usedRow m sl ↔ usedP sl x = true := by
  unfold usedRow sortedBy
  rw [List.mem_mergeSort, List.mem_filter]
  simp
theorem usedRow_nodup (sl : List Sc) : (usedRow m sl).Nodup := by
  unfold usedRow sortedBy
  rw [(List.mergeSort_perm _ _).nodup_iff]
  exact (List.nodup_finRange _).filter _
theorem usedRow_sorted (sl : List Sc) : (usedRow m sl).Pairwise (fun x y => (!ltL (seqOf sl) y x) = true) := by
  unfold usedRow sortedBy
  refine List.pairwise_mergeSort (fun x y z h1 h2 => ?_) (fun x y => ?_) _
  · unfold ltL at *
    simp at *
    omega
  · unfold ltL
    simp
    omega

theorem usedRow_open (sl : List Sc) (hl : sl.length = m + 1) (i : Nat) (hi : i < m + 1) (s s' : Sc) (hs : sl[i]? = some s) (hun : usedB s = false) (hu : usedB s' = true) (hq : ∀ x ∈ sl, usedB x = true → x.q < s'.q) :
    usedRow m (sl.set i s') = usedRow m sl ++ [⟨i, hi⟩] := by
  have hne : ∀ x : Fin (m + 1), x.val ≠ i → (sl.set i s')[x.val]? = sl[x.val]? := fun x h => List.getElem?_set_ne (fun e => h e.symm)
  have hii : (sl.set i s')[i]? = some s' := List.getElem?_set_self (by omega)
  have hnot : ∀ x : Fin (m + 1), usedP sl x = true → x.val ≠ i := fun x hx e => by
    unfold usedP at hx
    rw [e, hs] at hx
    simp [hun] at hx
  have hP : ∀ x : Fin (m + 1), usedP (sl.set i s') x = true ↔ usedP sl x = true ∨ x = ⟨i, hi⟩ := fun x => by
    by_cases hx : x.val = i
    · have hxe : x = ⟨i, hi⟩ := Fin.ext hx
      subst hxe
      refine ⟨fun _ => Or.inr rfl, fun _ => ?_⟩
      unfold usedP
      rw [hii]
      simp [hu]
    · have h1 : usedP (sl.set i s') x = usedP sl x := by unfold usedP; rw [hne x hx]
      rw [h1]
      exact ⟨Or.inl, fun h => h.elim id (fun e => absurd (by rw [e]) hx)⟩
  have hS : ∀ x : Fin (m + 1), x.val ≠ i → seqOf (sl.set i s') x = seqOf sl x := fun x hx => by unfold seqOf; rw [hne x hx]
  have hSi : seqOf (sl.set i s') ⟨i, hi⟩ = s'.q := by unfold seqOf; rw [hii]; rfl
  refine List.Perm.eq_of_pairwise (le := fun x y => (!ltL (seqOf (sl.set i s')) y x) = true) ?_ (usedRow_sorted _) ?_ ?_
  · intro a b _ _ h1 h2
    exact ltL_total _ _ _ (by simpa using h2) (by simpa using h1)
  · rw [List.pairwise_append]
    refine ⟨?_, List.pairwise_singleton _ _, ?_⟩
    · refine (usedRow_sorted sl).imp_of_mem (fun ha hb h => ?_)
      have h1 := hnot _ ((usedRow_mem sl _).1 ha)
      have h2 := hnot _ ((usedRow_mem sl _).1 hb)
      unfold ltL at h ⊢
      rw [hS _ h1, hS _ h2]
      exact h
    · intro x hx y hy
      rw [List.mem_singleton] at hy
      subst hy
      have h0 := (usedRow_mem sl x).1 hx
      have h1 := hnot x h0
      have h2 : seqOf sl x < s'.q := by
        unfold usedP at h0
        unfold seqOf
        cases hx2 : sl[x.val]? with
        | none => rw [hx2] at h0; simp at h0
        | some z =>
          rw [hx2] at h0
          simp at h0
          exact hq z (List.mem_of_getElem? hx2) h0
      unfold ltL
      rw [hSi, hS x h1]
      simp
      omega
  · rw [List.perm_ext_iff_of_nodup (usedRow_nodup _)]
    · intro x
      rw [usedRow_mem, hP, List.mem_append, usedRow_mem, List.mem_singleton]
    · rw [List.nodup_append]
      refine ⟨usedRow_nodup _, by simp, fun x hx y hy e => ?_⟩
      rw [List.mem_singleton] at hy
      subst e
      exact hnot x ((usedRow_mem sl x).1 hx) (by rw [hy])
end

end Go.Proofs.YtnhfmcijadficaaGreatDoor
