/- What is found of records that were laid one behind the other, as plain data. -/
import Derived.Test.YtnhfmcijadficaaGreatDoorZan
import Derived.Test.YtnhfmcijadficaaGreatDoorZam
import Derived.Test.YtnhfmcijadficaaGreatDoorZbn
namespace Go.Proofs.YtnhfmcijadficaaGreatDoor
set_option maxRecDepth 100000
open Go.RowKit

/-- A record that may be laid, as plain data. -/
structure RN where
  k : Nat
  t : Nat
  c : Nat
  key : List UInt8
  blob : List UInt8
def RN.may (r : RN) : Prop := mayB (r.k : Int) (r.t : Int) (r.key.length : Int) (r.blob.length : Int) (r.c : Int) = true ∧ r.t ≤ 4294967295
/-- Its bytes, whole. -/
def RN.bytes (r : RN) : List UInt8 := recB r.k r.t r.c r.key r.blob ++ [0]
def RN.fd (r : RN) (pl : Nat) : FD := ⟨pl, r.k, r.t, r.key, r.blob, r.c⟩
theorem RN.len (r : RN) : r.bytes.length = 16 + r.key.length + r.blob.length := by
  simp only [RN.bytes, List.length_append, recB_len, List.length_cons, List.length_nil]
  omega
def laid (rs : List RN) : List UInt8 := rs.flatMap RN.bytes
def fds : Nat → List RN → List FD
  | _, [] => []
  | pl, r :: rs => r.fd pl :: fds (pl + r.bytes.length) rs

theorem laid_cons (r : RN) (rs : List RN) : laid (r :: rs) = r.bytes ++ laid rs := by simp [laid]
theorem laid_append (rs qs : List RN) : laid (rs ++ qs) = laid rs ++ laid qs := by simp [laid]
theorem fds_append : ∀ (rs qs : List RN) (pl : Nat), fds pl (rs ++ qs) = fds pl rs ++ fds (pl + (laid rs).length) qs
  | [], qs, pl => rfl
  | r :: rs, qs, pl => by
    rw [List.cons_append, fds, fds, fds_append rs qs, laid_cons, List.length_append, List.cons_append, Nat.add_assoc]

theorem runs_recs {xs : List UInt8} {en : Nat} (hE : IsEnd xs en) : ∀ (rs : List RN) (pl : Nat) (cl : Bool) (tail : List UInt8) (l : List FD) (to : Nat) (c : Bool), (∀ r ∈ rs, r.may) → xs.drop pl = laid rs ++ tail →
    Runs xs en (pl + (laid rs).length) cl l to c → Runs xs en pl cl (fds pl rs ++ l) to c
  | [], pl, cl, tail, l, to, c, _, _, h => h
  | r :: rs, pl, cl, tail, l, to, c, hmay, hx, h => by
    have hr := hmay r (by simp)
    have hx2 : xs.drop pl = recB r.k r.t r.c r.key r.blob ++ 0 :: (laid rs ++ tail) := by
      rw [hx, laid_cons, RN.bytes]
      simp only [List.append_assoc, List.cons_append, List.nil_append]
    have ho := out_made r.k r.t r.c r.key r.blob 0 (laid rs ++ tail) hr.1 hr.2
    rw [← hx2] at ho
    have hlen := congrArg List.length hx2
    rw [List.length_drop, List.length_append, recB_len, List.length_cons] at hlen
    have h0 : xs[pl + (15 + r.key.length + r.blob.length)]? = some 0 := by
      rw [← List.getElem?_drop, hx2, List.getElem?_append_right (by rw [recB_len]; omega), recB_len]
      simp
    have hlt : pl + (15 + r.key.length + r.blob.length) < en := by
      rcases Nat.lt_or_ge (pl + (15 + r.key.length + r.blob.length)) en with h1 | h1
      · exact h1
      · have h2 := hE.blank _ h1 (by omega)
        rw [h0] at h2
        cases h2
    have hsz : pl + (out (xs.drop pl)).size = pl + r.bytes.length := by rw [ho, RN.len]; simp only; omega
    have hrest : xs.drop (pl + r.bytes.length) = laid rs ++ tail := by
      rw [← List.drop_drop, hx, laid_cons, List.append_assoc, List.drop_left]
    have hgo := runs_recs hE rs (pl + r.bytes.length) cl tail l to c (fun q hq => hmay q (by simp [hq])) hrest (by
      rw [laid_cons, List.length_append, ← Nat.add_assoc] at h
      exact h)
    have hw : (out (xs.drop pl)).whole = true := by rw [ho]; rfl
    have he : (out (xs.drop pl)).e = 0 := by rw [ho]
    have hfd : fdOf pl (out (xs.drop pl)) = r.fd pl := by rw [ho]; rfl
    have := Runs.go (xs := xs) (en := en) pl cl (fds (pl + r.bytes.length) rs ++ l) to c (by omega) he (by rw [hsz, hw]; simpa using hgo)
    rw [hw, if_pos rfl, hfd] at this
    exact this

theorem end_le {xs : List UInt8} {en Q : Nat} (hE : IsEnd xs en) (h : ∀ j, Q ≤ j → j < xs.length → xs[j]? = some 255) : en ≤ Q := by
  rcases Nat.lt_or_ge Q en with h1 | h1
  · have hl := hE.le
    exact absurd rfl (hE.last (by omega) 255 (h (en - 1) (by omega) (by omega)))
  · exact h1

/-- Of records that were laid one behind the other, with nothing but 255 behind them. -/
theorem runs_whole (h12 : List UInt8) (rs : List RN) (m en : Nat) (hl : h12.length = 12) (hmay : ∀ r ∈ rs, r.may) (hE : IsEnd (h12 ++ (laid rs ++ List.replicate m 255)) en) :
    Runs (h12 ++ (laid rs ++ List.replicate m 255)) en 12 false (fds 12 rs) (12 + (laid rs).length) false := by
  have hd : (h12 ++ (laid rs ++ List.replicate m 255)).drop 12 = laid rs ++ List.replicate m 255 := by rw [← hl, List.drop_left]
  have h := runs_recs hE rs 12 false (List.replicate m 255) [] (12 + (laid rs).length) false hmay hd (.stop _ _ (end_le hE (fun j h1 h2 => by
    rw [List.length_append, List.length_append, List.length_replicate, hl] at h2
    rw [List.getElem?_append_right (by omega), List.getElem?_append_right (by omega), hl, List.getElem?_replicate, if_pos (by omega)])))
  rw [List.append_nil] at h
  exact h

end Go.Proofs.YtnhfmcijadficaaGreatDoor

/- What a scan finds behind a commit that was laid: what it found before, and the commit's records. -/
namespace Go.Proofs.YtnhfmcijadficaaGreatDoor
set_option maxRecDepth 100000
open Go.RowKit

theorem cut_same {ys zs : List UInt8} {q : Nat} (h : zs.take q = ys.take q) (a b : Nat) (hab : a + b ≤ q) : (zs.drop a).take b = (ys.drop a).take b := by
  have h1 : ∀ l : List UInt8, (l.drop a).take b = ((l.take q).drop a).take b := fun l => by
    rw [List.drop_take, List.take_take, Nat.min_eq_left (by omega)]
  rw [h1 zs, h1 ys, h]
theorem get_same {ys zs : List UInt8} {q : Nat} (h : zs.take q = ys.take q) (i : Nat) (hi : i < q) : zs[i]? = ys[i]? := by
  have h1 : ∀ l : List UInt8, l[i]? = (l.take q)[i]? := fun l => by rw [List.getElem?_take, if_pos hi]
  rw [h1 zs, h1 ys, h]

theorem out_sz2 {ys : List UInt8} (h : (out ys).e = 0) : (out ys).size = szOf ys ∧ szOf ys ≤ ys.length ∧ ((out ys).whole = true → (ys[nA ys + nB ys + 15]?.getD 1) = 0) := by
  have h2 := (out_size h).2
  by_cases hp : pE ys = 0
  · have hs : (out ys).size = szOf ys := by
      unfold out
      rw [if_pos hp]
      split <;> rfl
    refine ⟨hs, by omega, fun hw => ?_⟩
    unfold out at hw
    rw [if_pos hp] at hw
    split at hw
    · exact of_decide_eq_true hw
    · cases hw
  · exfalso
    apply hp
    unfold out at h
    rw [if_neg hp] at h
    exact h

theorem out_head2 {xs : List UInt8} {er : Int} (h : hdE xs = er) (h0 : er ≠ 0) : out xs = ⟨0, 0, [], [], 0, 0, false, er⟩ := by
  have hp : pE xs = er := by unfold pE; rw [if_neg (by rw [h]; exact h0), h]
  unfold out
  rw [hp, if_neg h0]

/-- What Parse answers of a record that is there depends on the record's bytes alone. -/
theorem out_same2 {ys zs : List UInt8} {q : Nat} (he : (out ys).e = 0) (hq : (out ys).size ≤ q) (hql : q ≤ ys.length) (h : zs.take q = ys.take q) : out zs = out ys := by
  obtain ⟨hsz, hlen, -⟩ := out_sz2 he
  rw [hsz] at hq
  have hzl : q ≤ zs.length := by
    have h1 := congrArg List.length h
    rw [List.length_take, List.length_take] at h1
    omega
  have h16 : nA ys + nB ys + 16 ≤ q := hq
  have eK : nK zs = nK ys := by unfold nK; rw [cut_same h 0 1 (by omega)]
  have eT : nT zs = nT ys := by unfold nT; rw [cut_same h 1 4 (by omega)]
  have eA : nA zs = nA ys := by unfold nA; rw [cut_same h 5 1 (by omega)]
  have eB : nB zs = nB ys := by unfold nB; rw [cut_same h 6 2 (by omega)]
  have eC : nC zs = nC ys := by unfold nC; rw [cut_same h 8 1 (by omega)]
  have eS : nS zs = nS ys := by unfold nS; rw [cut_same h 9 2 (by omega)]
  have e9 : zs.take 9 = ys.take 9 := cut_same h 0 9 (by omega)
  have e0 : zs[0]? = ys[0]? := get_same h 0 (by omega)
  have eH : hdE zs = hdE ys := by
    unfold hdE
    rw [e0, eS, e9, eK, eT, eA, eB, eC]
    have h1 : ¬ zs.length < 11 := by omega
    have h2 : ¬ ys.length < 11 := by omega
    simp only [h1, h2, if_false]
  have eZ : szOf zs = szOf ys := by unfold szOf; rw [eA, eB]
  have eP : pE zs = pE ys := by
    unfold pE
    rw [eH, eZ]
    have h1 : ¬ zs.length < szOf ys := by unfold szOf; omega
    have h2 : ¬ ys.length < szOf ys := by unfold szOf; omega
    simp only [h1, h2, if_false]
  have eO : sumOk zs = sumOk ys := by
    unfold sumOk
    rw [eA, eB, cut_same h (nA ys + nB ys + 11) 4 (by omega), show zs.take (nA ys + nB ys + 11) = ys.take (nA ys + nB ys + 11) from cut_same h 0 (nA ys + nB ys + 11) (by omega)]
  unfold out
  rw [eP, eO, eK, eT, eA, eB, eC, eZ, cut_same h 11 (nA ys) (by omega), cut_same h (11 + nA ys) (nB ys) (by omega), get_same h (nA ys + nB ys + 15) (by omega)]

theorem out_first {ys : List UInt8} (he : (out ys).e = 0) : ys[0]? ≠ some 255 := by
  intro h
  have h1 : hdE ys = 11 := by unfold hdE; rw [h]; rfl
  rw [out_head2 h1 (by decide)] at he
  cases he

/-- Records that are laid where the scan ended are found behind what it found. -/
theorem runs_more {xs xs' : List UInt8} {en en' m : Nat} {rs : List RN} (hE' : IsEnd xs' en') (hmay : ∀ r ∈ rs, r.may) (hl : xs'.length = xs.length) : ∀ {pl to : Nat} {c c' : Bool} {L : List FD}, Runs xs en pl c L to c' → c' = false → pl ≤ xs.length → xs'.take to = xs.take to →
    xs'.drop to = laid rs ++ List.replicate m 255 → Runs xs' en' pl c (L ++ fds to rs) (to + (laid rs).length) false := by
  intro pl to c c' L h
  induction h with
  | stop pl c h1 =>
    intro hc hp htk hdr
    subst hc
    have hl2 := congrArg List.length hdr
    rw [List.length_drop, List.length_append, List.length_replicate] at hl2
    have h2 := runs_recs hE' rs pl false (List.replicate m 255) [] (pl + (laid rs).length) false hmay hdr (.stop _ _ (end_le hE' (fun j h3 h4 => by
      have h5 : xs'[pl + (j - pl)]? = (laid rs ++ List.replicate m 255)[j - pl]? := by rw [← List.getElem?_drop, hdr]
      rw [show pl + (j - pl) = j by omega] at h5
      rw [h5, List.getElem?_append_right (by omega), List.getElem?_replicate, if_pos (by omega)])))
    rw [List.append_nil] at h2
    rw [List.nil_append]
    exact h2
  | bad pl c _ _ => intro hc; cases hc
  | go pl c l to c' h1 h2 h3 ih =>
    intro hc hp htk hdr
    have h4 := out_size h2
    rw [List.length_drop] at h4
    obtain ⟨_, f2, f3⟩ := h3.few (by omega)
    have hsame : out (xs'.drop pl) = out (xs.drop pl) := out_same2 (q := to - pl) h2 (by omega) (by rw [List.length_drop]; omega) (cut_same htk pl (to - pl) (by omega))
    have hlt : pl < en' := by
      rcases Nat.lt_or_ge pl en' with h5 | h5
      · exact h5
      · have h6 := hE'.blank pl h5 (by omega)
        have h7 := out_first (ys := xs'.drop pl) (by rw [hsame]; exact h2)
        rw [List.getElem?_drop, Nat.add_zero] at h7
        exact absurd h6 h7
    have h8 := ih hc (by omega) htk hdr
    have h9 := Runs.go (xs := xs') (en := en') pl c (l ++ fds to rs) (to + (laid rs).length) false hlt (by rw [hsame]; exact h2) (by rw [hsame]; exact h8)
    rw [hsame] at h9
    rw [List.append_assoc]
    exact h9

end Go.Proofs.YtnhfmcijadficaaGreatDoor

/- Which records count behind a commit that was laid. -/
namespace Go.Proofs.YtnhfmcijadficaaGreatDoor
set_option maxRecDepth 100000
open Go.RowKit

def Rc.rn (r : Rc) : RN := ⟨r.k, r.t, r.c, r.s.data.toList, r.blob⟩
theorem laid_rn (l : List Rc) : laid (l.map Rc.rn) = l.flatMap Rc.bytes := by
  unfold laid
  rw [List.flatMap_map]
  rfl
theorem mem_fds : ∀ (rs : List RN) (pl : Nat) (d : FD), d ∈ fds pl rs → ∃ r ∈ rs, ∃ q, d = r.fd q
  | [], _, d, h => by cases h
  | r :: rs, pl, d, h => by
    rw [fds] at h
    rcases List.mem_cons.1 h with h | h
    · exact ⟨r, by simp, pl, h⟩
    · obtain ⟨r', h1, q, h2⟩ := mem_fds rs _ d h
      exact ⟨r', by simp [h1], q, h2⟩
theorem fds_len : ∀ (rs : List RN) (pl : Nat), (fds pl rs).length = rs.length
  | [], _ => rfl
  | r :: rs, pl => by rw [fds, List.length_cons, List.length_cons, fds_len rs]

theorem step_keep (F : Nat → Nat × Bool) (d : FD) {t : Nat} (h : t ≠ d.t) : stepT F d t = F t := by unfold stepT put; rw [if_neg h]
theorem step_end (G : Nat → Nat × Bool) (e : FD) {u n : Nat} (h1 : (G u).1 = n) (he : e.t = u ∧ e.k = 3 ∧ e.c = (n : Int)) : stepT G e u = (n, true) := by
  unfold stepT put
  rw [he.1, if_pos rfl, if_pos he.2.1, h1, if_pos he.2.2]
theorem fold_keep {u : Nat} : ∀ (N : List FD) (F : Nat → Nat × Bool), (∀ d ∈ N, d.t = u) → ∀ t, t ≠ u → (N.foldl stepT F) t = F t
  | [], F, _, t, _ => rfl
  | d :: N, F, h, t, ht => by
    rw [List.foldl_cons, fold_keep N _ (fun q hq => h q (by simp [hq])) t ht]
    exact step_keep F d (by rw [h d (by simp)]; exact ht)
theorem fold_old {u : Nat} : ∀ (N : List FD) (F : Nat → Nat × Bool), (∀ d ∈ N, d.t ≠ u) → (N.foldl stepT F) u = F u
  | [], F, _ => rfl
  | d :: N, F, h => by
    rw [List.foldl_cons, fold_old N _ (fun q hq => h q (by simp [hq]))]
    exact step_keep F d (fun e => h d (by simp) e.symm)
theorem fold_cnt {u : Nat} : ∀ (N : List FD) (F : Nat → Nat × Bool), (∀ d ∈ N, d.t = u ∧ d.k ≠ 3) → ((N.foldl stepT F) u).1 = (F u).1 + N.length
  | [], F, _ => rfl
  | d :: N, F, h => by
    rw [List.foldl_cons, fold_cnt N _ (fun q hq => h q (by simp [hq]))]
    obtain ⟨h1, h2⟩ := h d (by simp)
    have h3 : (stepT F d u).1 = (F u).1 + 1 := by
      unfold stepT put
      rw [h1, if_pos rfl, if_neg h2]
    rw [h3, List.length_cons]
    omega

/-- The records of a commit with a Txn of its own count, and what counted counts on. -/
theorem commits_more (L N : List FD) (e : FD) (u : Nat) (hL : ∀ d ∈ L, d.t ≠ u) (hN : ∀ d ∈ N, d.t = u ∧ d.k ≠ 3) (he : e.t = u ∧ e.k = 3 ∧ e.c = (N.length : Int)) : commitsF (L ++ (N ++ [e])) = commitsF L ++ N := by
  have h0 : (countT L) u = (0, false) := fold_old L _ hL
  have hF : countT (L ++ (N ++ [e])) = stepT (N.foldl stepT (countT L)) e := by
    rw [← List.append_assoc, countT_snoc]
    unfold countT
    rw [List.foldl_append]
  have h1 : ((N.foldl stepT (countT L)) u).1 = N.length := by rw [fold_cnt N _ hN, h0]; simp
  have hu : countT (L ++ (N ++ [e])) u = (N.length, true) := by
    rw [hF]
    exact step_end _ _ h1 he
  have ht : ∀ t, t ≠ u → countT (L ++ (N ++ [e])) t = countT L t := fun t hne => by
    rw [hF, step_keep _ _ (by rw [he.1]; exact hne), fold_keep N _ (fun d hd => (hN d hd).1) t hne]
  unfold commitsF
  rw [List.filter_append, List.filter_append]
  have e1 : L.filter (keepT (countT (L ++ (N ++ [e])))) = L.filter (keepT (countT L)) := List.filter_congr (fun d hd => by unfold keepT; rw [ht d.t (hL d hd)])
  have e2 : N.filter (keepT (countT (L ++ (N ++ [e])))) = N := List.filter_eq_self.2 (fun d hd => by
    unfold keepT
    rw [(hN d hd).1, hu]
    simp [(hN d hd).2])
  have e3 : [e].filter (keepT (countT (L ++ (N ++ [e])))) = [] := by
    rw [List.filter_eq_nil_iff]
    intro d hd
    rw [List.mem_singleton] at hd
    subst hd
    unfold keepT
    simp [he.2.1]
  rw [e1, e2, e3, List.append_nil]

/-- A commit's changes as they are found. -/
theorem apply_found (k : Int) (t : Nat) : ∀ (l : List Ch) (X : AX) (pl : Nat), (fds pl ((l.map (Ch.rc · t)).map Rc.rn)).foldl (fun X d => applyD X d k) X = applyL X l k
  | [], X, pl => rfl
  | f :: l, X, pl => by
    rw [List.map_cons, List.map_cons, fds, List.foldl_cons, apply_found k t l]
    have h1 : applyD X ((Rc.rn (f.rc t)).fd pl) k = applyA X f k := by
      unfold applyD applyA Rc.rn RN.fd Ch.rc Ch.rk Ch.rB
      cases f.del <;> simp
    rw [h1]
    rfl

/-- What a sector tells behind a commit that was laid there. -/
theorem read_more (X : AX) (L : List FD) (k : Int) (l : List Ch) (u pl : Nat) (hL : ∀ d ∈ L, d.t ≠ u) : readX X (L ++ fds pl ((recsL l u).map Rc.rn)) k = applyL (readX X L k) l k := by
  unfold recsL
  rw [List.map_append, fds_append]
  unfold readX
  have h1 : fds (pl + (laid ((l.map (Ch.rc · u)).map Rc.rn)).length) ([endRc l.length u].map Rc.rn) = [(Rc.rn (endRc l.length u)).fd (pl + (laid ((l.map (Ch.rc · u)).map Rc.rn)).length)] := rfl
  rw [h1, commits_more L _ _ u hL ?_ ?_, List.foldl_append, apply_found]
  · intro d hd
    obtain ⟨r, hr, q, rfl⟩ := mem_fds _ _ d hd
    obtain ⟨r2, hr2, rfl⟩ := List.mem_map.1 hr
    obtain ⟨f, _, rfl⟩ := List.mem_map.1 hr2
    refine ⟨rfl, ?_⟩
    show ((f.rk : Nat) : Int) ≠ 3
    unfold Ch.rk
    split <;> decide
  · refine ⟨rfl, rfl, ?_⟩
    rw [fds_len, List.length_map, List.length_map]
    rfl

end Go.Proofs.YtnhfmcijadficaaGreatDoor
