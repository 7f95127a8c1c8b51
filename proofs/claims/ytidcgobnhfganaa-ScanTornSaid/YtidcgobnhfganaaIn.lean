/- What is found of records the last of which was laid in part, and which of them count, as plain data. -/
import Derived.Test.YtidcgobnhfganaaIh
import Derived.Test.YtidcgobnhfganaaIm
namespace Go.Proofs.Ytidcgobnhfganaa
open Go.RowKit

theorem out_sz {ys : List UInt8} (h : (out ys).e = 0) : (out ys).size = szOf ys ∧ szOf ys ≤ ys.length ∧ ((out ys).whole = true → (ys[nA ys + nB ys + 15]?.getD 1) = 0) := by
  have h2 := (out_size h).2
  by_cases hp : pE ys = 0
  · have hs : (out ys).size = szOf ys := by
      unfold out
      rw [if_pos hp]
      split <;> rfl
    refine ⟨hs, by omega, fun hw => ?_⟩
    unfold out at hw
    rw [if_pos hp] at hw
    split at hw
    · exact of_decide_eq_true hw
    · cases hw
  · exfalso
    apply hp
    unfold out at h
    rw [if_neg hp] at h
    exact h

theorem torn_out (r : RN) (hr : r.may) (q : Nat) (z : UInt8) (hq : q < r.bytes.length) (ys : List UInt8) (hy : ys = r.bytes.take q ++ z :: [255, 255]) (he : (out ys).e = 0) :
    (out ys).size = r.bytes.length ∧ ((out ys).whole = true → q + 1 = r.bytes.length ∧ z = 0 ∧ out ys = ⟨r.k, r.t, r.key, r.blob, r.c, r.bytes.length, true, 0⟩) := by
  have hl : ys.length = q + 3 := by
    rw [hy, List.length_append, List.length_take]
    simp only [List.length_cons, List.length_nil]
    omega
  obtain ⟨hs, hs2, hw0⟩ := out_sz he
  have h16 : 16 ≤ szOf ys := by unfold szOf; omega
  obtain ⟨R, hR⟩ : ∃ R, r.bytes = headR r.k r.t r.key.length r.blob.length r.c ++ R := ⟨_, by rw [RN.bytes, recB, bodyR]; simp only [List.append_assoc]; rfl⟩
  have hy2 : ys = headR r.k r.t r.key.length r.blob.length r.c ++ (R.take (q - 11) ++ z :: [255, 255]) := by
    rw [hy, hR, List.take_append, headR_len, List.take_of_length_le (by rw [headR_len]; omega), List.append_assoc]
  obtain ⟨-, -, e3, e4, -, -⟩ := head_made r.k r.t r.key.length r.blob.length r.c (R.take (q - 11) ++ z :: [255, 255]) hr.1 hr.2
  rw [← hy2] at e3 e4
  have hS := r.len
  have hsz : szOf ys = r.bytes.length := by unfold szOf; rw [e3, e4, hS]; omega
  refine ⟨hs.trans hsz, fun hw => ?_⟩
  have h0 := hw0 hw
  rw [e3, e4] at h0
  have hat : ∀ j, ys[q + j]? = (z :: [255, 255])[j]? := fun j => by
    rw [hy, List.getElem?_append_right (by rw [List.length_take]; omega), List.length_take, Nat.min_eq_left (by omega), Nat.add_sub_cancel_left]
  have hq1 : q + 1 = r.bytes.length := by
    rcases Nat.lt_or_ge (q + 1) r.bytes.length with h1 | h1
    · exfalso
      have hc : r.key.length + r.blob.length + 15 = q + 1 ∨ r.key.length + r.blob.length + 15 = q + 2 := by omega
      rcases hc with hc | hc
      · rw [hc, hat 1] at h0
        exact absurd (show (255 : UInt8) = 0 from h0) (by decide)
      · rw [hc, hat 2] at h0
        exact absurd (show (255 : UInt8) = 0 from h0) (by decide)
    · omega
  have hz : z = 0 := by
    rw [show r.key.length + r.blob.length + 15 = q + 0 by omega, hat 0] at h0
    exact h0
  refine ⟨hq1, hz, ?_⟩
  subst hz
  have ht : r.bytes.take q = recB r.k r.t r.c r.key r.blob := by
    unfold RN.bytes
    rw [List.take_append, recB_len, show q - (15 + r.key.length + r.blob.length) = 0 by omega, List.take_zero, List.append_nil, List.take_of_length_le (by rw [recB_len]; omega)]
  rw [hy, ht, out_made r.k r.t r.c r.key r.blob 0 [255, 255] hr.1 hr.2, hS]
  have e : r.key.length + r.blob.length + 16 = 16 + r.key.length + r.blob.length := by omega
  rw [e]
  rfl

theorem split_laid : ∀ (all : List RN) (k : Nat), k < (laid all).length → ∃ pre r post, all = pre ++ r :: post ∧ (laid pre).length ≤ k ∧ k < (laid pre).length + r.bytes.length
  | [], k, h => by simp [laid] at h
  | a :: all, k, h => by
    rw [laid_cons, List.length_append] at h
    rcases Nat.lt_or_ge k a.bytes.length with h1 | h1
    · exact ⟨[], a, all, rfl, by simp [laid], by simpa [laid] using h1⟩
    · obtain ⟨pre, r, post, e, h2, h3⟩ := split_laid all (k - a.bytes.length) (by omega)
      refine ⟨a :: pre, r, post, by rw [e]; rfl, ?_, ?_⟩
      · rw [laid_cons, List.length_append]; omega
      · rw [laid_cons, List.length_append]; omega

/-- Behind whole records one that was laid up to its byte q, of which other bits are set, and 255: what is found. -/
theorem runs_torn {xs : List UInt8} {en : Nat} (hE : IsEnd xs en) (r : RN) (hr : r.may) (q : Nat) (z : UInt8) (hq : q < r.bytes.length) (pl : Nat) (cl : Bool) (hx : xs.drop pl = r.bytes.take q ++ z :: [255, 255]) :
    ∃ l to c, Runs xs en pl cl l to c ∧ (l = [] ∨ (l = [r.fd pl] ∧ q + 1 = r.bytes.length ∧ z = 0)) := by
  by_cases h1 : en ≤ pl
  · exact ⟨[], pl, cl, .stop pl cl h1, Or.inl rfl⟩
  · by_cases he : (out (xs.drop pl)).e = 0
    · obtain ⟨hs, hw⟩ := torn_out r hr q z hq _ hx he
      have hlen := congrArg List.length hx
      rw [List.length_drop, List.length_append, List.length_take] at hlen
      simp only [List.length_cons, List.length_nil] at hlen
      have hend : en ≤ pl + r.bytes.length := end_le hE (fun j h2 h3 => by
        have e1 : xs[j]? = (xs.drop pl)[j - pl]? := by rw [List.getElem?_drop]; congr 1; omega
        rw [e1, hx, List.getElem?_append_right (by rw [List.length_take]; omega), List.length_take, Nat.min_eq_left (by omega)]
        have hc : j - pl - q = 1 ∨ j - pl - q = 2 := by omega
        rcases hc with hc | hc <;> rw [hc] <;> rfl)
      have hgo := Runs.go (xs := xs) (en := en) pl cl [] _ _ (by omega) he (.stop _ _ (by rw [hs]; exact hend))
      rw [List.append_nil] at hgo
      cases hwh : (out (xs.drop pl)).whole with
      | true =>
        obtain ⟨h2, h3, h4⟩ := hw hwh
        refine ⟨_, _, _, hgo, Or.inr ⟨?_, h2, h3⟩⟩
        rw [hwh, if_pos rfl, h4]
        rfl
      | false =>
        refine ⟨_, _, _, hgo, Or.inl ?_⟩
        rw [hwh]
        rfl
    · exact ⟨_, _, _, .bad pl cl (by omega) he, Or.inl rfl⟩

/-- Of a commit that was laid in part, behind whole records: of its own records a beginning is found, and never its last one. -/
theorem torn_found (h12 : List UInt8) (hl : h12.length = 12) (fs rs : List RN) (cm : RN) (hf : ∀ r ∈ fs, r.may) (hrs : ∀ r ∈ rs, r.may) (hcm : cm.may) (k : Nat) (mask x : UInt8) (hk : (laid (rs ++ [cm]))[k]? = some x)
    (hno : ¬ (k + 1 = (laid (rs ++ [cm])).length ∧ mask = 0)) (en : Nat) (hE : IsEnd (h12 ++ (laid fs ++ ((laid (rs ++ [cm])).take k ++ (x ||| mask) :: [255, 255]))) en) :
    ∃ pre post to c, rs = pre ++ post ∧ Runs (h12 ++ (laid fs ++ ((laid (rs ++ [cm])).take k ++ (x ||| mask) :: [255, 255]))) en 12 false (fds 12 (fs ++ pre)) to c := by
  have hkl : k < (laid (rs ++ [cm])).length := (List.getElem?_eq_some_iff.1 hk).1
  obtain ⟨pre, r, post, hall, hk1, hk2⟩ := split_laid _ k hkl
  have hmem : ∀ a, a ∈ rs ++ [cm] → a.may := fun a ha => by
    rcases List.mem_append.1 ha with h | h
    · exact hrs a h
    · rw [List.mem_singleton] at h
      subst h
      exact hcm
  have hpre : ∀ a ∈ pre, a.may := fun a ha => hmem a (by rw [hall]; simp [ha])
  have hr : r.may := hmem r (by rw [hall]; simp)
  have hla : laid (rs ++ [cm]) = laid pre ++ (r.bytes ++ laid post) := by rw [hall, laid_append, laid_cons]
  have htk : (laid (rs ++ [cm])).take k = laid pre ++ r.bytes.take (k - (laid pre).length) := by
    rw [hla, List.take_append, List.take_of_length_le hk1, List.take_append_of_le_length (by omega)]
  have hxq : r.bytes[k - (laid pre).length]? = some x := by
    rw [hla, List.getElem?_append_right hk1, List.getElem?_append_left (by omega)] at hk
    exact hk
  obtain ⟨X, hX⟩ : ∃ X, X = h12 ++ (laid fs ++ ((laid (rs ++ [cm])).take k ++ (x ||| mask) :: [255, 255])) := ⟨_, rfl⟩
  rw [← hX] at hE ⊢
  have hX2 : X = h12 ++ (laid (fs ++ pre) ++ (r.bytes.take (k - (laid pre).length) ++ (x ||| mask) :: [255, 255])) := by
    rw [hX, htk, laid_append]
    simp only [List.append_assoc]
  have hd : X.drop 12 = laid (fs ++ pre) ++ (r.bytes.take (k - (laid pre).length) ++ (x ||| mask) :: [255, 255]) := by rw [hX2, ← hl, List.drop_left]
  have hd2 : X.drop (12 + (laid (fs ++ pre)).length) = r.bytes.take (k - (laid pre).length) ++ (x ||| mask) :: [255, 255] := by rw [← List.drop_drop, hd, List.drop_left]
  obtain ⟨l, to, c, hrun, hcase⟩ := runs_torn hE r hr (k - (laid pre).length) (x ||| mask) (by omega) (12 + (laid (fs ++ pre)).length) false hd2
  have hfp : ∀ a ∈ fs ++ pre, a.may := fun a ha => by
    rcases List.mem_append.1 ha with h | h
    · exact hf a h
    · exact hpre a h
  have hruns := runs_recs hE (fs ++ pre) 12 false _ l to c hfp hd hrun
  have hprefix : ∀ p s, rs ++ [cm] = p ++ s → s ≠ [] → ∃ s', rs = p ++ s' := fun p s h hs => by
    obtain ⟨s', a, rfl⟩ : ∃ s' a, s = s' ++ [a] := ⟨s.dropLast, s.getLast hs, (List.dropLast_concat_getLast hs).symm⟩
    rw [← List.append_assoc] at h
    exact ⟨s', (List.append_inj' h rfl).1⟩
  rcases hcase with rfl | ⟨rfl, hq, hz⟩
  · obtain ⟨s', hs'⟩ := hprefix pre (r :: post) hall (by simp)
    rw [List.append_nil] at hruns
    exact ⟨pre, s', to, c, hs', hruns⟩
  · have hpost : post ≠ [] := by
      intro hp
      subst hp
      apply hno
      constructor
      · rw [hla, List.length_append, List.length_append]
        simp only [laid, List.flatMap_nil, List.length_nil] at *
        omega
      · have := UInt8.or_eq_zero_iff.1 hz
        exact this.2
    obtain ⟨s', hs'⟩ := hprefix (pre ++ [r]) post (by rw [hall]; simp) hpost
    refine ⟨pre ++ [r], s', to, c, hs', ?_⟩
    rw [← List.append_assoc, fds_append]
    exact hruns

/-- The put ahead of it counts, its own records don't. -/
theorem torn_commits (pre : List RN) (hpre : ∀ r ∈ pre, r.t = 2 ∧ r.k ≠ 3) :
    commitsF (fds 12 ([RN.mk 1 1 0 [102, 105, 114, 115, 116] [], RN.mk 3 1 1 [] []] ++ pre)) = [⟨12, 1, 1, [102, 105, 114, 115, 116], [], 0⟩] := by
  have hfold : ∀ (rs : List RN) (pl : Nat) (F : Nat → Nat × Bool), (∀ r ∈ rs, r.t = 2 ∧ r.k ≠ 3) → F 1 = (1, true) → (F 2).2 = false → ((fds pl rs).foldl stepT F) 1 = (1, true) ∧ (((fds pl rs).foldl stepT F) 2).2 = false := by
    intro rs
    induction rs with
    | nil => exact fun pl F _ h1 h2 => ⟨h1, h2⟩
    | cons r rs ih =>
      intro pl F hr h1 h2
      obtain ⟨ht, hk⟩ := hr r (by simp)
      rw [fds, List.foldl_cons]
      refine ih _ _ (fun q hq => hr q (by simp [hq])) ?_ ?_
      · unfold stepT put RN.fd
        simp only [ht]
        rw [if_neg (by decide)]
        exact h1
      · unfold stepT put RN.fd
        simp only [ht, if_true]
        rw [if_neg (by omega)]
  have hfil : ∀ (rs : List RN) (pl : Nat) (F : Nat → Nat × Bool), (∀ r ∈ rs, r.t = 2 ∧ r.k ≠ 3) → (F 2).2 = false → (fds pl rs).filter (keepT F) = [] := by
    intro rs
    induction rs with
    | nil => exact fun pl F _ _ => rfl
    | cons r rs ih =>
      intro pl F hr h2
      obtain ⟨ht, hk⟩ := hr r (by simp)
      rw [fds, List.filter_cons]
      have hf : keepT F (r.fd pl) = false := by unfold keepT RN.fd; simp only [ht, h2, Bool.and_false]
      rw [hf]
      exact ih _ F (fun q hq => hr q (by simp [hq])) h2
  have hsplit := fds_append [RN.mk 1 1 0 [102, 105, 114, 115, 116] [], RN.mk 3 1 1 [] []] pre 12
  obtain ⟨P, hP⟩ : ∃ P, P = 12 + (laid [RN.mk 1 1 0 [102, 105, 114, 115, 116] [], RN.mk 3 1 1 [] []]).length := ⟨_, rfl⟩
  rw [← hP] at hsplit
  have hfd : ∃ a, fds 12 [RN.mk 1 1 0 [102, 105, 114, 115, 116] [], RN.mk 3 1 1 [] []] = [⟨12, 1, 1, [102, 105, 114, 115, 116], [], 0⟩, ⟨a, 3, 1, [], [], 1⟩] := ⟨_, rfl⟩
  obtain ⟨a, hfd⟩ := hfd
  have hF := hfold pre P (countT [⟨12, 1, 1, [102, 105, 114, 115, 116], [], 0⟩, ⟨a, 3, 1, [], [], 1⟩]) hpre rfl rfl
  unfold commitsF
  rw [hsplit, hfd]
  have hc : countT ([⟨12, 1, 1, [102, 105, 114, 115, 116], [], 0⟩, ⟨a, 3, 1, [], [], 1⟩] ++ fds P pre) = (fds P pre).foldl stepT (countT [⟨12, 1, 1, [102, 105, 114, 115, 116], [], 0⟩, ⟨a, 3, 1, [], [], 1⟩]) := by unfold countT; rw [List.foldl_append]
  rw [hc, List.filter_append, hfil pre P _ hpre hF.2, List.append_nil, List.filter_cons, List.filter_cons, List.filter_nil]
  have k1 : keepT ((fds P pre).foldl stepT (countT [⟨12, 1, 1, [102, 105, 114, 115, 116], [], 0⟩, ⟨a, 3, 1, [], [], 1⟩])) ⟨12, 1, 1, [102, 105, 114, 115, 116], [], 0⟩ = true := by
    unfold keepT
    simp only [hF.1]
    rfl
  have k2 : keepT ((fds P pre).foldl stepT (countT [⟨12, 1, 1, [102, 105, 114, 115, 116], [], 0⟩, ⟨a, 3, 1, [], [], 1⟩])) ⟨a, 3, 1, [], [], 1⟩ = false := by
    unfold keepT
    rfl
  rw [k1, k2]
  rfl

end Go.Proofs.Ytidcgobnhfganaa
