/- Where there is room: a store that commits have made, told by its map alone; what a commit makes of it. The plain half. -/
import Derived.Test.YtnhfmcijadficaaGreatDoorZbh
namespace Go.Proofs.YtnhfmcijadficaaGreatDoor
set_option maxRecDepth 100000
open Go.RowKit Go.Maps

abbrev AX := Al (Int × List UInt8)
def szX (q : List UInt8 × (Int × List UInt8)) : Nat := q.1.length + q.2.2.length + 16
def inS (j : Nat) (X : AX) : AX := X.filter fun q => decide (q.2.1 = (j : Int))
def sumX (X : AX) : Nat := (X.map szX).sum
def NodK (X : AX) : Prop := (X.map (·.1)).Nodup

theorem ains_perm {α : Type} (p : List UInt8 × α) : ∀ M : Al α, (ains p M).Perm (p :: M)
  | [] => .refl _
  | q :: r => by
    unfold ains
    split
    · exact .refl _
    · exact ((ains_perm p r).cons q).trans (.swap p q r)
theorem sumX_sub {a b : AX} (h : a.Sublist b) : sumX a ≤ sumX b := by
  unfold sumX
  induction h with
  | slnil => exact Nat.le_refl _
  | cons x _ ih => rw [List.map_cons, List.sum_cons]; omega
  | cons_cons x _ ih => rw [List.map_cons, List.map_cons, List.sum_cons, List.sum_cons]; omega
theorem sumX_perm {a b : AX} (h : a.Perm b) : sumX a = sumX b := sum_perm (h.map szX)
theorem adel_sub {α : Type} (M : Al α) (k : List UInt8) : (adel M k).Sublist M := List.filter_sublist
theorem inS_mem {j : Nat} {X : AX} {q : List UInt8 × (Int × List UInt8)} : q ∈ inS j X ↔ q ∈ X ∧ q.2.1 = (j : Int) := by
  unfold inS
  rw [List.mem_filter]
  simp
theorem inS_adel (j : Nat) (X : AX) (k : List UInt8) : (inS j (adel X k)).Sublist (inS j X) := (adel_sub X k).filter _
theorem inS_ains (j : Nat) (X : AX) (p : List UInt8 × (Int × List UInt8)) : (inS j (ains p X)).Perm (if p.2.1 = (j : Int) then p :: inS j X else inS j X) := by
  have h1 : (inS j (ains p X)).Perm (inS j (p :: X)) := (ains_perm p X).filter _
  have h2 : inS j (p :: X) = if p.2.1 = (j : Int) then p :: inS j X else inS j X := by
    unfold inS
    rw [List.filter_cons]
    simp
  rw [← h2]
  exact h1
theorem nodK_adel {X : AX} (h : NodK X) (k : List UInt8) : NodK (adel X k) := List.Nodup.sublist ((adel_sub X k).map _) h
theorem nodK_aput {X : AX} (h : NodK X) (k : List UInt8) (v : Int × List UInt8) : NodK (aput X k v) := by
  unfold NodK aput
  refine (((ains_perm (k, v) (adel X k)).map (·.1)).nodup_iff).2 ?_
  rw [List.map_cons, List.nodup_cons]
  refine ⟨fun hm => ?_, nodK_adel h k⟩
  obtain ⟨q, hq, hk⟩ := List.mem_map.1 hm
  exact ((adel_mem X k q).1 hq).2 hk
theorem nodK_inS {X : AX} (h : NodK X) (j : Nat) : ((inS j X).map (·.1)).Nodup := by
  have h1 : ((inS j X).map (·.1)).Sublist (X.map (·.1)) := List.filter_sublist.map _
  exact List.Nodup.sublist h1 h
/-- Unlike keys of a list count for no more than the list. -/
theorem nodup_sum (f : List UInt8 → Nat) : ∀ (xs ys : List (List UInt8)), xs.Nodup → (∀ x ∈ xs, x ∈ ys) → (xs.map f).sum ≤ (ys.map f).sum ∧ xs.length ≤ ys.length
  | [], _, _, _ => ⟨by simp, by simp⟩
  | x :: xs, ys, hn, hs => by
    rw [List.nodup_cons] at hn
    have hx := hs x (List.mem_cons_self ..)
    have hp := List.perm_cons_erase hx
    have h1 := nodup_sum f xs (ys.erase x) hn.2 (fun y hy => (List.mem_erase_of_ne (by rintro rfl; exact hn.1 hy)).2 (hs y (List.mem_cons_of_mem _ hy)))
    have h2 := sum_perm (hp.map f)
    have h3 := hp.length_eq
    rw [List.map_cons, List.sum_cons] at h2 ⊢
    rw [List.length_cons] at h3 ⊢
    omega

/-- What a map tells anew: where each key stands. -/
theorem mem_reSec1 {j : Int} {X : AX} {k : List UInt8} (hk : (afind X k).isSome = true) {q : List UInt8 × (Int × List UInt8)} (hq : q ∈ reSec1 j X k) :
    (q.1 = k ∧ q.2.1 = j ∧ ∃ a, (q.1, (a, q.2.2)) ∈ X) ∨ (q.1 ≠ k ∧ q ∈ X) := by
  unfold reSec1 at hq
  rcases (aput_mem X k _ q).1 hq with rfl | ⟨h1, h2⟩
  · obtain ⟨v, hv, hm⟩ := mem_of_isSome hk
    refine Or.inl ⟨rfl, rfl, v.1, ?_⟩
    rw [hv]
    exact hm
  · exact Or.inr ⟨h2, h1⟩
theorem keep_reSec1 {j : Int} {X : AX} {k k' : List UInt8} (h : (afind X k').isSome = true) : (afind (reSec1 j X k) k').isSome = true := isSome_aput _ _ _ _ h
theorem keep_reSecL {j : Int} : ∀ (ks : List (List UInt8)) {X : AX} {k' : List UInt8}, (afind X k').isSome = true → (afind (reSecL j X ks) k').isSome = true
  | [], _, _, h => h
  | k :: ks, _, _, h => keep_reSecL ks (keep_reSec1 h)
theorem mem_reSecL {j : Int} : ∀ (ks : List (List UInt8)) {X : AX} (_ : ∀ k ∈ ks, (afind X k).isSome = true) {q : List UInt8 × (Int × List UInt8)} (_ : q ∈ reSecL j X ks),
    (q.1 ∈ ks ∧ q.2.1 = j ∧ ∃ a, (q.1, (a, q.2.2)) ∈ X) ∨ (q.1 ∉ ks ∧ q ∈ X)
  | [], _, _, _, hq => Or.inr ⟨by simp, hq⟩
  | k :: ks, X, hks, q, hq => by
    have h1 := hks k (List.mem_cons_self ..)
    rcases mem_reSecL ks (X := reSec1 j X k) (fun x hx => keep_reSec1 (hks x (List.mem_cons_of_mem _ hx))) hq with ⟨h2, h3, a, h4⟩ | ⟨h2, h3⟩
    · refine Or.inl ⟨List.mem_cons_of_mem _ h2, h3, ?_⟩
      rcases mem_reSec1 h1 h4 with ⟨h5, _, a', h6⟩ | ⟨_, h6⟩
      · exact ⟨a', h6⟩
      · exact ⟨a, h6⟩
    · rcases mem_reSec1 h1 h3 with ⟨h5, h6, h7⟩ | ⟨h5, h6⟩
      · exact Or.inl ⟨by rw [h5]; exact List.mem_cons_self .., h6, h7⟩
      · exact Or.inr ⟨by simp; exact ⟨h5, h2⟩, h6⟩
theorem mem_reSecK : ∀ (K : List (List (List UInt8))) (j : Nat) {X : AX} (_ : ∀ ks ∈ K, ∀ k ∈ ks, (afind X k).isSome = true) {q : List UInt8 × (Int × List UInt8)} (_ : q ∈ reSecK j X K),
    (∃ (i : Nat) (ks : List (List UInt8)), K[i]? = some ks ∧ q.1 ∈ ks ∧ q.2.1 = ((j + i : Nat) : Int) ∧ ∃ a, (q.1, (a, q.2.2)) ∈ X) ∨ (¬ Cov K q.1 ∧ q ∈ X)
  | [], _, _, _, _, hq => Or.inr ⟨fun ⟨_, h, _⟩ => (by cases h), hq⟩
  | ks :: K, j, X, hK, q, hq => by
    have h1 := hK ks (List.mem_cons_self ..)
    rcases mem_reSecK K (j + 1) (X := reSecL (j : Int) X ks) (fun x hx k hk => keep_reSecL ks (hK x (List.mem_cons_of_mem _ hx) k hk)) hq with ⟨i, k2, h2, h3, h4, a, h5⟩ | ⟨h2, h3⟩
    · refine Or.inl ⟨i + 1, k2, by simpa using h2, h3, by rw [h4]; congr 1; omega, ?_⟩
      rcases mem_reSecL ks h1 h5 with ⟨_, _, a', h6⟩ | ⟨_, h6⟩
      · exact ⟨a', h6⟩
      · exact ⟨a, h6⟩
    · rcases mem_reSecL ks h1 h3 with ⟨h5, h6, h7⟩ | ⟨h5, h6⟩
      · exact Or.inl ⟨0, ks, rfl, h5, by simpa using h6, h7⟩
      · refine Or.inr ⟨fun ⟨k2, h7, h8⟩ => ?_, h6⟩
        rcases List.mem_cons.1 h7 with rfl | h7
        · exact h5 h8
        · exact h2 ⟨k2, h7, h8⟩
theorem nodK_reSecL {j : Int} : ∀ (ks : List (List UInt8)) {X : AX}, NodK X → NodK (reSecL j X ks)
  | [], _, h => h
  | k :: ks, _, h => nodK_reSecL ks (nodK_aput h _ _)
theorem nodK_reSecK : ∀ (K : List (List (List UInt8))) (j : Nat) {X : AX}, NodK X → NodK (reSecK j X K)
  | [], _, _, h => h
  | ks :: K, j, _, h => nodK_reSecK K (j + 1) (nodK_reSecL ks h)

/-- A head with a place in its sector. -/
structure HdX (Z : Nat) (X : AX) (h : HeadV) (l : List Sc) (k o : Nat) (s : Sc) : Prop where
  sec : h.sec = (k : Int)
  left : h.left = ((Z - o : Nat) : Int)
  ge : 12 ≤ o
  le : o ≤ Z
  t0 : 0 ≤ h.txn
  t1 : h.txn ≤ (o : Int)
  used : sumX (inS k X) + cost (inS k X).length + 12 ≤ o
  at_ : l[k]? = some s
  st : s.st = 2
/-- A store none of whose sectors is worn: what stands in each sector went into it. -/
structure RX (Z : Nat) (B : Int) (X : AX) (h : HeadV) (l : List Sc) : Prop where
  z : Z ≤ 65536
  clean : ∀ s ∈ l, s.st = 0 ∨ s.st = 2
  er : ∀ s ∈ l, s.er ≤ B
  lq : lastQ l ≤ B
  blank : ∀ (j : Nat) (s : Sc), l[j]? = some s → s.st = 0 → ∀ q ∈ X, q.2.1 ≠ (j : Int)
  fit : ∀ j, j < l.length → sumX (inS j X) + cost (inS j X).length ≤ Z - 12
  small : ∀ q ∈ X, 2 * (szX q + 16) ≤ Z - 12
  hd : h = ⟨0, 0, 0, 0⟩ ∨ ∃ k o s, HdX Z X h l k o s

section
variable {w : World} {s mb p c e Z L : Nat} {M : Al Sv} {h : HeadV} {ss : List (Nat × List UInt8)} {B : Int}

theorem szK_at (g : GoodX w s mb p c e Z L M h ss) {q : List UInt8 × Sv} (hq : q ∈ M) : szK M q.1 = szX (q.1, q.2.a) := by
  have h1 := svAt_v (afind_of_mem g.st.map.sorted hq)
  have h2 := g.lenM q hq
  unfold szK szX Ch.sz keyCh Ch.rN Sv.a
  rw [h1]
  simp only [Bool.false_eq_true, if_false]
  rw [h2]
  rfl
theorem nodK_of (g : GoodX w s mb p c e Z L M h ss) : NodK (amap Sv.a M) := by
  unfold NodK amap
  rw [List.map_map]
  show (M.map (·.1)).Nodup
  refine List.pairwise_map.2 (g.st.map.sorted.imp ?_)
  intro a b hab he
  have h1 := before_lt _ _ hab
  rw [he] at h1
  exact List.lt_irrefl _ h1

theorem kbs_eq (g : GoodX w s mb p c e Z L M h ss) (j : Nat) : ((M.map (·.1)).filter fun k => decide ((svAt M k).sec = (j : Int))) = (inS j (amap Sv.a M)).map (·.1) := by
  unfold inS amap
  rw [List.filter_map, List.filter_map, List.map_map]
  show _ = ((M.filter _).map (·.1))
  congr 1
  refine List.filter_congr fun q hq => ?_
  show decide ((svAt M q.1).sec = (j : Int)) = decide (q.2.sec = (j : Int))
  rw [svAt_v (afind_of_mem g.st.map.sorted hq)]
theorem sumA_keys (g : GoodX w s mb p c e Z L M h ss) {Y : AX} (hY : ∀ q ∈ Y, q ∈ amap Sv.a M) : sumA M (Y.map (·.1)) = sumX Y := by
  unfold sumA sumX
  rw [List.map_map]
  congr 1
  refine List.map_congr_left fun q hq => ?_
  obtain ⟨m, hm, rfl⟩ := List.mem_map.1 (hY q hq)
  exact szK_at g hm
theorem kbs_at (g : GoodX w s mb p c e Z L M h ss) {j : Nat} {ks : List (List UInt8)} (hk : (kbsL M ss.length (M.map (·.1)))[j]? = some ks) : j < ss.length ∧ ks = (inS j (amap Sv.a M)).map (·.1) ∧ sumA M ks = sumX (inS j (amap Sv.a M)) ∧ ks.length = (inS j (amap Sv.a M)).length := by
  have hj := (List.getElem?_eq_some_iff.1 hk).1
  rw [kbsL_len] at hj
  unfold kbsL at hk
  rw [List.getElem?_map, List.getElem?_range hj] at hk
  simp only [Option.map_some, Option.some.injEq] at hk
  rw [kbs_eq g j] at hk
  subst hk
  refine ⟨hj, rfl, sumA_keys g (fun q hq => (inS_mem.1 hq).1), by rw [List.length_map]⟩

/-- What a plan begins with. -/
theorem RX.start (r : RX Z B (amap Sv.a M) h (secsOf ss)) (g : GoodX w s mb p c e Z L M h ss) : RB Z M B ⟨secsOf ss, h, []⟩ (kbsL M ss.length (M.map (·.1))) := by
  refine ⟨r.z, by rw [kbsL_len, secsOf_len], r.clean, r.er, r.lq, ?_, ?_, ?_, ?_⟩
  · intro j x hj hx
    have hjl : j < ss.length := by rw [← secsOf_len ss]; exact (List.getElem?_eq_some_iff.1 hj).1
    obtain ⟨ks, hks⟩ : ∃ ks, (kbsL M ss.length (M.map (·.1)))[j]? = some ks := ⟨_, List.getElem?_eq_getElem (by rw [kbsL_len]; exact hjl)⟩
    obtain ⟨_, h2, _⟩ := kbs_at g hks
    have h3 : inS j (amap Sv.a M) = [] := by
      refine List.eq_nil_iff_forall_not_mem.2 fun q hq => ?_
      exact r.blank j x hj hx q (inS_mem.1 hq).1 (inS_mem.1 hq).2
    rw [hks, h2, h3]
    rfl
  · intro ks hks
    obtain ⟨j, hj, rfl⟩ := List.mem_iff_getElem.1 hks
    obtain ⟨h1, _, h3, h4⟩ := kbs_at g (List.getElem?_eq_getElem hj)
    rw [h3, h4]
    exact r.fit j (by rw [secsOf_len]; exact h1)
  · intro ks hks x hx
    obtain ⟨j, hj, rfl⟩ := List.mem_iff_getElem.1 hks
    obtain ⟨_, h2, _⟩ := kbs_at g (List.getElem?_eq_getElem hj)
    rw [h2] at hx
    obtain ⟨q, hq, rfl⟩ := List.mem_map.1 hx
    have hqX := (inS_mem.1 hq).1
    obtain ⟨m, hm, rfl⟩ := List.mem_map.1 hqX
    show 2 * (szK M m.1 + 16) ≤ _
    rw [szK_at g hm]
    exact r.small _ hqX
  · rcases r.hd with h0 | ⟨k, o, s1, hd⟩
    · exact Or.inl h0
    · have hkl : k < ss.length := by rw [← secsOf_len ss]; exact (List.getElem?_eq_some_iff.1 hd.at_).1
      obtain ⟨ks, hks⟩ : ∃ ks, (kbsL M ss.length (M.map (·.1)))[k]? = some ks := ⟨_, List.getElem?_eq_getElem (by rw [kbsL_len]; exact hkl)⟩
      obtain ⟨_, _, h3, h4⟩ := kbs_at g hks
      exact Or.inr ⟨k, o, ks, s1, hd.sec, hd.left, hd.ge, hd.le, hd.t0, hd.t1, hks, by rw [h3, h4]; exact hd.used, hd.at_, hd.st⟩
theorem cov_start (g : GoodX w s mb p c e Z L M h ss) {x : List UInt8} (hx : x ∈ M.map (·.1)) : Cov (kbsL M ss.length (M.map (·.1))) x := by
  obtain ⟨q, hq, rfl⟩ := List.mem_map.1 hx
  have hs := g.secsIn q hq
  obtain ⟨ks, hks⟩ : ∃ ks, (kbsL M ss.length (M.map (·.1)))[q.2.sec.toNat]? = some ks := ⟨_, List.getElem?_eq_getElem (by rw [kbsL_len]; omega)⟩
  obtain ⟨_, h2, _⟩ := kbs_at g hks
  refine ⟨ks, List.mem_of_getElem? hks, ?_⟩
  rw [h2]
  exact List.mem_map.2 ⟨(q.1, q.2.a), inS_mem.2 ⟨List.mem_map.2 ⟨q, hq, rfl⟩, by show q.2.sec = _; omega⟩, rfl⟩

def liveX (X : AX) : Nat := sumX X + 16 * X.length
theorem totW_kbs (g : GoodX w s mb p c e Z L M h ss) : ∀ i, i ≤ (M.map (·.1)).length → totW M (kbsL M ss.length ((M.map (·.1)).take i)) = sumW M ((M.map (·.1)).take i)
  | 0, _ => by
    rw [List.take_zero, kbsL_nil]
    unfold totW
    rw [List.map_replicate]
    simp [sumW, sumA]
  | i + 1, hi => by
    have ih := totW_kbs g i (by omega)
    obtain ⟨x, hx⟩ : ∃ x, (M.map (·.1))[i]? = some x := ⟨_, List.getElem?_eq_getElem (by omega)⟩
    have htk := take_snoc (M.map (·.1)) i x hx
    obtain ⟨q, hq, rfl⟩ := List.mem_map.1 (List.mem_of_getElem? hx)
    have h1 := g.secsIn q hq
    have hv := svAt_v (afind_of_mem g.st.map.sorted hq)
    have hj : (svAt M q.1).sec = ((q.2.sec.toNat : Nat) : Int) := by rw [hv]; omega
    obtain ⟨ks, hks⟩ : ∃ ks, (kbsL M ss.length ((M.map (·.1)).take i))[q.2.sec.toNat]? = some ks := ⟨_, List.getElem?_eq_getElem (by rw [kbsL_len]; omega)⟩
    rw [htk, kbsL_snoc M ss.length _ q.1 q.2.sec.toNat ks hj hks]
    have h2 := totW_set M _ _ ks (ks ++ [q.1]) hks
    rw [sumW_app] at h2 ⊢
    omega
theorem totW_start (g : GoodX w s mb p c e Z L M h ss) : totW M (kbsL M ss.length (M.map (·.1))) = liveX (amap Sv.a M) := by
  have h1 := totW_kbs g (M.map (·.1)).length (Nat.le_refl _)
  rw [List.take_length] at h1
  rw [h1]
  have h2 : M.map (·.1) = (amap Sv.a M).map (·.1) := by unfold amap; rw [List.map_map]; rfl
  unfold sumW liveX
  rw [h2, sumA_keys g (fun q hq => hq), List.length_map]

/-- What a plan ends with, told by the map alone. -/
theorem RB.told (g : GoodX w s mb p c e Z L M h ss) {P : PV} {K : List (List (List UInt8))} (r : RB Z M B P K) (hK : AllK (KeyOk M) K) (hc : ∀ x ∈ M.map (·.1), Cov K x) : RX Z B (reSecK 0 (amap Sv.a M) K) P.h P.l := by
  have hsome : ∀ ks ∈ K, ∀ k ∈ ks, (afind (amap Sv.a M) k).isSome = true := fun ks hks k hk => by
    rw [afind_map, Option.isSome_map]
    exact (hK ks hks k hk).2.2
  have hat : ∀ q ∈ reSecK 0 (amap Sv.a M) K, ∃ (i : Nat) (ks : List (List UInt8)), K[i]? = some ks ∧ q.1 ∈ ks ∧ q.2.1 = (i : Int) ∧ szX q = szK M q.1 := by
    intro q hq
    rcases mem_reSecK K 0 hsome hq with ⟨i, ks, h1, h2, h3, a, h4⟩ | ⟨h1, h2⟩
    · obtain ⟨m, hm, hme⟩ := List.mem_map.1 h4
      refine ⟨i, ks, h1, h2, by rw [h3]; congr 1; omega, ?_⟩
      have h5 := szK_at g hm
      have e1 : m.1 = q.1 := congrArg (·.1) hme
      have e2 : m.2.a.2 = q.2.2 := congrArg (·.2.2) hme
      rw [← e1, h5]
      unfold szX
      rw [e2, ← e1]
    · exfalso
      obtain ⟨m, hm, rfl⟩ := List.mem_map.1 h2
      exact h1 (hc m.1 (List.mem_map.2 ⟨m, hm, rfl⟩))
  have hnod := nodK_reSecK K 0 (nodK_of g)
  have hsum : ∀ (j : Nat) (ks : List (List UInt8)), K[j]? = some ks → sumX (inS j (reSecK 0 (amap Sv.a M) K)) ≤ sumA M ks ∧ (inS j (reSecK 0 (amap Sv.a M) K)).length ≤ ks.length := by
    intro j ks hj
    have h1 := nodup_sum (szK M) ((inS j (reSecK 0 (amap Sv.a M) K)).map (·.1)) ks (nodK_inS hnod j) (fun x hx => by
      obtain ⟨q, hq, rfl⟩ := List.mem_map.1 hx
      obtain ⟨hq1, hq2⟩ := inS_mem.1 hq
      obtain ⟨i, k2, h3, h4, h5, _⟩ := hat q hq1
      have : i = j := by omega
      subst this
      rw [hj] at h3
      cases h3
      exact h4)
    rw [List.length_map] at h1
    refine ⟨?_, h1.2⟩
    have h2 : sumX (inS j (reSecK 0 (amap Sv.a M) K)) = (((inS j (reSecK 0 (amap Sv.a M) K)).map (·.1)).map (szK M)).sum := by
      unfold sumX
      rw [List.map_map]
      congr 1
      refine List.map_congr_left fun q hq => ?_
      obtain ⟨_, _, _, _, _, h5⟩ := hat q (inS_mem.1 hq).1
      exact h5
    rw [h2]
    exact h1.1
  refine ⟨r.z, r.clean, r.er, r.lq, ?_, ?_, ?_, ?_⟩
  · intro j x hj hx q hq hqj
    obtain ⟨i, ks, h1, h2, h3, _⟩ := hat q hq
    have : i = j := by omega
    subst this
    rw [r.blank i x hj hx] at h1
    cases h1
    cases h2
  · intro j hj
    obtain ⟨ks, hks⟩ : ∃ ks, K[j]? = some ks := ⟨_, List.getElem?_eq_getElem (by rw [r.kl]; exact hj)⟩
    obtain ⟨h1, h2⟩ := hsum j ks hks
    have h3 := r.fit ks (List.mem_of_getElem? hks)
    have h4 := cost_mono h2
    omega
  · intro q hq
    obtain ⟨i, ks, h1, h2, _, h4⟩ := hat q hq
    rw [h4]
    exact r.small ks (List.mem_of_getElem? h1) q.1 h2
  · rcases r.hd with h0 | ⟨k, o, ks, s1, hd⟩
    · exact Or.inl h0
    · obtain ⟨h1, h2⟩ := hsum k ks hd.kk
      have h4 := cost_mono h2
      have h5 := hd.used
      exact Or.inr ⟨k, o, s1, hd.sec, hd.left, hd.ge, hd.le, hd.t0, hd.t1, by omega, hd.at_, hd.st⟩
end

/-- What a change adds to a sector. -/
theorem applyA_sum (Y : AX) (f : Ch) (k : Nat) (hb : f.del = false → f.blob.length = f.n) (j : Nat) : sumX (inS j (applyA Y f (k : Int))) ≤ sumX (inS j Y) + (if j = k then f.sz else 0) ∧ (inS j (applyA Y f (k : Int))).length ≤ (inS j Y).length + (if j = k then 1 else 0) := by
  unfold applyA
  cases hd : f.del with
  | true =>
    rw [if_pos rfl]
    have h1 := inS_adel j Y f.s.data.toList
    exact ⟨Nat.le_trans (sumX_sub h1) (Nat.le_add_right ..), Nat.le_trans h1.length_le (Nat.le_add_right ..)⟩
  | false =>
    rw [if_neg (by decide)]
    have h1 := inS_adel j Y f.s.data.toList
    have h2 := sumX_sub h1
    have h3 := h1.length_le
    unfold aput
    have hp := inS_ains j (adel Y f.s.data.toList) (f.s.data.toList, ((k : Int), f.blob))
    rw [sumX_perm hp, hp.length_eq]
    by_cases hjk : j = k
    · subst hjk
      rw [if_pos rfl, if_pos rfl, if_pos rfl]
      have hsz : szX (f.s.data.toList, ((j : Int), f.blob)) = f.sz := by
        unfold szX Ch.sz Ch.rN
        rw [hd, if_neg (by decide), hb hd, size_data]
      have h4 : sumX ((f.s.data.toList, ((j : Int), f.blob)) :: inS j (adel Y f.s.data.toList)) = szX (f.s.data.toList, ((j : Int), f.blob)) + sumX (inS j (adel Y f.s.data.toList)) := by simp [sumX]
      rw [h4, hsz, List.length_cons]
      omega
    · rw [if_neg (by simp; omega), if_neg hjk, if_neg hjk]
      omega
theorem applyL_sum (k : Nat) (j : Nat) : ∀ (l : List Ch) (Y : AX), (∀ f ∈ l, f.del = false → f.blob.length = f.n) → sumX (inS j (applyL Y l (k : Int))) ≤ sumX (inS j Y) + (if j = k then (l.map Ch.sz).sum else 0) ∧ (inS j (applyL Y l (k : Int))).length ≤ (inS j Y).length + (if j = k then l.length else 0)
  | [], Y, _ => by
    show sumX (inS j Y) ≤ _ ∧ (inS j Y).length ≤ _
    split <;> simp
  | f :: l, Y, hb => by
    have h1 := applyA_sum Y f k (hb f (List.mem_cons_self ..)) j
    have h2 := applyL_sum k j l (applyA Y f (k : Int)) (fun g hg => hb g (List.mem_cons_of_mem _ hg))
    show sumX (inS j (applyL (applyA Y f (k : Int)) l (k : Int))) ≤ _ ∧ (inS j (applyL (applyA Y f (k : Int)) l (k : Int))).length ≤ _
    rw [List.map_cons, List.sum_cons, List.length_cons]
    by_cases hjk : j = k
    · rw [if_pos hjk] at h1 h2 ⊢
      rw [if_pos hjk] at h1 h2 ⊢
      omega
    · rw [if_neg hjk] at h1 h2 ⊢
      rw [if_neg hjk] at h1 h2 ⊢
      omega
theorem applyL_mem (k : Nat) : ∀ (l : List Ch) (Y : AX) (q : List UInt8 × (Int × List UInt8)), q ∈ applyL Y l (k : Int) → q ∈ Y ∨ ∃ f ∈ l, f.del = false ∧ q = (f.s.data.toList, ((k : Int), f.blob))
  | [], _, _, h => Or.inl h
  | f :: l, Y, q, h => by
    rcases applyL_mem k l (applyA Y f (k : Int)) q h with h1 | ⟨g, hg, h2⟩
    · unfold applyA at h1
      cases hd : f.del with
      | true =>
        rw [hd, if_pos rfl] at h1
        exact Or.inl ((adel_mem _ _ _).1 h1).1
      | false =>
        rw [hd, if_neg (by decide)] at h1
        rcases (aput_mem _ _ _ _).1 h1 with h3 | ⟨h3, _⟩
        · exact Or.inr ⟨f, List.mem_cons_self .., hd, h3⟩
        · exact Or.inl h3
    · exact Or.inr ⟨g, List.mem_cons_of_mem _ hg, h2⟩

theorem le_sum_mem : ∀ (l : List Nat) (x : Nat), x ∈ l → x ≤ l.sum
  | y :: l, x, h => by
    rw [List.sum_cons]
    rcases List.mem_cons.1 h with rfl | h
    · omega
    · have := le_sum_mem l x h; omega
/-- A commit in the head. -/
theorem RX.commit {Z : Nat} {B : Int} {Y : AX} {h h' : HeadV} {sl : List Sc} (r : RX Z B Y h sl) {k o : Nat} {l : List Ch} (hsec : h.sec = (k : Int)) (hleft : h.left = ((Z - o : Nat) : Int)) (hoz : o ≤ Z) (ho0 : 0 < roomL l) (hor : o + roomL l ≤ Z) (hl16 : l.length ≤ 16) (hb : ∀ f ∈ l, f.blob.length = f.n)
    (hsm : 2 * roomL l ≤ Z - 12) (h1 : h'.sec = (k : Int)) (h2 : h'.left = h.left - (roomL l : Int)) (h3 : h'.txn = h.txn + 1) : RX Z B (applyL Y l (k : Int)) h' sl := by
  rcases r.hd with h0 | ⟨k2, o2, s, hd⟩
  · rw [h0] at hleft
    have : (HeadV.mk 0 0 0 0).left = 0 := rfl
    omega
  · have hk2 : k2 = k := by have := hd.sec; omega
    subst hk2
    have ho2 : o2 = o := by have := hd.left; have := hd.le; omega
    subst ho2
    have hkl := (List.getElem?_eq_some_iff.1 hd.at_).1
    have hrl : roomL l = 16 + (l.map Ch.sz).sum := rfl
    have hus := hd.used
    have hsum := fun j => applyL_sum k2 j l Y (fun f hf _ => hb f hf)
    have hkk := hsum k2
    rw [if_pos rfl, if_pos rfl] at hkk
    have hc1 := cost_mono hkk.2
    have hc2 := cost_add (inS k2 Y).length l.length hl16
    refine ⟨r.z, r.clean, r.er, r.lq, ?_, ?_, ?_, Or.inr ⟨k2, o2 + roomL l, s, h1, by rw [h2, hleft]; omega, by have := hd.ge; omega, hor, by have := hd.t0; omega, by have := hd.t1; omega, by omega, hd.at_, hd.st⟩⟩
    · intro j x hj hx q hq hqj
      rcases applyL_mem k2 l Y q hq with h4 | ⟨f, _, _, rfl⟩
      · exact r.blank j x hj hx q h4 hqj
      · have hjk : k2 = j := by
          have h5 : ((k2 : Nat) : Int) = (j : Int) := hqj
          omega
        subst hjk
        rw [hd.at_] at hj
        cases hj
        rw [hd.st] at hx
        cases hx
    · intro j hj
      by_cases hjk : j = k2
      · subst hjk
        omega
      · have h4 := hsum j
        rw [if_neg hjk, if_neg hjk] at h4
        have h5 := r.fit j hj
        have h6 := cost_mono h4.2
        simp only [Nat.add_zero] at h4 h6
        omega
    · intro q hq
      rcases applyL_mem k2 l Y q hq with h4 | ⟨f, hf, hdl, rfl⟩
      · exact r.small q h4
      · have h5 : szX (f.s.data.toList, ((k2 : Int), f.blob)) = f.sz := by
          unfold szX Ch.sz Ch.rN
          rw [hdl, if_neg (by decide), hb f hf, size_data]
        rw [h5]
        have h6 : f.sz ≤ (l.map Ch.sz).sum := le_sum_mem _ _ (List.mem_map.2 ⟨f, hf, rfl⟩)
        omega

end Go.Proofs.YtnhfmcijadficaaGreatDoor

/- Where there is room: a commit is done, and the store is as ever. -/
namespace Go.Proofs.YtnhfmcijadficaaGreatDoor
set_option maxRecDepth 100000
open Go.RowKit Go.Maps

abbrev AB := Al (List UInt8)
/-- Keys and their blobs alone. -/
def blobsOf (X : AX) : AB := amap (·.2) X
def applyB (Y : AB) (f : Ch) : AB := if f.del then adel Y f.s.data.toList else aput Y f.s.data.toList f.blob
def applyBL (Y : AB) (l : List Ch) : AB := l.foldl applyB Y
def Srt {α : Type} (X : Al α) : Prop := X.Pairwise (fun p q => bytesBefore p.1 q.1 = true)
theorem Srt.amap {α β : Type} {X : Al α} (h : Srt X) (f : α → β) : Srt (amap f X) := List.pairwise_map.2 h
theorem srt_amap {α β : Type} {X : Al α} (f : α → β) (h : Srt (amap f X)) : Srt X := List.pairwise_map.1 h
theorem blobs_applyL (k : Int) : ∀ (l : List Ch) (X : AX), blobsOf (applyL X l k) = applyBL (blobsOf X) l
  | [], _ => rfl
  | f :: l, X => by
    show blobsOf (applyL (applyA X f k) l k) = applyBL (applyB (blobsOf X) f) l
    rw [blobs_applyL k l (applyA X f k)]
    congr 1
    unfold applyA applyB blobsOf
    split
    · exact adel_map _ _ _
    · exact aput_map _ _ _ _
theorem adel_none {α : Type} {X : Al α} {k : List UInt8} (h : ∀ q ∈ X, q.1 ≠ k) : adel X k = X := by
  unfold adel
  rw [List.filter_eq_self]
  intro q hq
  have := h q hq
  simpa using this
theorem ains_first {α : Type} {X : Al α} (p : List UInt8 × α) (h : ∀ q ∈ X, bytesBefore p.1 q.1 = true) : ains p X = p :: X := by
  cases X with
  | nil => rfl
  | cons q r =>
    unfold ains
    rw [if_pos (h q (List.mem_cons_self ..))]
theorem before_irr (a : List UInt8) : ¬ bytesBefore a a = true := fun h => List.lt_irrefl _ (before_lt _ _ h)
theorem before_anti {a b : List UInt8} (h : bytesBefore a b = true) : ¬ bytesBefore b a = true := fun h2 => List.lt_irrefl _ (List.lt_trans (before_lt _ _ h) (before_lt _ _ h2))
theorem before_ne {a b : List UInt8} (h : bytesBefore a b = true) : a ≠ b := fun he => before_irr b (by rw [he] at h; exact h)
/-- A key is put whose blob is the same. -/
theorem aput_same {α : Type} : ∀ {X : Al α} {k : List UInt8} {v : α}, Srt X → afind X k = some v → aput X k v = X
  | [], _, _, _, h => by cases h
  | q :: X, k, v, hs, h => by
    have hs' := List.pairwise_cons.1 hs
    by_cases hk : q.1 = k
    · have hqv : q = (k, v) := by
        unfold afind at h
        rw [List.find?_cons_of_pos (by simpa using hk)] at h
        simp only [Option.map_some, Option.some.injEq] at h
        exact Prod.ext hk h
      have hno : ∀ r ∈ X, r.1 ≠ k := fun r hr he => before_ne (hs'.1 r hr) (by rw [hk, he])
      unfold aput
      have h1 : adel (q :: X) k = X := by
        have h2 : adel (q :: X) k = adel X k := by
          unfold adel
          rw [List.filter_cons_of_neg (by simpa using hk)]
        rw [h2, adel_none hno]
      rw [h1, ains_first _ (fun r hr => by have := hs'.1 r hr; rw [hk] at this; exact this), hqv]
    · have h1 : afind X k = some v := by
        unfold afind at h ⊢
        rw [List.find?_cons_of_neg (by simpa using hk)] at h
        exact h
      have ih := aput_same hs'.2 h1
      have hb : bytesBefore q.1 k = true := hs'.1 (k, v) (afind_mem h1)
      unfold aput at ih ⊢
      have h2 : adel (q :: X) k = q :: adel X k := by
        unfold adel
        rw [List.filter_cons_of_pos (by simpa using hk)]
      rw [h2]
      unfold ains
      rw [if_neg (before_anti hb), ih]
theorem blobs_reSec1 {j : Int} {X : AX} {k : List UInt8} (hs : Srt (blobsOf X)) (hk : (afind X k).isSome = true) : blobsOf (reSec1 j X k) = blobsOf X := by
  unfold reSec1 blobsOf
  rw [aput_map]
  obtain ⟨v, hv, _⟩ := mem_of_isSome hk
  refine aput_same hs ?_
  rw [afind_map, hv]
  rfl
theorem blobs_reSecL {j : Int} : ∀ (ks : List (List UInt8)) {X : AX}, Srt (blobsOf X) → (∀ k ∈ ks, (afind X k).isSome = true) → blobsOf (reSecL j X ks) = blobsOf X
  | [], _, _, _ => rfl
  | k :: ks, X, hs, hk => by
    have h1 := blobs_reSec1 (j := j) hs (hk k (List.mem_cons_self ..))
    have h2 := blobs_reSecL (j := j) ks (X := reSec1 j X k) (by rw [h1]; exact hs) (fun x hx => keep_reSec1 (hk x (List.mem_cons_of_mem _ hx)))
    exact h2.trans h1
theorem blobs_reSecK : ∀ (K : List (List (List UInt8))) (j : Nat) {X : AX}, Srt (blobsOf X) → (∀ ks ∈ K, ∀ k ∈ ks, (afind X k).isSome = true) → blobsOf (reSecK j X K) = blobsOf X
  | [], _, _, _, _ => rfl
  | ks :: K, j, X, hs, hk => by
    have h1 := blobs_reSecL (j := (j : Int)) ks hs (hk ks (List.mem_cons_self ..))
    have h2 := blobs_reSecK K (j + 1) (X := reSecL (j : Int) X ks) (by rw [h1]; exact hs) (fun x hx y hy => keep_reSecL ks (hk x (List.mem_cons_of_mem _ hx) y hy))
    exact h2.trans h1

/-- A store that commits have made none of whose sectors is worn. -/
structure GoodR (w : World) (s mb p c e Z L : Nat) (M : Al Sv) (h : HeadV) (ss : List (Nat × List UInt8)) (B : Int) : Prop where
  g : GoodX w s mb p c e Z L M h ss
  r : RX Z B (amap Sv.a M) h (secsOf ss)
  free : 1 ≤ (secsOf ss).countP (opensB (L : Int))
/-- A commit that is done. -/
def DoneR (s mb p c e Z L : Nat) (M : Al Sv) (ss : List (Nat × List UInt8)) (B : Int) (l : List Ch) (w w' : World) (e1 : Ending) : Prop :=
  e1 = .returned (.int .i64 0) ∧ ∃ M' h' ss', GoodR w' s mb p c e Z L M' h' ss' (B + 8 * (ss.length : Int)) ∧ ss'.length = ss.length ∧ blobsOf (amap Sv.a M') = applyBL (blobsOf (amap Sv.a M)) l ∧ M'.length ≤ M.length + 16 ∧ Only (Mut s mb p c e) w w'

section
variable {w w' : World} {s mb p c e Z L : Nat} {M : Al Sv} {h : HeadV} {ss : List (Nat × List UInt8)} {B : Int}
theorem GoodR.below (g : GoodR w s mb p c e Z L M h ss B) (b : Below w.heap.size w w') : GoodR w' s mb p c e Z L M h ss B := ⟨g.g.below b, g.r, g.free⟩
theorem Outcome.room {l : List Ch} {e1 : Ending} (hO : Outcome s mb p c e Z L M h ss l w w' e1) (G : GoodR w s mb p c e Z L M h ss B) (h3 : 3 ≤ ss.length) (href : refuC l (Z - 12) = 0) (hroom : 4 * (liveX (amap Sv.a M) + roomL l) ≤ (ss.length - 2) * (Z - 12))
    (hB : B + 8 * (ss.length : Int) < 4294967295) (hL : B + 8 * (ss.length : Int) < (L : Int)) (hb : ∀ f ∈ l, f.blob.length = f.n) : DoneR s mb p c e Z L M ss B l w w' e1 := by
  have hgeo := G.g.geo
  have hz0 := hgeo.z0
  have hr0 := refuC_zero href
  have hr2 : 2 * roomL l ≤ Z - 12 := by have := hr0.2.2.2.2; omega
  have hr1 : 0 < roomL l := by unfold roomL; omega
  have hsl : (secsOf ss).length = ss.length := secsOf_len ss
  have hRB := G.r.start G.g
  have hRS : RS Z M B (lastQ (secsOf ss)) ⟨secsOf ss, h, []⟩ (kbsL M ss.length (M.map (·.1))) := ⟨hRB, Int.le_refl _, fun j x ks hj hx hq _ => by
    have h9 : x.q ≤ lastQ (secsOf ss) := lastQ_ge (List.mem_of_getElem? hj) hx
    exact absurd h9 (Int.not_le.2 hq)⟩
  have hcnt : (secsOf ss).countP (oldB (lastQ (secsOf ss))) ≤ ss.length := by rw [← hsl]; exact List.countP_le_length
  have hrounds := fun (b : Bool) (PF : PV) (KF : List (List (List UInt8))) => rounds_room (L := L) (lastQ (secsOf ss)) (room := (roomL l : Int)) (4 * ss.length) B ⟨secsOf ss, h, []⟩ (kbsL M ss.length (M.map (·.1))) b PF KF hRS (by show (secsOf ss).countP _ + 1 ≤ _; omega) G.free (by show 3 ≤ (secsOf ss).length; omega) (by omega)
    (by rw [totW_start G.g]; show _ ≤ ((secsOf ss).length - 2) * _; rw [hsl]; omega) (by omega) (by omega) (by omega)
  have hX : Srt (blobsOf (amap Sv.a M)) := Srt.amap (Srt.amap G.g.st.map.sorted _) _
  rcases hO with ⟨h9, _⟩ | ⟨_, _, _, _, PF, KF, h9⟩ | ⟨_, rfl, PF, KF, M', h', ss', k, o, hpl, hG', hss, hX', hM', hl, hor, hh', hs', hkey, hkl, hon, _, hsec, hpl2⟩
  · exact absurd href h9
  · obtain ⟨h8, _⟩ := hrounds _ _ _ h9
    cases h8
  · refine ⟨rfl, M', h', ss', ?_, hss, ?_, hM', hon⟩
    · have hsome : ∀ ks ∈ KF, ∀ k ∈ ks, (afind (amap Sv.a M) k).isSome = true := fun ks hks k hk => by
        rw [afind_map, Option.isSome_map]
        exact (hkey ks hks k hk).2.2
      have hrx : RX Z (B + 8 * (ss.length : Int)) (reSecK 0 (amap Sv.a M) KF) PF.h (secsOf ss') ∧ 1 ≤ (secsOf ss').countP (opensB (L : Int)) := by
        rcases hpl with ⟨_, rfl, rfl⟩ | ⟨htk, hR⟩
        · have e1 : secsOf ss' = secsOf ss := hsec
          rw [e1]
          refine ⟨?_, G.free⟩
          exact ⟨G.r.z, G.r.clean, fun x hx => by have := G.r.er x hx; omega, by have := G.r.lq; omega, G.r.blank, G.r.fit, G.r.small, G.r.hd⟩
        · obtain ⟨_, h6, h7, _, h8⟩ := hrounds _ _ _ hR
          have e1 : PF.l = secsOf ss' := (hpl2 htk).trans hsec.symm
          have h5 := RB.told G.g h6 hkey (fun x hx => h8 x (cov_start G.g hx))
          rw [e1] at h5 h7
          refine ⟨?_, h7⟩
          have e2 : B + 2 * ((4 * ss.length : Nat) : Int) = B + 8 * (ss.length : Int) := by omega
          rw [e2] at h5
          exact h5
      have hc := hrx.1.commit (h' := h') (k := k) (o := o) (l := l) hl.sec hl.left hl.le hr1 hor hr0.2.1 hb hr2 (by rw [hh']; exact hl.sec) (by rw [hh']; show _ - (roomL _ : Int) = _; rw [nm_sz]) (by rw [hh']; rfl)
      rw [← hX'] at hc
      exact ⟨hG', hc, hrx.2⟩
    · rw [hX', blobs_applyL, blobs_reSecK KF 0 hX (fun ks hks k hk => by rw [afind_map, Option.isSome_map]; exact (hkey ks hks k hk).2.2)]
end

/-- A commit that there is room for is done. -/
theorem commit_room (s mb p c e Z L : Nat) (M : Al Sv) (h : HeadV) (ss : List (Nat × List UInt8)) (B : Int) (A : Option Addr) (n cap : Nat) (l : List Ch) (w : World) (G : GoodR w s mb p c e Z L M h ss B) (hM : M.length ≤ 3000)
    (hC : Chs w (Mut s mb p c e) A n cap l) (hn : n ≤ 1048576) (hT : ∀ q, Three p c e q → q ≠ s ∧ q ≠ mb) (h0 : ¬ Mut s mb p c e 0) (hS : 4 * ss.length * (66 + M.length) ≤ 990000) (h3 : 3 ≤ ss.length) (href : refuC l (Z - 12) = 0)
    (hroom : 4 * (liveX (amap Sv.a M) + roomL l) ≤ (ss.length - 2) * (Z - 12)) (hB : B + 8 * (ss.length : Int) < 4294967295) (hL : B + 8 * (ss.length : Int) < (L : Int)) :
    Calls Tryz.prog 12 #[.pointer (some ⟨s, 0, none⟩), .slice A n cap] w fun e1 w' => DoneR s mb p c e Z L M ss B l w w' e1 :=
  (commit_any s mb p c e Z L M h ss A n cap l w G.g hM hC hn hT h0 hS).mono fun _ _ hO => hO.room G h3 href hroom hB hL (fun f hf => (hC.2.2.2.2 f hf).1.1)

end Go.Proofs.YtnhfmcijadficaaGreatDoor

/- A commit for which no sector has to be cleaned is done. -/
namespace Go.Proofs.YtnhfmcijadficaaGreatDoor
set_option maxRecDepth 100000
open Go.RowKit Go.Maps

section
variable {w w' : World} {s mb p c e Z L : Nat} {M : Al Sv} {h : HeadV} {ss : List (Nat × List UInt8)}
theorem Outcome.easy {l : List Ch} {e1 : Ending} (hO : Outcome s mb p c e Z L M h ss l w w' e1) (G : GoodX w s mb p c e Z L M h ss) (href : refuC l (Z - 12) = 0) (h2 : takesB h (roomL l : Int) = false → 2 ≤ (secsOf ss).countP (opensB (L : Int)) ∧ lastQ (secsOf ss) ≠ 4294967295) :
    e1 = .returned (.int .i64 0) ∧ ∃ M' h' ss', GoodX w' s mb p c e Z L M' h' ss' ∧ ss'.length = ss.length ∧ blobsOf (amap Sv.a M') = applyBL (blobsOf (amap Sv.a M)) l ∧ M'.length ≤ M.length + 16 ∧ Only (Mut s mb p c e) w w' := by
  have hr0 := refuC_zero href
  have hX : Srt (blobsOf (amap Sv.a M)) := Srt.amap (Srt.amap G.st.map.sorted _) _
  have hbz := G.fs.bz
  rcases hO with ⟨h9, _⟩ | ⟨_, _, _, htk, PF, KF, h9⟩ | ⟨_, rfl, PF, KF, M', h', ss', k, o, hpl, hG', hss, hX', hM', hl, hor, hh', hs', hkey, hkl, hon, _⟩
  · exact absurd href h9
  · obtain ⟨h3, h4⟩ := h2 htk
    obtain ⟨n, hn⟩ : ∃ n, 4 * ss.length = n + 1 := ⟨4 * ss.length - 1, by omega⟩
    rw [hn] at h9
    obtain ⟨h5, _⟩ := one_round (P := ⟨secsOf ss, h, []⟩) h3 h4 (by have := hr0.2.2.2.2; omega) h9
    cases h5
  · refine ⟨rfl, M', h', ss', hG', hss, ?_, hM', hon⟩
    rw [hX', blobs_applyL, blobs_reSecK KF 0 hX (fun ks hks k hk => by rw [afind_map, Option.isSome_map]; exact (hkey ks hks k hk).2.2)]
end
theorem opens_fresh {S Z L : Nat} (hz : 12 ≤ Z) (hS : 2 ≤ S) : 2 ≤ (secsOf (freshS S Z)).countP (opensB (L : Int)) ∧ lastQ (secsOf (freshS S Z)) ≠ 4294967295 := by
  rw [fresh_count S Z L hz, fresh_last S Z hz]
  exact ⟨hS, by decide⟩
theorem freshS_len (S Z : Nat) : (freshS S Z).length = S := List.length_replicate

/-- A store with one blob. -/
theorem one_blob {M : Al Sv} {k b : List UInt8} (h : blobsOf (amap Sv.a M) = [(k, b)]) : ∃ f : Sv, M = [(k, f)] ∧ f.xs = b := by
  unfold blobsOf amap at h
  rw [List.map_map] at h
  obtain ⟨q, M', rfl, h1, h2⟩ := List.map_eq_cons_iff.1 h
  rw [List.map_eq_nil_iff] at h2
  subst h2
  obtain ⟨k', f⟩ := q
  have h3 : k' = k := congrArg (·.1) h1
  have h4 : f.xs = b := congrArg (·.2) h1
  exact ⟨f, by rw [h3], h4⟩

/-- A change that was just laid. -/
theorem chs_lit {w : World} {S : Nat → Prop} (f : Ch) (hb : ByteSl w S f.A f.n f.cap f.blob ∧ (f.A = none → f.n = 0 ∧ f.cap = 0)) (hS : ¬ S w.heap.size) :
    Chs (w.alloc (.cells #[.bool f.del, .string f.s, .slice f.A f.n f.cap] 37)) S (some ⟨w.heap.size, 0, none⟩) 1 1 [f] := by
  have hB := Blk.new w 37 #[.bool f.del, .string f.s, .slice f.A f.n f.cap]
  refine ⟨rfl, by decide, by decide, fun _ => ⟨_, _, rfl, hB.lt, hS, fun i g hi j hj => ?_⟩, fun g hg => ?_⟩
  · cases i with
    | succ i => simp at hi
    | zero =>
      simp at hi
      subst hi
      have hc := hB.cell j
      simp only [Nat.zero_mul, Nat.zero_add]
      rw [hc]
      have hj3 : j = 0 ∨ j = 1 ∨ j = 2 := by omega
      rcases hj3 with rfl | rfl | rfl <;> rfl
  · rw [List.mem_singleton.1 hg]
    exact ⟨hb.1.only (Only.of_below (S := Empty) ((Below.refl w.heap.size w).alloc (Nat.le_refl _) _)) (fun _ _ h => h.elim), hb.2⟩

end Go.Proofs.YtnhfmcijadficaaGreatDoor
