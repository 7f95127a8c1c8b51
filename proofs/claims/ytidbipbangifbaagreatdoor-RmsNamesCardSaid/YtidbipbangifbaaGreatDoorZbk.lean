/- A flash as New makes it; where a sector can be opened there is room. -/
import Derived.Test.YtidbipbangifbaaGreatDoorZbj
import Derived.Test.YtidbipbangifbaaGreatDoorZad
namespace Go.Proofs.YtidbipbangifbaaGreatDoor
set_option maxRecDepth 100000
open Go.RowKit Go.Maps

def freshS (S Z : Nat) : List (Nat × List UInt8) := List.replicate S (0, List.replicate Z 255)
theorem FS.fresh {w : World} {p c e S Z L : Nat} (h : FlashAt w p c e (Fl.fresh S Z L)) : FS w p c e Z L (freshS S Z) := by
  refine ⟨Fl.fresh S Z L, h, rfl, rfl, by simp [freshS, Fl.fresh], rfl, rfl, fun k m xs hk => ?_⟩
  unfold freshS at hk
  rw [List.getElem?_replicate] at hk
  split at hk
  · rename_i hlt
    cases hk
    refine ⟨?_, ?_⟩
    · show (List.replicate S 0)[k]? = some 0
      rw [List.getElem?_replicate, if_pos hlt]
    · show ((List.replicate (S * Z) 255).drop (k * Z)).take Z = _
      rw [List.drop_replicate, List.take_replicate]
      congr 1
      have h1 : (k + 1) * Z ≤ S * Z := Nat.mul_le_mul_right _ hlt
      rw [Nat.add_mul, Nat.one_mul] at h1
      omega
  · cases hk
theorem fresh_secs (S Z : Nat) (hz : 12 ≤ Z) : secsOf (freshS S Z) = List.replicate S ⟨0, 0, 0⟩ := by
  unfold secsOf freshS
  rw [List.map_replicate]
  congr 1
  have h := blank_st Z hz
  show (⟨stS _, stQ _, _⟩ : Sc) = _
  rw [h.2.2, h.2.1]
  rfl
theorem fresh_no (S Z : Nat) (hz : 12 ≤ Z) : ∀ x ∈ freshS S Z, stU x.2 = false := by
  intro x hx
  rw [List.eq_of_mem_replicate hx]
  exact (blank_st Z hz).1
theorem fresh_count (S Z L : Nat) (hz : 12 ≤ Z) : (secsOf (freshS S Z)).countP (opensB (L : Int)) = S := by
  rw [fresh_secs S Z hz, List.countP_replicate]
  simp [opensB]
theorem fresh_last (S Z : Nat) (hz : 12 ≤ Z) : lastQ (secsOf (freshS S Z)) = 0 := by
  rw [fresh_secs S Z hz]
  unfold lastQ
  induction S with
  | zero => rfl
  | succ n ih => rw [List.replicate_succ, List.foldl_cons]; exact ih

theorem best_some {L : Nat} {l : List Sc} (h : 0 < l.countP (opensB (L : Int))) : best (opensB (L : Int)) Sc.er l l.length ≠ none := by
  intro hb
  have h1 := best_is (opensB (L : Int)) Sc.er l l.length (Nat.le_refl _)
  rw [hb] at h1
  rw [List.countP_pos_iff] at h
  obtain ⟨s, hs, ho⟩ := h
  obtain ⟨j, hj, rfl⟩ := List.mem_iff_getElem.1 hs
  have h2 := h1 j _ hj (List.getElem?_eq_getElem hj)
  rw [ho] at h2
  cases h2
/-- Where two sectors can be opened one round makes room. -/
theorem one_round {Z L : Nat} {M : Al Sv} {room : Int} {n : Nat} {P : PV} {K : List (List (List UInt8))} {b : Bool} {PF : PV} {KF : List (List (List UInt8))} (h2 : 2 ≤ P.l.countP (opensB (L : Int))) (hq : ¬ lastQ P.l = 4294967295) (hr : room ≤ ((Z - 12 : Nat) : Int))
    (h : Rounds Z L M room (n + 1) P K b PF KF) : b = true ∧ KF = K ∧ ∃ i s, Opens L P i s ∧ PF = P.opened i Z s := by
  have hno : ¬ NoOpen L P := fun hn => by
    rcases hn.no with h1 | h1
    · exact best_some (by omega) h1
    · exact hq h1
  rcases h.inv with ⟨t, hm, rfl⟩ | ⟨t, hm, _, rfl⟩ | ⟨t, P1, K1, hm, htk, _, _⟩
  · rcases hm with ⟨_, i, s, _, h3, _⟩ | ⟨_, h3, _⟩ | ⟨h3, _⟩
    · cases h3
    · exact absurd h3 hno
    · omega
  · rcases hm with ⟨_, i, s, h3, _, h4, h5⟩ | ⟨_, h3, _⟩ | ⟨h3, _⟩
    · exact ⟨rfl, h5, i, s, h3, h4⟩
    · exact absurd h3 hno
    · omega
  · rcases hm with ⟨_, i, s, _, _, h4, _⟩ | ⟨_, h3, _⟩ | ⟨h3, _⟩
    · rw [h4] at htk
      have : takesB (P.opened i Z s).h room = true := by
        unfold takesB PV.opened
        simp
        omega
      rw [this] at htk
      cases htk
    · exact absurd h3 hno
    · omega

theorem reSecK_none (S : Nat) : ∀ (n j : Nat) (X : Al (Int × List UInt8)), reSecK j X (List.replicate n []) = X
  | 0, _, _ => rfl
  | n + 1, j, X => by rw [List.replicate_succ]; exact reSecK_none S n (j + 1) X

end Go.Proofs.YtidbipbangifbaaGreatDoor

/- Where there is room: what keys take, what a plan keeps from round to round. The plain half. -/
namespace Go.Proofs.YtidbipbangifbaaGreatDoor
set_option maxRecDepth 100000
open Go.RowKit Go.Maps

/-- What a key's put takes; what keys take, what they count for; what the ends of their commits take at most. -/
def szK (M : Al Sv) (k : List UInt8) : Nat := (keyCh M k).sz
def sumA (M : Al Sv) (ks : List (List UInt8)) : Nat := (ks.map (szK M)).sum
def sumW (M : Al Sv) (ks : List (List UInt8)) : Nat := sumA M ks + 16 * ks.length
def cost (n : Nat) : Nat := (n + 15) / 16 * 16
theorem cost_add (n m : Nat) (h : m ≤ 16) : cost (n + m) ≤ cost n + 16 := by unfold cost; omega
theorem cost_mono {n m : Nat} (h : n ≤ m) : cost n ≤ cost m := by unfold cost; omega
theorem cost_pos {n : Nat} (h : 0 < n) : 16 ≤ cost n := by unfold cost; omega
theorem cost_16 {n : Nat} (h : 16 ≤ n) : cost n = cost (n - 16) + 16 := by unfold cost; omega
theorem sumA_app (M : Al Sv) (a b : List (List UInt8)) : sumA M (a ++ b) = sumA M a + sumA M b := by simp [sumA]
theorem sumA_cons (M : Al Sv) (a : List UInt8) (b : List (List UInt8)) : sumA M (a :: b) = szK M a + sumA M b := by simp [sumA]
theorem sumW_app (M : Al Sv) (a b : List (List UInt8)) : sumW M (a ++ b) = sumW M a + sumW M b := by unfold sumW; rw [sumA_app, List.length_append]; omega
theorem sumA_take (M : Al Sv) (ks : List (List UInt8)) (n : Nat) : sumA M (ks.take n) + sumA M (ks.drop n) = sumA M ks := by rw [← sumA_app, List.take_append_drop]
def totW (M : Al Sv) (K : List (List (List UInt8))) : Nat := (K.map (sumW M)).sum
theorem totW_set (M : Al Sv) : ∀ (K : List (List (List UInt8))) (i : Nat) (kk x : List (List UInt8)), K[i]? = some kk → totW M (K.set i x) + sumW M kk = totW M K + sumW M x
  | [], i, kk, x, h => by simp at h
  | a :: K, 0, kk, x, h => by
    simp at h
    subst h
    simp [totW]
    omega
  | a :: K, i + 1, kk, x, h => by
    have h1 : K[i]? = some kk := by simpa using h
    have h2 := totW_set M K i kk x h1
    have h3 : totW M ((a :: K).set (i + 1) x) = sumW M a + totW M (K.set i x) := by simp [totW]
    have h4 : totW M (a :: K) = sumW M a + totW M K := by simp [totW]
    omega

/-- The greatest Seq. -/
theorem foldQ (l : List Sc) : ∀ m : Int, m ≤ l.foldl (fun m s => if s.st = 2 then max m s.q else m) m ∧ (∀ s ∈ l, s.st = 2 → s.q ≤ l.foldl (fun m s => if s.st = 2 then max m s.q else m) m) ∧
    (∀ c, m ≤ c → (∀ s ∈ l, s.st = 2 → s.q ≤ c) → l.foldl (fun m s => if s.st = 2 then max m s.q else m) m ≤ c) ∧ (l.foldl (fun m s => if s.st = 2 then max m s.q else m) m = m ∨ ∃ s ∈ l, s.st = 2 ∧ s.q = l.foldl (fun m s => if s.st = 2 then max m s.q else m) m) := by
  induction l with
  | nil => exact fun m => ⟨Int.le_refl _, (fun s h => by cases h), fun c h _ => h, Or.inl rfl⟩
  | cons a l ih =>
    intro m
    rw [List.foldl_cons]
    by_cases ha : a.st = 2
    · rw [if_pos ha]
      obtain ⟨h1, h2, h3, h4⟩ := ih (max m a.q)
      refine ⟨by omega, ?_, ?_, ?_⟩
      · intro s hs hst
        rcases List.mem_cons.1 hs with rfl | hs
        · omega
        · exact h2 s hs hst
      · intro c hc hl
        have := hl a (List.mem_cons_self ..) ha
        exact h3 c (by omega) (fun s hs => hl s (List.mem_cons_of_mem _ hs))
      · rcases h4 with h4 | ⟨s, hs, h5⟩
        · rcases Int.le_total m a.q with h6 | h6
          · exact Or.inr ⟨a, List.mem_cons_self .., ha, by rw [h4]; omega⟩
          · exact Or.inl (by rw [h4]; omega)
        · exact Or.inr ⟨s, List.mem_cons_of_mem _ hs, h5⟩
    · rw [if_neg ha]
      obtain ⟨h1, h2, h3, h4⟩ := ih m
      refine ⟨h1, ?_, ?_, ?_⟩
      · intro s hs hst
        rcases List.mem_cons.1 hs with rfl | hs
        · exact absurd hst ha
        · exact h2 s hs hst
      · exact fun c hc hl => h3 c hc (fun s hs => hl s (List.mem_cons_of_mem _ hs))
      · rcases h4 with h4 | ⟨s, hs, h5⟩
        · exact Or.inl h4
        · exact Or.inr ⟨s, List.mem_cons_of_mem _ hs, h5⟩
theorem lastQ_ge {l : List Sc} {s : Sc} (hs : s ∈ l) (h : s.st = 2) : s.q ≤ lastQ l := (foldQ l 0).2.1 s hs h
theorem lastQ_le_of {l : List Sc} {c : Int} (h0 : 0 ≤ c) (h : ∀ s ∈ l, s.st = 2 → s.q ≤ c) : lastQ l ≤ c := (foldQ l 0).2.2.1 c h0 h
theorem lastQ_att (l : List Sc) : lastQ l = 0 ∨ ∃ s ∈ l, s.st = 2 ∧ s.q = lastQ l := (foldQ l 0).2.2.2
theorem lastQ_pos (l : List Sc) : 0 ≤ lastQ l := (foldQ l 0).1
theorem lastQ_opened {l : List Sc} {j : Nat} {s : Sc} (e : Int) (hj : l[j]? = some s) : lastQ (l.set j ⟨2, lastQ l + 1, e⟩) = lastQ l + 1 := by
  have h0 := lastQ_pos l
  have hjl := (List.getElem?_eq_some_iff.1 hj).1
  refine Int.le_antisymm (lastQ_le_of (by omega) ?_) (lastQ_ge (s := ⟨2, lastQ l + 1, e⟩) (List.mem_of_getElem? (List.getElem?_set_self hjl)) rfl)
  intro x hx hst
  rcases List.mem_or_eq_of_mem_set hx with h | rfl
  · have := lastQ_ge h hst; omega
  · exact Int.le_refl _
theorem lastQ_gone {l : List Sc} {j : Nat} {x : Sc} (hx : x.st ≠ 2) : lastQ (l.set j x) ≤ lastQ l := by
  refine lastQ_le_of (lastQ_pos l) ?_
  intro s hs hst
  rcases List.mem_or_eq_of_mem_set hs with h | rfl
  · exact lastQ_ge h hst
  · exact absurd hst hx

/-- A head with a place in its sector. -/
structure HdS (Z : Nat) (M : Al Sv) (P : PV) (K : List (List (List UInt8))) (k o : Nat) (ks : List (List UInt8)) (s : Sc) : Prop where
  sec : P.h.sec = (k : Int)
  left : P.h.left = ((Z - o : Nat) : Int)
  ge : 12 ≤ o
  le : o ≤ Z
  t0 : 0 ≤ P.h.txn
  t1 : P.h.txn ≤ (o : Int)
  kk : K[k]? = some ks
  used : sumA M ks + cost ks.length + 12 ≤ o
  at_ : P.l[k]? = some s
  st : s.st = 2
/-- What holds of a store's sectors where none is worn, and of a plan's. -/
structure RB (Z : Nat) (M : Al Sv) (B : Int) (P : PV) (K : List (List (List UInt8))) : Prop where
  z : Z ≤ 65536
  kl : K.length = P.l.length
  clean : ∀ s ∈ P.l, s.st = 0 ∨ s.st = 2
  er : ∀ s ∈ P.l, s.er ≤ B
  lq : lastQ P.l ≤ B
  blank : ∀ (j : Nat) (s : Sc), P.l[j]? = some s → s.st = 0 → K[j]? = some []
  fit : ∀ ks ∈ K, sumA M ks + cost ks.length ≤ Z - 12
  small : ∀ ks ∈ K, ∀ x ∈ ks, 2 * (szK M x + 16) ≤ Z - 12
  hd : P.h = ⟨0, 0, 0, 0⟩ ∨ ∃ k o ks s, HdS Z M P K k o ks s
/-- Sectors that were opened behind q0 are half full of what lives, but for the head. -/
structure RS (Z : Nat) (M : Al Sv) (B q0 : Int) (P : PV) (K : List (List (List UInt8))) : Prop where
  b : RB Z M B P K
  lo : q0 ≤ lastQ P.l
  good : ∀ (j : Nat) (s : Sc) (ks : List (List UInt8)), P.l[j]? = some s → s.st = 2 → q0 < s.q → K[j]? = some ks → ((j : Int) = P.h.sec ∧ ∃ o, P.h.left = ((Z - o : Nat) : Int) ∧ o ≤ Z ∧ o ≤ 12 + sumW M ks) ∨ Z - 12 ≤ 2 * sumW M ks

theorem opens_iff {L : Nat} {s : Sc} (h : s.st = 0 ∨ s.st = 2) : opensB (L : Int) s = decide (s.st = 0) := by
  unfold opensB
  rcases h with h | h <;> simp [h]

section
variable {Z L : Nat} {M : Al Sv} {B q0 : Int} {P : PV} {K : List (List (List UInt8))}

theorem RB.mono (h : RB Z M B P K) {B' : Int} (hb : B ≤ B') : RB Z M B' P K :=
  ⟨h.z, h.kl, h.clean, fun s hs => by have := h.er s hs; omega, by have := h.lq; omega, h.blank, h.fit, h.small, h.hd⟩
theorem RS.mono (h : RS Z M B q0 P K) {B' : Int} (hb : B ≤ B') : RS Z M B' q0 P K := ⟨h.b.mono hb, h.lo, h.good⟩
theorem RB.txn (h : RB Z M B P K) : P.h.txn ≤ 4294901759 := by
  have := h.z
  rcases h.hd with h0 | ⟨k, o, ks, s, h1⟩
  · rw [h0]; show (0 : Int) ≤ _; omega
  · have := h1.t1; have := h1.le; omega
theorem RB.room {room : Int} (h : RB Z M B P K) (ht : takesB P.h room = false) : P.h.left < room := by
  have h1 := h.txn
  unfold takesB at ht
  simp only [Bool.and_eq_false_iff, decide_eq_false_iff_not] at ht
  omega

theorem fit_none {h : HeadV} {x : List UInt8} {ks : List (List UInt8)} (hf : fit M h (x :: ks) = []) : takesB h ((16 + szK M x : Nat) : Int) = false := by
  unfold fit at hf
  rw [List.take_succ_cons] at hf
  unfold fitL at hf
  split at hf
  · cases hf
  · rename_i h1
    simpa [szK] using h1
theorem roomL_keys (ks : List (List UInt8)) : roomL (ks.map fun x => (keyCh M x).nm) = 16 + sumA M ks := by
  have : (ks.map fun x => (keyCh M x).nm) = (ks.map (keyCh M)).map Ch.nm := by rw [List.map_map]; rfl
  rw [this, nm_sz]
  unfold roomL sumA szK
  rw [List.map_map]
  rfl

/-- A sector is opened. -/
theorem RB.opened (h : RB Z M B P K) {j : Nat} {s : Sc} (hj : P.l[j]? = some s) (hs : s.st = 0) (hz : 12 ≤ Z) :
    RB Z M (B + 1) (P.opened j Z s) K ∧ HdS Z M (P.opened j Z s) K j 12 [] ⟨2, lastQ P.l + 1, s.er⟩ ∧ (P.opened j Z s).l = P.l.set j ⟨2, lastQ P.l + 1, s.er⟩ := by
  have hl : (P.opened j Z s).l = P.l.set j ⟨2, lastQ P.l + 1, s.er⟩ := by
    unfold PV.opened
    rw [if_neg (by rw [hs]; decide)]
  have hjl := (List.getElem?_eq_some_iff.1 hj).1
  have hkj := h.blank j s hj hs
  have hlq := h.lq
  have hh : HdS Z M (P.opened j Z s) K j 12 [] ⟨2, lastQ P.l + 1, s.er⟩ :=
    ⟨rfl, rfl, Nat.le_refl _, hz, Int.le_refl _, (by show (0 : Int) ≤ _; omega), hkj, by simp [sumA, cost], by rw [hl]; exact List.getElem?_set_self hjl, rfl⟩
  refine ⟨⟨h.z, by rw [hl, List.length_set]; exact h.kl, ?_, ?_, by rw [hl, lastQ_opened _ hj]; omega, ?_, h.fit, h.small, Or.inr ⟨j, 12, [], _, hh⟩⟩, hh, hl⟩
  · intro x hx
    rw [hl] at hx
    rcases List.mem_or_eq_of_mem_set hx with h1 | rfl
    · exact h.clean x h1
    · exact Or.inr rfl
  · intro x hx
    rw [hl] at hx
    rcases List.mem_or_eq_of_mem_set hx with h1 | rfl
    · have := h.er x h1; omega
    · have := h.er s (List.mem_of_getElem? hj); show s.er ≤ B + 1; omega
  · intro i x hi hx
    rw [hl] at hi
    by_cases hji : j = i
    · subst hji
      rw [List.getElem?_set_self hjl] at hi
      cases hi
      cases hx
    · rw [List.getElem?_set_ne hji] at hi
      exact h.blank i x hi hx
theorem RS.opened (h : RS Z M B q0 P K) {j : Nat} {s : Sc} (hj : P.l[j]? = some s) (hs : s.st = 0) (hz : 12 ≤ Z) (hfull : 2 * P.h.left ≤ ((Z - 12 : Nat) : Int)) :
    RS Z M (B + 1) q0 (P.opened j Z s) K ∧ HdS Z M (P.opened j Z s) K j 12 [] ⟨2, lastQ P.l + 1, s.er⟩ ∧ (P.opened j Z s).l = P.l.set j ⟨2, lastQ P.l + 1, s.er⟩ := by
  obtain ⟨hb, hh, hl⟩ := h.b.opened hj hs hz
  have hkj := h.b.blank j s hj hs
  have hq0 := h.lo
  refine ⟨⟨hb, by rw [hl, lastQ_opened _ hj]; omega, ?_⟩, hh, hl⟩
  intro i x ks hi hx hq hk
  rw [hl] at hi
  by_cases hji : j = i
  · subst hji
    rw [hkj] at hk
    cases hk
    exact Or.inl ⟨rfl, 12, rfl, hz, by omega⟩
  · rw [List.getElem?_set_ne hji] at hi
    rcases h.good i x ks hi hx hq hk with ⟨h1, o, h2, h3, h4⟩ | h1
    · right
      rw [h2] at hfull
      omega
    · exact Or.inr h1

/-- Keys are laid in the head. -/
theorem RS.laid (h : RS Z M B q0 P K) {k o : Nat} {kk : List (List UInt8)} {s : Sc} (hd : HdS Z M P K k o kk s) (fx : List (List UInt8)) (n u k2 o2 : Nat) (hf0 : 0 < fx.length) (hf : fx.length ≤ 16) (hr : o + (16 + sumA M fx) ≤ Z) (hs : ∀ x ∈ fx, 2 * (szK M x + 16) ≤ Z - 12) :
    RS Z M B q0 (P.laid k2 o2 u none n 0 (fx.map fun x => (keyCh M x).nm)) (K.set k (kk ++ fx)) ∧ HdS Z M (P.laid k2 o2 u none n 0 (fx.map fun x => (keyCh M x).nm)) (K.set k (kk ++ fx)) k (o + (16 + sumA M fx)) (kk ++ fx) s := by
  have hll : (P.laid k2 o2 u none n 0 (fx.map fun x => (keyCh M x).nm)).l = P.l := rfl
  have hkl := (List.getElem?_eq_some_iff.1 hd.kk).1
  have hge := hd.ge
  have hle := hd.le
  have hus := hd.used
  have ha := sumA_app M kk fx
  have hln : (kk ++ fx).length = kk.length + fx.length := List.length_append
  have hc := cost_add kk.length fx.length hf
  have hw : sumW M fx = sumA M fx + 16 * fx.length := rfl
  have hwa := sumW_app M kk fx
  have hh : HdS Z M (P.laid k2 o2 u none n 0 (fx.map fun x => (keyCh M x).nm)) (K.set k (kk ++ fx)) k (o + (16 + sumA M fx)) (kk ++ fx) s := by
    refine ⟨hd.sec, ?_, by omega, hr, ?_, ?_, List.getElem?_set_self hkl, by rw [ha, hln]; omega, hd.at_, hd.st⟩
    · show P.h.left - (roomL _ : Int) = _
      rw [roomL_keys, hd.left]; omega
    · show 0 ≤ P.h.txn + 1
      have := hd.t0; omega
    · show P.h.txn + 1 ≤ _
      have := hd.t1; omega
  refine ⟨⟨⟨h.b.z, by rw [List.length_set]; exact h.b.kl, h.b.clean, h.b.er, h.b.lq, ?_, ?_, ?_, Or.inr ⟨_, _, _, _, hh⟩⟩, h.lo, ?_⟩, hh⟩
  · intro i x hi hx
    rw [List.getElem?_set_ne]
    · exact h.b.blank i x hi hx
    · rintro rfl
      rw [hll, hd.at_] at hi
      cases hi
      rw [hd.st] at hx
      cases hx
  · intro ks hks
    rcases List.mem_or_eq_of_mem_set hks with h1 | rfl
    · exact h.b.fit ks h1
    · rw [ha, hln]; omega
  · intro ks hks x hx
    rcases List.mem_or_eq_of_mem_set hks with h1 | rfl
    · exact h.b.small ks h1 x hx
    · rcases List.mem_append.1 hx with h1 | h1
      · exact h.b.small kk (List.mem_of_getElem? hd.kk) x h1
      · exact hs x h1
  · intro i x ks hi hx hq hk
    by_cases hik : i = k
    · subst hik
      rw [List.getElem?_set_self hkl] at hk
      cases hk
      rcases h.good i x kk hi hx hq hd.kk with ⟨h1, o2, h2, h3, h4⟩ | h1
      · left
        refine ⟨h1, o + (16 + sumA M fx), hh.left, hr, ?_⟩
        have := hd.left
        omega
      · right; omega
    · rw [List.getElem?_set_ne (by omega)] at hk
      rcases h.good i x ks hi hx hq hk with ⟨h1, _⟩ | h1
      · have := hd.sec
        exact absurd (show i = k by omega) hik
      · exact Or.inr h1
end

end Go.Proofs.YtidbipbangifbaaGreatDoor

/- Where there is room: keys are put once more, the oldest sector is cleaned, rounds end with room. The plain half. -/
namespace Go.Proofs.YtidbipbangifbaaGreatDoor
set_option maxRecDepth 100000
open Go.RowKit Go.Maps

def Cov (K : List (List (List UInt8))) (x : List UInt8) : Prop := ∃ ks ∈ K, x ∈ ks
theorem Cov.set {K : List (List (List UInt8))} {k : Nat} {kk fx : List (List UInt8)} (hk : K[k]? = some kk) {x : List UInt8} (h : Cov K x ∨ x ∈ fx) : Cov (K.set k (kk ++ fx)) x := by
  have hkl := (List.getElem?_eq_some_iff.1 hk).1
  have hm : kk ++ fx ∈ K.set k (kk ++ fx) := List.mem_of_getElem? (List.getElem?_set_self hkl)
  rcases h with ⟨ks, h1, h2⟩ | h
  · obtain ⟨i, hi, rfl⟩ := List.mem_iff_getElem.1 h1
    by_cases hik : i = k
    · subst hik
      rw [List.getElem?_eq_getElem hi] at hk
      cases hk
      exact ⟨_, hm, List.mem_append_left _ h2⟩
    · exact ⟨_, List.mem_of_getElem? (by rw [List.getElem?_set_ne (fun h => hik h.symm)]; exact List.getElem?_eq_getElem hi), h2⟩
  · exact ⟨_, hm, List.mem_append_right _ h⟩
theorem Cov.out {K : List (List (List UInt8))} {i : Nat} {kk : List (List UInt8)} (hk : K[i]? = some kk) {x : List UInt8} (h : Cov K x) : Cov (K.set i []) x ∨ x ∈ kk := by
  obtain ⟨ks, h1, h2⟩ := h
  obtain ⟨j, hj, rfl⟩ := List.mem_iff_getElem.1 h1
  by_cases hij : j = i
  · subst hij
    rw [List.getElem?_eq_getElem hj] at hk
    cases hk
    exact Or.inr h2
  · exact Or.inl ⟨_, List.mem_of_getElem? (by rw [List.getElem?_set_ne (fun h => hij h.symm)]; exact List.getElem?_eq_getElem hj), h2⟩

/-- The sector that is cleaned stays as it is, and isn't the head. -/
structure Aw2 (i : Nat) (P : PV) (K : List (List (List UInt8))) : Prop where
  l : ∃ s, P.l[i]? = some s ∧ s.st = 2
  k : K[i]? = some []
  h : P.h = ⟨0, 0, 0, 0⟩ ∨ P.h.sec ≠ (i : Int)

section
variable {Z L : Nat} {M : Al Sv} {q0 : Int}

theorem fitL_all (h : HeadV) (ht : h.txn ≤ 4294901759) : ∀ (ks : List (List UInt8)) (r : Nat), ((r + sumA M ks : Nat) : Int) ≤ h.left → fitL M h r ks = ks
  | [], _, _ => rfl
  | k :: ks, r, hl => by
    rw [sumA_cons] at hl
    have hz : (keyCh M k).sz = szK M k := rfl
    unfold fitL
    rw [if_pos (by unfold takesB; simp only [Bool.and_eq_true, decide_eq_true_eq]; exact ⟨ht, by rw [hz]; omega⟩), fitL_all h ht ks _ (by rw [hz]; omega)]
theorem sumA_take_le (ks : List (List UInt8)) (n : Nat) : sumA M (ks.take n) ≤ sumA M ks := by have := sumA_take M ks n; omega
theorem fit_full {h : HeadV} (ht : h.txn ≤ 4294901759) {ks : List (List UInt8)} (hl : ((sumA M ks + cost ks.length : Nat) : Int) ≤ h.left) : fit M h ks = ks.take 16 := by
  unfold fit
  by_cases h0 : ks = []
  · subst h0; rfl
  · have h1 : 0 < ks.length := List.length_pos_iff.2 h0
    have h2 := cost_pos h1
    have h3 := sumA_take_le (M := M) ks 16
    exact fitL_all h ht _ _ (by omega)

theorem again2 (i : Nat) {b : Bool} {P' : PV} {K' : List (List (List UInt8))} {B : Int} : ∀ (t : Nat) (P : PV) (K : List (List (List UInt8))) (ks : List (List UInt8)), Again Z L M t P K ks b P' K' → RS Z M B q0 P K → Aw2 i P K →
    (∃ k o kk s, HdS Z M P K k o kk s ∧ k ≠ i) → ((sumA M ks + cost ks.length : Nat) : Int) ≤ P.h.left → (∀ x ∈ ks, 2 * (szK M x + 16) ≤ Z - 12) →
    b = true ∧ RS Z M B q0 P' K' ∧ Aw2 i P' K' ∧ P'.l = P.l ∧ totW M K' = totW M K + sumW M ks ∧ ∀ x, Cov K x ∨ x ∈ ks → Cov K' x := by
  intro t
  induction t with
  | zero =>
    intro P K ks hA hs ha hd hl hx
    by_cases h0 : ks = []
    · subst h0
      obtain ⟨rfl, rfl, rfl⟩ := hA.nil_
      exact ⟨rfl, hs, ha, rfl, by simp [sumW, sumA], fun x hx => by rcases hx with h | h; exact h; cases h⟩
    · have hf := fit_full (M := M) hs.b.txn hl
      have hfn : fit M P.h ks ≠ [] := by
        rw [hf]
        intro h
        rw [List.take_eq_nil_iff] at h
        rcases h with h | h
        · cases h
        · exact h0 h
      rcases hA.inv h0 with ⟨h, _⟩ | ⟨h, _⟩ | ⟨_, t0, _, _, _, _, h, _⟩
      · exact absurd h hfn
      · exact absurd h hfn
      · omega
  | succ t ih =>
    intro P K ks hA hs ha hd hl hx
    by_cases h0 : ks = []
    · subst h0
      obtain ⟨rfl, rfl, rfl⟩ := hA.nil_
      exact ⟨rfl, hs, ha, rfl, by simp [sumW, sumA], fun x hx => by rcases hx with h | h; exact h; cases h⟩
    · have hf := fit_full (M := M) hs.b.txn hl
      have hlen : 0 < ks.length := List.length_pos_iff.2 h0
      have hfn : fit M P.h ks ≠ [] := by
        rw [hf]
        intro h
        rw [List.take_eq_nil_iff] at h
        rcases h with h | h
        · cases h
        · exact h0 h
      rcases hA.inv h0 with ⟨h, _⟩ | ⟨h, _⟩ | ⟨_, t0, k, o, u, kk, ht, hhd, _, hkk, _, hA2⟩
      · exact absurd h hfn
      · exact absurd h hfn
      · have ht0 : t0 = t := by omega
        subst ht0
        obtain ⟨k1, o1, kk1, s1, hd1, hki⟩ := hd
        have hk1 : k1 = k := by have := hd1.sec; have := hhd.sec; omega
        subst hk1
        rw [hd1.kk] at hkk
        cases hkk
        have hc := cost_pos hlen
        have hst := sumA_take M ks 16
        have hcx : cost (ks.drop 16).length + 16 ≤ cost ks.length := by
          rw [List.length_drop]
          by_cases h16 : 16 ≤ ks.length
          · rw [cost_16 h16]; exact Nat.le_refl _
          · have : ks.length - 16 = 0 := by omega
            rw [this]
            have : cost 0 = 0 := by decide
            omega
        rw [hf] at hA2
        have hdl := hd1.left
        have hdle := hd1.le
        have htl : (ks.take 16).length = min 16 ks.length := List.length_take
        have hdr : ks.drop (ks.take 16).length = ks.drop 16 := by
          rw [htl]
          by_cases h16 : 16 ≤ ks.length
          · rw [Nat.min_eq_left h16]
          · rw [Nat.min_eq_right (by omega), List.drop_of_length_le (Nat.le_refl _), List.drop_of_length_le (by omega)]
        rw [hdr] at hA2
        obtain ⟨hs2, hd2⟩ := hs.laid hd1 (ks.take 16) (ks.take 16).length u k1 o (by rw [htl]; omega) (by rw [htl]; omega) (by omega) (fun x h => hx x (List.mem_of_mem_take h))
        obtain ⟨r1, r2, r3, r4, r5, r6⟩ := ih _ _ _ hA2 hs2 ⟨ha.l, by rw [List.getElem?_set_ne hki]; exact ha.k, Or.inr (by rw [hd2.sec]; omega)⟩ ⟨_, _, _, _, hd2, hki⟩ (by rw [hd2.left]; omega) (fun x h => hx x (List.mem_of_mem_drop h))
        have htw := totW_set M K _ _ (kk ++ ks.take 16) hd1.kk
        rw [sumW_app] at htw
        have hww : sumW M (ks.take 16) + sumW M (ks.drop 16) = sumW M ks := by rw [← sumW_app, List.take_append_drop]
        refine ⟨r1, r2, r3, r4, by omega, fun x hx2 => r6 x ?_⟩
        rcases hx2 with h | h
        · exact Or.inl (Cov.set hd1.kk (Or.inl h))
        · rw [← List.take_append_drop 16 ks] at h
          rcases List.mem_append.1 h with h | h
          · exact Or.inl (Cov.set hd1.kk (Or.inr h))
          · exact Or.inr h

theorem again1 (i : Nat) {b : Bool} {P' : PV} {K' : List (List (List UInt8))} {B : Int} (hB : B < 4294967295) (hz : 12 ≤ Z) : ∀ (t : Nat) (P : PV) (K : List (List (List UInt8))) (ks : List (List UInt8)), Again Z L M t P K ks b P' K' → RS Z M B q0 P K → Aw2 i P K →
    1 ≤ P.l.countP (opensB (L : Int)) → sumA M ks + cost ks.length ≤ Z - 12 → (∀ x ∈ ks, 2 * (szK M x + 16) ≤ Z - 12) →
    b = true ∧ RS Z M (B + 1) q0 P' K' ∧ Aw2 i P' K' ∧ totW M K' = totW M K + sumW M ks ∧ (∀ x, Cov K x ∨ x ∈ ks → Cov K' x) ∧ (P'.l = P.l ∨ ∃ j s, P.l[j]? = some s ∧ s.st = 0 ∧ P'.l = P.l.set j ⟨2, lastQ P.l + 1, s.er⟩) := by
  intro t
  induction t with
  | zero =>
    intro P K ks hA hs ha hfr hl hx
    by_cases h0 : ks = []
    · subst h0
      obtain ⟨rfl, rfl, rfl⟩ := hA.nil_
      exact ⟨rfl, hs.mono (by omega), ha, by simp [sumW, sumA], fun x hx => (by rcases hx with h | h; exact h; cases h), Or.inl rfl⟩
    · rcases hA.inv h0 with ⟨_, t0, _, _, h, _⟩ | ⟨_, hno, _⟩ | ⟨_, t0, _, _, _, _, h, _⟩
      · omega
      · rcases hno.no with h1 | h1
        · exact absurd h1 (best_some (by omega))
        · have := hs.b.lq; omega
      · omega
  | succ t ih =>
    intro P K ks hA hs ha hfr hl hx
    by_cases h0 : ks = []
    · subst h0
      obtain ⟨rfl, rfl, rfl⟩ := hA.nil_
      exact ⟨rfl, hs.mono (by omega), ha, by simp [sumW, sumA], fun x hx => (by rcases hx with h | h; exact h; cases h), Or.inl rfl⟩
    · rcases hA.inv h0 with ⟨hf, t0, j, s, ht, hop, hA2⟩ | ⟨_, hno, _⟩ | ⟨hfn, t0, k, o, u, kk, ht, hhd, _, hkk, _, hA2⟩
      · obtain ⟨s2, hs2, hos⟩ := Sim.opens hop.best
        rw [hop.at_] at hs2
        cases hs2
        have hcl := hs.b.clean s (List.mem_of_getElem? hop.at_)
        rw [opens_iff hcl] at hos
        have hs0 : s.st = 0 := by simpa using hos
        obtain ⟨x, r, hxr⟩ : ∃ x r, ks = x :: r := by cases ks with | nil => exact absurd rfl h0 | cons x r => exact ⟨x, r, rfl⟩
        have hfn := hf
        rw [hxr] at hfn
        have hlt := hs.b.room (fit_none hfn)
        have hsm := hx x (by rw [hxr]; exact List.mem_cons_self ..)
        obtain ⟨hs2, hd2, hl2⟩ := hs.opened hop.at_ hs0 hz (by omega)
        obtain ⟨si, hsi, hsi2⟩ := ha.l
        have hij : j ≠ i := by
          rintro rfl
          rw [hop.at_] at hsi
          cases hsi
          rw [hs0] at hsi2
          cases hsi2
        obtain ⟨r1, r2, r3, r4, r5, r6⟩ := again2 i t0 _ _ _ hA2 hs2 ⟨⟨si, by rw [hl2, List.getElem?_set_ne hij]; exact hsi, hsi2⟩, ha.k, Or.inr (by rw [hd2.sec]; omega)⟩ ⟨_, _, _, _, hd2, hij⟩ (by rw [hd2.left]; omega) hx
        exact ⟨r1, r2, r3, r5, r6, Or.inr ⟨j, s, hop.at_, hs0, by rw [r4, hl2]⟩⟩
      · rcases hno.no with h1 | h1
        · exact absurd h1 (best_some (by omega))
        · have := hs.b.lq; omega
      · have ht0 : t0 = t := by omega
        subst ht0
        have htk := fit_takes M P.h ks hfn
        have hroom : roomL ((fit M P.h ks).map (keyCh M)) = 16 + sumA M (fit M P.h ks) := by
          unfold roomL sumA szK
          rw [List.map_map]
          rfl
        rw [hroom] at htk
        have htl : ((16 + sumA M (fit M P.h ks) : Nat) : Int) ≤ P.h.left := by
          unfold takesB at htk
          simp only [Bool.and_eq_true, decide_eq_true_eq] at htk
          exact htk.2
        rcases hs.b.hd with hz0 | ⟨k1, o1, kk1, s1, hd1⟩
        · rw [hz0] at htl
          have : (HeadV.mk 0 0 0 0).left = 0 := rfl
          omega
        · have hk1 : k1 = k := by have := hd1.sec; have := hhd.sec; omega
          subst hk1
          rw [hd1.kk] at hkk
          cases hkk
          have hki : k1 ≠ i := by
            rcases ha.h with h | h
            · rw [h] at htl
              have : (HeadV.mk 0 0 0 0).left = 0 := rfl
              omega
            · have := hd1.sec
              rintro rfl
              exact h this
          obtain ⟨hft1, hft2, hft3⟩ := fit_take M P.h ks
          have hfl : 0 < (fit M P.h ks).length := List.length_pos_iff.2 hfn
          have hdl := hd1.left
          have hdle := hd1.le
          have hfx : ∀ x ∈ fit M P.h ks, x ∈ ks := fun x h => by rw [hft1] at h; exact List.mem_of_mem_take h
          obtain ⟨hs2, hd2⟩ := hs.laid hd1 (fit M P.h ks) (fit M P.h ks).length u k1 o hfl hft3 (by omega) (fun x h => hx x (hfx x h))
          have hst := sumA_take M ks (fit M P.h ks).length
          have hcm : cost (ks.drop (fit M P.h ks).length).length ≤ cost ks.length := cost_mono (by rw [List.length_drop]; omega)
          obtain ⟨r1, r2, r3, r4, r5, r6⟩ := ih _ _ _ hA2 hs2 ⟨ha.l, by rw [List.getElem?_set_ne hki]; exact ha.k, Or.inr (by rw [hd2.sec]; omega)⟩ hfr (by omega) (fun x h => hx x (List.mem_of_mem_drop h))
          have htw := totW_set M K _ _ (kk ++ fit M P.h ks) hd1.kk
          rw [sumW_app] at htw
          have hft := List.take_append_drop (fit M P.h ks).length ks
          rw [← hft1] at hft
          have hww : sumW M (fit M P.h ks) + sumW M (ks.drop (fit M P.h ks).length) = sumW M ks := by rw [← sumW_app, hft]
          refine ⟨r1, r2, r3, by omega, fun x hx2 => r5 x ?_, r6⟩
          rcases hx2 with h | h
          · exact Or.inl (Cov.set hd1.kk (Or.inl h))
          · have h' : x ∈ fit M P.h ks ++ ks.drop (fit M P.h ks).length := by rw [hft]; exact h
            rcases List.mem_append.1 h' with h | h
            · exact Or.inl (Cov.set hd1.kk (Or.inr h))
            · exact Or.inr h
end

end Go.Proofs.YtidbipbangifbaaGreatDoor

/- Where there is room: the oldest sector is cleaned; rounds end with room. The plain half. -/
namespace Go.Proofs.YtidbipbangifbaaGreatDoor
set_option maxRecDepth 100000
open Go.RowKit Go.Maps

theorem half_all (M : Al Sv) (V : Nat) : ∀ (l : List Sc) (K : List (List (List UInt8))), K.length = l.length → (∀ (j : Nat) (s : Sc) (ks : List (List UInt8)), l[j]? = some s → s.st = 2 → K[j]? = some ks → V ≤ 2 * sumW M ks) → V * l.countP usedB ≤ 2 * totW M K
  | [], [], _, _ => by simp
  | [], _ :: _, h, _ => by simp at h
  | _ :: _, [], h, _ => by simp at h
  | s :: l, ks :: K, h, hg => by
    have h1 := half_all M V l K (by simpa using h) (fun j s ks hj hs hk => hg (j + 1) s ks (by simpa using hj) hs (by simpa using hk))
    have h2 : totW M (ks :: K) = sumW M ks + totW M K := by simp [totW]
    rw [List.countP_cons, h2]
    by_cases hs : s.st = 2
    · have h3 := hg 0 s ks rfl hs rfl
      rw [if_pos (by unfold usedB; simpa using hs), Nat.mul_add, Nat.mul_one]
      omega
    · rw [if_neg (by unfold usedB; simpa using hs), Nat.add_zero]
      omega
theorem half_but (M : Al Sv) (V : Nat) : ∀ (l : List Sc) (K : List (List (List UInt8))) (h : Nat), K.length = l.length → (∀ (j : Nat) (s : Sc) (ks : List (List UInt8)), l[j]? = some s → s.st = 2 → K[j]? = some ks → j ≠ h → V ≤ 2 * sumW M ks) → V * l.countP usedB ≤ 2 * totW M K + V
  | [], [], _, _, _ => by simp
  | [], _ :: _, _, h, _ => by simp at h
  | _ :: _, [], _, h, _ => by simp at h
  | s :: l, ks :: K, 0, h, hg => by
    have h1 := half_all M V l K (by simpa using h) (fun j s ks hj hs hk => hg (j + 1) s ks (by simpa using hj) hs (by simpa using hk) (by omega))
    have h2 : totW M (ks :: K) = sumW M ks + totW M K := by simp [totW]
    rw [List.countP_cons, h2, Nat.mul_add]
    have : V * (if usedB s = true then 1 else 0) ≤ V := by split <;> simp
    omega
  | s :: l, ks :: K, n + 1, h, hg => by
    have h1 := half_but M V l K n (by simpa using h) (fun j s ks hj hs hk hn => hg (j + 1) s ks (by simpa using hj) hs (by simpa using hk) (by omega))
    have h2 : totW M (ks :: K) = sumW M ks + totW M K := by simp [totW]
    rw [List.countP_cons, h2]
    by_cases hs : s.st = 2
    · have h3 := hg 0 s ks rfl hs rfl (by omega)
      rw [if_pos (by unfold usedB; simpa using hs), Nat.mul_add, Nat.mul_one]
      omega
    · rw [if_neg (by unfold usedB; simpa using hs), Nat.add_zero]
      omega

/-- Sectors that are used, and were ahead of q0. -/
def oldB (q0 : Int) (s : Sc) : Bool := decide (s.st = 2) && decide (s.q ≤ q0)

section
variable {Z L : Nat} {M : Al Sv} {B q0 : Int} {P : PV} {K : List (List (List UInt8))}

theorem used_count {L : Nat} : ∀ l : List Sc, (∀ s ∈ l, s.st = 0 ∨ s.st = 2) → l.countP usedB + l.countP (opensB (L : Int)) = l.length
  | [], _ => rfl
  | s :: l, hc => by
    have ih := used_count (L := L) l (fun s hs => hc s (List.mem_cons_of_mem _ hs))
    have h1 := hc s (List.mem_cons_self ..)
    rw [List.countP_cons, List.countP_cons, List.length_cons, opens_iff h1]
    unfold usedB
    rcases h1 with h1 | h1 <;> simp [h1] <;> unfold usedB at ih <;> omega
theorem RB.counts (h : RB Z M B P K) : P.l.countP usedB + P.l.countP (opensB (L : Int)) = P.l.length := used_count P.l h.clean

/-- Some sector that is used is at most as old as q0: else what lives is more than there is room for. -/
theorem RS.some_old (h : RS Z M B q0 P K) (hz : 12 < Z) (h3 : 3 ≤ P.l.length) (hf : P.l.countP (opensB (L : Int)) ≤ 1) (ht : 4 * totW M K ≤ (P.l.length - 2) * (Z - 12)) : ∃ s ∈ P.l, s.st = 2 ∧ s.q ≤ q0 := by
  refine Classical.byContradiction fun hno => ?_
  have hall : ∀ s ∈ P.l, s.st = 2 → q0 < s.q := fun s hs h2 => Int.not_le.1 fun h4 => hno ⟨s, hs, h2, h4⟩
  have hb := half_but M (Z - 12) P.l K P.h.sec.toNat h.b.kl (fun j s ks hj hs hk hn => by
    rcases h.good j s ks hj hs (hall s (List.mem_of_getElem? hj) hs) hk with ⟨h1, _⟩ | h1
    · omega
    · exact h1)
  have hcn := h.b.counts (L := L)
  have hu : P.l.length - 1 ≤ P.l.countP usedB := by omega
  have hm : (Z - 12) * (P.l.length - 1) ≤ (Z - 12) * P.l.countP usedB := Nat.mul_le_mul_left _ hu
  have he : (Z - 12) * (P.l.length - 1) = (Z - 12) * (P.l.length - 2) + (Z - 12) := by
    rw [show P.l.length - 1 = (P.l.length - 2) + 1 by omega, Nat.mul_add, Nat.mul_one]
  rw [Nat.mul_comm (P.l.length - 2)] at ht
  have hp : (Z - 12) * 1 ≤ (Z - 12) * (P.l.length - 2) := Nat.mul_le_mul_left _ (by omega)
  omega

/-- The sector that is cleaned isn't the head any more, its keys are taken out. -/
theorem RS.unhead (h : RS Z M B q0 P K) {i : Nat} {s : Sc} (hi : P.l[i]? = some s) (h2 : s.st = 2) (hq : s.q ≤ q0) : RS Z M B q0 (P.unhead i) (K.set i []) ∧ Aw2 i (P.unhead i) (K.set i []) := by
  have hil := (List.getElem?_eq_some_iff.1 hi).1
  have hkl : i < K.length := by rw [h.b.kl]; exact hil
  have hl : (P.unhead i).l = P.l := PV.unhead_l P i
  have hhd : (P.unhead i).h = ⟨0, 0, 0, 0⟩ ∨ (P.unhead i).h = P.h ∧ P.h.sec ≠ (i : Int) := by
    unfold PV.unhead
    split
    · exact Or.inl rfl
    · rename_i hn
      exact Or.inr ⟨rfl, fun h => hn h.symm⟩
  refine ⟨⟨⟨h.b.z, by rw [hl, List.length_set]; exact h.b.kl, by rw [hl]; exact h.b.clean, by rw [hl]; exact h.b.er, by rw [hl]; exact h.b.lq, ?_, ?_, ?_, ?_⟩, by rw [hl]; exact h.lo, ?_⟩, ⟨s, by rw [hl]; exact hi, h2⟩, List.getElem?_set_self hkl, ?_⟩
  · intro j x hj hx
    rw [hl] at hj
    by_cases hij : j = i
    · subst hij
      exact List.getElem?_set_self hkl
    · rw [List.getElem?_set_ne (by omega)]
      exact h.b.blank j x hj hx
  · intro ks hks
    rcases List.mem_or_eq_of_mem_set hks with h1 | rfl
    · exact h.b.fit ks h1
    · simp [sumA, cost]
  · intro ks hks x hx
    rcases List.mem_or_eq_of_mem_set hks with h1 | rfl
    · exact h.b.small ks h1 x hx
    · cases hx
  · rcases hhd with h1 | ⟨h1, hsi⟩
    · exact Or.inl h1
    · rcases h.b.hd with h3 | ⟨k, o, ks, s1, hd⟩
      · exact Or.inl (h1.trans h3)
      · have hki : k ≠ i := by have := hd.sec; omega
        exact Or.inr ⟨k, o, ks, s1, by rw [h1]; exact hd.sec, by rw [h1]; exact hd.left, hd.ge, hd.le, by rw [h1]; exact hd.t0, by rw [h1]; exact hd.t1, by rw [List.getElem?_set_ne (by omega)]; exact hd.kk, hd.used, by rw [hl]; exact hd.at_, hd.st⟩
  · intro j x ks hj hx hqx hk
    rw [hl] at hj
    by_cases hij : j = i
    · subst hij
      rw [hi] at hj
      cases hj
      omega
    · rw [List.getElem?_set_ne (by omega)] at hk
      rcases h.good j x ks hj hx hqx hk with ⟨h5, o, h6, h7⟩ | h5
      · rcases hhd with h1 | ⟨h1, hsi⟩
        · by_cases hsi : P.h.sec = (i : Int)
          · omega
          · unfold PV.unhead at h1 ⊢
            rw [if_neg (by omega)] at h1 ⊢
            exact Or.inl ⟨h5, o, h6, h7⟩
        · rw [h1]
          exact Or.inl ⟨h5, o, h6, h7⟩
      · exact Or.inr h5
  · rcases hhd with h1 | ⟨h1, hsi⟩
    · exact Or.inl h1
    · exact Or.inr (by rw [h1]; exact hsi)

/-- The cleaned sector is let go. -/
theorem RS.letGo (h : RS Z M B q0 P K) {i : Nat} {s : Sc} (hi : P.l[i]? = some s) (ha : Aw2 i P K) (hL : B < (L : Int)) (hq : q0 ≤ lastQ (P.l.set i ⟨0, 0, s.er + 1⟩)) :
    RS Z M (B + 1) q0 (P.letGo L i s) K ∧ (P.letGo L i s).l = P.l.set i ⟨0, 0, s.er + 1⟩ := by
  have her := h.b.er s (List.mem_of_getElem? hi)
  have hl : (P.letGo L i s).l = P.l.set i ⟨0, 0, s.er + 1⟩ := by
    unfold PV.letGo
    rw [if_neg (by omega)]
  have hlq := lastQ_gone (l := P.l) (j := i) (x := ⟨0, 0, s.er + 1⟩) (by show (0 : Int) ≠ 2; decide)
  have hh : (P.letGo L i s).h = P.h := rfl
  refine ⟨⟨⟨h.b.z, by rw [hl, List.length_set]; exact h.b.kl, ?_, ?_, by rw [hl]; have := h.b.lq; omega, ?_, h.b.fit, h.b.small, ?_⟩, by rw [hl]; exact hq, ?_⟩, hl⟩
  · intro x hx
    rw [hl] at hx
    rcases List.mem_or_eq_of_mem_set hx with h1 | rfl
    · exact h.b.clean x h1
    · exact Or.inl rfl
  · intro x hx
    rw [hl] at hx
    rcases List.mem_or_eq_of_mem_set hx with h1 | rfl
    · have := h.b.er x h1; omega
    · show s.er + 1 ≤ B + 1; omega
  · intro j x hj hx
    rw [hl] at hj
    by_cases hij : i = j
    · subst hij
      exact ha.k
    · rw [List.getElem?_set_ne hij] at hj
      exact h.b.blank j x hj hx
  · rcases h.b.hd with h0 | ⟨k, o, ks, s1, hd⟩
    · exact Or.inl h0
    · by_cases hki : k = i
      · rcases ha.h with h1 | h1
        · exact Or.inl h1
        · have := hd.sec
          subst hki
          exact absurd this h1
      · exact Or.inr ⟨k, o, ks, s1, hd.sec, hd.left, hd.ge, hd.le, hd.t0, hd.t1, hd.kk, hd.used, by rw [hl, List.getElem?_set_ne (by omega)]; exact hd.at_, hd.st⟩
  · intro j x ks hj hx hqx hk
    rw [hl] at hj
    by_cases hij : i = j
    · subst hij
      rw [List.getElem?_set_self (List.getElem?_eq_some_iff.1 hi).1] at hj
      cases hj
      cases hx
    · rw [List.getElem?_set_ne hij] at hj
      exact h.good j x ks hj hx hqx hk

theorem clean_room {t : Nat} {b : Bool} {P' : PV} {K' : List (List (List UInt8))} (h : RS Z M B q0 P K) (hz : 12 < Z) (h3 : 3 ≤ P.l.length) (hf1 : 1 ≤ P.l.countP (opensB (L : Int))) (hf : P.l.countP (opensB (L : Int)) ≤ 1) (ht : 4 * totW M K ≤ (P.l.length - 2) * (Z - 12))
    (hB : B + 1 < 4294967295) (hL : B + 1 < (L : Int)) (hc : Clean Z L M t P K b P' K') :
    b = true ∧ RS Z M (B + 2) q0 P' K' ∧ totW M K' = totW M K ∧ (∀ x, Cov K x → Cov K' x) ∧ 1 ≤ P'.l.countP (opensB (L : Int)) ∧ P'.l.length = P.l.length ∧ P'.l.countP (oldB q0) + 1 ≤ P.l.countP (oldB q0) := by
  have hcn := h.b.counts (L := L)
  have hbi := best_is usedB Sc.q P.l P.l.length (Nat.le_refl _)
  rcases hc with ⟨hno, _⟩ | ⟨i, kk, b1, P2, K2, hb, hkk, hA, hrest⟩
  · rw [hno] at hbi
    have : P.l.countP usedB = 0 := by
      rw [List.countP_eq_zero]
      intro s hs
      obtain ⟨j, hj, rfl⟩ := List.mem_iff_getElem.1 hs
      rw [hbi j _ hj (List.getElem?_eq_getElem hj)]
      decide
    omega
  · rw [hb] at hbi
    obtain ⟨hil, s, hs, hus, hleast⟩ := hbi
    have hs2 : s.st = 2 := by unfold usedB at hus; simpa using hus
    obtain ⟨so, hso, hso2, hsoq⟩ := h.some_old hz h3 hf ht
    obtain ⟨jo, hjo, hjo2⟩ := List.mem_iff_getElem.1 hso
    have hsq : s.q ≤ q0 := by
      have := hleast jo so hjo (by rw [← hjo2]; exact List.getElem?_eq_getElem hjo) (by unfold usedB; simpa using hso2)
      omega
    obtain ⟨hs3, ha⟩ := h.unhead hs hs2 hsq
    have hkm := List.mem_of_getElem? hkk
    obtain ⟨rfl, r2, r3, r4, r5, r6⟩ := again1 i (by omega) (by omega) t _ _ _ hA hs3 ha (by rw [PV.unhead_l]; exact hf1) (h.b.fit kk hkm) (h.b.small kk hkm)
    rw [PV.unhead_l] at r6
    have htw := totW_set M K i kk [] hkk
    have hw0 : sumW M [] = 0 := rfl
    rcases hrest with ⟨h9, _⟩ | ⟨_, rfl, ⟨s4, hs4, _, rfl⟩, rfl⟩
    · cases h9
    · -- what stands at i is what stood there
      have hP2 : P2.l[i]? = some s ∧ P2.l.countP (oldB q0) = P.l.countP (oldB q0) ∧ P2.l.length = P.l.length ∧ q0 ≤ lastQ (P2.l.set i ⟨0, 0, s.er + 1⟩) := by
        rcases r6 with r6 | ⟨j, sj, hj, hj0, r6⟩
        · rw [r6]
          refine ⟨hs, rfl, rfl, ?_⟩
          rcases lastQ_att P.l with h8 | ⟨x, hx, hx2, hxq⟩
          · have := h.lo; have := lastQ_pos (P.l.set i ⟨0, 0, s.er + 1⟩); omega
          · -- another used one
            have hcs := countP_set usedB P.l i ⟨0, 0, s.er + 1⟩ s hs
            rw [if_pos hus, if_neg (by unfold usedB; simp)] at hcs
            have hpos : 0 < (P.l.set i ⟨0, 0, s.er + 1⟩).countP usedB := by omega
            obtain ⟨y, hy, hyu⟩ := List.countP_pos_iff.1 hpos
            have hy2 : y.st = 2 := by unfold usedB at hyu; simpa using hyu
            obtain ⟨jx, hjx, hjx2⟩ := List.mem_iff_getElem.1 hx
            by_cases hji : jx = i
            · subst hji
              have hxs : x = s := by
                rw [List.getElem?_eq_getElem hjx, hjx2] at hs
                exact Option.some.inj hs
              rw [hxs] at hxq
              have hyl := lastQ_ge hy hy2
              rcases List.mem_or_eq_of_mem_set hy with h7 | rfl
              · obtain ⟨jy, hjy, hjy2⟩ := List.mem_iff_getElem.1 h7
                have := hleast jy y hjy (by rw [← hjy2]; exact List.getElem?_eq_getElem hjy) hyu
                have := h.lo
                omega
              · cases hy2
            · have hm : x ∈ P.l.set i ⟨0, 0, s.er + 1⟩ := List.mem_of_getElem? (i := jx) (by rw [List.getElem?_set_ne (by omega), List.getElem?_eq_getElem hjx, hjx2])
              have := lastQ_ge hm hx2
              have := h.lo
              omega
        · have hjl := (List.getElem?_eq_some_iff.1 hj).1
          have hij : j ≠ i := by
            rintro rfl
            rw [hs] at hj
            cases hj
            rw [hs2] at hj0
            cases hj0
          rw [r6]
          refine ⟨by rw [List.getElem?_set_ne hij]; exact hs, ?_, List.length_set, ?_⟩
          · have hcs := countP_set (oldB q0) P.l j ⟨2, lastQ P.l + 1, sj.er⟩ sj hj
            have e1 : oldB q0 sj = false := by unfold oldB; rw [hj0]; rfl
            have e2 : oldB q0 ⟨2, lastQ P.l + 1, sj.er⟩ = false := by
              unfold oldB
              have := h.lo
              simp
              omega
            rw [e1, e2] at hcs
            simpa using hcs
          · have hm : (⟨2, lastQ P.l + 1, sj.er⟩ : Sc) ∈ (P.l.set j ⟨2, lastQ P.l + 1, sj.er⟩).set i ⟨0, 0, s.er + 1⟩ :=
              List.mem_of_getElem? (i := j) (by rw [List.getElem?_set_ne (by omega), List.getElem?_set_self hjl])
            have h7 := lastQ_ge hm rfl
            have := h.lo
            simp only at h7
            omega
      obtain ⟨hPi, hPc, hPl, hPq⟩ := hP2
      rw [hPi] at hs4
      cases hs4
      obtain ⟨hR, hl⟩ := r2.letGo hPi r3 (L := L) (by omega) hPq
      have hil2 : i < P2.l.length := by rw [hPl]; exact hil
      refine ⟨rfl, hR.mono (by omega), by omega, fun x hx => r5 x (Cov.out hkk hx), ?_, by rw [hl, List.length_set, hPl], ?_⟩
      · rw [hl]
        exact List.countP_pos_iff.2 ⟨_, List.mem_of_getElem? (List.getElem?_set_self hil2), by unfold opensB; simp⟩
      · have hcs := countP_set (oldB q0) P2.l i ⟨0, 0, s.er + 1⟩ s hPi
        rw [if_pos (by unfold oldB; simp; exact ⟨hs2, hsq⟩), if_neg (by unfold oldB; simp)] at hcs
        rw [hl]
        omega

theorem rounds_room (q0 : Int) {room : Int} : ∀ (n : Nat) (B : Int) (P : PV) (K : List (List (List UInt8))) (b : Bool) (P' : PV) (K' : List (List (List UInt8))), RS Z M B q0 P K → P.l.countP (oldB q0) + 1 ≤ n → 1 ≤ P.l.countP (opensB (L : Int)) → 3 ≤ P.l.length → 12 < Z →
    4 * totW M K ≤ (P.l.length - 2) * (Z - 12) → room ≤ ((Z - 12 : Nat) : Int) → B + 2 * (n : Int) < 4294967295 → B + 2 * (n : Int) < (L : Int) → Rounds Z L M room n P K b P' K' →
    b = true ∧ RB Z M (B + 2 * (n : Int)) P' K' ∧ 1 ≤ P'.l.countP (opensB (L : Int)) ∧ P'.l.length = P.l.length ∧ ∀ x, Cov K x → Cov K' x
  | 0, _, _, _, _, _, _, _, h, _, _, _, _, _, _, _, _ => by omega
  | n + 1, B, P, K, b, P', K', h, hn, hf1, h3, hz, ht, hr, hB, hL, hR => by
    by_cases hf : 2 ≤ P.l.countP (opensB (L : Int))
    · obtain ⟨h1, rfl, i, s, hop, rfl⟩ := one_round hf (by have := h.b.lq; omega) hr hR
      obtain ⟨s2, hs2, hos⟩ := Sim.opens hop.best
      rw [hop.at_] at hs2
      cases hs2
      have hoc := opened_oc (Z := Z) hop.at_ hos
      rw [opens_iff (h.b.clean s (List.mem_of_getElem? hop.at_))] at hos
      obtain ⟨hb, _, hl⟩ := h.b.opened hop.at_ (by simpa using hos) (by omega)
      exact ⟨h1, hb.mono (by omega), by omega, by rw [hl, List.length_set], fun x hx => hx⟩
    · have hmk : ∀ {t : Nat} {b : Bool} {P1 : PV} {K1 : List (List (List UInt8))}, MakeRoom Z L M t P K b P1 K1 → Clean Z L M t P K b P1 K1 := fun hm => by
        rcases hm with ⟨h9, _⟩ | ⟨h9, _⟩ | ⟨_, h9⟩
        · exact absurd h9 hf
        · exact absurd h9 hf
        · exact h9
      rcases hR.inv with ⟨t, hm, rfl⟩ | ⟨t, hm, htk, rfl⟩ | ⟨t, P1, K1, hm, htk, _, hR2⟩
      · obtain ⟨h9, _⟩ := clean_room h hz h3 hf1 (by omega) ht (by omega) (by omega) (hmk hm)
        cases h9
      · obtain ⟨_, r2, _, r4, r5, r6, _⟩ := clean_room h hz h3 hf1 (by omega) ht (by omega) (by omega) (hmk hm)
        exact ⟨rfl, r2.b.mono (by omega), r5, r6, r4⟩
      · obtain ⟨_, r2, r3, r4, r5, r6, r7⟩ := clean_room h hz h3 hf1 (by omega) ht (by omega) (by omega) (hmk hm)
        obtain ⟨q1, q2, q3, q4, q5⟩ := rounds_room q0 n (B + 2) P1 K1 b P' K' r2 (by omega) r5 (by omega) hz (by rw [r3, r6]; exact ht) hr (by omega) (by omega) hR2
        exact ⟨q1, q2.mono (by omega), q3, q4.trans r6, fun x hx => q5 x (r4 x hx)⟩
end

end Go.Proofs.YtidbipbangifbaaGreatDoor

/- Where there is room: a store that commits have made, told by its map alone; what a commit makes of it. The plain half. -/
namespace Go.Proofs.YtidbipbangifbaaGreatDoor
set_option maxRecDepth 100000
open Go.RowKit Go.Maps

abbrev AX := Al (Int × List UInt8)
def szX (q : List UInt8 × (Int × List UInt8)) : Nat := q.1.length + q.2.2.length + 16
def inS (j : Nat) (X : AX) : AX := X.filter fun q => decide (q.2.1 = (j : Int))
def sumX (X : AX) : Nat := (X.map szX).sum
def NodK (X : AX) : Prop := (X.map (·.1)).Nodup

theorem ains_perm {α : Type} (p : List UInt8 × α) : ∀ M : Al α, (ains p M).Perm (p :: M)
  | [] => .refl _
  | q :: r => by
    unfold ains
    split
    · exact .refl _
    · exact ((ains_perm p r).cons q).trans (.swap p q r)
theorem sumX_sub {a b : AX} (h : a.Sublist b) : sumX a ≤ sumX b := by
  unfold sumX
  induction h with
  | slnil => exact Nat.le_refl _
  | cons x _ ih => rw [List.map_cons, List.sum_cons]; omega
  | cons_cons x _ ih => rw [List.map_cons, List.map_cons, List.sum_cons, List.sum_cons]; omega
theorem sumX_perm {a b : AX} (h : a.Perm b) : sumX a = sumX b := sum_perm (h.map szX)
theorem adel_sub {α : Type} (M : Al α) (k : List UInt8) : (adel M k).Sublist M := List.filter_sublist
theorem inS_mem {j : Nat} {X : AX} {q : List UInt8 × (Int × List UInt8)} : q ∈ inS j X ↔ q ∈ X ∧ q.2.1 = (j : Int) := by
  unfold inS
  rw [List.mem_filter]
  simp
theorem inS_adel (j : Nat) (X : AX) (k : List UInt8) : (inS j (adel X k)).Sublist (inS j X) := (adel_sub X k).filter _
theorem inS_ains (j : Nat) (X : AX) (p : List UInt8 × (Int × List UInt8)) : (inS j (ains p X)).Perm (if p.2.1 = (j : Int) then p :: inS j X else inS j X) := by
  have h1 : (inS j (ains p X)).Perm (inS j (p :: X)) := (ains_perm p X).filter _
  have h2 : inS j (p :: X) = if p.2.1 = (j : Int) then p :: inS j X else inS j X := by
    unfold inS
    rw [List.filter_cons]
    simp
  rw [← h2]
  exact h1
theorem nodK_adel {X : AX} (h : NodK X) (k : List UInt8) : NodK (adel X k) := List.Nodup.sublist ((adel_sub X k).map _) h
theorem nodK_aput {X : AX} (h : NodK X) (k : List UInt8) (v : Int × List UInt8) : NodK (aput X k v) := by
  unfold NodK aput
  refine (((ains_perm (k, v) (adel X k)).map (·.1)).nodup_iff).2 ?_
  rw [List.map_cons, List.nodup_cons]
  refine ⟨fun hm => ?_, nodK_adel h k⟩
  obtain ⟨q, hq, hk⟩ := List.mem_map.1 hm
  exact ((adel_mem X k q).1 hq).2 hk
theorem nodK_inS {X : AX} (h : NodK X) (j : Nat) : ((inS j X).map (·.1)).Nodup := by
  have h1 : ((inS j X).map (·.1)).Sublist (X.map (·.1)) := List.filter_sublist.map _
  exact List.Nodup.sublist h1 h
/-- Unlike keys of a list count for no more than the list. -/
theorem nodup_sum (f : List UInt8 → Nat) : ∀ (xs ys : List (List UInt8)), xs.Nodup → (∀ x ∈ xs, x ∈ ys) → (xs.map f).sum ≤ (ys.map f).sum ∧ xs.length ≤ ys.length
  | [], _, _, _ => ⟨by simp, by simp⟩
  | x :: xs, ys, hn, hs => by
    rw [List.nodup_cons] at hn
    have hx := hs x (List.mem_cons_self ..)
    have hp := List.perm_cons_erase hx
    have h1 := nodup_sum f xs (ys.erase x) hn.2 (fun y hy => (List.mem_erase_of_ne (by rintro rfl; exact hn.1 hy)).2 (hs y (List.mem_cons_of_mem _ hy)))
    have h2 := sum_perm (hp.map f)
    have h3 := hp.length_eq
    rw [List.map_cons, List.sum_cons] at h2 ⊢
    rw [List.length_cons] at h3 ⊢
    omega

/-- What a map tells anew: where each key stands. -/
theorem mem_reSec1 {j : Int} {X : AX} {k : List UInt8} (hk : (afind X k).isSome = true) {q : List UInt8 × (Int × List UInt8)} (hq : q ∈ reSec1 j X k) :
    (q.1 = k ∧ q.2.1 = j ∧ ∃ a, (q.1, (a, q.2.2)) ∈ X) ∨ (q.1 ≠ k ∧ q ∈ X) := by
  unfold reSec1 at hq
  rcases (aput_mem X k _ q).1 hq with rfl | ⟨h1, h2⟩
  · obtain ⟨v, hv, hm⟩ := mem_of_isSome hk
    refine Or.inl ⟨rfl, rfl, v.1, ?_⟩
    rw [hv]
    exact hm
  · exact Or.inr ⟨h2, h1⟩
theorem keep_reSec1 {j : Int} {X : AX} {k k' : List UInt8} (h : (afind X k').isSome = true) : (afind (reSec1 j X k) k').isSome = true := isSome_aput _ _ _ _ h
theorem keep_reSecL {j : Int} : ∀ (ks : List (List UInt8)) {X : AX} {k' : List UInt8}, (afind X k').isSome = true → (afind (reSecL j X ks) k').isSome = true
  | [], _, _, h => h
  | k :: ks, _, _, h => keep_reSecL ks (keep_reSec1 h)
theorem mem_reSecL {j : Int} : ∀ (ks : List (List UInt8)) {X : AX} (_ : ∀ k ∈ ks, (afind X k).isSome = true) {q : List UInt8 × (Int × List UInt8)} (_ : q ∈ reSecL j X ks),
    (q.1 ∈ ks ∧ q.2.1 = j ∧ ∃ a, (q.1, (a, q.2.2)) ∈ X) ∨ (q.1 ∉ ks ∧ q ∈ X)
  | [], _, _, _, hq => Or.inr ⟨by simp, hq⟩
  | k :: ks, X, hks, q, hq => by
    have h1 := hks k (List.mem_cons_self ..)
    rcases mem_reSecL ks (X := reSec1 j X k) (fun x hx => keep_reSec1 (hks x (List.mem_cons_of_mem _ hx))) hq with ⟨h2, h3, a, h4⟩ | ⟨h2, h3⟩
    · refine Or.inl ⟨List.mem_cons_of_mem _ h2, h3, ?_⟩
      rcases mem_reSec1 h1 h4 with ⟨h5, _, a', h6⟩ | ⟨_, h6⟩
      · exact ⟨a', h6⟩
      · exact ⟨a, h6⟩
    · rcases mem_reSec1 h1 h3 with ⟨h5, h6, h7⟩ | ⟨h5, h6⟩
      · exact Or.inl ⟨by rw [h5]; exact List.mem_cons_self .., h6, h7⟩
      · exact Or.inr ⟨by simp; exact ⟨h5, h2⟩, h6⟩
theorem mem_reSecK : ∀ (K : List (List (List UInt8))) (j : Nat) {X : AX} (_ : ∀ ks ∈ K, ∀ k ∈ ks, (afind X k).isSome = true) {q : List UInt8 × (Int × List UInt8)} (_ : q ∈ reSecK j X K),
    (∃ (i : Nat) (ks : List (List UInt8)), K[i]? = some ks ∧ q.1 ∈ ks ∧ q.2.1 = ((j + i : Nat) : Int) ∧ ∃ a, (q.1, (a, q.2.2)) ∈ X) ∨ (¬ Cov K q.1 ∧ q ∈ X)
  | [], _, _, _, _, hq => Or.inr ⟨fun ⟨_, h, _⟩ => (by cases h), hq⟩
  | ks :: K, j, X, hK, q, hq => by
    have h1 := hK ks (List.mem_cons_self ..)
    rcases mem_reSecK K (j + 1) (X := reSecL (j : Int) X ks) (fun x hx k hk => keep_reSecL ks (hK x (List.mem_cons_of_mem _ hx) k hk)) hq with ⟨i, k2, h2, h3, h4, a, h5⟩ | ⟨h2, h3⟩
    · refine Or.inl ⟨i + 1, k2, by simpa using h2, h3, by rw [h4]; congr 1; omega, ?_⟩
      rcases mem_reSecL ks h1 h5 with ⟨_, _, a', h6⟩ | ⟨_, h6⟩
      · exact ⟨a', h6⟩
      · exact ⟨a, h6⟩
    · rcases mem_reSecL ks h1 h3 with ⟨h5, h6, h7⟩ | ⟨h5, h6⟩
      · exact Or.inl ⟨0, ks, rfl, h5, by simpa using h6, h7⟩
      · refine Or.inr ⟨fun ⟨k2, h7, h8⟩ => ?_, h6⟩
        rcases List.mem_cons.1 h7 with rfl | h7
        · exact h5 h8
        · exact h2 ⟨k2, h7, h8⟩
theorem nodK_reSecL {j : Int} : ∀ (ks : List (List UInt8)) {X : AX}, NodK X → NodK (reSecL j X ks)
  | [], _, h => h
  | k :: ks, _, h => nodK_reSecL ks (nodK_aput h _ _)
theorem nodK_reSecK : ∀ (K : List (List (List UInt8))) (j : Nat) {X : AX}, NodK X → NodK (reSecK j X K)
  | [], _, _, h => h
  | ks :: K, j, _, h => nodK_reSecK K (j + 1) (nodK_reSecL ks h)

/-- A head with a place in its sector. -/
structure HdX (Z : Nat) (X : AX) (h : HeadV) (l : List Sc) (k o : Nat) (s : Sc) : Prop where
  sec : h.sec = (k : Int)
  left : h.left = ((Z - o : Nat) : Int)
  ge : 12 ≤ o
  le : o ≤ Z
  t0 : 0 ≤ h.txn
  t1 : h.txn ≤ (o : Int)
  used : sumX (inS k X) + cost (inS k X).length + 12 ≤ o
  at_ : l[k]? = some s
  st : s.st = 2
/-- A store none of whose sectors is worn: what stands in each sector went into it. -/
structure RX (Z : Nat) (B : Int) (X : AX) (h : HeadV) (l : List Sc) : Prop where
  z : Z ≤ 65536
  clean : ∀ s ∈ l, s.st = 0 ∨ s.st = 2
  er : ∀ s ∈ l, s.er ≤ B
  lq : lastQ l ≤ B
  blank : ∀ (j : Nat) (s : Sc), l[j]? = some s → s.st = 0 → ∀ q ∈ X, q.2.1 ≠ (j : Int)
  fit : ∀ j, j < l.length → sumX (inS j X) + cost (inS j X).length ≤ Z - 12
  small : ∀ q ∈ X, 2 * (szX q + 16) ≤ Z - 12
  hd : h = ⟨0, 0, 0, 0⟩ ∨ ∃ k o s, HdX Z X h l k o s

section
variable {w : World} {s mb p c e Z L : Nat} {M : Al Sv} {h : HeadV} {ss : List (Nat × List UInt8)} {B : Int}

theorem szK_at (g : GoodX w s mb p c e Z L M h ss) {q : List UInt8 × Sv} (hq : q ∈ M) : szK M q.1 = szX (q.1, q.2.a) := by
  have h1 := svAt_v (afind_of_mem g.st.map.sorted hq)
  have h2 := g.lenM q hq
  unfold szK szX Ch.sz keyCh Ch.rN Sv.a
  rw [h1]
  simp only [Bool.false_eq_true, if_false]
  rw [h2]
  rfl
theorem nodK_of (g : GoodX w s mb p c e Z L M h ss) : NodK (amap Sv.a M) := by
  unfold NodK amap
  rw [List.map_map]
  show (M.map (·.1)).Nodup
  refine List.pairwise_map.2 (g.st.map.sorted.imp ?_)
  intro a b hab he
  have h1 := before_lt _ _ hab
  rw [he] at h1
  exact List.lt_irrefl _ h1

theorem kbs_eq (g : GoodX w s mb p c e Z L M h ss) (j : Nat) : ((M.map (·.1)).filter fun k => decide ((svAt M k).sec = (j : Int))) = (inS j (amap Sv.a M)).map (·.1) := by
  unfold inS amap
  rw [List.filter_map, List.filter_map, List.map_map]
  show _ = ((M.filter _).map (·.1))
  congr 1
  refine List.filter_congr fun q hq => ?_
  show decide ((svAt M q.1).sec = (j : Int)) = decide (q.2.sec = (j : Int))
  rw [svAt_v (afind_of_mem g.st.map.sorted hq)]
theorem sumA_keys (g : GoodX w s mb p c e Z L M h ss) {Y : AX} (hY : ∀ q ∈ Y, q ∈ amap Sv.a M) : sumA M (Y.map (·.1)) = sumX Y := by
  unfold sumA sumX
  rw [List.map_map]
  congr 1
  refine List.map_congr_left fun q hq => ?_
  obtain ⟨m, hm, rfl⟩ := List.mem_map.1 (hY q hq)
  exact szK_at g hm
theorem kbs_at (g : GoodX w s mb p c e Z L M h ss) {j : Nat} {ks : List (List UInt8)} (hk : (kbsL M ss.length (M.map (·.1)))[j]? = some ks) : j < ss.length ∧ ks = (inS j (amap Sv.a M)).map (·.1) ∧ sumA M ks = sumX (inS j (amap Sv.a M)) ∧ ks.length = (inS j (amap Sv.a M)).length := by
  have hj := (List.getElem?_eq_some_iff.1 hk).1
  rw [kbsL_len] at hj
  unfold kbsL at hk
  rw [List.getElem?_map, List.getElem?_range hj] at hk
  simp only [Option.map_some, Option.some.injEq] at hk
  rw [kbs_eq g j] at hk
  subst hk
  refine ⟨hj, rfl, sumA_keys g (fun q hq => (inS_mem.1 hq).1), by rw [List.length_map]⟩

/-- What a plan begins with. -/
theorem RX.start (r : RX Z B (amap Sv.a M) h (secsOf ss)) (g : GoodX w s mb p c e Z L M h ss) : RB Z M B ⟨secsOf ss, h, []⟩ (kbsL M ss.length (M.map (·.1))) := by
  refine ⟨r.z, by rw [kbsL_len, secsOf_len], r.clean, r.er, r.lq, ?_, ?_, ?_, ?_⟩
  · intro j x hj hx
    have hjl : j < ss.length := by rw [← secsOf_len ss]; exact (List.getElem?_eq_some_iff.1 hj).1
    obtain ⟨ks, hks⟩ : ∃ ks, (kbsL M ss.length (M.map (·.1)))[j]? = some ks := ⟨_, List.getElem?_eq_getElem (by rw [kbsL_len]; exact hjl)⟩
    obtain ⟨_, h2, _⟩ := kbs_at g hks
    have h3 : inS j (amap Sv.a M) = [] := by
      refine List.eq_nil_iff_forall_not_mem.2 fun q hq => ?_
      exact r.blank j x hj hx q (inS_mem.1 hq).1 (inS_mem.1 hq).2
    rw [hks, h2, h3]
    rfl
  · intro ks hks
    obtain ⟨j, hj, rfl⟩ := List.mem_iff_getElem.1 hks
    obtain ⟨h1, _, h3, h4⟩ := kbs_at g (List.getElem?_eq_getElem hj)
    rw [h3, h4]
    exact r.fit j (by rw [secsOf_len]; exact h1)
  · intro ks hks x hx
    obtain ⟨j, hj, rfl⟩ := List.mem_iff_getElem.1 hks
    obtain ⟨_, h2, _⟩ := kbs_at g (List.getElem?_eq_getElem hj)
    rw [h2] at hx
    obtain ⟨q, hq, rfl⟩ := List.mem_map.1 hx
    have hqX := (inS_mem.1 hq).1
    obtain ⟨m, hm, rfl⟩ := List.mem_map.1 hqX
    show 2 * (szK M m.1 + 16) ≤ _
    rw [szK_at g hm]
    exact r.small _ hqX
  · rcases r.hd with h0 | ⟨k, o, s1, hd⟩
    · exact Or.inl h0
    · have hkl : k < ss.length := by rw [← secsOf_len ss]; exact (List.getElem?_eq_some_iff.1 hd.at_).1
      obtain ⟨ks, hks⟩ : ∃ ks, (kbsL M ss.length (M.map (·.1)))[k]? = some ks := ⟨_, List.getElem?_eq_getElem (by rw [kbsL_len]; exact hkl)⟩
      obtain ⟨_, _, h3, h4⟩ := kbs_at g hks
      exact Or.inr ⟨k, o, ks, s1, hd.sec, hd.left, hd.ge, hd.le, hd.t0, hd.t1, hks, by rw [h3, h4]; exact hd.used, hd.at_, hd.st⟩
theorem cov_start (g : GoodX w s mb p c e Z L M h ss) {x : List UInt8} (hx : x ∈ M.map (·.1)) : Cov (kbsL M ss.length (M.map (·.1))) x := by
  obtain ⟨q, hq, rfl⟩ := List.mem_map.1 hx
  have hs := g.secsIn q hq
  obtain ⟨ks, hks⟩ : ∃ ks, (kbsL M ss.length (M.map (·.1)))[q.2.sec.toNat]? = some ks := ⟨_, List.getElem?_eq_getElem (by rw [kbsL_len]; omega)⟩
  obtain ⟨_, h2, _⟩ := kbs_at g hks
  refine ⟨ks, List.mem_of_getElem? hks, ?_⟩
  rw [h2]
  exact List.mem_map.2 ⟨(q.1, q.2.a), inS_mem.2 ⟨List.mem_map.2 ⟨q, hq, rfl⟩, by show q.2.sec = _; omega⟩, rfl⟩

def liveX (X : AX) : Nat := sumX X + 16 * X.length
theorem totW_kbs (g : GoodX w s mb p c e Z L M h ss) : ∀ i, i ≤ (M.map (·.1)).length → totW M (kbsL M ss.length ((M.map (·.1)).take i)) = sumW M ((M.map (·.1)).take i)
  | 0, _ => by
    rw [List.take_zero, kbsL_nil]
    unfold totW
    rw [List.map_replicate]
    simp [sumW, sumA]
  | i + 1, hi => by
    have ih := totW_kbs g i (by omega)
    obtain ⟨x, hx⟩ : ∃ x, (M.map (·.1))[i]? = some x := ⟨_, List.getElem?_eq_getElem (by omega)⟩
    have htk := take_snoc (M.map (·.1)) i x hx
    obtain ⟨q, hq, rfl⟩ := List.mem_map.1 (List.mem_of_getElem? hx)
    have h1 := g.secsIn q hq
    have hv := svAt_v (afind_of_mem g.st.map.sorted hq)
    have hj : (svAt M q.1).sec = ((q.2.sec.toNat : Nat) : Int) := by rw [hv]; omega
    obtain ⟨ks, hks⟩ : ∃ ks, (kbsL M ss.length ((M.map (·.1)).take i))[q.2.sec.toNat]? = some ks := ⟨_, List.getElem?_eq_getElem (by rw [kbsL_len]; omega)⟩
    rw [htk, kbsL_snoc M ss.length _ q.1 q.2.sec.toNat ks hj hks]
    have h2 := totW_set M _ _ ks (ks ++ [q.1]) hks
    rw [sumW_app] at h2 ⊢
    omega
theorem totW_start (g : GoodX w s mb p c e Z L M h ss) : totW M (kbsL M ss.length (M.map (·.1))) = liveX (amap Sv.a M) := by
  have h1 := totW_kbs g (M.map (·.1)).length (Nat.le_refl _)
  rw [List.take_length] at h1
  rw [h1]
  have h2 : M.map (·.1) = (amap Sv.a M).map (·.1) := by unfold amap; rw [List.map_map]; rfl
  unfold sumW liveX
  rw [h2, sumA_keys g (fun q hq => hq), List.length_map]

/-- What a plan ends with, told by the map alone. -/
theorem RB.told (g : GoodX w s mb p c e Z L M h ss) {P : PV} {K : List (List (List UInt8))} (r : RB Z M B P K) (hK : AllK (KeyOk M) K) (hc : ∀ x ∈ M.map (·.1), Cov K x) : RX Z B (reSecK 0 (amap Sv.a M) K) P.h P.l := by
  have hsome : ∀ ks ∈ K, ∀ k ∈ ks, (afind (amap Sv.a M) k).isSome = true := fun ks hks k hk => by
    rw [afind_map, Option.isSome_map]
    exact (hK ks hks k hk).2.2
  have hat : ∀ q ∈ reSecK 0 (amap Sv.a M) K, ∃ (i : Nat) (ks : List (List UInt8)), K[i]? = some ks ∧ q.1 ∈ ks ∧ q.2.1 = (i : Int) ∧ szX q = szK M q.1 := by
    intro q hq
    rcases mem_reSecK K 0 hsome hq with ⟨i, ks, h1, h2, h3, a, h4⟩ | ⟨h1, h2⟩
    · obtain ⟨m, hm, hme⟩ := List.mem_map.1 h4
      refine ⟨i, ks, h1, h2, by rw [h3]; congr 1; omega, ?_⟩
      have h5 := szK_at g hm
      have e1 : m.1 = q.1 := congrArg (·.1) hme
      have e2 : m.2.a.2 = q.2.2 := congrArg (·.2.2) hme
      rw [← e1, h5]
      unfold szX
      rw [e2, ← e1]
    · exfalso
      obtain ⟨m, hm, rfl⟩ := List.mem_map.1 h2
      exact h1 (hc m.1 (List.mem_map.2 ⟨m, hm, rfl⟩))
  have hnod := nodK_reSecK K 0 (nodK_of g)
  have hsum : ∀ (j : Nat) (ks : List (List UInt8)), K[j]? = some ks → sumX (inS j (reSecK 0 (amap Sv.a M) K)) ≤ sumA M ks ∧ (inS j (reSecK 0 (amap Sv.a M) K)).length ≤ ks.length := by
    intro j ks hj
    have h1 := nodup_sum (szK M) ((inS j (reSecK 0 (amap Sv.a M) K)).map (·.1)) ks (nodK_inS hnod j) (fun x hx => by
      obtain ⟨q, hq, rfl⟩ := List.mem_map.1 hx
      obtain ⟨hq1, hq2⟩ := inS_mem.1 hq
      obtain ⟨i, k2, h3, h4, h5, _⟩ := hat q hq1
      have : i = j := by omega
      subst this
      rw [hj] at h3
      cases h3
      exact h4)
    rw [List.length_map] at h1
    refine ⟨?_, h1.2⟩
    have h2 : sumX (inS j (reSecK 0 (amap Sv.a M) K)) = (((inS j (reSecK 0 (amap Sv.a M) K)).map (·.1)).map (szK M)).sum := by
      unfold sumX
      rw [List.map_map]
      congr 1
      refine List.map_congr_left fun q hq => ?_
      obtain ⟨_, _, _, _, _, h5⟩ := hat q (inS_mem.1 hq).1
      exact h5
    rw [h2]
    exact h1.1
  refine ⟨r.z, r.clean, r.er, r.lq, ?_, ?_, ?_, ?_⟩
  · intro j x hj hx q hq hqj
    obtain ⟨i, ks, h1, h2, h3, _⟩ := hat q hq
    have : i = j := by omega
    subst this
    rw [r.blank i x hj hx] at h1
    cases h1
    cases h2
  · intro j hj
    obtain ⟨ks, hks⟩ : ∃ ks, K[j]? = some ks := ⟨_, List.getElem?_eq_getElem (by rw [r.kl]; exact hj)⟩
    obtain ⟨h1, h2⟩ := hsum j ks hks
    have h3 := r.fit ks (List.mem_of_getElem? hks)
    have h4 := cost_mono h2
    omega
  · intro q hq
    obtain ⟨i, ks, h1, h2, _, h4⟩ := hat q hq
    rw [h4]
    exact r.small ks (List.mem_of_getElem? h1) q.1 h2
  · rcases r.hd with h0 | ⟨k, o, ks, s1, hd⟩
    · exact Or.inl h0
    · obtain ⟨h1, h2⟩ := hsum k ks hd.kk
      have h4 := cost_mono h2
      have h5 := hd.used
      exact Or.inr ⟨k, o, s1, hd.sec, hd.left, hd.ge, hd.le, hd.t0, hd.t1, by omega, hd.at_, hd.st⟩
end

/-- What a change adds to a sector. -/
theorem applyA_sum (Y : AX) (f : Ch) (k : Nat) (hb : f.del = false → f.blob.length = f.n) (j : Nat) : sumX (inS j (applyA Y f (k : Int))) ≤ sumX (inS j Y) + (if j = k then f.sz else 0) ∧ (inS j (applyA Y f (k : Int))).length ≤ (inS j Y).length + (if j = k then 1 else 0) := by
  unfold applyA
  cases hd : f.del with
  | true =>
    rw [if_pos rfl]
    have h1 := inS_adel j Y f.s.data.toList
    exact ⟨Nat.le_trans (sumX_sub h1) (Nat.le_add_right ..), Nat.le_trans h1.length_le (Nat.le_add_right ..)⟩
  | false =>
    rw [if_neg (by decide)]
    have h1 := inS_adel j Y f.s.data.toList
    have h2 := sumX_sub h1
    have h3 := h1.length_le
    unfold aput
    have hp := inS_ains j (adel Y f.s.data.toList) (f.s.data.toList, ((k : Int), f.blob))
    rw [sumX_perm hp, hp.length_eq]
    by_cases hjk : j = k
    · subst hjk
      rw [if_pos rfl, if_pos rfl, if_pos rfl]
      have hsz : szX (f.s.data.toList, ((j : Int), f.blob)) = f.sz := by
        unfold szX Ch.sz Ch.rN
        rw [hd, if_neg (by decide), hb hd, size_data]
      have h4 : sumX ((f.s.data.toList, ((j : Int), f.blob)) :: inS j (adel Y f.s.data.toList)) = szX (f.s.data.toList, ((j : Int), f.blob)) + sumX (inS j (adel Y f.s.data.toList)) := by simp [sumX]
      rw [h4, hsz, List.length_cons]
      omega
    · rw [if_neg (by simp; omega), if_neg hjk, if_neg hjk]
      omega
theorem applyL_sum (k : Nat) (j : Nat) : ∀ (l : List Ch) (Y : AX), (∀ f ∈ l, f.del = false → f.blob.length = f.n) → sumX (inS j (applyL Y l (k : Int))) ≤ sumX (inS j Y) + (if j = k then (l.map Ch.sz).sum else 0) ∧ (inS j (applyL Y l (k : Int))).length ≤ (inS j Y).length + (if j = k then l.length else 0)
  | [], Y, _ => by
    show sumX (inS j Y) ≤ _ ∧ (inS j Y).length ≤ _
    split <;> simp
  | f :: l, Y, hb => by
    have h1 := applyA_sum Y f k (hb f (List.mem_cons_self ..)) j
    have h2 := applyL_sum k j l (applyA Y f (k : Int)) (fun g hg => hb g (List.mem_cons_of_mem _ hg))
    show sumX (inS j (applyL (applyA Y f (k : Int)) l (k : Int))) ≤ _ ∧ (inS j (applyL (applyA Y f (k : Int)) l (k : Int))).length ≤ _
    rw [List.map_cons, List.sum_cons, List.length_cons]
    by_cases hjk : j = k
    · rw [if_pos hjk] at h1 h2 ⊢
      rw [if_pos hjk] at h1 h2 ⊢
      omega
    · rw [if_neg hjk] at h1 h2 ⊢
      rw [if_neg hjk] at h1 h2 ⊢
      omega
theorem applyL_mem (k : Nat) : ∀ (l : List Ch) (Y : AX) (q : List UInt8 × (Int × List UInt8)), q ∈ applyL Y l (k : Int) → q ∈ Y ∨ ∃ f ∈ l, f.del = false ∧ q = (f.s.data.toList, ((k : Int), f.blob))
  | [], _, _, h => Or.inl h
  | f :: l, Y, q, h => by
    rcases applyL_mem k l (applyA Y f (k : Int)) q h with h1 | ⟨g, hg, h2⟩
    · unfold applyA at h1
      cases hd : f.del with
      | true =>
        rw [hd, if_pos rfl] at h1
        exact Or.inl ((adel_mem _ _ _).1 h1).1
      | false =>
        rw [hd, if_neg (by decide)] at h1
        rcases (aput_mem _ _ _ _).1 h1 with h3 | ⟨h3, _⟩
        · exact Or.inr ⟨f, List.mem_cons_self .., hd, h3⟩
        · exact Or.inl h3
    · exact Or.inr ⟨g, List.mem_cons_of_mem _ hg, h2⟩

theorem le_sum_mem : ∀ (l : List Nat) (x : Nat), x ∈ l → x ≤ l.sum
  | y :: l, x, h => by
    rw [List.sum_cons]
    rcases List.mem_cons.1 h with rfl | h
    · omega
    · have := le_sum_mem l x h; omega
/-- A commit in the head. -/
theorem RX.commit {Z : Nat} {B : Int} {Y : AX} {h h' : HeadV} {sl : List Sc} (r : RX Z B Y h sl) {k o : Nat} {l : List Ch} (hsec : h.sec = (k : Int)) (hleft : h.left = ((Z - o : Nat) : Int)) (hoz : o ≤ Z) (ho0 : 0 < roomL l) (hor : o + roomL l ≤ Z) (hl16 : l.length ≤ 16) (hb : ∀ f ∈ l, f.blob.length = f.n)
    (hsm : 2 * roomL l ≤ Z - 12) (h1 : h'.sec = (k : Int)) (h2 : h'.left = h.left - (roomL l : Int)) (h3 : h'.txn = h.txn + 1) : RX Z B (applyL Y l (k : Int)) h' sl := by
  rcases r.hd with h0 | ⟨k2, o2, s, hd⟩
  · rw [h0] at hleft
    have : (HeadV.mk 0 0 0 0).left = 0 := rfl
    omega
  · have hk2 : k2 = k := by have := hd.sec; omega
    subst hk2
    have ho2 : o2 = o := by have := hd.left; have := hd.le; omega
    subst ho2
    have hkl := (List.getElem?_eq_some_iff.1 hd.at_).1
    have hrl : roomL l = 16 + (l.map Ch.sz).sum := rfl
    have hus := hd.used
    have hsum := fun j => applyL_sum k2 j l Y (fun f hf _ => hb f hf)
    have hkk := hsum k2
    rw [if_pos rfl, if_pos rfl] at hkk
    have hc1 := cost_mono hkk.2
    have hc2 := cost_add (inS k2 Y).length l.length hl16
    refine ⟨r.z, r.clean, r.er, r.lq, ?_, ?_, ?_, Or.inr ⟨k2, o2 + roomL l, s, h1, by rw [h2, hleft]; omega, by have := hd.ge; omega, hor, by have := hd.t0; omega, by have := hd.t1; omega, by omega, hd.at_, hd.st⟩⟩
    · intro j x hj hx q hq hqj
      rcases applyL_mem k2 l Y q hq with h4 | ⟨f, _, _, rfl⟩
      · exact r.blank j x hj hx q h4 hqj
      · have hjk : k2 = j := by
          have h5 : ((k2 : Nat) : Int) = (j : Int) := hqj
          omega
        subst hjk
        rw [hd.at_] at hj
        cases hj
        rw [hd.st] at hx
        cases hx
    · intro j hj
      by_cases hjk : j = k2
      · subst hjk
        omega
      · have h4 := hsum j
        rw [if_neg hjk, if_neg hjk] at h4
        have h5 := r.fit j hj
        have h6 := cost_mono h4.2
        simp only [Nat.add_zero] at h4 h6
        omega
    · intro q hq
      rcases applyL_mem k2 l Y q hq with h4 | ⟨f, hf, hdl, rfl⟩
      · exact r.small q h4
      · have h5 : szX (f.s.data.toList, ((k2 : Int), f.blob)) = f.sz := by
          unfold szX Ch.sz Ch.rN
          rw [hdl, if_neg (by decide), hb f hf, size_data]
        rw [h5]
        have h6 : f.sz ≤ (l.map Ch.sz).sum := le_sum_mem _ _ (List.mem_map.2 ⟨f, hf, rfl⟩)
        omega

end Go.Proofs.YtidbipbangifbaaGreatDoor
