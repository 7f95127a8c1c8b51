/- Where there is room: the oldest sector is cleaned; rounds end with room. The plain half. -/
import Derived.Test.YtnhfmcijadficaaGreatDoorZbh
import Derived.Deep.QuietTactic
import Derived.BigQuiet
namespace Go.Proofs.YtnhfmcijadficaaGreatDoor
set_option maxRecDepth 100000
open Go.RowKit Go.Maps

theorem half_all (M : Al Sv) (V : Nat) : ∀ (l : List Sc) (K : List (List (List UInt8))), K.length = l.length → (∀ (j : Nat) (s : Sc) (ks : List (List UInt8)), l[j]? = some s → s.st = 2 → K[j]? = some ks → V ≤ 2 * sumW M ks) → V * l.countP usedB ≤ 2 * totW M K
  | [], [], _, _ => by simp
  | [], _ :: _, h, _ => by simp at h
  | _ :: _, [], h, _ => by simp at h
  | s :: l, ks :: K, h, hg => by
    have h1 := half_all M V l K (by simpa using h) (fun j s ks hj hs hk => hg (j + 1) s ks (by simpa using hj) hs (by simpa using hk))
    have h2 : totW M (ks :: K) = sumW M ks + totW M K := by simp [totW]
    rw [List.countP_cons, h2]
    by_cases hs : s.st = 2
    · have h3 := hg 0 s ks rfl hs rfl
      rw [if_pos (by unfold usedB; simpa using hs), Nat.mul_add, Nat.mul_one]
      omega
    · rw [if_neg (by unfold usedB; simpa using hs), Nat.add_zero]
      omega
theorem half_but (M : Al Sv) (V : Nat) : ∀ (l : List Sc) (K : List (List (List UInt8))) (h : Nat), K.length = l.length → (∀ (j : Nat) (s : Sc) (ks : List (List UInt8)), l[j]? = some s → s.st = 2 → K[j]? = some ks → j ≠ h → V ≤ 2 * sumW M ks) → V * l.countP usedB ≤ 2 * totW M K + V
  | [], [], _, _, _ => by simp
  | [], _ :: _, _, h, _ => by simp at h
  | _ :: _, [], _, h, _ => by simp at h
  | s :: l, ks :: K, 0, h, hg => by
    have h1 := half_all M V l K (by simpa using h) (fun j s ks hj hs hk => hg (j + 1) s ks (by simpa using hj) hs (by simpa using hk) (by omega))
    have h2 : totW M (ks :: K) = sumW M ks + totW M K := by simp [totW]
    rw [List.countP_cons, h2, Nat.mul_add]
    have : V * (if usedB s = true then 1 else 0) ≤ V := by split <;> simp
    omega
  | s :: l, ks :: K, n + 1, h, hg => by
    have h1 := half_but M V l K n (by simpa using h) (fun j s ks hj hs hk hn => hg (j + 1) s ks (by simpa using hj) hs (by simpa using hk) (by omega))
    have h2 : totW M (ks :: K) = sumW M ks + totW M K := by simp [totW]
    rw [List.countP_cons, h2]
    by_cases hs : s.st = 2
    · have h3 := hg 0 s ks rfl hs rfl (by omega)
      rw [if_pos (by unfold usedB; simpa using hs), Nat.mul_add, Nat.mul_one]
      omega
    · rw [if_neg (by unfold usedB; simpa using hs), Nat.add_zero]
      omega

/-- Sectors that are used, and were ahead of q0. -/
def oldB (q0 : Int) (s : Sc) : Bool := decide (s.st = 2) && decide (s.q ≤ q0)

section
variable {Z L : Nat} {M : Al Sv} {B q0 : Int} {P : PV} {K : List (List (List UInt8))}

theorem used_count {L : Nat} : ∀ l : List Sc, (∀ s ∈ l, s.st = 0 ∨ s.st = 2) → l.countP usedB + l.countP (opensB (L : Int)) = l.length
  | [], _ => rfl
  | s :: l, hc => by
    have ih := used_count (L := L) l (fun s hs => hc s (List.mem_cons_of_mem _ hs))
    have h1 := hc s (List.mem_cons_self ..)
    rw [List.countP_cons, List.countP_cons, List.length_cons, opens_iff h1]
    unfold usedB
    rcases h1 with h1 | h1 <;> simp [h1] <;> unfold usedB at ih <;> omega
theorem RB.counts (h : RB Z M B P K) : P.l.countP usedB + P.l.countP (opensB (L : Int)) = P.l.length := used_count P.l h.clean

/-- Some sector that is used is at most as old as q0: else what lives is more than there is room for. -/
theorem RS.some_old (h : RS Z M B q0 P K) (hz : 12 < Z) (h3 : 3 ≤ P.l.length) (hf : P.l.countP (opensB (L : Int)) ≤ 1) (ht : 4 * totW M K ≤ (P.l.length - 2) * (Z - 12)) : ∃ s ∈ P.l, s.st = 2 ∧ s.q ≤ q0 := by
  refine Classical.byContradiction fun hno => ?_
  have hall : ∀ s ∈ P.l, s.st = 2 → q0 < s.q := fun s hs h2 => Int.not_le.1 fun h4 => hno ⟨s, hs, h2, h4⟩
  have hb := half_but M (Z - 12) P.l K P.h.sec.toNat h.b.kl (fun j s ks hj hs hk hn => by
    rcases h.good j s ks hj hs (hall s (List.mem_of_getElem? hj) hs) hk with ⟨h1, _⟩ | h1
    · omega
    · exact h1)
  have hcn := h.b.counts (L := L)
  have hu : P.l.length - 1 ≤ P.l.countP usedB := by omega
  have hm : (Z - 12) * (P.l.length - 1) ≤ (Z - 12) * P.l.countP usedB := Nat.mul_le_mul_left _ hu
  have he : (Z - 12) * (P.l.length - 1) = (Z - 12) * (P.l.length - 2) + (Z - 12) := by
    rw [show P.l.length - 1 = (P.l.length - 2) + 1 by omega, Nat.mul_add, Nat.mul_one]
  rw [Nat.mul_comm (P.l.length - 2)] at ht
  have hp : (Z - 12) * 1 ≤ (Z - 12) * (P.l.length - 2) := Nat.mul_le_mul_left _ (by omega)
  omega

/-- The sector that is cleaned isn't the head any more, its keys are taken out. -/
theorem RS.unhead (h : RS Z M B q0 P K) {i : Nat} {s : Sc} (hi : P.l[i]? = some s) (h2 : s.st = 2) (hq : s.q ≤ q0) : RS Z M B q0 (P.unhead i) (K.set i []) ∧ Aw2 i (P.unhead i) (K.set i []) := by
  have hil := (List.getElem?_eq_some_iff.1 hi).1
  have hkl : i < K.length := by rw [h.b.kl]; exact hil
  have hl : (P.unhead i).l = P.l := PV.unhead_l P i
  have hhd : (P.unhead i).h = ⟨0, 0, 0, 0⟩ ∨ (P.unhead i).h = P.h ∧ P.h.sec ≠ (i : Int) := by
    unfold PV.unhead
    split
    · exact Or.inl rfl
    · rename_i hn
      exact Or.inr ⟨rfl, fun h => hn h.symm⟩
  refine ⟨⟨⟨h.b.z, by rw [hl, List.length_set]; exact h.b.kl, by rw [hl]; exact h.b.clean, by rw [hl]; exact h.b.er, by rw [hl]; exact h.b.lq, ?_, ?_, ?_, ?_⟩, by rw [hl]; exact h.lo, ?_⟩, ⟨s, by rw [hl]; exact hi, h2⟩, List.getElem?_set_self hkl, ?_⟩
  · intro j x hj hx
    rw [hl] at hj
    by_cases hij : j = i
    · subst hij
      exact List.getElem?_set_self hkl
    · rw [List.getElem?_set_ne (by omega)]
      exact h.b.blank j x hj hx
  · intro ks hks
    rcases List.mem_or_eq_of_mem_set hks with h1 | rfl
    · exact h.b.fit ks h1
    · simp [sumA, cost]
  · intro ks hks x hx
    rcases List.mem_or_eq_of_mem_set hks with h1 | rfl
    · exact h.b.small ks h1 x hx
    · cases hx
  · rcases hhd with h1 | ⟨h1, hsi⟩
    · exact Or.inl h1
    · rcases h.b.hd with h3 | ⟨k, o, ks, s1, hd⟩
      · exact Or.inl (h1.trans h3)
      · have hki : k ≠ i := by have := hd.sec; omega
        exact Or.inr ⟨k, o, ks, s1, by rw [h1]; exact hd.sec, by rw [h1]; exact hd.left, hd.ge, hd.le, by rw [h1]; exact hd.t0, by rw [h1]; exact hd.t1, by rw [List.getElem?_set_ne (by omega)]; exact hd.kk, hd.used, by rw [hl]; exact hd.at_, hd.st⟩
  · intro j x ks hj hx hqx hk
    rw [hl] at hj
    by_cases hij : j = i
    · subst hij
      rw [hi] at hj
      cases hj
      omega
    · rw [List.getElem?_set_ne (by omega)] at hk
      rcases h.good j x ks hj hx hqx hk with ⟨h5, o, h6, h7⟩ | h5
      · rcases hhd with h1 | ⟨h1, hsi⟩
        · by_cases hsi : P.h.sec = (i : Int)
          · omega
          · unfold PV.unhead at h1 ⊢
            rw [if_neg (by omega)] at h1 ⊢
            exact Or.inl ⟨h5, o, h6, h7⟩
        · rw [h1]
          exact Or.inl ⟨h5, o, h6, h7⟩
      · exact Or.inr h5
  · rcases hhd with h1 | ⟨h1, hsi⟩
    · exact Or.inl h1
    · exact Or.inr (by rw [h1]; exact hsi)

/-- The cleaned sector is let go. -/
theorem RS.letGo (h : RS Z M B q0 P K) {i : Nat} {s : Sc} (hi : P.l[i]? = some s) (ha : Aw2 i P K) (hL : B < (L : Int)) (hq : q0 ≤ lastQ (P.l.set i ⟨0, 0, s.er + 1⟩)) :
    RS Z M (B + 1) q0 (P.letGo L i s) K ∧ (P.letGo L i s).l = P.l.set i ⟨0, 0, s.er + 1⟩ := by
  have her := h.b.er s (List.mem_of_getElem? hi)
  have hl : (P.letGo L i s).l = P.l.set i ⟨0, 0, s.er + 1⟩ := by
    unfold PV.letGo
    rw [if_neg (by omega)]
  have hlq := lastQ_gone (l := P.l) (j := i) (x := ⟨0, 0, s.er + 1⟩) (by show (0 : Int) ≠ 2; decide)
  have hh : (P.letGo L i s).h = P.h := rfl
  refine ⟨⟨⟨h.b.z, by rw [hl, List.length_set]; exact h.b.kl, ?_, ?_, by rw [hl]; have := h.b.lq; omega, ?_, h.b.fit, h.b.small, ?_⟩, by rw [hl]; exact hq, ?_⟩, hl⟩
  · intro x hx
    rw [hl] at hx
    rcases List.mem_or_eq_of_mem_set hx with h1 | rfl
    · exact h.b.clean x h1
    · exact Or.inl rfl
  · intro x hx
    rw [hl] at hx
    rcases List.mem_or_eq_of_mem_set hx with h1 | rfl
    · have := h.b.er x h1; omega
    · show s.er + 1 ≤ B + 1; omega
  · intro j x hj hx
    rw [hl] at hj
    by_cases hij : i = j
    · subst hij
      exact ha.k
    · rw [List.getElem?_set_ne hij] at hj
      exact h.b.blank j x hj hx
  · rcases h.b.hd with h0 | ⟨k, o, ks, s1, hd⟩
    · exact Or.inl h0
    · by_cases hki : k = i
      · rcases ha.h with h1 | h1
        · exact Or.inl h1
        · have := hd.sec
          subst hki
          exact absurd this h1
      · exact Or.inr ⟨k, o, ks, s1, hd.sec, hd.left, hd.ge, hd.le, hd.t0, hd.t1, hd.kk, hd.used, by rw [hl, List.getElem?_set_ne (by omega)]; exact hd.at_, hd.st⟩
  · intro j x ks hj hx hqx hk
    rw [hl] at hj
    by_cases hij : i = j
    · subst hij
      rw [List.getElem?_set_self (List.getElem?_eq_some_iff.1 hi).1] at hj
      cases hj
      cases hx
    · rw [List.getElem?_set_ne hij] at hj
      exact h.good j x ks hj hx hqx hk

theorem clean_room {t : Nat} {b : Bool} {P' : PV} {K' : List (List (List UInt8))} (h : RS Z M B q0 P K) (hz : 12 < Z) (h3 : 3 ≤ P.l.length) (hf1 : 1 ≤ P.l.countP (opensB (L : Int))) (hf : P.l.countP (opensB (L : Int)) ≤ 1) (ht : 4 * totW M K ≤ (P.l.length - 2) * (Z - 12))
    (hB : B + 1 < 4294967295) (hL : B + 1 < (L : Int)) (hc : Clean Z L M t P K b P' K') :
    b = true ∧ RS Z M (B + 2) q0 P' K' ∧ totW M K' = totW M K ∧ (∀ x, Cov K x → Cov K' x) ∧ 1 ≤ P'.l.countP (opensB (L : Int)) ∧ P'.l.length = P.l.length ∧ P'.l.countP (oldB q0) + 1 ≤ P.l.countP (oldB q0) := by
  have hcn := h.b.counts (L := L)
  have hbi := best_is usedB Sc.q P.l P.l.length (Nat.le_refl _)
  rcases hc with ⟨hno, _⟩ | ⟨i, kk, b1, P2, K2, hb, hkk, hA, hrest⟩
  · rw [hno] at hbi
    have : P.l.countP usedB = 0 := by
      rw [List.countP_eq_zero]
      intro s hs
      obtain ⟨j, hj, rfl⟩ := List.mem_iff_getElem.1 hs
      rw [hbi j _ hj (List.getElem?_eq_getElem hj)]
      decide
    omega
  · rw [hb] at hbi
    obtain ⟨hil, s, hs, hus, hleast⟩ := hbi
    have hs2 : s.st = 2 := by unfold usedB at hus; simpa using hus
    obtain ⟨so, hso, hso2, hsoq⟩ := h.some_old hz h3 hf ht
    obtain ⟨jo, hjo, hjo2⟩ := List.mem_iff_getElem.1 hso
    have hsq : s.q ≤ q0 := by
      have := hleast jo so hjo (by rw [← hjo2]; exact List.getElem?_eq_getElem hjo) (by unfold usedB; simpa using hso2)
      omega
    obtain ⟨hs3, ha⟩ := h.unhead hs hs2 hsq
    have hkm := List.mem_of_getElem? hkk
    obtain ⟨rfl, r2, r3, r4, r5, r6⟩ := again1 i (by omega) (by omega) t _ _ _ hA hs3 ha (by rw [PV.unhead_l]; exact hf1) (h.b.fit kk hkm) (h.b.small kk hkm)
    rw [PV.unhead_l] at r6
    have htw := totW_set M K i kk [] hkk
    have hw0 : sumW M [] = 0 := rfl
    rcases hrest with ⟨h9, _⟩ | ⟨_, rfl, ⟨s4, hs4, _, rfl⟩, rfl⟩
    · cases h9
    · -- what stands at i is what stood there
      have hP2 : P2.l[i]? = some s ∧ P2.l.countP (oldB q0) = P.l.countP (oldB q0) ∧ P2.l.length = P.l.length ∧ q0 ≤ lastQ (P2.l.set i ⟨0, 0, s.er + 1⟩) := by
        rcases r6 with r6 | ⟨j, sj, hj, hj0, r6⟩
        · rw [r6]
          refine ⟨hs, rfl, rfl, ?_⟩
          rcases lastQ_att P.l with h8 | ⟨x, hx, hx2, hxq⟩
          · have := h.lo; have := lastQ_pos (P.l.set i ⟨0, 0, s.er + 1⟩); omega
          · -- another used one
            have hcs := countP_set usedB P.l i ⟨0, 0, s.er + 1⟩ s hs
            rw [if_pos hus, if_neg (by unfold usedB; simp)] at hcs
            have hpos : 0 < (P.l.set i ⟨0, 0, s.er + 1⟩).countP usedB := by omega
            obtain ⟨y, hy, hyu⟩ := List.countP_pos_iff.1 hpos
            have hy2 : y.st = 2 := by unfold usedB at hyu; simpa using hyu
            obtain ⟨jx, hjx, hjx2⟩ := List.mem_iff_getElem.1 hx
            by_cases hji : jx = i
            · subst hji
              have hxs : x = s := by
                rw [List.getElem?_eq_getElem hjx, hjx2] at hs
                exact Option.some.inj hs
              rw [hxs] at hxq
              have hyl := lastQ_ge hy hy2
              rcases List.mem_or_eq_of_mem_set hy with h7 | rfl
              · obtain ⟨jy, hjy, hjy2⟩ := List.mem_iff_getElem.1 h7
                have := hleast jy y hjy (by rw [← hjy2]; exact List.getElem?_eq_getElem hjy) hyu
                have := h.lo
                omega
              · cases hy2
            · have hm : x ∈ P.l.set i ⟨0, 0, s.er + 1⟩ := List.mem_of_getElem? (i := jx) (by rw [List.getElem?_set_ne (by omega), List.getElem?_eq_getElem hjx, hjx2])
              have := lastQ_ge hm hx2
              have := h.lo
              omega
        · have hjl := (List.getElem?_eq_some_iff.1 hj).1
          have hij : j ≠ i := by
            rintro rfl
            rw [hs] at hj
            cases hj
            rw [hs2] at hj0
            cases hj0
          rw [r6]
          refine ⟨by rw [List.getElem?_set_ne hij]; exact hs, ?_, List.length_set, ?_⟩
          · have hcs := countP_set (oldB q0) P.l j ⟨2, lastQ P.l + 1, sj.er⟩ sj hj
            have e1 : oldB q0 sj = false := by unfold oldB; rw [hj0]; rfl
            have e2 : oldB q0 ⟨2, lastQ P.l + 1, sj.er⟩ = false := by
              unfold oldB
              have := h.lo
              simp
              omega
            rw [e1, e2] at hcs
            simpa using hcs
          · have hm : (⟨2, lastQ P.l + 1, sj.er⟩ : Sc) ∈ (P.l.set j ⟨2, lastQ P.l + 1, sj.er⟩).set i ⟨0, 0, s.er + 1⟩ :=
              List.mem_of_getElem? (i := j) (by rw [List.getElem?_set_ne (by omega), List.getElem?_set_self hjl])
            have h7 := lastQ_ge hm rfl
            have := h.lo
            simp only at h7
            omega
      obtain ⟨hPi, hPc, hPl, hPq⟩ := hP2
      rw [hPi] at hs4
      cases hs4
      obtain ⟨hR, hl⟩ := r2.letGo hPi r3 (L := L) (by omega) hPq
      have hil2 : i < P2.l.length := by rw [hPl]; exact hil
      refine ⟨rfl, hR.mono (by omega), by omega, fun x hx => r5 x (Cov.out hkk hx), ?_, by rw [hl, List.length_set, hPl], ?_⟩
      · rw [hl]
        exact List.countP_pos_iff.2 ⟨_, List.mem_of_getElem? (List.getElem?_set_self hil2), by unfold opensB; simp⟩
      · have hcs := countP_set (oldB q0) P2.l i ⟨0, 0, s.er + 1⟩ s hPi
        rw [if_pos (by unfold oldB; simp; exact ⟨hs2, hsq⟩), if_neg (by unfold oldB; simp)] at hcs
        rw [hl]
        omega

theorem rounds_room (q0 : Int) {room : Int} : ∀ (n : Nat) (B : Int) (P : PV) (K : List (List (List UInt8))) (b : Bool) (P' : PV) (K' : List (List (List UInt8))), RS Z M B q0 P K → P.l.countP (oldB q0) + 1 ≤ n → 1 ≤ P.l.countP (opensB (L : Int)) → 3 ≤ P.l.length → 12 < Z →
    4 * totW M K ≤ (P.l.length - 2) * (Z - 12) → room ≤ ((Z - 12 : Nat) : Int) → B + 2 * (n : Int) < 4294967295 → B + 2 * (n : Int) < (L : Int) → Rounds Z L M room n P K b P' K' →
    b = true ∧ RB Z M (B + 2 * (n : Int)) P' K' ∧ 1 ≤ P'.l.countP (opensB (L : Int)) ∧ P'.l.length = P.l.length ∧ ∀ x, Cov K x → Cov K' x
  | 0, _, _, _, _, _, _, _, h, _, _, _, _, _, _, _, _ => by omega
  | n + 1, B, P, K, b, P', K', h, hn, hf1, h3, hz, ht, hr, hB, hL, hR => by
    by_cases hf : 2 ≤ P.l.countP (opensB (L : Int))
    · obtain ⟨h1, rfl, i, s, hop, rfl⟩ := one_round hf (by have := h.b.lq; omega) hr hR
      obtain ⟨s2, hs2, hos⟩ := Sim.opens hop.best
      rw [hop.at_] at hs2
      cases hs2
      have hoc := opened_oc (Z := Z) hop.at_ hos
      rw [opens_iff (h.b.clean s (List.mem_of_getElem? hop.at_))] at hos
      obtain ⟨hb, _, hl⟩ := h.b.opened hop.at_ (by simpa using hos) (by omega)
      exact ⟨h1, hb.mono (by omega), by omega, by rw [hl, List.length_set], fun x hx => hx⟩
    · have hmk : ∀ {t : Nat} {b : Bool} {P1 : PV} {K1 : List (List (List UInt8))}, MakeRoom Z L M t P K b P1 K1 → Clean Z L M t P K b P1 K1 := fun hm => by
        rcases hm with ⟨h9, _⟩ | ⟨h9, _⟩ | ⟨_, h9⟩
        · exact absurd h9 hf
        · exact absurd h9 hf
        · exact h9
      rcases hR.inv with ⟨t, hm, rfl⟩ | ⟨t, hm, htk, rfl⟩ | ⟨t, P1, K1, hm, htk, _, hR2⟩
      · obtain ⟨h9, _⟩ := clean_room h hz h3 hf1 (by omega) ht (by omega) (by omega) (hmk hm)
        cases h9
      · obtain ⟨_, r2, _, r4, r5, r6, _⟩ := clean_room h hz h3 hf1 (by omega) ht (by omega) (by omega) (hmk hm)
        exact ⟨rfl, r2.b.mono (by omega), r5, r6, r4⟩
      · obtain ⟨_, r2, r3, r4, r5, r6, r7⟩ := clean_room h hz h3 hf1 (by omega) ht (by omega) (by omega) (hmk hm)
        obtain ⟨q1, q2, q3, q4, q5⟩ := rounds_room q0 n (B + 2) P1 K1 b P' K' r2 (by omega) r5 (by omega) hz (by rw [r3, r6]; exact ht) hr (by omega) (by omega) hR2
        exact ⟨q1, q2.mono (by omega), q3, q4.trans r6, fun x hx => q5 x (r4 x hx)⟩
end

end Go.Proofs.YtnhfmcijadficaaGreatDoor

/- Where there is room: a store that commits have made, told by its map alone; what a commit makes of it. The plain half. -/
namespace Go.Proofs.YtnhfmcijadficaaGreatDoor
set_option maxRecDepth 100000
open Go.RowKit Go.Maps

abbrev AX := Al (Int × List UInt8)
def szX (q : List UInt8 × (Int × List UInt8)) : Nat := q.1.length + q.2.2.length + 16
def inS (j : Nat) (X : AX) : AX := X.filter fun q => decide (q.2.1 = (j : Int))
def sumX (X : AX) : Nat := (X.map szX).sum
def NodK (X : AX) : Prop := (X.map (·.1)).Nodup

theorem ains_perm {α : Type} (p : List UInt8 × α) : ∀ M : Al α, (ains p M).Perm (p :: M)
  | [] => .refl _
  | q :: r => by
    unfold ains
    split
    · exact .refl _
    · exact ((ains_perm p r).cons q).trans (.swap p q r)
theorem sumX_sub {a b : AX} (h : a.Sublist b) : sumX a ≤ sumX b := by
  unfold sumX
  induction h with
  | slnil => exact Nat.le_refl _
  | cons x _ ih => rw [List.map_cons, List.sum_cons]; omega
  | cons_cons x _ ih => rw [List.map_cons, List.map_cons, List.sum_cons, List.sum_cons]; omega
theorem sumX_perm {a b : AX} (h : a.Perm b) : sumX a = sumX b := sum_perm (h.map szX)
theorem adel_sub {α : Type} (M : Al α) (k : List UInt8) : (adel M k).Sublist M := List.filter_sublist
theorem inS_mem {j : Nat} {X : AX} {q : List UInt8 × (Int × List UInt8)} : q ∈ inS j X ↔ q ∈ X ∧ q.2.1 = (j : Int) := by
  unfold inS
  rw [List.mem_filter]
  simp
theorem inS_adel (j : Nat) (X : AX) (k : List UInt8) : (inS j (adel X k)).Sublist (inS j X) := (adel_sub X k).filter _
theorem inS_ains (j : Nat) (X : AX) (p : List UInt8 × (Int × List UInt8)) : (inS j (ains p X)).Perm (if p.2.1 = (j : Int) then p :: inS j X else inS j X) := by
  have h1 : (inS j (ains p X)).Perm (inS j (p :: X)) := (ains_perm p X).filter _
  have h2 : inS j (p :: X) = if p.2.1 = (j : Int) then p :: inS j X else inS j X := by
    unfold inS
    rw [List.filter_cons]
    simp
  rw [← h2]
  exact h1
theorem nodK_adel {X : AX} (h : NodK X) (k : List UInt8) : NodK (adel X k) := List.Nodup.sublist ((adel_sub X k).map _) h
theorem nodK_aput {X : AX} (h : NodK X) (k : List UInt8) (v : Int × List UInt8) : NodK (aput X k v) := by
  unfold NodK aput
  refine (((ains_perm (k, v) (adel X k)).map (·.1)).nodup_iff).2 ?_
  rw [List.map_cons, List.nodup_cons]
  refine ⟨fun hm => ?_, nodK_adel h k⟩
  obtain ⟨q, hq, hk⟩ := List.mem_map.1 hm
  exact ((adel_mem X k q).1 hq).2 hk
theorem nodK_inS {X : AX} (h : NodK X) (j : Nat) : ((inS j X).map (·.1)).Nodup := by
  have h1 : ((inS j X).map (·.1)).Sublist (X.map (·.1)) := List.filter_sublist.map _
  exact List.Nodup.sublist h1 h
/-- Unlike keys of a list count for no more than the list. -/
theorem nodup_sum (f : List UInt8 → Nat) : ∀ (xs ys : List (List UInt8)), xs.Nodup → (∀ x ∈ xs, x ∈ ys) → (xs.map f).sum ≤ (ys.map f).sum ∧ xs.length ≤ ys.length
  | [], _, _, _ => ⟨by simp, by simp⟩
  | x :: xs, ys, hn, hs => by
    rw [List.nodup_cons] at hn
    have hx := hs x (List.mem_cons_self ..)
    have hp := List.perm_cons_erase hx
    have h1 := nodup_sum f xs (ys.erase x) hn.2 (fun y hy => (List.mem_erase_of_ne (by rintro rfl; exact hn.1 hy)).2 (hs y (List.mem_cons_of_mem _ hy)))
    have h2 := sum_perm (hp.map f)
    have h3 := hp.length_eq
    rw [List.map_cons, List.sum_cons] at h2 ⊢
    rw [List.length_cons] at h3 ⊢
    omega

/-- What a map tells anew: where each key stands. -/
theorem mem_reSec1 {j : Int} {X : AX} {k : List UInt8} (hk : (afind X k).isSome = true) {q : List UInt8 × (Int × List UInt8)} (hq : q ∈ reSec1 j X k) :
    (q.1 = k ∧ q.2.1 = j ∧ ∃ a, (q.1, (a, q.2.2)) ∈ X) ∨ (q.1 ≠ k ∧ q ∈ X) := by
  unfold reSec1 at hq
  rcases (aput_mem X k _ q).1 hq with rfl | ⟨h1, h2⟩
  · obtain ⟨v, hv, hm⟩ := mem_of_isSome hk
    refine Or.inl ⟨rfl, rfl, v.1, ?_⟩
    rw [hv]
    exact hm
  · exact Or.inr ⟨h2, h1⟩
theorem keep_reSec1 {j : Int} {X : AX} {k k' : List UInt8} (h : (afind X k').isSome = true) : (afind (reSec1 j X k) k').isSome = true := isSome_aput _ _ _ _ h
theorem keep_reSecL {j : Int} : ∀ (ks : List (List UInt8)) {X : AX} {k' : List UInt8}, (afind X k').isSome = true → (afind (reSecL j X ks) k').isSome = true
  | [], _, _, h => h
  | k :: ks, _, _, h => keep_reSecL ks (keep_reSec1 h)
theorem mem_reSecL {j : Int} : ∀ (ks : List (List UInt8)) {X : AX} (_ : ∀ k ∈ ks, (afind X k).isSome = true) {q : List UInt8 × (Int × List UInt8)} (_ : q ∈ reSecL j X ks),
    (q.1 ∈ ks ∧ q.2.1 = j ∧ ∃ a, (q.1, (a, q.2.2)) ∈ X) ∨ (q.1 ∉ ks ∧ q ∈ X)
  | [], _, _, _, hq => Or.inr ⟨by simp, hq⟩
  | k :: ks, X, hks, q, hq => by
    have h1 := hks k (List.mem_cons_self ..)
    rcases mem_reSecL ks (X := reSec1 j X k) (fun x hx => keep_reSec1 (hks x (List.mem_cons_of_mem _ hx))) hq with ⟨h2, h3, a, h4⟩ | ⟨h2, h3⟩
    · refine Or.inl ⟨List.mem_cons_of_mem _ h2, h3, ?_⟩
      rcases mem_reSec1 h1 h4 with ⟨h5, _, a', h6⟩ | ⟨_, h6⟩
      · exact ⟨a', h6⟩
      · exact ⟨a, h6⟩
    · rcases mem_reSec1 h1 h3 with ⟨h5, h6, h7⟩ | ⟨h5, h6⟩
      · exact Or.inl ⟨by rw [h5]; exact List.mem_cons_self .., h6, h7⟩
      · exact Or.inr ⟨by simp; exact ⟨h5, h2⟩, h6⟩
theorem mem_reSecK : ∀ (K : List (List (List UInt8))) (j : Nat) {X : AX} (_ : ∀ ks ∈ K, ∀ k ∈ ks, (afind X k).isSome = true) {q : List UInt8 × (Int × List UInt8)} (_ : q ∈ reSecK j X K),
    (∃ (i : Nat) (ks : List (List UInt8)), K[i]? = some ks ∧ q.1 ∈ ks ∧ q.2.1 = ((j + i : Nat) : Int) ∧ ∃ a, (q.1, (a, q.2.2)) ∈ X) ∨ (¬ Cov K q.1 ∧ q ∈ X)
  | [], _, _, _, _, hq => Or.inr ⟨fun ⟨_, h, _⟩ => (by cases h), hq⟩
  | ks :: K, j, X, hK, q, hq => by
    have h1 := hK ks (List.mem_cons_self ..)
    rcases mem_reSecK K (j + 1) (X := reSecL (j : Int) X ks) (fun x hx k hk => keep_reSecL ks (hK x (List.mem_cons_of_mem _ hx) k hk)) hq with ⟨i, k2, h2, h3, h4, a, h5⟩ | ⟨h2, h3⟩
    · refine Or.inl ⟨i + 1, k2, by simpa using h2, h3, by rw [h4]; congr 1; omega, ?_⟩
      rcases mem_reSecL ks h1 h5 with ⟨_, _, a', h6⟩ | ⟨_, h6⟩
      · exact ⟨a', h6⟩
      · exact ⟨a, h6⟩
    · rcases mem_reSecL ks h1 h3 with ⟨h5, h6, h7⟩ | ⟨h5, h6⟩
      · exact Or.inl ⟨0, ks, rfl, h5, by simpa using h6, h7⟩
      · refine Or.inr ⟨fun ⟨k2, h7, h8⟩ => ?_, h6⟩
        rcases List.mem_cons.1 h7 with rfl | h7
        · exact h5 h8
        · exact h2 ⟨k2, h7, h8⟩
theorem nodK_reSecL {j : Int} : ∀ (ks : List (List UInt8)) {X : AX}, NodK X → NodK (reSecL j X ks)
  | [], _, h => h
  | k :: ks, _, h => nodK_reSecL ks (nodK_aput h _ _)
theorem nodK_reSecK : ∀ (K : List (List (List UInt8))) (j : Nat) {X : AX}, NodK X → NodK (reSecK j X K)
  | [], _, _, h => h
  | ks :: K, j, _, h => nodK_reSecK K (j + 1) (nodK_reSecL ks h)

/-- A head with a place in its sector. -/
structure HdX (Z : Nat) (X : AX) (h : HeadV) (l : List Sc) (k o : Nat) (s : Sc) : Prop where
  sec : h.sec = (k : Int)
  left : h.left = ((Z - o : Nat) : Int)
  ge : 12 ≤ o
  le : o ≤ Z
  t0 : 0 ≤ h.txn
  t1 : h.txn ≤ (o : Int)
  used : sumX (inS k X) + cost (inS k X).length + 12 ≤ o
  at_ : l[k]? = some s
  st : s.st = 2
/-- A store none of whose sectors is worn: what stands in each sector went into it. -/
structure RX (Z : Nat) (B : Int) (X : AX) (h : HeadV) (l : List Sc) : Prop where
  z : Z ≤ 65536
  clean : ∀ s ∈ l, s.st = 0 ∨ s.st = 2
  er : ∀ s ∈ l, s.er ≤ B
  lq : lastQ l ≤ B
  blank : ∀ (j : Nat) (s : Sc), l[j]? = some s → s.st = 0 → ∀ q ∈ X, q.2.1 ≠ (j : Int)
  fit : ∀ j, j < l.length → sumX (inS j X) + cost (inS j X).length ≤ Z - 12
  small : ∀ q ∈ X, 2 * (szX q + 16) ≤ Z - 12
  hd : h = ⟨0, 0, 0, 0⟩ ∨ ∃ k o s, HdX Z X h l k o s

section
variable {w : World} {s mb p c e Z L : Nat} {M : Al Sv} {h : HeadV} {ss : List (Nat × List UInt8)} {B : Int}

theorem szK_at (g : GoodX w s mb p c e Z L M h ss) {q : List UInt8 × Sv} (hq : q ∈ M) : szK M q.1 = szX (q.1, q.2.a) := by
  have h1 := svAt_v (afind_of_mem g.st.map.sorted hq)
  have h2 := g.lenM q hq
  unfold szK szX Ch.sz keyCh Ch.rN Sv.a
  rw [h1]
  simp only [Bool.false_eq_true, if_false]
  rw [h2]
  rfl
theorem nodK_of (g : GoodX w s mb p c e Z L M h ss) : NodK (amap Sv.a M) := by
  unfold NodK amap
  rw [List.map_map]
  show (M.map (·.1)).Nodup
  refine List.pairwise_map.2 (g.st.map.sorted.imp ?_)
  intro a b hab he
  have h1 := before_lt _ _ hab
  rw [he] at h1
  exact List.lt_irrefl _ h1

theorem kbs_eq (g : GoodX w s mb p c e Z L M h ss) (j : Nat) : ((M.map (·.1)).filter fun k => decide ((svAt M k).sec = (j : Int))) = (inS j (amap Sv.a M)).map (·.1) := by
  unfold inS amap
  rw [List.filter_map, List.filter_map, List.map_map]
  show _ = ((M.filter _).map (·.1))
  congr 1
  refine List.filter_congr fun q hq => ?_
  show decide ((svAt M q.1).sec = (j : Int)) = decide (q.2.sec = (j : Int))
  rw [svAt_v (afind_of_mem g.st.map.sorted hq)]
theorem sumA_keys (g : GoodX w s mb p c e Z L M h ss) {Y : AX} (hY : ∀ q ∈ Y, q ∈ amap Sv.a M) : sumA M (Y.map (·.1)) = sumX Y := by
  unfold sumA sumX
  rw [List.map_map]
  congr 1
  refine List.map_congr_left fun q hq => ?_
  obtain ⟨m, hm, rfl⟩ := List.mem_map.1 (hY q hq)
  exact szK_at g hm
theorem kbs_at (g : GoodX w s mb p c e Z L M h ss) {j : Nat} {ks : List (List UInt8)} (hk : (kbsL M ss.length (M.map (·.1)))[j]? = some ks) : j < ss.length ∧ ks = (inS j (amap Sv.a M)).map (·.1) ∧ sumA M ks = sumX (inS j (amap Sv.a M)) ∧ ks.length = (inS j (amap Sv.a M)).length := by
  have hj := (List.getElem?_eq_some_iff.1 hk).1
  rw [kbsL_len] at hj
  unfold kbsL at hk
  rw [List.getElem?_map, List.getElem?_range hj] at hk
  simp only [Option.map_some, Option.some.injEq] at hk
  rw [kbs_eq g j] at hk
  subst hk
  refine ⟨hj, rfl, sumA_keys g (fun q hq => (inS_mem.1 hq).1), by rw [List.length_map]⟩

/-- What a plan begins with. -/
theorem RX.start (r : RX Z B (amap Sv.a M) h (secsOf ss)) (g : GoodX w s mb p c e Z L M h ss) : RB Z M B ⟨secsOf ss, h, []⟩ (kbsL M ss.length (M.map (·.1))) := by
  refine ⟨r.z, by rw [kbsL_len, secsOf_len], r.clean, r.er, r.lq, ?_, ?_, ?_, ?_⟩
  · intro j x hj hx
    have hjl : j < ss.length := by rw [← secsOf_len ss]; exact (List.getElem?_eq_some_iff.1 hj).1
    obtain ⟨ks, hks⟩ : ∃ ks, (kbsL M ss.length (M.map (·.1)))[j]? = some ks := ⟨_, List.getElem?_eq_getElem (by rw [kbsL_len]; exact hjl)⟩
    obtain ⟨_, h2, _⟩ := kbs_at g hks
    have h3 : inS j (amap Sv.a M) = [] := by
      refine List.eq_nil_iff_forall_not_mem.2 fun q hq => ?_
      exact r.blank j x hj hx q (inS_mem.1 hq).1 (inS_mem.1 hq).2
    rw [hks, h2, h3]
    rfl
  · intro ks hks
    obtain ⟨j, hj, rfl⟩ := List.mem_iff_getElem.1 hks
    obtain ⟨h1, _, h3, h4⟩ := kbs_at g (List.getElem?_eq_getElem hj)
    rw [h3, h4]
    exact r.fit j (by rw [secsOf_len]; exact h1)
  · intro ks hks x hx
    obtain ⟨j, hj, rfl⟩ := List.mem_iff_getElem.1 hks
    obtain ⟨_, h2, _⟩ := kbs_at g (List.getElem?_eq_getElem hj)
    rw [h2] at hx
    obtain ⟨q, hq, rfl⟩ := List.mem_map.1 hx
    have hqX := (inS_mem.1 hq).1
    obtain ⟨m, hm, rfl⟩ := List.mem_map.1 hqX
    show 2 * (szK M m.1 + 16) ≤ _
    rw [szK_at g hm]
    exact r.small _ hqX
  · rcases r.hd with h0 | ⟨k, o, s1, hd⟩
    · exact Or.inl h0
    · have hkl : k < ss.length := by rw [← secsOf_len ss]; exact (List.getElem?_eq_some_iff.1 hd.at_).1
      obtain ⟨ks, hks⟩ : ∃ ks, (kbsL M ss.length (M.map (·.1)))[k]? = some ks := ⟨_, List.getElem?_eq_getElem (by rw [kbsL_len]; exact hkl)⟩
      obtain ⟨_, _, h3, h4⟩ := kbs_at g hks
      exact Or.inr ⟨k, o, ks, s1, hd.sec, hd.left, hd.ge, hd.le, hd.t0, hd.t1, hks, by rw [h3, h4]; exact hd.used, hd.at_, hd.st⟩
theorem cov_start (g : GoodX w s mb p c e Z L M h ss) {x : List UInt8} (hx : x ∈ M.map (·.1)) : Cov (kbsL M ss.length (M.map (·.1))) x := by
  obtain ⟨q, hq, rfl⟩ := List.mem_map.1 hx
  have hs := g.secsIn q hq
  obtain ⟨ks, hks⟩ : ∃ ks, (kbsL M ss.length (M.map (·.1)))[q.2.sec.toNat]? = some ks := ⟨_, List.getElem?_eq_getElem (by rw [kbsL_len]; omega)⟩
  obtain ⟨_, h2, _⟩ := kbs_at g hks
  refine ⟨ks, List.mem_of_getElem? hks, ?_⟩
  rw [h2]
  exact List.mem_map.2 ⟨(q.1, q.2.a), inS_mem.2 ⟨List.mem_map.2 ⟨q, hq, rfl⟩, by show q.2.sec = _; omega⟩, rfl⟩

def liveX (X : AX) : Nat := sumX X + 16 * X.length
theorem totW_kbs (g : GoodX w s mb p c e Z L M h ss) : ∀ i, i ≤ (M.map (·.1)).length → totW M (kbsL M ss.length ((M.map (·.1)).take i)) = sumW M ((M.map (·.1)).take i)
  | 0, _ => by
    rw [List.take_zero, kbsL_nil]
    unfold totW
    rw [List.map_replicate]
    simp [sumW, sumA]
  | i + 1, hi => by
    have ih := totW_kbs g i (by omega)
    obtain ⟨x, hx⟩ : ∃ x, (M.map (·.1))[i]? = some x := ⟨_, List.getElem?_eq_getElem (by omega)⟩
    have htk := take_snoc (M.map (·.1)) i x hx
    obtain ⟨q, hq, rfl⟩ := List.mem_map.1 (List.mem_of_getElem? hx)
    have h1 := g.secsIn q hq
    have hv := svAt_v (afind_of_mem g.st.map.sorted hq)
    have hj : (svAt M q.1).sec = ((q.2.sec.toNat : Nat) : Int) := by rw [hv]; omega
    obtain ⟨ks, hks⟩ : ∃ ks, (kbsL M ss.length ((M.map (·.1)).take i))[q.2.sec.toNat]? = some ks := ⟨_, List.getElem?_eq_getElem (by rw [kbsL_len]; omega)⟩
    rw [htk, kbsL_snoc M ss.length _ q.1 q.2.sec.toNat ks hj hks]
    have h2 := totW_set M _ _ ks (ks ++ [q.1]) hks
    rw [sumW_app] at h2 ⊢
    omega
theorem totW_start (g : GoodX w s mb p c e Z L M h ss) : totW M (kbsL M ss.length (M.map (·.1))) = liveX (amap Sv.a M) := by
  have h1 := totW_kbs g (M.map (·.1)).length (Nat.le_refl _)
  rw [List.take_length] at h1
  rw [h1]
  have h2 : M.map (·.1) = (amap Sv.a M).map (·.1) := by unfold amap; rw [List.map_map]; rfl
  unfold sumW liveX
  rw [h2, sumA_keys g (fun q hq => hq), List.length_map]

/-- What a plan ends with, told by the map alone. -/
theorem RB.told (g : GoodX w s mb p c e Z L M h ss) {P : PV} {K : List (List (List UInt8))} (r : RB Z M B P K) (hK : AllK (KeyOk M) K) (hc : ∀ x ∈ M.map (·.1), Cov K x) : RX Z B (reSecK 0 (amap Sv.a M) K) P.h P.l := by
  have hsome : ∀ ks ∈ K, ∀ k ∈ ks, (afind (amap Sv.a M) k).isSome = true := fun ks hks k hk => by
    rw [afind_map, Option.isSome_map]
    exact (hK ks hks k hk).2.2
  have hat : ∀ q ∈ reSecK 0 (amap Sv.a M) K, ∃ (i : Nat) (ks : List (List UInt8)), K[i]? = some ks ∧ q.1 ∈ ks ∧ q.2.1 = (i : Int) ∧ szX q = szK M q.1 := by
    intro q hq
    rcases mem_reSecK K 0 hsome hq with ⟨i, ks, h1, h2, h3, a, h4⟩ | ⟨h1, h2⟩
    · obtain ⟨m, hm, hme⟩ := List.mem_map.1 h4
      refine ⟨i, ks, h1, h2, by rw [h3]; congr 1; omega, ?_⟩
      have h5 := szK_at g hm
      have e1 : m.1 = q.1 := congrArg (·.1) hme
      have e2 : m.2.a.2 = q.2.2 := congrArg (·.2.2) hme
      rw [← e1, h5]
      unfold szX
      rw [e2, ← e1]
    · exfalso
      obtain ⟨m, hm, rfl⟩ := List.mem_map.1 h2
      exact h1 (hc m.1 (List.mem_map.2 ⟨m, hm, rfl⟩))
  have hnod := nodK_reSecK K 0 (nodK_of g)
  have hsum : ∀ (j : Nat) (ks : List (List UInt8)), K[j]? = some ks → sumX (inS j (reSecK 0 (amap Sv.a M) K)) ≤ sumA M ks ∧ (inS j (reSecK 0 (amap Sv.a M) K)).length ≤ ks.length := by
    intro j ks hj
    have h1 := nodup_sum (szK M) ((inS j (reSecK 0 (amap Sv.a M) K)).map (·.1)) ks (nodK_inS hnod j) (fun x hx => by
      obtain ⟨q, hq, rfl⟩ := List.mem_map.1 hx
      obtain ⟨hq1, hq2⟩ := inS_mem.1 hq
      obtain ⟨i, k2, h3, h4, h5, _⟩ := hat q hq1
      have : i = j := by omega
      subst this
      rw [hj] at h3
      cases h3
      exact h4)
    rw [List.length_map] at h1
    refine ⟨?_, h1.2⟩
    have h2 : sumX (inS j (reSecK 0 (amap Sv.a M) K)) = (((inS j (reSecK 0 (amap Sv.a M) K)).map (·.1)).map (szK M)).sum := by
      unfold sumX
      rw [List.map_map]
      congr 1
      refine List.map_congr_left fun q hq => ?_
      obtain ⟨_, _, _, _, _, h5⟩ := hat q (inS_mem.1 hq).1
      exact h5
    rw [h2]
    exact h1.1
  refine ⟨r.z, r.clean, r.er, r.lq, ?_, ?_, ?_, ?_⟩
  · intro j x hj hx q hq hqj
    obtain ⟨i, ks, h1, h2, h3, _⟩ := hat q hq
    have : i = j := by omega
    subst this
    rw [r.blank i x hj hx] at h1
    cases h1
    cases h2
  · intro j hj
    obtain ⟨ks, hks⟩ : ∃ ks, K[j]? = some ks := ⟨_, List.getElem?_eq_getElem (by rw [r.kl]; exact hj)⟩
    obtain ⟨h1, h2⟩ := hsum j ks hks
    have h3 := r.fit ks (List.mem_of_getElem? hks)
    have h4 := cost_mono h2
    omega
  · intro q hq
    obtain ⟨i, ks, h1, h2, _, h4⟩ := hat q hq
    rw [h4]
    exact r.small ks (List.mem_of_getElem? h1) q.1 h2
  · rcases r.hd with h0 | ⟨k, o, ks, s1, hd⟩
    · exact Or.inl h0
    · obtain ⟨h1, h2⟩ := hsum k ks hd.kk
      have h4 := cost_mono h2
      have h5 := hd.used
      exact Or.inr ⟨k, o, s1, hd.sec, hd.left, hd.ge, hd.le, hd.t0, hd.t1, by omega, hd.at_, hd.st⟩
end

/-- What a change adds to a sector. -/
theorem applyA_sum (Y : AX) (f : Ch) (k : Nat) (hb : f.del = false → f.blob.length = f.n) (j : Nat) : sumX (inS j (applyA Y f (k : Int))) ≤ sumX (inS j Y) + (if j = k then f.sz else 0) ∧ (inS j (applyA Y f (k : Int))).length ≤ (inS j Y).length + (if j = k then 1 else 0) := by
  unfold applyA
  cases hd : f.del with
  | true =>
    rw [if_pos rfl]
    have h1 := inS_adel j Y f.s.data.toList
    exact ⟨Nat.le_trans (sumX_sub h1) (Nat.le_add_right ..), Nat.le_trans h1.length_le (Nat.le_add_right ..)⟩
  | false =>
    rw [if_neg (by decide)]
    have h1 := inS_adel j Y f.s.data.toList
    have h2 := sumX_sub h1
    have h3 := h1.length_le
    unfold aput
    have hp := inS_ains j (adel Y f.s.data.toList) (f.s.data.toList, ((k : Int), f.blob))
    rw [sumX_perm hp, hp.length_eq]
    by_cases hjk : j = k
    · subst hjk
      rw [if_pos rfl, if_pos rfl, if_pos rfl]
      have hsz : szX (f.s.data.toList, ((j : Int), f.blob)) = f.sz := by
        unfold szX Ch.sz Ch.rN
        rw [hd, if_neg (by decide), hb hd, size_data]
      have h4 : sumX ((f.s.data.toList, ((j : Int), f.blob)) :: inS j (adel Y f.s.data.toList)) = szX (f.s.data.toList, ((j : Int), f.blob)) + sumX (inS j (adel Y f.s.data.toList)) := by simp [sumX]
      rw [h4, hsz, List.length_cons]
      omega
    · rw [if_neg (by simp; omega), if_neg hjk, if_neg hjk]
      omega
theorem applyL_sum (k : Nat) (j : Nat) : ∀ (l : List Ch) (Y : AX), (∀ f ∈ l, f.del = false → f.blob.length = f.n) → sumX (inS j (applyL Y l (k : Int))) ≤ sumX (inS j Y) + (if j = k then (l.map Ch.sz).sum else 0) ∧ (inS j (applyL Y l (k : Int))).length ≤ (inS j Y).length + (if j = k then l.length else 0)
  | [], Y, _ => by
    show sumX (inS j Y) ≤ _ ∧ (inS j Y).length ≤ _
    split <;> simp
  | f :: l, Y, hb => by
    have h1 := applyA_sum Y f k (hb f (List.mem_cons_self ..)) j
    have h2 := applyL_sum k j l (applyA Y f (k : Int)) (fun g hg => hb g (List.mem_cons_of_mem _ hg))
    show sumX (inS j (applyL (applyA Y f (k : Int)) l (k : Int))) ≤ _ ∧ (inS j (applyL (applyA Y f (k : Int)) l (k : Int))).length ≤ _
    rw [List.map_cons, List.sum_cons, List.length_cons]
    by_cases hjk : j = k
    · rw [if_pos hjk] at h1 h2 ⊢
      rw [if_pos hjk] at h1 h2 ⊢
      omega
    · rw [if_neg hjk] at h1 h2 ⊢
      rw [if_neg hjk] at h1 h2 ⊢
      omega
theorem applyL_mem (k : Nat) : ∀ (l : List Ch) (Y : AX) (q : List UInt8 × (Int × List UInt8)), q ∈ applyL Y l (k : Int) → q ∈ Y ∨ ∃ f ∈ l, f.del = false ∧ q = (f.s.data.toList, ((k : Int), f.blob))
  | [], _, _, h => Or.inl h
  | f :: l, Y, q, h => by
    rcases applyL_mem k l (applyA Y f (k : Int)) q h with h1 | ⟨g, hg, h2⟩
    · unfold applyA at h1
      cases hd : f.del with
      | true =>
        rw [hd, if_pos rfl] at h1
        exact Or.inl ((adel_mem _ _ _).1 h1).1
      | false =>
        rw [hd, if_neg (by decide)] at h1
        rcases (aput_mem _ _ _ _).1 h1 with h3 | ⟨h3, _⟩
        · exact Or.inr ⟨f, List.mem_cons_self .., hd, h3⟩
        · exact Or.inl h3
    · exact Or.inr ⟨g, List.mem_cons_of_mem _ hg, h2⟩

theorem le_sum_mem : ∀ (l : List Nat) (x : Nat), x ∈ l → x ≤ l.sum
  | y :: l, x, h => by
    rw [List.sum_cons]
    rcases List.mem_cons.1 h with rfl | h
    · omega
    · have := le_sum_mem l x h; omega
/-- A commit in the head. -/
theorem RX.commit {Z : Nat} {B : Int} {Y : AX} {h h' : HeadV} {sl : List Sc} (r : RX Z B Y h sl) {k o : Nat} {l : List Ch} (hsec : h.sec = (k : Int)) (hleft : h.left = ((Z - o : Nat) : Int)) (hoz : o ≤ Z) (ho0 : 0 < roomL l) (hor : o + roomL l ≤ Z) (hl16 : l.length ≤ 16) (hb : ∀ f ∈ l, f.blob.length = f.n)
    (hsm : 2 * roomL l ≤ Z - 12) (h1 : h'.sec = (k : Int)) (h2 : h'.left = h.left - (roomL l : Int)) (h3 : h'.txn = h.txn + 1) : RX Z B (applyL Y l (k : Int)) h' sl := by
  rcases r.hd with h0 | ⟨k2, o2, s, hd⟩
  · rw [h0] at hleft
    have : (HeadV.mk 0 0 0 0).left = 0 := rfl
    omega
  · have hk2 : k2 = k := by have := hd.sec; omega
    subst hk2
    have ho2 : o2 = o := by have := hd.left; have := hd.le; omega
    subst ho2
    have hkl := (List.getElem?_eq_some_iff.1 hd.at_).1
    have hrl : roomL l = 16 + (l.map Ch.sz).sum := rfl
    have hus := hd.used
    have hsum := fun j => applyL_sum k2 j l Y (fun f hf _ => hb f hf)
    have hkk := hsum k2
    rw [if_pos rfl, if_pos rfl] at hkk
    have hc1 := cost_mono hkk.2
    have hc2 := cost_add (inS k2 Y).length l.length hl16
    refine ⟨r.z, r.clean, r.er, r.lq, ?_, ?_, ?_, Or.inr ⟨k2, o2 + roomL l, s, h1, by rw [h2, hleft]; omega, by have := hd.ge; omega, hor, by have := hd.t0; omega, by have := hd.t1; omega, by omega, hd.at_, hd.st⟩⟩
    · intro j x hj hx q hq hqj
      rcases applyL_mem k2 l Y q hq with h4 | ⟨f, _, _, rfl⟩
      · exact r.blank j x hj hx q h4 hqj
      · have hjk : k2 = j := by
          have h5 : ((k2 : Nat) : Int) = (j : Int) := hqj
          omega
        subst hjk
        rw [hd.at_] at hj
        cases hj
        rw [hd.st] at hx
        cases hx
    · intro j hj
      by_cases hjk : j = k2
      · subst hjk
        omega
      · have h4 := hsum j
        rw [if_neg hjk, if_neg hjk] at h4
        have h5 := r.fit j hj
        have h6 := cost_mono h4.2
        simp only [Nat.add_zero] at h4 h6
        omega
    · intro q hq
      rcases applyL_mem k2 l Y q hq with h4 | ⟨f, hf, hdl, rfl⟩
      · exact r.small q h4
      · have h5 : szX (f.s.data.toList, ((k2 : Int), f.blob)) = f.sz := by
          unfold szX Ch.sz Ch.rN
          rw [hdl, if_neg (by decide), hb f hf, size_data]
        rw [h5]
        have h6 : f.sz ≤ (l.map Ch.sz).sum := le_sum_mem _ _ (List.mem_map.2 ⟨f, hf, rfl⟩)
        omega

end Go.Proofs.YtnhfmcijadficaaGreatDoor

/- Where there is room: a commit is done, and the store is as ever. -/
namespace Go.Proofs.YtnhfmcijadficaaGreatDoor
set_option maxRecDepth 100000
open Go.RowKit Go.Maps

abbrev AB := Al (List UInt8)
/-- Keys and their blobs alone. -/
def blobsOf (X : AX) : AB := amap (·.2) X
def applyB (Y : AB) (f : Ch) : AB := if f.del then adel Y f.s.data.toList else aput Y f.s.data.toList f.blob
def applyBL (Y : AB) (l : List Ch) : AB := l.foldl applyB Y
def Srt {α : Type} (X : Al α) : Prop := X.Pairwise (fun p q => bytesBefore p.1 q.1 = true)
theorem Srt.amap {α β : Type} {X : Al α} (h : Srt X) (f : α → β) : Srt (amap f X) := List.pairwise_map.2 h
theorem srt_amap {α β : Type} {X : Al α} (f : α → β) (h : Srt (amap f X)) : Srt X := List.pairwise_map.1 h
theorem blobs_applyL (k : Int) : ∀ (l : List Ch) (X : AX), blobsOf (applyL X l k) = applyBL (blobsOf X) l
  | [], _ => rfl
  | f :: l, X => by
    show blobsOf (applyL (applyA X f k) l k) = applyBL (applyB (blobsOf X) f) l
    rw [blobs_applyL k l (applyA X f k)]
    congr 1
    unfold applyA applyB blobsOf
    split
    · exact adel_map _ _ _
    · exact aput_map _ _ _ _
theorem adel_none {α : Type} {X : Al α} {k : List UInt8} (h : ∀ q ∈ X, q.1 ≠ k) : adel X k = X := by
  unfold adel
  rw [List.filter_eq_self]
  intro q hq
  have := h q hq
  simpa using this
theorem ains_first {α : Type} {X : Al α} (p : List UInt8 × α) (h : ∀ q ∈ X, bytesBefore p.1 q.1 = true) : ains p X = p :: X := by
  cases X with
  | nil => rfl
  | cons q r =>
    unfold ains
    rw [if_pos (h q (List.mem_cons_self ..))]
theorem before_irr (a : List UInt8) : ¬ bytesBefore a a = true := fun h => List.lt_irrefl _ (before_lt _ _ h)
theorem before_anti {a b : List UInt8} (h : bytesBefore a b = true) : ¬ bytesBefore b a = true := fun h2 => List.lt_irrefl _ (List.lt_trans (before_lt _ _ h) (before_lt _ _ h2))
theorem before_ne {a b : List UInt8} (h : bytesBefore a b = true) : a ≠ b := fun he => before_irr b (by rw [he] at h; exact h)
/-- A key is put whose blob is the same. -/
theorem aput_same {α : Type} : ∀ {X : Al α} {k : List UInt8} {v : α}, Srt X → afind X k = some v → aput X k v = X
  | [], _, _, _, h => by cases h
  | q :: X, k, v, hs, h => by
    have hs' := List.pairwise_cons.1 hs
    by_cases hk : q.1 = k
    · have hqv : q = (k, v) := by
        unfold afind at h
        rw [List.find?_cons_of_pos (by simpa using hk)] at h
        simp only [Option.map_some, Option.some.injEq] at h
        exact Prod.ext hk h
      have hno : ∀ r ∈ X, r.1 ≠ k := fun r hr he => before_ne (hs'.1 r hr) (by rw [hk, he])
      unfold aput
      have h1 : adel (q :: X) k = X := by
        have h2 : adel (q :: X) k = adel X k := by
          unfold adel
          rw [List.filter_cons_of_neg (by simpa using hk)]
        rw [h2, adel_none hno]
      rw [h1, ains_first _ (fun r hr => by have := hs'.1 r hr; rw [hk] at this; exact this), hqv]
    · have h1 : afind X k = some v := by
        unfold afind at h ⊢
        rw [List.find?_cons_of_neg (by simpa using hk)] at h
        exact h
      have ih := aput_same hs'.2 h1
      have hb : bytesBefore q.1 k = true := hs'.1 (k, v) (afind_mem h1)
      unfold aput at ih ⊢
      have h2 : adel (q :: X) k = q :: adel X k := by
        unfold adel
        rw [List.filter_cons_of_pos (by simpa using hk)]
      rw [h2]
      unfold ains
      rw [if_neg (before_anti hb), ih]
theorem blobs_reSec1 {j : Int} {X : AX} {k : List UInt8} (hs : Srt (blobsOf X)) (hk : (afind X k).isSome = true) : blobsOf (reSec1 j X k) = blobsOf X := by
  unfold reSec1 blobsOf
  rw [aput_map]
  obtain ⟨v, hv, _⟩ := mem_of_isSome hk
  refine aput_same hs ?_
  rw [afind_map, hv]
  rfl
theorem blobs_reSecL {j : Int} : ∀ (ks : List (List UInt8)) {X : AX}, Srt (blobsOf X) → (∀ k ∈ ks, (afind X k).isSome = true) → blobsOf (reSecL j X ks) = blobsOf X
  | [], _, _, _ => rfl
  | k :: ks, X, hs, hk => by
    have h1 := blobs_reSec1 (j := j) hs (hk k (List.mem_cons_self ..))
    have h2 := blobs_reSecL (j := j) ks (X := reSec1 j X k) (by rw [h1]; exact hs) (fun x hx => keep_reSec1 (hk x (List.mem_cons_of_mem _ hx)))
    exact h2.trans h1
theorem blobs_reSecK : ∀ (K : List (List (List UInt8))) (j : Nat) {X : AX}, Srt (blobsOf X) → (∀ ks ∈ K, ∀ k ∈ ks, (afind X k).isSome = true) → blobsOf (reSecK j X K) = blobsOf X
  | [], _, _, _, _ => rfl
  | ks :: K, j, X, hs, hk => by
    have h1 := blobs_reSecL (j := (j : Int)) ks hs (hk ks (List.mem_cons_self ..))
    have h2 := blobs_reSecK K (j + 1) (X := reSecL (j : Int) X ks) (by rw [h1]; exact hs) (fun x hx y hy => keep_reSecL ks (hk x (List.mem_cons_of_mem _ hx) y hy))
    exact h2.trans h1

/-- A store that commits have made none of whose sectors is worn. -/
structure GoodR (w : World) (s mb p c e Z L : Nat) (M : Al Sv) (h : HeadV) (ss : List (Nat × List UInt8)) (B : Int) : Prop where
  g : GoodX w s mb p c e Z L M h ss
  r : RX Z B (amap Sv.a M) h (secsOf ss)
  free : 1 ≤ (secsOf ss).countP (opensB (L : Int))
/-- A commit that is done. -/
def DoneR (s mb p c e Z L : Nat) (M : Al Sv) (ss : List (Nat × List UInt8)) (B : Int) (l : List Ch) (w w' : World) (e1 : Ending) : Prop :=
  e1 = .returned (.int .i64 0) ∧ ∃ M' h' ss', GoodR w' s mb p c e Z L M' h' ss' (B + 8 * (ss.length : Int)) ∧ ss'.length = ss.length ∧ blobsOf (amap Sv.a M') = applyBL (blobsOf (amap Sv.a M)) l ∧ M'.length ≤ M.length + 16 ∧ Only (Mut s mb p c e) w w'

section
variable {w w' : World} {s mb p c e Z L : Nat} {M : Al Sv} {h : HeadV} {ss : List (Nat × List UInt8)} {B : Int}
theorem GoodR.below (g : GoodR w s mb p c e Z L M h ss B) (b : Below w.heap.size w w') : GoodR w' s mb p c e Z L M h ss B := ⟨g.g.below b, g.r, g.free⟩
theorem Outcome.room {l : List Ch} {e1 : Ending} (hO : Outcome s mb p c e Z L M h ss l w w' e1) (G : GoodR w s mb p c e Z L M h ss B) (h3 : 3 ≤ ss.length) (href : refuC l (Z - 12) = 0) (hroom : 4 * (liveX (amap Sv.a M) + roomL l) ≤ (ss.length - 2) * (Z - 12))
    (hB : B + 8 * (ss.length : Int) < 4294967295) (hL : B + 8 * (ss.length : Int) < (L : Int)) (hb : ∀ f ∈ l, f.blob.length = f.n) : DoneR s mb p c e Z L M ss B l w w' e1 := by
  have hgeo := G.g.geo
  have hz0 := hgeo.z0
  have hr0 := refuC_zero href
  have hr2 : 2 * roomL l ≤ Z - 12 := by have := hr0.2.2.2.2; omega
  have hr1 : 0 < roomL l := by unfold roomL; omega
  have hsl : (secsOf ss).length = ss.length := secsOf_len ss
  have hRB := G.r.start G.g
  have hRS : RS Z M B (lastQ (secsOf ss)) ⟨secsOf ss, h, []⟩ (kbsL M ss.length (M.map (·.1))) := ⟨hRB, Int.le_refl _, fun j x ks hj hx hq _ => by
    have h9 : x.q ≤ lastQ (secsOf ss) := lastQ_ge (List.mem_of_getElem? hj) hx
    exact absurd h9 (Int.not_le.2 hq)⟩
  have hcnt : (secsOf ss).countP (oldB (lastQ (secsOf ss))) ≤ ss.length := by rw [← hsl]; exact List.countP_le_length
  have hrounds := fun (b : Bool) (PF : PV) (KF : List (List (List UInt8))) => rounds_room (L := L) (lastQ (secsOf ss)) (room := (roomL l : Int)) (4 * ss.length) B ⟨secsOf ss, h, []⟩ (kbsL M ss.length (M.map (·.1))) b PF KF hRS (by show (secsOf ss).countP _ + 1 ≤ _; omega) G.free (by show 3 ≤ (secsOf ss).length; omega) (by omega)
    (by rw [totW_start G.g]; show _ ≤ ((secsOf ss).length - 2) * _; rw [hsl]; omega) (by omega) (by omega) (by omega)
  have hX : Srt (blobsOf (amap Sv.a M)) := Srt.amap (Srt.amap G.g.st.map.sorted _) _
  rcases hO with ⟨h9, _⟩ | ⟨_, _, _, _, PF, KF, h9⟩ | ⟨_, rfl, PF, KF, M', h', ss', k, o, hpl, hG', hss, hX', hM', hl, hor, hh', hs', hkey, hkl, hon, _, hsec, hpl2⟩
  · exact absurd href h9
  · obtain ⟨h8, _⟩ := hrounds _ _ _ h9
    cases h8
  · refine ⟨rfl, M', h', ss', ?_, hss, ?_, hM', hon⟩
    · have hsome : ∀ ks ∈ KF, ∀ k ∈ ks, (afind (amap Sv.a M) k).isSome = true := fun ks hks k hk => by
        rw [afind_map, Option.isSome_map]
        exact (hkey ks hks k hk).2.2
      have hrx : RX Z (B + 8 * (ss.length : Int)) (reSecK 0 (amap Sv.a M) KF) PF.h (secsOf ss') ∧ 1 ≤ (secsOf ss').countP (opensB (L : Int)) := by
        rcases hpl with ⟨_, rfl, rfl⟩ | ⟨htk, hR⟩
        · have e1 : secsOf ss' = secsOf ss := hsec
          rw [e1]
          refine ⟨?_, G.free⟩
          exact ⟨G.r.z, G.r.clean, fun x hx => by have := G.r.er x hx; omega, by have := G.r.lq; omega, G.r.blank, G.r.fit, G.r.small, G.r.hd⟩
        · obtain ⟨_, h6, h7, _, h8⟩ := hrounds _ _ _ hR
          have e1 : PF.l = secsOf ss' := (hpl2 htk).trans hsec.symm
          have h5 := RB.told G.g h6 hkey (fun x hx => h8 x (cov_start G.g hx))
          rw [e1] at h5 h7
          refine ⟨?_, h7⟩
          have e2 : B + 2 * ((4 * ss.length : Nat) : Int) = B + 8 * (ss.length : Int) := by omega
          rw [e2] at h5
          exact h5
      have hc := hrx.1.commit (h' := h') (k := k) (o := o) (l := l) hl.sec hl.left hl.le hr1 hor hr0.2.1 hb hr2 (by rw [hh']; exact hl.sec) (by rw [hh']; show _ - (roomL _ : Int) = _; rw [nm_sz]) (by rw [hh']; rfl)
      rw [← hX'] at hc
      exact ⟨hG', hc, hrx.2⟩
    · rw [hX', blobs_applyL, blobs_reSecK KF 0 hX (fun ks hks k hk => by rw [afind_map, Option.isSome_map]; exact (hkey ks hks k hk).2.2)]
end

/-- A commit that there is room for is done. -/
theorem commit_room (s mb p c e Z L : Nat) (M : Al Sv) (h : HeadV) (ss : List (Nat × List UInt8)) (B : Int) (A : Option Addr) (n cap : Nat) (l : List Ch) (w : World) (G : GoodR w s mb p c e Z L M h ss B) (hM : M.length ≤ 3000)
    (hC : Chs w (Mut s mb p c e) A n cap l) (hn : n ≤ 1048576) (hT : ∀ q, Three p c e q → q ≠ s ∧ q ≠ mb) (h0 : ¬ Mut s mb p c e 0) (hS : 4 * ss.length * (66 + M.length) ≤ 990000) (h3 : 3 ≤ ss.length) (href : refuC l (Z - 12) = 0)
    (hroom : 4 * (liveX (amap Sv.a M) + roomL l) ≤ (ss.length - 2) * (Z - 12)) (hB : B + 8 * (ss.length : Int) < 4294967295) (hL : B + 8 * (ss.length : Int) < (L : Int)) :
    Calls Tryz.prog 12 #[.pointer (some ⟨s, 0, none⟩), .slice A n cap] w fun e1 w' => DoneR s mb p c e Z L M ss B l w w' e1 :=
  (commit_any s mb p c e Z L M h ss A n cap l w G.g hM hC hn hT h0 hS).mono fun _ _ hO => hO.room G h3 href hroom hB hL (fun f hf => (hC.2.2.2.2 f hf).1.1)

end Go.Proofs.YtnhfmcijadficaaGreatDoor

/- A commit for which no sector has to be cleaned is done. -/
namespace Go.Proofs.YtnhfmcijadficaaGreatDoor
set_option maxRecDepth 100000
open Go.RowKit Go.Maps

section
variable {w w' : World} {s mb p c e Z L : Nat} {M : Al Sv} {h : HeadV} {ss : List (Nat × List UInt8)}
theorem Outcome.easy {l : List Ch} {e1 : Ending} (hO : Outcome s mb p c e Z L M h ss l w w' e1) (G : GoodX w s mb p c e Z L M h ss) (href : refuC l (Z - 12) = 0) (h2 : takesB h (roomL l : Int) = false → 2 ≤ (secsOf ss).countP (opensB (L : Int)) ∧ lastQ (secsOf ss) ≠ 4294967295) :
    e1 = .returned (.int .i64 0) ∧ ∃ M' h' ss', GoodX w' s mb p c e Z L M' h' ss' ∧ ss'.length = ss.length ∧ blobsOf (amap Sv.a M') = applyBL (blobsOf (amap Sv.a M)) l ∧ M'.length ≤ M.length + 16 ∧ Only (Mut s mb p c e) w w' := by
  have hr0 := refuC_zero href
  have hX : Srt (blobsOf (amap Sv.a M)) := Srt.amap (Srt.amap G.st.map.sorted _) _
  have hbz := G.fs.bz
  rcases hO with ⟨h9, _⟩ | ⟨_, _, _, htk, PF, KF, h9⟩ | ⟨_, rfl, PF, KF, M', h', ss', k, o, hpl, hG', hss, hX', hM', hl, hor, hh', hs', hkey, hkl, hon, _⟩
  · exact absurd href h9
  · obtain ⟨h3, h4⟩ := h2 htk
    obtain ⟨n, hn⟩ : ∃ n, 4 * ss.length = n + 1 := ⟨4 * ss.length - 1, by omega⟩
    rw [hn] at h9
    obtain ⟨h5, _⟩ := one_round (P := ⟨secsOf ss, h, []⟩) h3 h4 (by have := hr0.2.2.2.2; omega) h9
    cases h5
  · refine ⟨rfl, M', h', ss', hG', hss, ?_, hM', hon⟩
    rw [hX', blobs_applyL, blobs_reSecK KF 0 hX (fun ks hks k hk => by rw [afind_map, Option.isSome_map]; exact (hkey ks hks k hk).2.2)]
end
theorem opens_fresh {S Z L : Nat} (hz : 12 ≤ Z) (hS : 2 ≤ S) : 2 ≤ (secsOf (freshS S Z)).countP (opensB (L : Int)) ∧ lastQ (secsOf (freshS S Z)) ≠ 4294967295 := by
  rw [fresh_count S Z L hz, fresh_last S Z hz]
  exact ⟨hS, by decide⟩
theorem freshS_len (S Z : Nat) : (freshS S Z).length = S := List.length_replicate

/-- A store with one blob. -/
theorem one_blob {M : Al Sv} {k b : List UInt8} (h : blobsOf (amap Sv.a M) = [(k, b)]) : ∃ f : Sv, M = [(k, f)] ∧ f.xs = b := by
  unfold blobsOf amap at h
  rw [List.map_map] at h
  obtain ⟨q, M', rfl, h1, h2⟩ := List.map_eq_cons_iff.1 h
  rw [List.map_eq_nil_iff] at h2
  subst h2
  obtain ⟨k', f⟩ := q
  have h3 : k' = k := congrArg (·.1) h1
  have h4 : f.xs = b := congrArg (·.2) h1
  exact ⟨f, by rw [h3], h4⟩

/-- A change that was just laid. -/
theorem chs_lit {w : World} {S : Nat → Prop} (f : Ch) (hb : ByteSl w S f.A f.n f.cap f.blob ∧ (f.A = none → f.n = 0 ∧ f.cap = 0)) (hS : ¬ S w.heap.size) :
    Chs (w.alloc (.cells #[.bool f.del, .string f.s, .slice f.A f.n f.cap] 37)) S (some ⟨w.heap.size, 0, none⟩) 1 1 [f] := by
  have hB := Blk.new w 37 #[.bool f.del, .string f.s, .slice f.A f.n f.cap]
  refine ⟨rfl, by decide, by decide, fun _ => ⟨_, _, rfl, hB.lt, hS, fun i g hi j hj => ?_⟩, fun g hg => ?_⟩
  · cases i with
    | succ i => simp at hi
    | zero =>
      simp at hi
      subst hi
      have hc := hB.cell j
      simp only [Nat.zero_mul, Nat.zero_add]
      rw [hc]
      have hj3 : j = 0 ∨ j = 1 ∨ j = 2 := by omega
      rcases hj3 with rfl | rfl | rfl <;> rfl
  · rw [List.mem_singleton.1 hg]
    exact ⟨hb.1.only (Only.of_below (S := Empty) ((Below.refl w.heap.size w).alloc (Nat.le_refl _) _)) (fun _ _ h => h.elim), hb.2⟩

end Go.Proofs.YtnhfmcijadficaaGreatDoor

/- The document's pairs: rows of keys and blobs; the walks over law 08's pairs, over the document's Live and Same. -/
namespace Go.Proofs.YtnhfmcijadficaaGreatDoor
set_option maxRecDepth 100000
open Go.RowKit Go.Maps

abbrev Pr := List UInt8 × List UInt8
def pairC (q : Pr) : List Value := [encStr q.1, encStr q.2]
theorem pair_len (q : Pr) : (pairC q).length = 2 := rfl
theorem pair_one (q : Pr) : ∀ v ∈ pairC q, v.oneCell' = true := by
  intro v hv
  simp only [pairC, List.mem_cons, List.not_mem_nil, or_false] at hv
  rcases hv with rfl | rfl <;> rfl
theorem Tryz.infoPair : (Tryz.prog.info? 99).map (fun i => (i.zero, i.size, i.bytes)) = some (some (.agg #[.string ⟨#[]⟩, .string ⟨#[]⟩]), 2, 32) := by kernel_rfl
abbrev Prs := GotR pairC 2 99
theorem wpList_append_prs {ops : Array Oper} {rest : List Oper} {q : Oper} {u : Act} {w : World} {S : Nat → Prop} {Q : Exit → Act → World → Prop} (hgd : q.guard = none) (s x : Operand) (hq : q.op = .call { callee := .builtin .append, args := #[s, x], argTypes := #[34, 34] })
    (base : Nat) (B : Option Addr) (m0 c0 : Nat) (zs : List Pr) (hs : u.eval s = .slice B m0 c0) (hown : Prs base w B m0 c0 zs) (A : Option Addr) (m c : Nat) (l : List Pr)
    (hx : u.eval x = .slice A m c) (hB : RowSl pairC 2 w S A m c l) (hn : A = none → m = 0 ∧ c = 0) (hm : m0 + m ≤ 16777216) (hbase : base ≤ w.heap.size)
    (h : ∀ A' c' w', Prs base w' A' (m0 + m) c' (zs ++ l) → w.grownBy w' (Value.slice B m0 c0).ownBlock → (∀ g, (Value.slice B m0 c0).ownBlock = some g → base ≤ g) → wpList Tryz.prog ops Q rest (u.put q.dst (.slice A' (m0 + m) c')) w') : wpList Tryz.prog ops Q (q :: rest) u w :=
  wpList_append_rows pair_len pair_one (by decide) 34 99 _ 32 Tryz.underlying34 Tryz.infoPair (by simp [Value.cells]) (by decide) hgd s x hq base B m0 c0 zs hs hown A m c l hx hB hn hm hbase (fun A' c' w' h1 h2 h3 _ => h A' c' w' h1 h2 h3)
theorem pair_lit (q : Pr) (w : World) : RowSl pairC 2 (w.alloc (.cells #[encStr q.1, encStr q.2] 99)) Empty (some ⟨w.heap.size, 0, none⟩) 1 1 [q] :=
  RowSl.lit pair_len w Empty 99 [q] 1 [encStr q.1, encStr q.2] (by simp [pairC]) rfl (by decide) (fun h => h)

theorem get_enc (s mb p c e : Nat) (M : Al Sv) (h : HeadV) (d : Bool) (k : List UInt8) (w : World) (hS : StoreAt w s mb p c e M h d) (hk : k.length ≤ maxLen) (hn : (svAt M k).n ≤ 16777216) :
    Calls Tryz.prog 28 #[.pointer (some ⟨s, 0, none⟩), encStr k] w fun e1 w' => (∃ A' cap', e1 = .returned (.tuple #[.slice A' (svAt M k).n cap', .bool (afind M k).isSome]) ∧ Got w.heap.size w' A' (svAt M k).n cap' (svAt M k).xs) ∧ Below w.heap.size w w' :=
  get_any s mb p c e M h d ⟨k.toArray⟩ Empty w hS (by simpa [ByteArray.size] using hk) (by simpa using hn)
theorem blobs_at {M : Al Sv} (h : M.Pairwise (fun p q => bytesBefore p.1 q.1 = true)) {q : List UInt8 × Sv} (hq : q ∈ M) : (svAt M q.1).xs = q.2.xs ∧ (svAt M q.1).n = q.2.n := by rw [svAt_v (afind_of_mem h hq)]; exact ⟨rfl, rfl⟩

set_option maxHeartbeats 4000000 in
theorem pairs_any (s mb p c e Z L : Nat) (ss : List (Nat × List UInt8)) (M : Al Sv) (h : HeadV) (w : World) (hG : GoodX w s mb p c e Z L M h ss) (hM : M.length ≤ 1048576) :
    Calls Tryz.prog 11 #[.pointer (some ⟨s, 0, none⟩)] w fun e1 w' => (∃ A n cap, e1 = .returned (.slice A n cap) ∧ Prs w.heap.size w' A n cap (blobsOf (amap Sv.a M))) ∧ Below w.heap.size w w' := by
  have Hkeys := Lib.hid (keys_any s mb p c e M h false ⟨#[]⟩ w hG.st hM)
  have HG := Lib.hid hG
  have hbl : blobsOf (amap Sv.a M) = M.map fun q => (q.1, q.2.xs) := by unfold blobsOf amap; rw [List.map_map]; rfl
  have Hbl := Lib.hid hbl
  have Hat : Hid (∀ (i : Nat) (q : List UInt8 × Sv), M[i]? = some q → q.1.length ≤ 64 ∧ (svAt M q.1).n ≤ 4096 ∧ (svAt M q.1).xs = q.2.xs) := Lib.hid (fun i q hq => by
    have h1 := hG.fair q (List.mem_of_getElem? hq)
    have h2 := blobs_at hG.st.map.sorted (List.mem_of_getElem? hq)
    exact ⟨h1.1, by rw [h2.2]; exact h1.2, h2.1⟩)
  clear hG hbl
  go_enter Tryz.func11, Tryz.ntmps11
  go_wp2_with fail
  refine Hkeys.out.mono ?_
  rintro e1 w1 ⟨⟨A, n, cap, rfl, hg1⟩, hb1⟩
  rw [show keysOf (⟨#[]⟩ : ByteArray).data.toList M = M.map (·.1) from keysOf_nil M] at hg1
  have hln : M.length = n := by have := hg1.row.1; rwa [List.length_map] at this
  have HR := Lib.hid hg1.row
  have Hb1 := Lib.hid hb1
  have hncap : n ≤ cap := hg1.row.2.1
  have hcap2 : cap ≤ 9223372036854775807 := by have := hg1.row.2.2.1; unfold maxLen at this; omega
  have Hs1 := Lib.hid hb1.size
  have hn1 : n ≤ 1048576 := by omega
  clear hg1 hb1 Hkeys
  go_wp2_with fail
  go_loopw [3, 11] (fun r v wr => ∃ (i : Nat) (A3 : Option Addr) (c3 : Nat), i ≤ n ∧ v = .int .i64 (i : Int) ∧ r = .slice A3 i c3 ∧ Hid (Prs w1.heap.size wr A3 i c3 ((M.take i).map fun q => (q.1, q.2.xs))) ∧ Hid (Below w1.heap.size w1 wr)) (fun _ v _ => n - (intOf v).toNat)
  case atStart => exact ⟨0, none, 0, Nat.zero_le _, rfl, rfl, Lib.hid (GotR.nil_ _ _ _ _ _), Lib.hid (Below.refl _ _)⟩
  case round =>
    obtain ⟨i, A3, c3, hi, rfl, rfl, HP, HB⟩ := hrel
    by_cases hlt : i < n
    · obtain ⟨q, hq⟩ : ∃ q, M[i]? = some q := ⟨_, List.getElem?_eq_getElem (by omega)⟩
      obtain ⟨b, o, k, hA, hbl, -, hk, hc⟩ := (HR.out.below HB.out).at_ hlt
      have hkq : k = q.1 := by
        rw [List.getElem?_map, hq] at hk
        exact (Option.some.inj hk).symm
      subst hkq
      have c0 := hc 0 (by omega)
      simp only [strC, Nat.mul_one, Nat.add_zero, List.getElem?_cons_zero] at c0
      have htk := take_snoc M i q hq
      have Htk : Hid ((M.take (i + 1)).map (fun q => (q.1, q.2.xs)) = (M.take i).map (fun q => (q.1, q.2.xs)) ++ [(q.1, q.2.xs)]) := Lib.hid (by rw [htk, List.map_append]; rfl)
      have hat := Hat.out i q hq
      have Hg := Lib.hid (fun W (hW : Below w.heap.size w W) => get_enc s mb p c e M h false q.1 W (HG.out.st.below hW) (by unfold maxLen; omega) (by omega))
      obtain ⟨xs, hxs⟩ : ∃ xs, xs = q.2.xs := ⟨_, rfl⟩
      obtain ⟨kq, hkq⟩ : ∃ kq, kq = q.1 := ⟨_, rfl⟩
      rw [hat.2.2] at Hg
      rw [← hxs, ← hkq] at Hg
      rw [← hxs, ← hkq] at Htk
      rw [← hkq] at c0
      have hHB := HB.out.size
      have HBw := Lib.hid (Hb1.out.trans (HB.out.mono Hb1.out.size))
      subst hA
      clear hc hk hq htk hat hxs hkq
      go_wp2_with fail
      with_reducible refine (Hg.out wr HBw.out).mono ?_
      rintro e2 w2 ⟨⟨A2, c2, rfl, hgot⟩, hb2⟩
      have hcv := conv_bytes hgot.bytes
      have HP2 := Lib.hid (HP.out.below pair_len hb2)
      have HB2 := Lib.hid (HB.out.trans (hb2.mono hHB))
      have hs2 : w1.heap.size ≤ w2.heap.size := HB2.out.size
      have hrow : RowSl pairC 2 (w2.alloc (.cells #[encStr kq, .string (strB xs)] 99)) Empty (some ⟨w2.heap.size, 0, none⟩) 1 1 [(kq, xs)] := pair_lit (kq, xs) w2
      have Hrow := Lib.hid hrow
      have HP3 := Lib.hid (HP2.out.alloc pair_len (.cells #[encStr kq, .string (strB xs)] 99))
      have HB3 := Lib.hid (HB2.out.alloc hs2 (.cells #[encStr kq, .string (strB xs)] 99))
      clear hgot hb2 Hg hrow
      go_wp2_with (at_builtin; refine wpList_append_prs rfl _ _ rfl w1.heap.size A3 i c3 ((M.take i).map fun q => (q.1, q.2.xs)) rfl HP3.out _ 1 1 _ rfl Hrow.out (fun h => by cases h) (by omega) (by simp; omega) ?_; intro A4 c4 w4 hg4 hgr4 hr4)
      have HB4 := Lib.hid (below_gotR HB3.out (by simp; omega) hgr4 hr4 (Nat.le_refl _))
      have HP4 := Lib.hid hg4
      clear hg4 hgr4 hr4
      go_roundw
      case rel => exact ⟨i + 1, A4, c4, by omega, by simp, rfl, by rw [Htk.out]; exact HP4, HB4⟩
      case measure => simp [intOf]; omega
    · have hin : i = n := by omega
      subst hin
      have ht : M.take i = M := List.take_of_length_le (by omega)
      rw [ht, ← Hbl.out] at HP
      go_wp2_with fail
      go_ret
      exact ⟨⟨A3, i, c3, rfl, HP.out.lower Hs1.out⟩, Hb1.out.trans (HB.out.mono Hs1.out)⟩

/-- What pairs count for. -/
def liveB (Y : AB) : Nat := (Y.map fun q => q.1.length + q.2.length + 32).sum
theorem liveB_snoc (Y : AB) (q : Pr) : liveB (Y ++ [q]) = liveB Y + (q.1.length + q.2.length + 32) := by simp [liveB]
set_option maxHeartbeats 4000000 in
/-- Rows that read the same are the same. -/
theorem refSame_yes (A A2 : Option Addr) (n m cap cap2 : Nat) (Y : AB) (w : World) (hR : RowSl pairC 2 w Empty A n cap Y) (hR2 : RowSl pairC 2 w Empty A2 m cap2 Y) (hn : n ≤ 1048576) :
    Calls Tryz.prog 13 #[.slice A n cap, .slice A2 m cap2] w fun e1 w' => e1 = .returned (.bool true) ∧ Below w.heap.size w w' := by
  have hln := hR.1
  have hlm := hR2.1
  have hmn : m = n := by omega
  subst hmn
  have HR := Lib.hid hR
  have HR2 := Lib.hid hR2
  have hncap : m ≤ cap := hR.2.1
  have hncap2 : m ≤ cap2 := hR2.2.1
  have hcap3 : cap ≤ 9223372036854775807 := by have := hR.2.2.1; unfold maxLen at this; omega
  have hcap4 : cap2 ≤ 9223372036854775807 := by have := hR2.2.2.1; unfold maxLen at this; omega
  clear hR hR2
  go_enter Tryz.func13, Tryz.ntmps13
  go_wp2_with fail
  go_loopw [13] (fun v wr => ∃ i : Nat, i ≤ m ∧ v = .int .i64 (i : Int) ∧ Hid (Below w.heap.size w wr)) (fun v _ => m - (intOf v).toNat)
  case atStart => exact ⟨0, Nat.zero_le _, rfl, Lib.hid (Below.refl _ _)⟩
  case round =>
    obtain ⟨i, hi, rfl, HB⟩ := hrel
    by_cases hlt : i < m
    · obtain ⟨b, o, q, hA, hbl, -, hk, hc⟩ := (HR.out.below HB.out).at_ hlt
      obtain ⟨b2, o2, q2, hA2, hbl2, -, hk2, hc2⟩ := (HR2.out.below HB.out).at_ hlt
      have hqq : q2 = q := by rw [hk] at hk2; exact (Option.some.inj hk2).symm
      subst hqq
      have c0 := hc 0 (by omega)
      have c1 := hc 1 (by omega)
      have d0 := hc2 0 (by omega)
      have d1 := hc2 1 (by omega)
      obtain ⟨k, xs⟩ := q2
      simp only [pairC, List.getElem?_cons_zero, List.getElem?_cons_succ, Nat.add_zero, encStr] at c0 c1 d0 d1
      obtain ⟨sk, hsk2⟩ : ∃ sk : ByteArray, sk = ⟨k.toArray⟩ := ⟨_, rfl⟩
      obtain ⟨sx, hsx2⟩ : ∃ sx : ByteArray, sx = ⟨xs.toArray⟩ := ⟨_, rfl⟩
      rw [← hsk2] at c0 d0
      rw [← hsx2] at c1 d1
      have hiI : (i : Int) < (m : Int) := by omega
      subst hA
      subst hA2
      clear hc hk hc2 hk2 hsk2 hsx2
      go_wp2_with fail
      go_quiet (fail)
      have HBq := Lib.hid (HB.out.drewN nq)
      go_wp2_with fail
      go_roundw
      case rel => exact ⟨i + 1, by omega, by simp, HBq⟩
      case measure => simp [intOf]; omega
    · have hin : i = m := by omega
      subst hin
      go_wp2_with fail
      go_ret
      exact ⟨rfl, HB.out⟩

end Go.Proofs.YtnhfmcijadficaaGreatDoor
