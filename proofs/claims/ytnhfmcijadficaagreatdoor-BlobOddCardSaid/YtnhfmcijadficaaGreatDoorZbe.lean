/- The walk over blob's Commit, where it is done. -/
import Derived.Test.YtnhfmcijadficaaGreatDoorZbd
import Derived.Test.YtnhfmcijadficaaGreatDoorZau
import Derived.Test.YtnhfmcijadficaaGreatDoorZat
import Derived.Test.YtnhfmcijadficaaGreatDoorZar
import Derived.Test.YtnhfmcijadficaaGreatDoorZaw
namespace Go.Proofs.YtnhfmcijadficaaGreatDoor
set_option maxRecDepth 100000
open Go.RowKit Go.Maps

theorem refuC_zero {l : List Ch} {b : Nat} (h : refuC l b = 0) : l.length ≠ 0 ∧ l.length ≤ 16 ∧ (∀ f ∈ l, f.may = true) ∧ dupB l = false ∧ roomL l ≤ b / 2 := by
  unfold refuC at h
  split at h
  · cases h
  · rename_i h1
    split at h
    · cases h
    · rename_i h2
      split at h
      · cases h
      · rename_i h3
        refine ⟨by omega, by omega, fun f hf => ?_, by simpa using h2, by omega⟩
        have h4 : ¬ l.any (fun f => !f.may) = true := fun h => h1 (Or.inr (Or.inr h))
        rw [List.any_eq_true] at h4
        cases hm : f.may
        · exact absurd ⟨f, hf, by simp [hm]⟩ h4
        · rfl

/-- A store's map behind a commit's changes. -/
def applyL (X : Al (Int × List UInt8)) (l : List Ch) (k : Int) : Al (Int × List UInt8) := l.foldl (fun X f => applyA X f k) X
theorem applyL_snoc (X : Al (Int × List UInt8)) (l : List Ch) (f : Ch) (k : Int) : applyL X (l ++ [f]) k = applyA (applyL X l k) f k := by simp [applyL, List.foldl_append]

/-- A commit that is done. -/
def Done (s mb p c e Z L : Nat) (M : Al Sv) (ss : List (Nat × List UInt8)) (n : Nat) (l : List Ch) (PF : PV) (KF : List (List (List UInt8))) (k o t : Nat) (w w' : World) (e1 : Ending) : Prop :=
  e1 = .returned (.int .i64 0) ∧ (∃ M', StoreAt w' s mb p c e M' (PF.laid k o t none n 0 (l.map Ch.nm)).h false ∧ amap Sv.a M' = applyL (reSecK 0 (amap Sv.a M) KF) l (k : Int) ∧ M'.length ≤ M.length + n) ∧ FS w' p c e Z L (Stp.runs Z ss (PF.sts ++ [.lay k o t none n 0 (l.map Ch.nm)])) ∧ Only (Mut s mb p c e) w w'

set_option maxHeartbeats 8000000 in
theorem commit_done (s mb p c e Z L : Nat) (M : Al Sv) (h : HeadV) (ss : List (Nat × List UInt8)) (A : Option Addr) (n cap : Nat) (l : List Ch) (PF : PV) (KF : List (List (List UInt8))) (k o t : Nat) (w : World) (hS : StoreAt w s mb p c e M h false) (hs : FS w p c e Z L ss) (hMark : Mark w) (hM : M.length ≤ 1048500) (hF : FairM M) (hsecs : SecsIn M ss.length)
    (hC : Chs w (Mut s mb p c e) A n cap l) (hn : n ≤ 1048576) (href : refuC l (Z - 12) = 0) (hplan : PlanM Z L M h ss (roomL l : Int) PF KF) (hhd : HdOk Z PF.h k o t) (hst : PF.sts.length ≤ 1000000) (hoks : Stp.Oks Z L ss (PF.sts ++ [.lay k o t none n 0 (l.map Ch.nm)])) (hkf : ∀ ks ∈ KF, ks.length ≤ 1048576 ∧ ∀ x ∈ ks, (afind M x).isSome = true) (hkl : KF.length ≤ 64)
    (hT : ∀ q, Three p c e q → q ≠ s ∧ q ≠ mb) (hp0 : ¬ Three p c e 0) :
    Calls Tryz.prog 12 #[.pointer (some ⟨s, 0, none⟩), .slice A n cap] w fun e1 w' => Done s mb p c e Z L M ss n l PF KF k o t w w' e1 := by
  have hz := hs.bz
  have hr0 := refuC_zero href
  have hln : l.length = n := hC.1
  have hfair := fair_of hr0.2.2.1
  have hl16 : n ≤ 16 := by omega
  have hl0 : 0 < n := by omega
  have hrl := roomL_le l hfair
  rw [hln] at hrl
  have Hdown := Lib.hid (down_any s p mb h false w hS.blk)
  have s0 : w.cell? ⟨s, 0, none⟩ = some (.pointer (some ⟨p, 0, none⟩)) := hS.blk.cell 0
  have hsl := hS.blk.lt
  have Hbe := Lib.hid (behind_any p c e Z L ss w hs)
  have Hre := Lib.hid (fun W (hW : Below w.heap.size w W) => refusal_any A n cap l (Z - 12) W ((hC.below hW).mono (T := Empty) (fun _ _ h => h.elim)) (by omega) hn)
  rw [href] at Hre
  have Hro := Lib.hid (fun W (hW : Below w.heap.size w W) => roomOf_any A n cap l W ((hC.below hW).mono (T := Empty) (fun _ _ h => h.elim)) hfair (by omega))
  obtain ⟨V, hV⟩ : ∃ V, V = Z - 12 := ⟨_, rfl⟩
  obtain ⟨RM, hRM⟩ : ∃ RM, RM = roomL l := ⟨_, rfl⟩
  rw [← hV] at Hbe Hre
  rw [← hRM] at Hro hplan hrl
  have HS := Lib.hid hS
  have HFS := Lib.hid hs
  have HMk := Lib.hid hMark
  have HF := Lib.hid hF
  have HSec := Lib.hid hsecs
  have HC := Lib.hid hC
  have Hplan := Lib.hid hplan
  have Hhd := Lib.hid hhd
  have Hoks := Lib.hid hoks
  have Hkf := Lib.hid hkf
  have HT := Lib.hid hT
  have Hp0 := Lib.hid hp0
  have HRM := Lib.hid hRM
  have Hln := Lib.hid hln
  have Hr0 := Lib.hid hr0
  have Hfair := Lib.hid hfair
  have hcapn : n ≤ cap := hC.2.1
  have hcap2 : cap ≤ 9223372036854775807 := by have := hC.2.2.1; unfold maxLen at this; omega
  clear hS hs hMark hF hsecs hC href hplan hhd hoks hkf hT hp0 hV hRM hln hr0 hfair
  go_enter Tryz.func12, Tryz.ntmps12
  go_wp2_with fail
  refine Hdown.out.mono ?_
  rintro e1 w1 ⟨rfl, rfl⟩
  clear Hdown
  go_wp2_with fail
  refine Hbe.out.mono ?_
  rintro e2 w2 ⟨rfl, hb2⟩
  have Hb2 := Lib.hid hb2
  clear hb2 Hbe
  go_wp2_with fail
  refine (Hre.out w2 Hb2.out).mono ?_
  rintro e3 w3 ⟨rfl, hb3⟩
  have Hb3 := Lib.hid (Hb2.out.trans (hb3.mono Hb2.out.size))
  clear hb3 Hre
  go_wp2_with fail
  refine (Hro.out w3 Hb3.out).mono ?_
  rintro e4 w4 ⟨rfl, hb4⟩
  have Hb4 := Lib.hid (Hb3.out.trans (hb4.mono Hb3.out.size))
  clear hb4 Hro
  go_wp2_with fail
  have Hpl := Lib.hid (plan_any s mb p c e Z L M h false ss (RM : Int) PF KF w4 (HS.out.below Hb4.out) (HFS.out.below Hb4.out) (HMk.out.below Hb4.out) (by omega) HF.out HSec.out Hplan.out)
  refine Hpl.out.mono ?_
  rintro e5 w5 ⟨⟨bi, KA, kn, kcap, R, P, K, rfl, hPR, hP, hK, hbi⟩, hb5⟩
  have hbase5 : w4.heap.size ≤ w5.heap.size := hb5.size
  have Hb5 := Lib.hid (Hb4.out.trans (hb5.mono Hb4.out.size))
  have HPR := Lib.hid hPR
  have HP := Lib.hid hP
  have HK := Lib.hid hK
  clear hb5 Hpl hPR hP hK s0 hsl
  unfold planV planC
  go_wp2_with fail
  obtain ⟨base, hbs⟩ : ∃ base, base = w4.heap.size := ⟨_, rfl⟩
  obtain ⟨g5, hg5⟩ : ∃ g5, g5 = w5.heap.size := ⟨_, rfl⟩
  have hwb : w.heap.size ≤ base := by rw [hbs]; exact Hb4.out.size
  have hal := (Below.refl w5.heap.size w5).alloc (Nat.le_refl _) (.cells #[.pointer (some ⟨p, 0, none⟩), .map (some mb), .slice R.A P.l.length R.cap, .slice KA kn kcap, .int .i64 P.h.sec, .int .i64 P.h.next, .int .i64 P.h.left, .int .u32 P.h.txn, .slice R.As P.sts.length R.cs] 109)
  have hbx := Blk.new w5 109 #[.pointer (some ⟨p, 0, none⟩), .map (some mb), .slice R.A P.l.length R.cap, .slice KA kn kcap, .int .i64 P.h.sec, .int .i64 P.h.next, .int .i64 P.h.left, .int .u32 P.h.txn, .slice R.As P.sts.length R.cs]
  obtain ⟨w6, hw6⟩ : ∃ w6, w6 = w5.alloc (.cells #[.pointer (some ⟨p, 0, none⟩), .map (some mb), .slice R.A P.l.length R.cap, .slice KA kn kcap, .int .i64 P.h.sec, .int .i64 P.h.next, .int .i64 P.h.left, .int .u32 P.h.txn, .slice R.As P.sts.length R.cs] 109) := ⟨_, rfl⟩
  rw [← hw6] at hal hbx ⊢
  rw [← hg5] at hbx
  rw [← hbs] at hbase5 HPR
  have HPR6 := Lib.hid (HPR.out.below hal)
  have hg5b : base ≤ g5 := by rw [hg5]; exact hbase5
  have hb6 : Below w.heap.size w w6 := Hb5.out.trans (hal.mono Hb5.out.size)
  have hPA6 : PlanAt w6 g5 base p mb Z (.slice KA kn kcap) R P := ⟨hbx, HPR6.out.secs, HPR6.out.sts⟩
  have h5s : w5.heap.size ≤ w6.heap.size := hal.size
  have hbase6 : base ≤ w6.heap.size := by omega
  have hthree : ∀ q, Three p c e q → q < w.heap.size := fun q hq => HFS.out.three_lt hq
  have hMutlt : ∀ q, Mut s mb p c e q → q < w.heap.size := fun q hq => by
    rcases hq with rfl | rfl | hq
    · exact HS.out.blk.lt
    · exact HS.out.map.lt
    · exact hthree q hq
  have HSx : Hid (∀ W, PO g5 base w6 W → StoreAt W s mb p c e M h false ∧ FS W p c e Z L ss ∧ Mark W ∧ Chs W (fun q => Mut s mb p c e q ∨ base ≤ q) A n cap l ∧ BlobsAt W (fun q => Mut s mb p c e q ∨ base ≤ q) M) := Lib.hid (fun W hW => by
    have hnT : ∀ q, q < w.heap.size → ¬ PlanT g5 base q := fun q h1 h2 => by rcases h2 with h2 | h2 <;> omega
    have hS6 := HS.out.below hb6
    have hchs : Chs w (fun q => Mut s mb p c e q ∨ base ≤ q) A n cap l := HC.out.mono (fun i h1 h2 => by
      rcases h2 with h2 | h2
      · exact h2
      · omega)
    have hbl : BlobsAt w (fun q => Mut s mb p c e q ∨ base ≤ q) M := fun q hq => ⟨(HS.out.bl q hq).1.mono (fun i h1 h2 => by
      rcases h2 with h2 | h2
      · exact h2
      · omega), (HS.out.bl q hq).2⟩
    have hTS : ∀ i, PlanT g5 base i → (Mut s mb p c e i ∨ base ≤ i) := fun i h2 => by
      rcases h2 with h2 | h2
      · exact Or.inr (by omega)
      · exact Or.inr h2
    have hbl2 := (hbl.below hb6).only hW.only (fun i _ h2 => hTS i h2)
    refine ⟨⟨hW.only.blk hS6.blk (hnT s HS.out.blk.lt), hS6.map.only hW.only (hnT mb HS.out.map.lt), fun q hq => ⟨(hbl2 q hq).1.mono (fun i _ h2 => Or.inl h2), (hbl2 q hq).2⟩⟩, ?_, ?_, (hchs.below hb6).only hW.only (fun i _ h2 => hTS i h2), hbl2⟩
    · exact (HFS.out.below hb6).of hW.only (hnT p (hthree p (Or.inl rfl))) (hnT c (hthree c (Or.inr (Or.inl rfl)))) (hnT e (hthree e (Or.inr (Or.inr rfl))))
    · exact (HMk.out.below hb6).only hW.only (hnT 0 (by have := hthree p (Or.inl rfl); omega)))
  have hPh : P.h = PF.h := by rw [← HP.out]; rfl
  have hPs : P.sts.map Stp.nm = PF.sts := by rw [← HP.out]; rfl
  have hPsl : P.sts.length ≤ 1000000 := by
    have h1 := congrArg List.length hPs
    rw [List.length_map] at h1
    omega
  have hd := Hhd.out
  rw [← hPh] at hd
  have Hlay := Lib.hid (pLay_any g5 base p mb Z _ R P k o t A n cap l w6 hPA6 Hln.out (fun W hW => (HSx.out W hW).2.2.2.1.mono (T := Empty) (fun _ _ h => h.elim)) Hfair.out (by omega) hPsl hbase6 hd.next hd.txn hd.t0 hd.t1 hd.far ⟨hd.l0, hd.l1⟩)
  have HPs := Lib.hid hPs
  have HPh := Lib.hid hPh
  have Hb6 := Lib.hid hb6
  have Hthree := Lib.hid hthree
  have HMutlt := Lib.hid hMutlt
  have Hhd2 := Lib.hid hd
  have Hg5 := Lib.hid hg5
  have hpoR : Hid (∀ W, PO g5 base w6 W → PR W base bi p Z M KA kn kcap R P K → True) := Lib.hid (fun _ _ _ => trivial)
  clear hpoR hal hbx hw6 hPA6 hPh hPs hd hb6 hthree hMutlt hg5 hbs
  rw [← Hg5.out]
  refine Hlay.out.mono ?_
  rintro e7 w7 ⟨rfl, ⟨R7, hP7⟩, hO7⟩
  have HP7 := Lib.hid hP7
  have HO7 := Lib.hid hO7
  have c8 : w7.cell? ⟨g5, 8, none⟩ = some (.slice R7.As (P.laid k o t A n cap l).sts.length R7.cs) := hP7.blk.cell 8
  obtain ⟨n1, hn1⟩ : ∃ n1, n1 = (P.laid k o t A n cap l).sts.length := ⟨_, rfl⟩
  have hg7 := hP7.blk.lt
  have Hdo : Hid (Calls Tryz.prog 41 #[.slice R7.As (P.laid k o t A n cap l).sts.length R7.cs] w7 fun e1 w' => StepOk p c e Z L (Stp.runs Z ss (P.laid k o t A n cap l).sts) w7 w' e1) := Lib.hid (by
    have hx := HSx.out w7 hO7
    have hnTh : ∀ i, base ≤ i → ¬ Three p c e i := fun i h1 h2 => by have := Hthree.out i h2; omega
    refine do_any (ss := ss) R7.As _ R7.cs _ w7 hx.2.1 (hP7.sts.out (fun i h1 _ h2 => hnTh i h1 h2)) (fun st hst => ?_) (nm_oks Z L _ ss ?_) hx.2.2.1 Hp0.out
    · rcases List.mem_append.1 hst with h1 | h1
      · have h2 := (HPR6.out.at_ st h1).pq hO7.pq
        cases st with
        | lay k2 o2 t2 A2 n2 c2 l2 =>
          obtain ⟨hG, F, rfl⟩ := h2
          have hr := hG.out (S := Three p c e) (fun i h1 _ h2 => hnTh i h1 h2)
          refine ⟨hr.1, hr.2.1, hr.2.2.1, hr.2.2.2, fun f hf => ?_⟩
          obtain ⟨x, _, rfl⟩ := List.mem_map.1 hf
          have h3 := BlobsAt.at_ hx.2.2.2.2 x
          exact ⟨h3.1.mono (fun i _ h4 => Or.inl (Or.inr (Or.inr h4))), h3.2⟩
        | _ => trivial
      · rw [List.mem_singleton.1 h1]
        exact hx.2.2.2.1.mono (fun i _ h2 => Or.inl (Or.inr (Or.inr h2)))
    · show Stp.Oks Z L ss ((P.sts ++ [_]).map Stp.nm)
      rw [List.map_append, HPs.out]
      exact Hoks.out)
  rw [← hn1] at c8 Hdo
  have Hn1 := Lib.hid hn1
  clear hP7 hO7 hn1 Hlay
  go_wp2_with fail
  refine Hdo.out.mono ?_
  rintro e8 w8 ⟨rfl, hF8, hO8⟩
  have hB8 : Blk w8 g5 109 (planC p mb (.slice R7.A (P.laid k o t A n cap l).l.length R7.cap) (.slice KA kn kcap) (P.laid k o t A n cap l).h (.slice R7.As (P.laid k o t A n cap l).sts.length R7.cs)) := hO8.blk HP7.out.blk (fun h1 => by have := Hthree.out g5 h1; omega)
  rw [← Hn1.out] at hB8
  obtain ⟨P1, hP1⟩ : ∃ P1, P1 = P.laid k o t A n cap l := ⟨_, rfl⟩
  rw [← hP1] at hB8
  have hx7 := HSx.out w7 HO7.out
  have hS8 : StoreAt w8 s mb p c e M h false := by
    refine ⟨hO8.blk hx7.1.blk (fun h1 => (HT.out s h1).1 rfl), hx7.1.map.only hO8 (fun h1 => (HT.out mb h1).2 rfl), hx7.1.bl.only hO8 (fun i _ h1 => Or.inr (Or.inr h1))⟩
  have hC8 : Chs w8 (fun q => Mut s mb p c e q ∨ base ≤ q) A n cap l := hx7.2.2.2.1.only hO8 (fun i _ h1 => Or.inl (Or.inr (Or.inr h1)))
  have hK8 : KeysAt w8 base bi KA kcap K := (HPR6.out.keys.keep HO7.out.keep (by unfold EP; decide) (by unfold EP; decide)).only hO8 (fun i h1 _ h2 => by have := Hthree.out i h2; omega)
  have h0 : w8.cell? ⟨g5, 0, none⟩ = some (.pointer (some ⟨p, 0, none⟩)) := hB8.cell 0
  have h1 : w8.cell? ⟨g5, 1, none⟩ = some (.map (some mb)) := hB8.cell 1
  have h2 : w8.cell? ⟨g5, 2, none⟩ = some (.slice R7.A P1.l.length R7.cap) := hB8.cell 2
  have h3 : w8.cell? ⟨g5, 3, none⟩ = some (.slice KA kn kcap) := hB8.cell 3
  have h4 : w8.cell? ⟨g5, 4, none⟩ = some (.int .i64 P1.h.sec) := hB8.cell 4
  have h5 : w8.cell? ⟨g5, 5, none⟩ = some (.int .i64 P1.h.next) := hB8.cell 5
  have h6 : w8.cell? ⟨g5, 6, none⟩ = some (.int .i64 P1.h.left) := hB8.cell 6
  have h7 : w8.cell? ⟨g5, 7, none⟩ = some (.int .u32 P1.h.txn) := hB8.cell 7
  have h8 : w8.cell? ⟨g5, 8, none⟩ = some (.slice R7.As n1 R7.cs) := hB8.cell 8
  have hg8 := hB8.lt
  have hsz8 : base ≤ w8.heap.size := by have := HO7.out.size; have := hO8.size; omega
  have hkn : K.length = kn := HPR6.out.kn
  have hKF : ∀ kr ∈ K, kr.ks.length ≤ 1048576 ∧ ∀ x ∈ kr.ks, (afind M x).isSome = true := fun kr hkr => Hkf.out kr.ks (by rw [← HK.out]; exact List.mem_map_of_mem hkr)
  have hset := settle_any s mb p c e base bi KA kcap K M h P1.h false (.slice R7.A P1.l.length R7.cap) (.slice R7.As n1 R7.cs) w8 hS8 hK8 (by omega) HF.out (fun kr h1 x h2 => (hKF kr h1).2 x h2) ⟨by have := HMutlt.out s (Or.inl rfl); omega, by have := HMutlt.out mb (Or.inr (Or.inl rfl)); omega⟩ hsz8 (by
    have e : K.length = KF.length := by rw [← HK.out, List.length_map]
    omega) (fun kr h1 => (hKF kr h1).1)
  rw [hkn] at hset
  unfold planV planC at hset
  have Hset := Lib.hid hset
  have HB8 := Lib.hid hB8
  have HF8 := Lib.hid hF8
  have HO8 := Lib.hid hO8
  have HC8 := Lib.hid hC8
  have HP1 := Lib.hid hP1
  clear hset hB8 hF8 hO8 hC8 hS8 hK8 hx7 hkn hKF c8 hg7 Hdo hP1
  go_wp2_with fail
  refine Hset.out.mono ?_
  rintro e9 w9 ⟨rfl, hse⟩
  obtain ⟨⟨M9, hM9, hX9, hl9, hf9, -⟩, -, hO9⟩ := hse
  have hb9 : Blk w9 g5 109 _ := hO9.blk HB8.out (fun h1 => by
    rcases h1 with h1 | h1
    · have := HMutlt.out s (Or.inl rfl); omega
    · have := HMutlt.out mb (Or.inr (Or.inl rfl)); omega)
  have hC9 : Chs w9 (fun q => Mut s mb p c e q ∨ base ≤ q) A n cap l := HC8.out.only hO9 (fun i _ h1 => Or.inl (by
    rcases h1 with h1 | h1
    · exact Or.inl h1
    · exact Or.inr (Or.inl h1)))
  have hsec1 : P1.h.sec = (k : Int) := by rw [HP1.out]; exact Hhd2.out.sec
  have hF9 : FS w9 p c e Z L (Stp.runs Z ss P1.sts) := by
    rw [HP1.out]
    refine HF8.out.of hO9 (fun h1 => ?_) (fun h1 => ?_) (fun h1 => ?_)
    · rcases h1 with h1 | h1
      · exact (HT.out p (Or.inl rfl)).1 h1
      · exact (HT.out p (Or.inl rfl)).2 h1
    · rcases h1 with h1 | h1
      · exact (HT.out c (Or.inr (Or.inl rfl))).1 h1
      · exact (HT.out c (Or.inr (Or.inl rfl))).2 h1
    · rcases h1 with h1 | h1
      · exact (HT.out e (Or.inr (Or.inr rfl))).1 h1
      · exact (HT.out e (Or.inr (Or.inr rfl))).2 h1
  have HOw : Hid (Only (Mut s mb p c e) w w9) := Lib.hid (by
    have a1 : Only (Mut s mb p c e) w w6 := Only.of_below Hb6.out
    have a2 : Only (Mut s mb p c e) w w7 := a1.trans' HO7.out.only (fun i hi h1 => by
      rcases h1 with h1 | h1
      · omega
      · omega)
    have a3 : Only (Mut s mb p c e) w w8 := a2.trans (HO8.out.mono (fun i _ h1 => Or.inr (Or.inr h1)))
    exact a3.trans (hO9.mono (fun i _ h1 => by
      rcases h1 with h1 | h1
      · exact Or.inl h1
      · exact Or.inr (Or.inl h1))))
  have HM9 := Lib.hid hM9
  have HX9 := Lib.hid hX9
  have Hl9 := Lib.hid hl9
  have HB9 := Lib.hid hb9
  have HC9 := Lib.hid hC9
  have HF9 := Lib.hid hF9
  have Hsec1 := Lib.hid hsec1
  have hsz9 : base ≤ w9.heap.size := by have := hO9.size; omega
  clear hM9 hX9 hl9 hf9 hO9 hb9 hC9 hF9 hsec1 Hset h0 h1 h2 h3 h4 h5 h6 h7 h8 hg8
  go_wp2_with fail
  go_loopw [46] (fun v wr => ∃ (i : Nat) (Mi : Al Sv), i ≤ n ∧ v = .int .i64 (i : Int) ∧ Hid (StoreAt wr s mb p c e Mi P1.h false) ∧ Hid (amap Sv.a Mi = applyL (reSecK 0 (amap Sv.a M) KF) (l.take i) (k : Int) ∧ Mi.length ≤ M.length + i) ∧ Hid (Only (· = mb) w9 wr)) (fun v _ => n - (intOf v).toNat)
  case atStart => exact ⟨0, M9, Nat.zero_le _, rfl, HM9, Lib.hid ⟨by rw [HX9.out, HK.out]; rfl, by have := Hl9.out; omega⟩, Lib.hid (Only.refl _ _)⟩
  case round =>
    obtain ⟨i, Mi, hi, rfl, HSi, HXi, HOi⟩ := hrel
    have hCi : Chs wr (fun q => Mut s mb p c e q ∨ base ≤ q) A n cap l := HC9.out.only HOi.out (fun i _ h1 => Or.inl (Or.inr (Or.inl h1)))
    by_cases hlt : i < n
    · obtain ⟨b, o2, f, rfl, hb, hbS, hf, hc⟩ := hCi.at_ hlt
      have hmb : mb < w.heap.size := HMutlt.out mb (Or.inr (Or.inl rfl))
      have hfm := Hr0.out.2.2.1 f (List.mem_of_getElem? hf)
      have hff := f.may_fair hfm
      have hbf := hCi.2.2.2.2 f (List.mem_of_getElem? hf)
      have htk := take_snoc l i f hf
      have hal := (Below.refl wr.heap.size wr).alloc (Nat.le_refl _) (.cells #[.bool f.del, .string f.s, .slice f.A f.n f.cap] 37)
      have hB5 : Blk wr g5 109 _ := HOi.out.blk HB9.out (fun h1 => by omega)
      have q4 : wr.cell? ⟨g5, 4, none⟩ = some (.int .i64 P1.h.sec) := hB5.cell 4
      rw [Hsec1.out] at q4
      have hg5r := hB5.lt
      have hwr9 := HOi.out.size
      have hap := apply_any s mb p c e Mi P1.h false f (k : Int) (wr.alloc (.cells #[.bool f.del, .string f.s, .slice f.A f.n f.cap] 37)) (HSi.out.below hal) ⟨(hbf.1.only (Only.of_below (S := Empty) hal) (fun _ _ h => h.elim)).mono (fun i _ h1 => Or.inl h1), hbf.2⟩ hff (by have := HXi.out.2; omega) (fun h1 => (HT.out s h1).1 rfl) (fun q h1 h2 => by have := HMutlt.out q h2; have h3 := hal.size; omega)
      unfold Ch.v at hap
      have Hap := Lib.hid hap
      have Htk := Lib.hid htk
      have Hal := Lib.hid hal
      have c0 : wr.cell? ⟨b, o2 + i * 3, none⟩ = some (.bool f.del) := hc 0 (by omega)
      have c1 : wr.cell? ⟨b, o2 + i * 3 + 1, none⟩ = some (.string f.s) := hc 1 (by omega)
      have c2 : wr.cell? ⟨b, o2 + i * 3 + 2, none⟩ = some (.slice f.A f.n f.cap) := hc 2 (by omega)
      clear hCi hc hf hbf htk hap hal hB5 hfm hff
      go_wp2_with fail
      refine Hap.out.mono ?_
      rintro e10 w10 ⟨rfl, ⟨Mj, hMj, hXj, hlj⟩, hOj⟩
      have HSj := Lib.hid hMj
      have HXj := Lib.hid hXj
      have HOj := Lib.hid ((HOi.out.trans (Only.of_below (S := (· = mb)) Hal.out)).trans hOj)
      clear hMj hXj hOj Hap c0 c1 c2 q4
      go_wp2_with fail
      go_roundw
      case rel => exact ⟨i + 1, Mj, by omega, by simp, HSj, Lib.hid ⟨by rw [HXj.out, HXi.out.1, Htk.out, applyL_snoc], by have := HXi.out.2; omega⟩, HOj⟩
      case measure => simp [intOf]; omega
    · have hin : i = n := by omega
      have ht : l.take i = l := List.take_of_length_le (by have := Hln.out; omega)
      rw [ht] at HXi
      clear hCi
      go_wp2_with fail
      go_ret
      have hnm : P1.nm = PF.laid k o t none n 0 (l.map Ch.nm) := by rw [HP1.out, PV.laid_nm, HP.out]
      refine ⟨rfl, ⟨Mi, ?_, HXi.out.1, by rw [← hin]; exact HXi.out.2⟩, ?_, HOw.out.trans (HOi.out.mono (fun i _ h1 => Or.inr (Or.inl h1)))⟩
      · rw [← hnm]
        exact HSi.out
      · have ee : PF.sts ++ [Stp.lay k o t none n 0 (l.map Ch.nm)] = P1.sts.map Stp.nm := by
          show (PF.laid k o t none n 0 (l.map Ch.nm)).sts = P1.nm.sts
          rw [hnm]
        rw [ee, nm_runs]
        exact HF9.out.of HOi.out (fun h1 => (HT.out p (Or.inl rfl)).2 h1) (fun h1 => (HT.out c (Or.inr (Or.inl rfl))).2 h1) (fun h1 => (HT.out _ (Or.inr (Or.inr rfl))).2 h1)

end Go.Proofs.YtnhfmcijadficaaGreatDoor

/- What a sector's bytes tell, behind each step. -/
namespace Go.Proofs.YtnhfmcijadficaaGreatDoor
set_option maxRecDepth 100000
open Go.RowKit

theorem parse_take (xs : List UInt8) (h : 12 ≤ xs.length) : parseC xs = parseC (xs.take 12) ∧ parseH xs = parseH (xs.take 12) := by
  have hl : (xs.take 12).length = 12 := by rw [List.length_take]; omega
  have e1 : (xs.take 12).take 2 = xs.take 2 := by rw [List.take_take]; rfl
  have e2 : (xs.take 12).take 6 = xs.take 6 := by rw [List.take_take]; rfl
  have e3 : ((xs.take 12).drop 6).take 2 = (xs.drop 6).take 2 := by rw [List.drop_take, List.take_take]; rfl
  have e4 : ((xs.take 12).drop 2).take 4 = (xs.drop 2).take 4 := by rw [List.drop_take, List.take_take]; rfl
  have e5 : (xs.take 12)[8]? = xs[8]? := by rw [List.getElem?_take, if_pos (by omega)]
  have e6 : (xs.take 12)[9]? = xs[9]? := by rw [List.getElem?_take, if_pos (by omega)]
  have hC : parseC xs = parseC (xs.take 12) := by
    unfold parseC
    rw [if_neg (show ¬ xs.length < 12 by omega), if_neg (show ¬ (xs.take 12).length < 12 by omega), e1, e2, e3]
  refine ⟨hC, ?_⟩
  unfold parseH
  rw [← hC, e4, e5, e6]
theorem st_take {xs ys : List UInt8} (h : 12 ≤ xs.length) (h2 : 12 ≤ ys.length) (he : xs.take 12 = ys.take 12) : stU xs = stU ys ∧ stQ xs = stQ ys := by
  have a := parse_take xs h
  have b := parse_take ys h2
  have hu : stU xs = stU ys := by unfold stU; rw [a.1, a.2, b.1, b.2, he]
  refine ⟨hu, ?_⟩
  unfold stQ
  rw [hu, a.2, b.2, he]
theorem stU_void2 {xs : List UInt8} (h : xs[9]? = some 0) : stU xs = false := by
  unfold stU parseH
  by_cases hc : parseC xs = 0
  · rw [if_pos hc, h]
    simp
  · simp [hc]
theorem stU_mark2 {xs : List UInt8} (h : xs[0]? = some 255) : stU xs = false := by
  have h2 : xs.take 2 ≠ [67, 66] := by
    intro e
    have e0 := congrArg (fun l => l[0]?) e
    simp only [List.getElem?_take] at e0
    rw [if_pos (by omega), h] at e0
    simp at e0
  have hc : parseC xs ≠ 0 := by
    unfold parseC
    rw [if_neg h2]
    split <;> decide
  unfold stU
  simp [hc]
theorem stQ_lt (xs : List UInt8) : 0 ≤ stQ xs ∧ stQ xs ≤ 4294967295 := by
  unfold stQ
  split
  · unfold parseH
    split
    · have h1 := getV_lt ((xs.drop 2).take 4)
      have h2 : ((xs.drop 2).take 4).length ≤ 4 := by rw [List.length_take]; omega
      have h3 : 256 ^ ((xs.drop 2).take 4).length ≤ 256 ^ 4 := Nat.pow_le_pow_right (by omega) h2
      simp only
      have : (256 : Nat) ^ 4 = 4294967296 := by decide
      omega
    · simp
  · omega
theorem stS_cases (xs : List UInt8) : (stS xs = 2 ∧ stU xs = true) ∨ (stS xs = 0 ∧ stU xs = false ∧ xs.count 255 = xs.length) ∨ (stS xs = 1 ∧ stU xs = false ∧ ¬ xs.count 255 = xs.length) := by
  unfold stS
  cases h : stU xs
  · by_cases h2 : xs.count 255 = xs.length
    · exact Or.inr (Or.inl ⟨by simp [h2], rfl, h2⟩)
    · exact Or.inr (Or.inr ⟨by simp [h2], rfl, h2⟩)
  · exact Or.inl ⟨by simp, rfl⟩

theorem openB_all (Z s : Nat) (h : 12 ≤ Z) : (openB Z s).length = Z ∧ (∀ j, (openB Z s)[j]? = if j = 8 then some 0 else if j < 8 then (headB s)[j]? else if j < Z then some 255 else none) := by
  have h1 : (splice (List.replicate Z 255) 0 (headB s)).length = Z := by rw [splice_len _ _ _ (by rw [headB_len]; simp; omega), List.length_replicate]
  refine ⟨?_, fun j => ?_⟩
  · unfold openB
    rw [splice_len _ _ _ (by rw [h1]; simp; omega), h1]
  · unfold openB
    rw [splice_get _ _ _ _ (by rw [h1]; simp; omega), splice_get _ _ _ _ (by rw [headB_len]; simp; omega), headB_len, List.getElem?_replicate]
    by_cases h8 : j = 8
    · subst h8; rfl
    · rw [if_neg h8, if_neg (by simp; omega)]
      by_cases hl : j < 8
      · rw [if_pos (by omega), if_pos hl, Nat.sub_zero]
      · rw [if_neg (by omega), if_neg hl]
theorem openB_take (Z s : Nat) (h : 12 ≤ Z) : (openB Z s).take 12 = headB s ++ [0, 255, 255, 255] := by
  apply List.ext_getElem?
  intro j
  rw [List.getElem?_take, (openB_all Z s h).2, List.getElem?_append, headB_len]
  by_cases h1 : j < 8
  · rw [if_pos (by omega), if_neg (by omega), if_pos h1, if_pos h1]
  · by_cases h2 : j < 12
    · rw [if_pos h2]
      have h3 : j = 8 ∨ j = 9 ∨ j = 10 ∨ j = 11 := by omega
      rcases h3 with rfl | rfl | rfl | rfl
      · rfl
      · rw [if_neg (by omega), if_neg h1, if_pos (by omega), if_neg h1]; rfl
      · rw [if_neg (by omega), if_neg h1, if_pos (by omega), if_neg h1]; rfl
      · rw [if_neg (by omega), if_neg h1, if_pos (by omega), if_neg h1]; rfl
    · rw [if_neg h2, if_neg h1, List.getElem?_eq_none]
      show 4 ≤ j - 8
      omega
theorem open_st (Z s : Nat) (h : 12 ≤ Z) (hs : s ≤ 4294967295) : stU (openB Z s) = true ∧ stQ (openB Z s) = (s : Int) ∧ stS (openB Z s) = 2 := by
  have hl : 12 ≤ (headB s ++ [0, 255, 255, 255]).length := by simp [headB_len]
  have ht := st_take (xs := openB Z s) (ys := headB s ++ [0, 255, 255, 255]) (by rw [(openB_all Z s h).1]; exact h) hl (by rw [openB_take Z s h, List.take_of_length_le (by simp [headB_len])])
  have e1 : (headB s ++ [0, 255, 255, 255]).take 2 = [67, 66] := rfl
  have e6 : (headB s ++ [0, 255, 255, 255]).take 6 = head6 s := by
    rw [List.take_append_of_le_length (by rw [headB_len]; omega)]
    unfold headB
    rw [List.take_append_of_le_length (by rw [head6_len]; omega), List.take_of_length_le (by rw [head6_len]; omega)]
  have e3 : ((headB s ++ [0, 255, 255, 255]).drop 6).take 2 = putL (crc16 (head6 s)).toNat 2 := by
    rw [List.drop_append_of_le_length (by rw [headB_len]; omega), List.take_append_of_le_length (by rw [List.length_drop, headB_len]; omega)]
    unfold headB
    rw [List.drop_append_of_le_length (by rw [head6_len]; omega), List.drop_of_length_le (by rw [head6_len]; omega), List.nil_append, List.take_of_length_le (by rw [putL_len]; omega)]
  have e4 : ((headB s ++ [0, 255, 255, 255]).drop 2).take 4 = putL s 4 := by
    rw [List.drop_append_of_le_length (by rw [headB_len]; omega), List.take_append_of_le_length (by rw [List.length_drop, headB_len]; omega)]
    unfold headB head6
    rw [List.append_assoc]
    show (putL s 4 ++ _).take 4 = _
    rw [List.take_append_of_le_length (by rw [putL_len]; omega), List.take_of_length_le (by rw [putL_len]; omega)]
  have e8 : (headB s ++ [0, 255, 255, 255])[8]? = some 0 := by rw [List.getElem?_append_right (by rw [headB_len]; omega), headB_len]; rfl
  have e9 : (headB s ++ [0, 255, 255, 255])[9]? = some 255 := by rw [List.getElem?_append_right (by rw [headB_len]; omega), headB_len]; rfl
  have hC : parseC (headB s ++ [0, 255, 255, 255]) = 0 := by
    unfold parseC
    rw [if_neg (by omega), if_pos e1, e3, e6, getV_putL, if_pos]
    exact Nat.mod_eq_of_lt (crc16 (head6 s)).isLt
  have hu : stU (headB s ++ [0, 255, 255, 255]) = true := by
    unfold stU parseH
    rw [if_pos hC, e8, e9, hC]
    simp
  have hq : stQ (headB s ++ [0, 255, 255, 255]) = (s : Int) := by
    unfold stQ parseH
    rw [if_pos hu, if_pos hC, e4, getV_putL]
    simp only
    have : s % 2 ^ (8 * 4) = s := Nat.mod_eq_of_lt (by omega)
    rw [this]
  refine ⟨ht.1.trans hu, ht.2.trans hq, ?_⟩
  unfold stS
  rw [ht.1, hu, if_pos rfl]
theorem blank_st (Z : Nat) (h : 12 ≤ Z) : stU (List.replicate Z 255) = false ∧ stQ (List.replicate Z 255) = 0 ∧ stS (List.replicate Z 255) = 0 := by
  have hu : stU (List.replicate Z (255 : UInt8)) = false := stU_mark2 (by rw [List.getElem?_replicate, if_pos (by omega)])
  refine ⟨hu, ?_, ?_⟩
  · unfold stQ; rw [hu]; rfl
  · unfold stS; rw [hu]; simp
theorem void_st (xs : List UInt8) (h : 12 ≤ xs.length) : stU (splice xs 9 [0]) = false ∧ stQ (splice xs 9 [0]) = 0 ∧ stS (splice xs 9 [0]) = 1 := by
  have h9 : (splice xs 9 [0])[9]? = some 0 := by rw [splice_get _ _ _ _ (by simp; omega), if_pos (by simp)]; rfl
  have hu := stU_void2 h9
  refine ⟨hu, ?_, ?_⟩
  · unfold stQ; rw [hu]; rfl
  · rcases stS_cases (splice xs 9 [0]) with ⟨_, h2⟩ | ⟨_, _, h2⟩ | ⟨h1, _⟩
    · rw [hu] at h2; cases h2
    · have := List.count_eq_length.1 h2 0 (List.mem_of_getElem? h9)
      cases this
    · exact h1
/-- What is laid behind a header doesn't change what it tells. -/
theorem lay_st (xs ys : List UInt8) (o : Nat) (ho : 12 ≤ o) (h : o + ys.length ≤ xs.length) : stU (splice xs o ys) = stU xs ∧ stQ (splice xs o ys) = stQ xs := by
  refine st_take (by rw [splice_len _ _ _ h]; omega) (by omega) ?_
  apply List.ext_getElem?
  intro j
  rw [List.getElem?_take, List.getElem?_take]
  by_cases hj : j < 12
  · rw [if_pos hj, if_pos hj, splice_get _ _ _ _ h, if_neg (by omega)]
  · rw [if_neg hj, if_neg hj]
theorem stS_used {xs : List UInt8} (h : stU xs = true) : stS xs = 2 := by unfold stS; rw [if_pos h]

theorem secsOf_len (ss : List (Nat × List UInt8)) : (secsOf ss).length = ss.length := by simp [secsOf]
theorem secsOf_set (ss : List (Nat × List UInt8)) (i : Nat) (x : Nat × List UInt8) : secsOf (ss.set i x) = (secsOf ss).set i (secOf x) := by simp [secsOf, List.map_set]
theorem secsOf_at {ss : List (Nat × List UInt8)} {i : Nat} {s : Sc} (h : (secsOf ss)[i]? = some s) : ∃ m xs, ss[i]? = some (m, xs) ∧ s = ⟨stS xs, stQ xs, (m : Int)⟩ := by
  unfold secsOf at h
  rw [List.getElem?_map] at h
  cases hq : ss[i]? with
  | none => rw [hq] at h; cases h
  | some x =>
    rw [hq] at h
    obtain ⟨m, xs⟩ := x
    exact ⟨m, xs, rfl, by simpa [secOf] using h.symm⟩
theorem secsOf_q (ss : List (Nat × List UInt8)) : Q32 (secsOf ss) := by
  intro s hs
  unfold secsOf at hs
  obtain ⟨x, _, rfl⟩ := List.mem_map.1 hs
  exact stQ_lt x.2

end Go.Proofs.YtnhfmcijadficaaGreatDoor

/- A plan's steps against the flash: what the plan tells of its sectors is what they are behind its steps. -/
namespace Go.Proofs.YtnhfmcijadficaaGreatDoor
set_option maxRecDepth 100000
open Go.RowKit Go.Maps

/-- Sectors of a flash. -/
def WFs (Z L : Nat) (ss : List (Nat × List UInt8)) : Prop := ∀ x ∈ ss, x.2.length = Z ∧ x.1 ≤ L
theorem WFs.at_ {Z L : Nat} {ss : List (Nat × List UInt8)} (h : WFs Z L ss) {i m : Nat} {xs : List UInt8} (hi : ss[i]? = some (m, xs)) : xs.length = Z ∧ m ≤ L := h _ (List.mem_of_getElem? hi)
theorem WFs.set {Z L : Nat} {ss : List (Nat × List UInt8)} (h : WFs Z L ss) (i m : Nat) (xs : List UInt8) (h1 : xs.length = Z) (h2 : m ≤ L) : WFs Z L (ss.set i (m, xs)) := by
  intro x hx
  rcases List.mem_or_eq_of_mem_set hx with h3 | rfl
  · exact h x h3
  · exact ⟨h1, h2⟩
theorem WFs.of_fs {w : World} {p c e Z L : Nat} {ss : List (Nat × List UInt8)} (h : FS w p c e Z L ss) : WFs Z L ss := by
  intro x hx
  obtain ⟨i, hi, rfl⟩ := List.mem_iff_getElem.1 hx
  have h1 : ss[i]? = some (ss[i].1, ss[i].2) := List.getElem?_eq_getElem hi
  exact ⟨h.len h1, h.le h1⟩

structure Sim (Z L : Nat) (ss0 : List (Nat × List UInt8)) (P : PV) : Prop where
  ok : Stp.Oks Z L ss0 P.sts
  l : P.l = secsOf (Stp.runs Z ss0 P.sts)
  wf : WFs Z L (Stp.runs Z ss0 P.sts)
/-- A head in whose sector there is room. -/
structure HLive (Z : Nat) (ss : List (Nat × List UInt8)) (h : HeadV) (k o : Nat) : Prop where
  sec : h.sec = (k : Int)
  next : h.next = ((k * Z + o : Nat) : Int)
  left : h.left = ((Z - o : Nat) : Int)
  le : o ≤ Z
  ge : 12 ≤ o
  t0 : 0 ≤ h.txn
  t1 : h.txn ≤ 4294967295
  at_ : ∃ m xs, ss[k]? = some (m, xs) ∧ stU xs = true ∧ Blank xs o (Z - o)
def HInv (Z : Nat) (ss : List (Nat × List UInt8)) (h : HeadV) : Prop := h = ⟨0, 0, 0, 0⟩ ∨ ∃ k o, HLive Z ss h k o

section
variable {Z L : Nat} {ss0 : List (Nat × List UInt8)} {P : PV}
theorem Sim.len (h : Sim Z L ss0 P) : P.l.length = ss0.length := by rw [h.l, secsOf_len, Stp.runs_len]
theorem Sim.opens {i : Nat} (hb : best (opensB (L : Int)) Sc.er P.l P.l.length = some i) : ∃ s, P.l[i]? = some s ∧ opensB (L : Int) s = true := by
  have h1 := best_is (opensB (L : Int)) Sc.er P.l P.l.length (Nat.le_refl _)
  rw [hb] at h1
  exact ⟨_, h1.2.choose_spec.1, h1.2.choose_spec.2.1⟩
theorem opensB_st {L : Nat} {s : Sc} (h : opensB (L : Int) s = true) : s.st = 0 ∨ (s.st = 1 ∧ s.er < (L : Int)) := by
  unfold opensB at h
  simpa using h

theorem Sim.opened (h : Sim Z L ss0 P) (hz : 12 ≤ Z) {i : Nat} {s : Sc} (hb : best (opensB (L : Int)) Sc.er P.l P.l.length = some i) (hi : P.l[i]? = some s) (hq : ¬ lastQ P.l = 4294967295) :
    Sim Z L ss0 (P.opened i Z s) ∧ HLive Z (Stp.runs Z ss0 (P.opened i Z s).sts) (P.opened i Z s).h i 12 ∧ s.st ≠ 2 := by
  obtain ⟨s2, hs2, ho⟩ := Sim.opens hb
  rw [hi] at hs2
  cases hs2
  have hst := opensB_st ho
  have hl := h.l
  rw [hl] at hi
  obtain ⟨m, xs, hx, rfl⟩ := secsOf_at hi
  simp only at hst
  have hwf := h.wf.at_ hx
  have hQ := lastQ_le P.l (by rw [hl]; exact secsOf_q _)
  have hu : stU xs = false := by
    rcases stS_cases xs with ⟨h1, _⟩ | ⟨_, h2, _⟩ | ⟨_, h2, _⟩
    · rw [h1] at hst; omega
    · exact h2
    · exact h2
  have hml : ¬ xs.count 255 = xs.length → m < L := fun hne => by
    rcases stS_cases xs with ⟨h1, _⟩ | ⟨_, _, h2⟩ | ⟨h1, _⟩
    · rw [h1] at hst; omega
    · exact absurd h2 hne
    · rw [h1] at hst; omega
  obtain ⟨q, hqq⟩ : ∃ q : Nat, q = (lastQ P.l + 1).toNat := ⟨_, rfl⟩
  have hq1 : (q : Int) = lastQ P.l + 1 := by omega
  have hq2 : q ≤ 4294967295 := by omega
  have hop := open_st Z q hz hq2
  have hrun : Stp.runs Z ss0 (P.sts ++ [Stp.open_ i q]) = (Stp.runs Z ss0 P.sts).set i (if xs.count 255 = xs.length then m else m + 1, openB Z q) := by
    rw [Stp.runs_snoc]
    show List.set _ i _ = _
    rw [Stp.at_eq hx]
  have hil : i < (Stp.runs Z ss0 P.sts).length := (List.getElem?_eq_some_iff.1 hx).1
  have hopd : P.opened i Z ⟨stS xs, stQ xs, (m : Int)⟩ = ⟨P.l.set i ⟨2, lastQ P.l + 1, if stS xs = 1 then (m : Int) + 1 else (m : Int)⟩, ⟨(i : Int), ((i * Z + 12 : Nat) : Int), ((Z - 12 : Nat) : Int), 0⟩, P.sts ++ [Stp.open_ i q]⟩ := by
    unfold PV.opened
    rw [hqq]
  rw [hopd]
  refine ⟨⟨h.ok.app ⟨⟨m, xs, hx, hu, hml, hq2⟩, trivial⟩, ?_, ?_⟩, ⟨rfl, rfl, rfl, hz, Nat.le_refl _, Int.le_refl _, (by show (0 : Int) ≤ 4294967295; omega), ?_⟩, ?_⟩
  · show P.l.set i _ = _
    rw [hrun, secsOf_set, ← hl]
    congr 1
    show _ = (⟨stS (openB Z q), stQ (openB Z q), _⟩ : Sc)
    rw [hop.2.2, hop.2.1, hq1]
    rcases stS_cases xs with ⟨h1, _⟩ | ⟨h1, _, h2⟩ | ⟨h1, _, h2⟩
    · rw [h1] at hst; omega
    · rw [h1, if_pos h2, if_neg (by decide)]
    · rw [h1, if_neg h2, if_pos rfl]; simp
  · rw [hrun]
    refine h.wf.set _ _ _ (openB_all Z q hz).1 ?_
    split
    · exact hwf.2
    · rename_i h1
      have := hml h1
      omega
  · rw [hrun, List.getElem?_set_self hil]
    refine ⟨_, _, rfl, hop.1, fun j h1 h2 => ?_⟩
    rw [(openB_all Z q hz).2, if_neg (by omega), if_neg (by omega), if_pos (by omega)]
  · show stS xs ≠ 2
    intro h1
    rw [h1] at hst
    omega

/-- Lists whose blobs have their length. -/
def BlobLen (l : List Ch) : Prop := ∀ f ∈ l, f.rB.length = f.rN
theorem commitB_len (l : List Ch) (t : Nat) (h : BlobLen l) : (commitB l t).length = roomL l := by
  unfold commitB
  rw [flat_len, recsL_sum]
  intro r hr
  unfold recsL at hr
  rcases List.mem_append.1 hr with h1 | h1
  · obtain ⟨f, hf, rfl⟩ := List.mem_map.1 h1
    exact h f hf
  · rw [List.mem_singleton.1 h1]
    rfl

theorem Sim.laid (h : Sim Z L ss0 P) {k o : Nat} (hl : HLive Z (Stp.runs Z ss0 P.sts) P.h k o) (l : List Ch) (n t : Nat) (hm : ∀ f ∈ l, f.may = true) (hb : BlobLen l) (hn : n ≤ 16) (hr : o + roomL l ≤ Z) (ht : P.h.txn + 1 = (t : Int)) (ht1 : P.h.txn ≤ 4294901759) :
    Sim Z L ss0 (P.laid k o t none n 0 l) ∧ HLive Z (Stp.runs Z ss0 (P.laid k o t none n 0 l).sts) (P.laid k o t none n 0 l).h k (o + roomL l) := by
  obtain ⟨m, xs, hx, hu, hbl⟩ := hl.at_
  have hwf := h.wf.at_ hx
  have hge := hl.ge
  have ht0 := hl.t0
  have hcl := commitB_len l t hb
  have hrun : Stp.runs Z ss0 (P.sts ++ [Stp.lay k o t none n 0 l]) = (Stp.runs Z ss0 P.sts).set k (m, splice xs o (commitB l t)) := by
    rw [Stp.runs_snoc]
    show List.set _ k _ = _
    rw [Stp.at_eq hx]
  have hkl : k < (Stp.runs Z ss0 P.sts).length := (List.getElem?_eq_some_iff.1 hx).1
  have hfit : o + (commitB l t).length ≤ xs.length := by omega
  have hst := lay_st xs (commitB l t) o hge hfit
  refine ⟨⟨h.ok.app ⟨⟨m, xs, hx, hm, hn, by omega, by omega, hr, fun j h1 h2 => hbl j h1 (by omega)⟩, trivial⟩, ?_, ?_⟩, ⟨hl.sec, ?_, ?_, hr, by omega, ?_, ?_, ?_⟩⟩
  · show P.l = secsOf (Stp.runs Z ss0 (P.sts ++ [Stp.lay k o t none n 0 l]))
    rw [hrun, secsOf_set, h.l]
    have e : secOf (m, splice xs o (commitB l t)) = secOf (m, xs) := by
      show (⟨stS _, stQ _, _⟩ : Sc) = ⟨stS _, stQ _, _⟩
      rw [hst.2, stS_used (hst.1.trans hu), stS_used hu]
    rw [e]
    apply List.ext_getElem?
    intro j
    rw [List.getElem?_set]
    split
    · rename_i h1
      subst h1
      rw [if_pos (by rw [secsOf_len]; exact hkl)]
      unfold secsOf
      rw [List.getElem?_map, hx]
      rfl
    · rfl
  · show WFs Z L (Stp.runs Z ss0 (P.sts ++ [Stp.lay k o t none n 0 l]))
    rw [hrun]
    exact h.wf.set _ _ _ (by rw [splice_len _ _ _ hfit]; exact hwf.1) hwf.2
  · show P.h.next + (roomL l : Int) = _
    rw [hl.next]
    omega
  · show P.h.left - (roomL l : Int) = _
    rw [hl.left]
    omega
  · show 0 ≤ P.h.txn + 1
    omega
  · show P.h.txn + 1 ≤ _
    omega
  · show ∃ m xs, (Stp.runs Z ss0 (P.sts ++ [Stp.lay k o t none n 0 l]))[k]? = some (m, xs) ∧ _
    rw [hrun, List.getElem?_set_self hkl]
    refine ⟨_, _, rfl, hst.1.trans hu, ?_⟩
    have h1 := hbl.behind (commitB l t) (by omega) (by omega)
    rw [hcl] at h1
    have e : Z - o - roomL l = Z - (o + roomL l) := by omega
    rw [e] at h1
    exact h1

theorem Sim.letGo (h : Sim Z L ss0 P) (hz : 12 ≤ Z) {i : Nat} {s : Sc} (hi : P.l[i]? = some s) (hs : s.st = 2) :
    Sim Z L ss0 (P.letGo L i s) ∧ ∀ j, j ≠ i → (Stp.runs Z ss0 (P.letGo L i s).sts)[j]? = (Stp.runs Z ss0 P.sts)[j]? := by
  have hl := h.l
  rw [hl] at hi
  obtain ⟨m, xs, hx, rfl⟩ := secsOf_at hi
  have hwf := h.wf.at_ hx
  have hil : i < (Stp.runs Z ss0 P.sts).length := (List.getElem?_eq_some_iff.1 hx).1
  have hv := void_st xs (by omega)
  have hrun1 : Stp.run Z (Stp.runs Z ss0 P.sts) (.void i) = (Stp.runs Z ss0 P.sts).set i (m, splice xs 9 [0]) := by
    show List.set _ i _ = _
    rw [Stp.at_eq hx]
  have hvl : (splice xs 9 [0]).length = Z := by rw [splice_len _ _ _ (by simp; omega)]; exact hwf.1
  by_cases hL : (L : Int) ≤ (m : Int)
  · have hgo : P.letGo L i ⟨stS xs, stQ xs, (m : Int)⟩ = ⟨P.l.set i ⟨1, 0, (m : Int)⟩, P.h, P.sts ++ [Stp.void i]⟩ := by
      unfold PV.letGo goSts
      rw [if_pos hL, if_pos hL]
    have hrun : Stp.runs Z ss0 (P.sts ++ [Stp.void i]) = (Stp.runs Z ss0 P.sts).set i (m, splice xs 9 [0]) := by rw [Stp.runs_snoc, hrun1]
    rw [hgo]
    refine ⟨⟨h.ok.app ⟨⟨m, xs, hx⟩, trivial⟩, ?_, ?_⟩, fun j hj => ?_⟩
    · show P.l.set i _ = _
      rw [hrun, secsOf_set, ← hl]
      congr 1
      show _ = (⟨stS _, stQ _, _⟩ : Sc)
      rw [hv.2.2, hv.2.1]
    · show WFs Z L (Stp.runs Z ss0 (P.sts ++ [Stp.void i]))
      rw [hrun]
      exact h.wf.set _ _ _ hvl hwf.2
    · show (Stp.runs Z ss0 (P.sts ++ [Stp.void i]))[j]? = _
      rw [hrun, List.getElem?_set_ne (fun e => hj e.symm)]
  · have hgo : P.letGo L i ⟨stS xs, stQ xs, (m : Int)⟩ = ⟨P.l.set i ⟨0, 0, (m : Int) + 1⟩, P.h, P.sts ++ [Stp.void i, Stp.erase i]⟩ := by
      unfold PV.letGo goSts
      rw [if_neg hL, if_neg hL]
    have hb := blank_st Z hz
    have hx1 : ((Stp.runs Z ss0 P.sts).set i (m, splice xs 9 [0]))[i]? = some (m, splice xs 9 [0]) := List.getElem?_set_self hil
    have hrun : Stp.runs Z ss0 (P.sts ++ [Stp.void i, Stp.erase i]) = (Stp.runs Z ss0 P.sts).set i (m + 1, List.replicate Z 255) := by
      rw [Stp.runs_app]
      show Stp.run Z (Stp.run Z (Stp.runs Z ss0 P.sts) (.void i)) (.erase i) = _
      rw [hrun1]
      show List.set _ i _ = _
      rw [Stp.at_eq hx1, List.set_set]
    rw [hgo]
    refine ⟨⟨h.ok.app ⟨⟨m, xs, hx⟩, ⟨m, splice xs 9 [0], by rw [hrun1]; exact hx1, by omega⟩, trivial⟩, ?_, ?_⟩, fun j hj => ?_⟩
    · show P.l.set i _ = _
      rw [hrun, secsOf_set, ← hl]
      congr 1
      show _ = (⟨stS _, stQ _, ((m + 1 : Nat) : Int)⟩ : Sc)
      rw [hb.2.2, hb.2.1]
      simp
    · show WFs Z L (Stp.runs Z ss0 (P.sts ++ [Stp.void i, Stp.erase i]))
      rw [hrun]
      exact h.wf.set _ _ _ (by simp) (by omega)
    · show (Stp.runs Z ss0 (P.sts ++ [Stp.void i, Stp.erase i]))[j]? = _
      rw [hrun, List.getElem?_set_ne (fun e => hj e.symm)]
end

end Go.Proofs.YtnhfmcijadficaaGreatDoor
