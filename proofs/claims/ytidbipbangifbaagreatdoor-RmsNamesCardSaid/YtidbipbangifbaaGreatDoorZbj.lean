/- The walk over blob's Commit, where it is refused, or there is no room. -/
import Derived.Test.YtidbipbangifbaaGreatDoorZbi
import Derived.Test.YtidbipbangifbaaGreatDoorZaf
import Derived.Carry
namespace Go.Proofs.YtidbipbangifbaaGreatDoor
set_option maxRecDepth 100000
open Go.RowKit Go.Maps

set_option maxHeartbeats 4000000 in
theorem commit_refused (s mb p c e Z L : Nat) (M : Al Sv) (h : HeadV) (ss : List (Nat × List UInt8)) (A : Option Addr) (n cap : Nat) (l : List Ch) (E : Int) (w : World) (hS : StoreAt w s mb p c e M h false) (hs : FS w p c e Z L ss)
    (hC : Chs w (Mut s mb p c e) A n cap l) (hn : n ≤ 1048576) (href : refuC l (Z - 12) = E) (hE : E ≠ 0) :
    Calls Tryz.prog 42 #[.pointer (some ⟨s, 0, none⟩), .slice A n cap] w fun e1 w' => e1 = .returned (.int .i64 E) ∧ Below w.heap.size w w' := by
  have hz := hs.bz
  have Hdown := Lib.hid (down_any s p mb h false w hS.blk)
  have s0 : w.cell? ⟨s, 0, none⟩ = some (.pointer (some ⟨p, 0, none⟩)) := hS.blk.cell 0
  have hsl := hS.blk.lt
  have Hbe := Lib.hid (behind_any p c e Z L ss w hs)
  have Hre := Lib.hid (fun W (hW : Below w.heap.size w W) => refusal_any A n cap l (Z - 12) W ((hC.below hW).mono (T := Empty) (fun _ _ h => h.elim)) (by omega) hn)
  rw [href] at Hre
  obtain ⟨V, hV⟩ : ∃ V, V = Z - 12 := ⟨_, rfl⟩
  rw [← hV] at Hbe Hre
  have hEb : (E == 0) = false := by simpa using hE
  clear hS hs hC href hV
  go_enter Tryz.func42, Tryz.ntmps42
  go_wp2_with fail
  refine Hdown.out.mono ?_
  rintro e1 w1 ⟨rfl, rfl⟩
  clear Hdown
  go_wp2_with fail
  refine Hbe.out.mono ?_
  rintro e2 w2 ⟨rfl, hb2⟩
  have Hb2 := Lib.hid hb2
  clear hb2 Hbe
  go_wp2_with fail
  refine (Hre.out w2 Hb2.out).mono ?_
  rintro e3 w3 ⟨rfl, hb3⟩
  have Hb3 := Lib.hid (Hb2.out.trans (hb3.mono Hb2.out.size))
  clear hb3 Hre
  go_wp2_with fail
  go_ret
  exact ⟨rfl, Hb3.out⟩

set_option maxHeartbeats 4000000 in
theorem commit_space (s mb p c e Z L : Nat) (M : Al Sv) (h : HeadV) (ss : List (Nat × List UInt8)) (A : Option Addr) (n cap : Nat) (l : List Ch) (PF : PV) (KF : List (List (List UInt8))) (w : World) (hS : StoreAt w s mb p c e M h false) (hs : FS w p c e Z L ss) (hMark : Mark w) (hM : M.length ≤ 1048500) (hF : FairM M) (hsecs : SecsIn M ss.length)
    (hC : Chs w (Mut s mb p c e) A n cap l) (hn : n ≤ 1048576) (href : refuC l (Z - 12) = 0) (htk : takesB h (roomL l : Int) = false) (hplan : Rounds Z L M (roomL l : Int) (4 * ss.length) ⟨secsOf ss, h, []⟩ (kbsL M ss.length (M.map (·.1))) false PF KF) :
    Calls Tryz.prog 42 #[.pointer (some ⟨s, 0, none⟩), .slice A n cap] w fun e1 w' => e1 = .returned (.int .i64 10) ∧ Below w.heap.size w w' := by
  have hz := hs.bz
  have hr0 := refuC_zero href
  have hln : l.length = n := hC.1
  have hfair := fair_of hr0.2.2.1
  have hl16 : n ≤ 16 := by omega
  have hl0 : 0 < n := by omega
  have hrl := roomL_le l hfair
  rw [hln] at hrl
  have Hdown := Lib.hid (down_any s p mb h false w hS.blk)
  have s0 : w.cell? ⟨s, 0, none⟩ = some (.pointer (some ⟨p, 0, none⟩)) := hS.blk.cell 0
  have hsl := hS.blk.lt
  have Hbe := Lib.hid (behind_any p c e Z L ss w hs)
  have Hre := Lib.hid (fun W (hW : Below w.heap.size w W) => refusal_any A n cap l (Z - 12) W ((hC.below hW).mono (T := Empty) (fun _ _ h => h.elim)) (by omega) hn)
  rw [href] at Hre
  have Hro := Lib.hid (fun W (hW : Below w.heap.size w W) => roomOf_any A n cap l W ((hC.below hW).mono (T := Empty) (fun _ _ h => h.elim)) hfair (by omega))
  obtain ⟨V, hV⟩ : ∃ V, V = Z - 12 := ⟨_, rfl⟩
  obtain ⟨RM, hRM⟩ : ∃ RM, RM = roomL l := ⟨_, rfl⟩
  rw [← hV] at Hbe Hre
  rw [← hRM] at Hro hplan hrl htk
  have HS := Lib.hid hS
  have HFS := Lib.hid hs
  have HMk := Lib.hid hMark
  have HF := Lib.hid hF
  have HSec := Lib.hid hsecs
  have HC := Lib.hid hC
  have Hplan := Lib.hid hplan
  have HRM := Lib.hid hRM
  have Hln := Lib.hid hln
  have Hr0 := Lib.hid hr0
  have Hfair := Lib.hid hfair
  have hcapn : n ≤ cap := hC.2.1
  have hcap2 : cap ≤ 9223372036854775807 := by have := hC.2.2.1; unfold maxLen at this; omega
  clear hS hs hMark hF hsecs hC href hplan hV hRM hln hr0 hfair
  go_enter Tryz.func42, Tryz.ntmps42
  go_wp2_with fail
  refine Hdown.out.mono ?_
  rintro e1 w1 ⟨rfl, rfl⟩
  clear Hdown
  go_wp2_with fail
  refine Hbe.out.mono ?_
  rintro e2 w2 ⟨rfl, hb2⟩
  have Hb2 := Lib.hid hb2
  clear hb2 Hbe
  go_wp2_with fail
  refine (Hre.out w2 Hb2.out).mono ?_
  rintro e3 w3 ⟨rfl, hb3⟩
  have Hb3 := Lib.hid (Hb2.out.trans (hb3.mono Hb2.out.size))
  clear hb3 Hre
  go_wp2_with fail
  refine (Hro.out w3 Hb3.out).mono ?_
  rintro e4 w4 ⟨rfl, hb4⟩
  have Hb4 := Lib.hid (Hb3.out.trans (hb4.mono Hb3.out.size))
  clear hb4 Hro
  go_wp2_with fail
  have Hpl := Lib.hid (plan_made s mb p c e Z L M h false ss (RM : Int) false PF KF w4 (HS.out.below Hb4.out) (HFS.out.below Hb4.out) (HMk.out.below Hb4.out) (by omega) HF.out HSec.out htk Hplan.out)
  refine Hpl.out.mono ?_
  rintro e5 w5 ⟨hpl, hb5⟩
  have he5 : e5 = .returned (.tuple #[.agg #[.pointer none, .map none, .slice none 0 0, .slice none 0 0, .int .i64 0, .int .i64 0, .int .i64 0, .int .u32 0, .slice none 0 0], .int .i64 10]) := by
    rcases hpl with ⟨_, h1⟩ | ⟨h1, _⟩
    · exact h1
    · cases h1
  subst he5
  have Hb5 := Lib.hid (Hb4.out.trans (hb5.mono Hb4.out.size))
  clear hb5 Hpl hpl
  have Hend := Lib.hid ((Hb5.out.trans (((Below.refl w5.heap.size w5).alloc (Nat.le_refl _) (.cells #[.pointer none, .map none, .slice none 0 0, .slice none 0 0, .int .i64 0, .int .i64 0, .int .i64 0, .int .u32 0, .slice none 0 0] 144)).mono Hb5.out.size)))
  go_wp2_with fail
  go_ret
  exact ⟨rfl, Hend.out⟩

end Go.Proofs.YtidbipbangifbaaGreatDoor

/- A commit on a store that commits have made: it always comes to an end, and the store is one again. -/
namespace Go.Proofs.YtidbipbangifbaaGreatDoor
set_option maxRecDepth 100000
open Go.RowKit Go.Maps

/-- A store's map, by keys: its blobs may be records, their sectors are there. -/
def OkX (S : Nat) (X : Al (Int × List UInt8)) : Prop := ∀ q ∈ X, q.1.length ≤ 64 ∧ mayB 1 1 (q.1.length : Int) (q.2.2.length : Int) 0 = true ∧ 0 ≤ q.2.1 ∧ q.2.1 < (S : Int)

theorem mem_of_isSome {α : Type} {M : Al α} {k : List UInt8} (h : (afind M k).isSome = true) : ∃ v, afind M k = some v ∧ (k, v) ∈ M := by
  obtain ⟨v, hv⟩ := Option.isSome_iff_exists.1 h
  exact ⟨v, hv, afind_mem hv⟩
theorem okX_put {S : Nat} {X : Al (Int × List UInt8)} (h : OkX S X) (k : List UInt8) (j : Int) (b : List UInt8) (h1 : k.length ≤ 64) (h2 : mayB 1 1 (k.length : Int) (b.length : Int) 0 = true) (h3 : 0 ≤ j ∧ j < (S : Int)) : OkX S (aput X k (j, b)) := by
  intro q hq
  rcases (aput_mem _ _ _ q).1 hq with rfl | ⟨h4, _⟩
  · exact ⟨h1, h2, h3.1, h3.2⟩
  · exact h q h4
theorem okX_del {S : Nat} {X : Al (Int × List UInt8)} (h : OkX S X) (k : List UInt8) : OkX S (adel X k) := fun q hq => h q ((adel_mem X k q).1 hq).1
theorem okX_reSec1 {S : Nat} {X : Al (Int × List UInt8)} (h : OkX S X) (j : Int) (k : List UInt8) (hj : 0 ≤ j ∧ j < (S : Int)) (hk : (afind X k).isSome = true) : OkX S (reSec1 j X k) ∧ ∀ k', (afind X k').isSome = true → (afind (reSec1 j X k) k').isSome = true := by
  obtain ⟨v, hv, hm⟩ := mem_of_isSome hk
  have h1 := h _ hm
  unfold reSec1
  rw [hv]
  exact ⟨okX_put h k j v.2 h1.1 h1.2.1 hj, fun k' h2 => isSome_aput _ _ _ _ h2⟩
theorem okX_reSecL {S : Nat} (j : Int) (hj : 0 ≤ j ∧ j < (S : Int)) : ∀ (ks : List (List UInt8)) (X : Al (Int × List UInt8)), OkX S X → (∀ k ∈ ks, (afind X k).isSome = true) → OkX S (reSecL j X ks) ∧ ∀ k', (afind X k').isSome = true → (afind (reSecL j X ks) k').isSome = true
  | [], X, h, _ => ⟨h, fun _ h => h⟩
  | k :: ks, X, h, hk => by
    obtain ⟨h1, h2⟩ := okX_reSec1 h j k hj (hk k List.mem_cons_self)
    obtain ⟨h3, h4⟩ := okX_reSecL j hj ks (reSec1 j X k) h1 (fun k' hk' => h2 k' (hk k' (List.mem_cons_of_mem _ hk')))
    exact ⟨h3, fun k' h5 => h4 k' (h2 k' h5)⟩
theorem okX_reSecK {S : Nat} : ∀ (K : List (List (List UInt8))) (j : Nat) (X : Al (Int × List UInt8)), j + K.length ≤ S → OkX S X → (∀ ks ∈ K, ∀ k ∈ ks, (afind X k).isSome = true) → OkX S (reSecK j X K) ∧ ∀ k', (afind X k').isSome = true → (afind (reSecK j X K) k').isSome = true
  | [], j, X, _, h, _ => ⟨h, fun _ h => h⟩
  | ks :: K, j, X, hj, h, hk => by
    have hl : (ks :: K).length = K.length + 1 := rfl
    obtain ⟨h1, h2⟩ := okX_reSecL (S := S) (j : Int) ⟨by omega, by omega⟩ ks X h (hk ks List.mem_cons_self)
    obtain ⟨h3, h4⟩ := okX_reSecK K (j + 1) (reSecL (j : Int) X ks) (by omega) h1 (fun ks' hks' k' hk' => h2 k' (hk ks' (List.mem_cons_of_mem _ hks') k' hk'))
    exact ⟨h3, fun k' h5 => h4 k' (h2 k' h5)⟩
theorem size_data (s : ByteArray) : s.data.toList.length = s.size := by rw [Array.length_toList]; rfl
theorem okX_applyL {S : Nat} (k : Nat) (hk : k < S) : ∀ (l : List Ch) (X : Al (Int × List UInt8)), OkX S X → (∀ f ∈ l, f.may = true ∧ f.blob.length = f.n) → OkX S (applyL X l (k : Int))
  | [], X, h, _ => h
  | f :: l, X, h, hf => by
    obtain ⟨h1, h2⟩ := hf f List.mem_cons_self
    refine okX_applyL k hk l (applyA X f k) ?_ (fun g hg => hf g (List.mem_cons_of_mem _ hg))
    unfold applyA
    cases hd : f.del
    · simp only [Bool.false_eq_true, if_false]
      have hfair := f.may_fair h1
      have hrk : f.rk = 1 := by unfold Ch.rk; rw [hd]; rfl
      have hrn : f.rN = f.n := by unfold Ch.rN; rw [hd]; rfl
      unfold Ch.may at h1
      rw [hrk, hrn] at h1
      refine okX_put h _ _ _ (by rw [size_data]; exact hfair.1) ?_ ⟨by omega, by omega⟩
      rw [size_data, h2]
      exact h1
    · simp only [if_true]
      exact okX_del h _

/-- A store that commits have made. -/
structure GoodX (w : World) (s mb p c e Z L : Nat) (M : Al Sv) (h : HeadV) (ss : List (Nat × List UInt8)) : Prop where
  st : StoreAt w s mb p c e M h false
  fs : FS w p c e Z L ss
  mark : Mark w
  ok : OkX ss.length (amap Sv.a M)
  hd : HInv Z ss h
theorem GoodX.below {w w' : World} {s mb p c e Z L : Nat} {M : Al Sv} {h : HeadV} {ss : List (Nat × List UInt8)} (g : GoodX w s mb p c e Z L M h ss) (b : Below w.heap.size w w') : GoodX w' s mb p c e Z L M h ss :=
  ⟨g.st.below b, g.fs.below b, g.mark.below b, g.ok, g.hd⟩

section
variable {w : World} {s mb p c e Z L : Nat} {M : Al Sv} {h : HeadV} {ss : List (Nat × List UInt8)}
theorem GoodX.lenM (g : GoodX w s mb p c e Z L M h ss) : LenM M := fun q hq => (g.st.bl q hq).1.1
theorem GoodX.at_ (g : GoodX w s mb p c e Z L M h ss) {q : List UInt8 × Sv} (hq : q ∈ M) : q.1.length ≤ 64 ∧ mayB 1 1 (q.1.length : Int) (q.2.n : Int) 0 = true ∧ 0 ≤ q.2.sec ∧ q.2.sec < (ss.length : Int) := by
  have h1 : (q.1, q.2.a) ∈ amap Sv.a M := by
    unfold amap
    exact List.mem_map_of_mem (f := fun q : List UInt8 × Sv => (q.1, q.2.a)) hq
  have h2 := g.ok _ h1
  rw [← g.lenM q hq]
  exact h2
theorem GoodX.secsIn (g : GoodX w s mb p c e Z L M h ss) : SecsIn M ss.length := fun q hq => (g.at_ hq).2.2
theorem GoodX.keyOk (g : GoodX w s mb p c e Z L M h ss) {q : List UInt8 × Sv} (hq : q ∈ M) : KeyOk M q.1 := by
  have h1 := g.at_ hq
  have hf := afind_of_mem g.st.map.sorted hq
  have hv := svAt_v hf
  refine ⟨h1.1, ?_, by rw [hf]; rfl⟩
  show mayB 1 1 (((⟨q.1.toArray⟩ : ByteArray).size : Nat) : Int) ((svAt M q.1).n : Int) 0 = true
  rw [hv]
  have e : (⟨q.1.toArray⟩ : ByteArray).size = q.1.length := by simp [ByteArray.size]
  rw [e]
  exact h1.2.1
theorem GoodX.fair (g : GoodX w s mb p c e Z L M h ss) : FairM M := fun q hq => by
  have h1 := (g.keyOk hq).2.1
  have h2 := (keyCh M q.1).may_fair h1
  have hv := svAt_v (afind_of_mem g.st.map.sorted hq)
  refine ⟨(g.at_ hq).1, ?_⟩
  have h3 : (keyCh M q.1).rN = (svAt M q.1).n := rfl
  rw [h3, hv] at h2
  exact h2.2
theorem GoodX.geo (g : GoodX w s mb p c e Z L M h ss) : Geo Z L ss.length := by
  have := g.fs.bz
  exact ⟨by omega, by omega, by omega, by omega, by omega⟩

theorem kbsL_total (S : Nat) (hs : SecsIn M S) (hso : M.Pairwise (fun p q => bytesBefore p.1 q.1 = true)) : ∀ i, i ≤ (M.map (·.1)).length → total (kbsL M S ((M.map (·.1)).take i)) ≤ i
  | 0, _ => by
    rw [List.take_zero, kbsL_nil]
    unfold total
    rw [List.map_replicate]
    simp
  | i + 1, hi => by
    have ih := kbsL_total S hs hso i (by omega)
    obtain ⟨x, hx⟩ : ∃ x, (M.map (·.1))[i]? = some x := ⟨_, List.getElem?_eq_getElem (by omega)⟩
    have htk := take_snoc (M.map (·.1)) i x hx
    obtain ⟨q, hq, rfl⟩ := List.mem_map.1 (List.mem_of_getElem? hx)
    have h1 := hs q hq
    have hv := svAt_v (afind_of_mem hso hq)
    have hj : (svAt M q.1).sec = ((q.2.sec.toNat : Nat) : Int) := by rw [hv]; omega
    obtain ⟨ks, hks⟩ : ∃ ks, (kbsL M S ((M.map (·.1)).take i))[q.2.sec.toNat]? = some ks := ⟨_, List.getElem?_eq_getElem (by rw [kbsL_len]; omega)⟩
    rw [htk, kbsL_snoc M S _ q.1 q.2.sec.toNat ks hj hks]
    have h2 := total_set _ _ ks (ks ++ [q.1]) hks
    rw [List.length_append] at h2
    simp at h2
    omega
theorem GoodX.start (g : GoodX w s mb p c e Z L M h ss) : RInv Z L ss M M.length ⟨secsOf ss, h, []⟩ (kbsL M ss.length (M.map (·.1))) := by
  refine ⟨⟨trivial, rfl, WFs.of_fs g.fs⟩, g.hd, kbsL_len _ _ _, ?_, ?_⟩
  · intro ks hks x hx
    unfold kbsL at hks
    obtain ⟨j, _, rfl⟩ := List.mem_map.1 hks
    obtain ⟨q, hq, rfl⟩ := List.mem_map.1 (List.mem_filter.1 hx).1
    exact g.keyOk hq
  · have h1 := kbsL_total ss.length g.secsIn g.st.map.sorted (M.map (·.1)).length (Nat.le_refl _)
    rw [List.take_length, List.length_map] at h1
    exact h1
end

/-- What a commit comes to. -/
def Outcome (s mb p c e Z L : Nat) (M : Al Sv) (h : HeadV) (ss : List (Nat × List UInt8)) (l : List Ch) (w w' : World) (e1 : Ending) : Prop :=
  (refuC l (Z - 12) ≠ 0 ∧ e1 = .returned (.int .i64 (refuC l (Z - 12))) ∧ Below w.heap.size w w') ∨
  (refuC l (Z - 12) = 0 ∧ e1 = .returned (.int .i64 10) ∧ Below w.heap.size w w' ∧ takesB h (roomL l : Int) = false ∧ ∃ PF KF, Rounds Z L M (roomL l : Int) (4 * ss.length) ⟨secsOf ss, h, []⟩ (kbsL M ss.length (M.map (·.1))) false PF KF) ∨
  (refuC l (Z - 12) = 0 ∧ e1 = .returned (.int .i64 0) ∧ ∃ (PF : PV) (KF : List (List (List UInt8))) (M' : Al Sv) (h' : HeadV) (ss' : List (Nat × List UInt8)) (k o : Nat), PlanM Z L M h ss (roomL l : Int) PF KF ∧ GoodX w' s mb p c e Z L M' h' ss' ∧ ss'.length = ss.length ∧ amap Sv.a M' = applyL (reSecK 0 (amap Sv.a M) KF) l (k : Int) ∧ M'.length ≤ M.length + 16 ∧
    HLive Z (Stp.runs Z ss PF.sts) PF.h k o ∧ o + roomL l ≤ Z ∧ h' = (PF.laid k o (PF.h.txn + 1).toNat none l.length 0 (l.map Ch.nm)).h ∧ ss' = Stp.runs Z ss (PF.sts ++ [.lay k o (PF.h.txn + 1).toNat none l.length 0 (l.map Ch.nm)]) ∧ AllK (KeyOk M) KF ∧ KF.length ≤ ss.length ∧ Only (Mut s mb p c e) w w' ∧
    Sim Z L ss ⟨secsOf (Stp.runs Z ss PF.sts), PF.h, PF.sts⟩ ∧ secsOf ss' = secsOf (Stp.runs Z ss PF.sts) ∧ (takesB h (roomL l : Int) = false → PF.l = secsOf (Stp.runs Z ss PF.sts)))

theorem commit_any (s mb p c e Z L : Nat) (M : Al Sv) (h : HeadV) (ss : List (Nat × List UInt8)) (A : Option Addr) (n cap : Nat) (l : List Ch) (w : World) (hG : GoodX w s mb p c e Z L M h ss) (hM : M.length ≤ 3000)
    (hC : Chs w (Mut s mb p c e) A n cap l) (hn : n ≤ 1048576) (hT : ∀ q, Three p c e q → q ≠ s ∧ q ≠ mb) (h0 : ¬ Mut s mb p c e 0) (hS : 4 * ss.length * (66 + M.length) ≤ 990000) :
    Calls Tryz.prog 42 #[.pointer (some ⟨s, 0, none⟩), .slice A n cap] w fun e1 w' => Outcome s mb p c e Z L M h ss l w w' e1 := by
  by_cases href : refuC l (Z - 12) = 0
  · have hr0 := refuC_zero href
    have hln := hC.1
    have hgeo := hG.geo
    have hz0 := hgeo.z0
    have hbl : BlobLen (l.map Ch.nm) := by
      intro f hf
      obtain ⟨g, hg, rfl⟩ := List.mem_map.1 hf
      have h1 := (hC.2.2.2.2 g hg).1.1
      unfold Ch.rB Ch.rN Ch.nm
      simp only
      split
      · rfl
      · exact h1
    -- what is done, from a plan whose steps go and whose head takes the commit
    have hdone : ∀ PF KF, PlanM Z L M h ss (roomL l : Int) PF KF → Sim Z L ss ⟨secsOf (Stp.runs Z ss PF.sts), PF.h, PF.sts⟩ → HInv Z (Stp.runs Z ss PF.sts) PF.h → takesB PF.h (roomL l : Int) = true → PF.sts.length ≤ 1000000 → AllK (KeyOk M) KF → total KF ≤ M.length → KF.length ≤ ss.length → (takesB h (roomL l : Int) = false → PF.l = secsOf (Stp.runs Z ss PF.sts)) →
        Calls Tryz.prog 42 #[.pointer (some ⟨s, 0, none⟩), .slice A n cap] w fun e1 w' => Outcome s mb p c e Z L M h ss l w w' e1 := by
      intro PF KF hpl hsim hinv htk hst hkey htot hkl hpl2
      obtain ⟨ht1, hroom, k, o, hl⟩ := takes_live hinv (by unfold roomL; omega) htk
      have hhd := hl.hdOk (by rw [Stp.runs_len]; exact hgeo) ht1
      have hleft := hl.left
      have hle := hl.le
      have hrm : roomL (l.map Ch.nm) = roomL l := nm_sz l
      have hor : o + roomL l ≤ Z := by omega
      obtain ⟨hs2, hl2⟩ := hsim.laid (k := k) (o := o) hl (l.map Ch.nm) l.length (PF.h.txn + 1).toNat ((nm_may l).2 hr0.2.2.1) hbl hr0.2.1 (by rw [hrm]; exact hor) hhd.txn ht1
      have hoks : Stp.Oks Z L ss (PF.sts ++ [.lay k o (PF.h.txn + 1).toNat none l.length 0 (l.map Ch.nm)]) := hs2.ok
      rw [hln] at hoks
      obtain ⟨m, xs, hx2, _⟩ := hl.at_
      have hkS : k < ss.length := by rw [← Stp.runs_len Z PF.sts]; exact (List.getElem?_eq_some_iff.1 hx2).1
      refine (commit_done s mb p c e Z L M h ss A n cap l PF KF k o (PF.h.txn + 1).toNat w hG.st hG.fs hG.mark (by omega) hG.fair hG.secsIn hC hn href hpl hhd hst hoks (fun ks hks => ⟨?_, fun x hx => (hkey ks hks x hx).2.2⟩) (by have := hgeo.s; omega) hT (fun h1 => h0 (Or.inr (Or.inr h1)))).mono ?_
      · obtain ⟨j, hj, rfl⟩ := List.mem_iff_getElem.1 hks
        have h1 := total_le (List.getElem?_eq_getElem hj)
        omega
      · rintro e1 w' ⟨rfl, ⟨M', hM', hX', hl'⟩, hF', hO'⟩
        have hrl : (Stp.runs Z ss (PF.sts ++ [Stp.lay k o (PF.h.txn + 1).toNat none n 0 (l.map Ch.nm)])).length = ss.length := Stp.runs_len _ _ _
        refine Or.inr (Or.inr ⟨href, rfl, PF, KF, M', _, _, k, o, hpl, ⟨hM', hF', hG.mark.only hO' h0, ?_, ?_⟩, hrl, hX', by omega, hl, hor, by rw [← hln], by rw [← hln], hkey, hkl, hO', hsim, by rw [← hln]; exact hs2.l.symm, hpl2⟩)
        · rw [hrl, hX']
          refine okX_applyL k hkS l _ (okX_reSecK KF 0 _ (by omega) hG.ok (fun ks hks x hx => ?_)).1 (fun f hf => ⟨hr0.2.2.1 f hf, (hC.2.2.2.2 f hf).1.1⟩)
          have h1 := (hkey ks hks x hx).2.2
          rw [afind_map, Option.isSome_map]
          exact h1
        · rw [← hln]
          exact Or.inr ⟨k, _, hl2⟩
    cases htk : takesB h (roomL l : Int) with
    | true => exact hdone ⟨[], h, []⟩ [] (Or.inl ⟨htk, rfl, rfl⟩) hG.start.sim hG.hd htk (by simp) (fun ks hks => by cases hks) (by simp [total]) (by simp) (fun hq => by rw [htk] at hq; cases hq)
    | false =>
      obtain ⟨b, PF, KF, h1, h2⟩ := rounds_ex hgeo hG.lenM (N := M.length) hM (roomL l : Int) (4 * ss.length) _ _ hG.start (by simpa using hS)
      cases b with
      | false =>
        refine (commit_space s mb p c e Z L M h ss A n cap l PF KF w hG.st hG.fs hG.mark (by omega) hG.fair hG.secsIn hC hn href htk h1).mono ?_
        rintro e1 w' ⟨rfl, hb⟩
        exact Or.inr (Or.inl ⟨href, rfl, hb, htk, PF, KF, h1⟩)
      | true =>
        obtain ⟨h3, h4, h5⟩ := h2 rfl
        exact hdone PF KF (Or.inr ⟨htk, h1⟩) (by rw [← h3.sim.l]; exact h3.sim) h3.hd h5 h4 h3.key h3.tot (by rw [h3.kl]; exact Nat.le_refl _) (fun _ => h3.sim.l)
  · refine (commit_refused s mb p c e Z L M h ss A n cap l _ w hG.st hG.fs hC hn rfl href).mono ?_
    rintro e1 w' ⟨rfl, hb⟩
    exact Or.inl ⟨href, rfl, hb⟩

end Go.Proofs.YtidbipbangifbaaGreatDoor

/- Mount of a flash none of whose sectors is used. -/
namespace Go.Proofs.YtidbipbangifbaaGreatDoor
set_option maxRecDepth 100000
open Go.RowKit Go.Maps

set_option maxHeartbeats 1000000 in
theorem ins_none (A : Option Addr) (cap : Nat) (f : Value) (w : World) : Calls Tryz.prog 122 #[.slice A 0 cap, .int .i64 0, .int .i64 0, f] w fun e w' => e = .returned (.tuple #[]) ∧ w = w' := by
  go_enter Tryz.func122, Tryz.ntmps122
  go_wp2_with fail
  refine wp_loop_rounds 1 ?_
  rw [rounds_succ]
  go_wp2_with fail
  go_end0
  exact ⟨rfl, rfl⟩

set_option maxHeartbeats 1000000 in
theorem stable_none (A : Option Addr) (cap : Nat) (f : Value) (w : World) : Calls Tryz.prog 57 #[.slice A 0 cap, f] w fun e w' => e = .returned (.tuple #[]) ∧ w = w' := by
  have H : Calls Tryz.prog 95 #[.slice A 0 cap, .int .i64 0, f] w fun e w' => e = .returned (.tuple #[]) ∧ w = w' := by
    have Hi := Lib.hid (ins_none A cap f w)
    go_enter Tryz.func95, Tryz.ntmps95
    go_wp2_with fail
    refine wp_loop_rounds 1 ?_
    rw [rounds_succ]
    go_wp2_with fail
    refine Hi.out.mono ?_
    rintro e1 w1 ⟨rfl, rfl⟩
    go_wp2_with fail
    refine wp_loop_rounds 1 ?_
    rw [rounds_succ]
    go_wp2_with fail
    go_end0
    exact ⟨rfl, rfl⟩
  have HH := Lib.hid H
  clear H
  go_enter Tryz.func57, Tryz.ntmps57
  go_wp2_with fail
  refine HH.out.mono ?_
  rintro e1 w1 ⟨rfl, rfl⟩
  go_wp2_with fail
  go_end0
  exact ⟨rfl, rfl⟩

set_option maxHeartbeats 2000000 in
theorem usedRow_none (A : Option Addr) (n cap : Nat) (l : List Sc) (w : World) (hS : Secs w Empty A n cap l) (hno : ∀ s ∈ l, s.st ≠ 2) (hn : n ≤ 1048576) :
    Calls Tryz.prog 27 #[.slice A n cap] w fun e w' => e = .returned (.slice none 0 0) ∧ Below w.heap.size w w' := by
  have HS := Lib.hid hS
  have Hno := Lib.hid hno
  have hncap : n ≤ cap := hS.2.1
  have hcap2 : cap ≤ 9223372036854775807 := by have := hS.2.2.1; unfold maxLen at this; omega
  have Hst := Lib.hid (stable_none none 0)
  clear hS hno
  go_enter Tryz.func27, Tryz.ntmps27
  go_wp2_with fail
  have hb0 := (Below.refl w.heap.size w).alloc (Nat.le_refl _) (.cells #[.slice A n cap] 68)
  have Hb0 := Lib.hid hb0
  clear hb0
  go_loopw [3, 8] (fun r v wr => ∃ i : Nat, i ≤ n ∧ v = .int .i64 (i : Int) ∧ r = .slice none 0 0 ∧ Hid (Below w.heap.size w wr)) (fun _ v _ => n - (intOf v).toNat)
  case atStart => exact ⟨0, Nat.zero_le _, rfl, rfl, Hb0⟩
  case round =>
    obtain ⟨i, hi, rfl, rfl, HB⟩ := hrel
    by_cases hlt : i < n
    · obtain ⟨b, o, s, rfl, hb, -, hf, hc⟩ := RowSl.at_ (cells := Sc.cells) (k := 3) (HS.out.only (Only.of_below (S := Empty) HB.out) (fun _ _ h => h)) hlt
      have hst := Hno.out s (List.mem_of_getElem? hf)
      have hst2 : (s.st == 2) = false := by simpa using hst
      have c0 : wr.cell? ⟨b, o + i * 3, none⟩ = some (.int .i64 s.st) := hc 0 (by omega)
      have c1 : wr.cell? ⟨b, o + i * 3 + 1, none⟩ = some (.int .u32 s.q) := hc 1 (by omega)
      have c2 : wr.cell? ⟨b, o + i * 3 + 2, none⟩ = some (.int .i64 s.er) := hc 2 (by omega)
      have Hal := Lib.hid (HB.out.trans (((Below.refl wr.heap.size wr).alloc (Nat.le_refl _) (.cells #[.int .i64 s.st, .int .u32 s.q, .int .i64 s.er] 81)).mono HB.out.size))
      clear hc hf hst
      go_wp2_with fail
      go_roundw
      case rel => exact ⟨i + 1, by omega, by simp, rfl, Hal⟩
      case measure => simp [intOf]; omega
    · have hin : i = n := by omega
      subst hin
      go_wp2_with fail
      refine (Hst.out _ _).mono ?_
      rintro e1 w1 ⟨rfl, rfl⟩
      go_wp2_with fail
      go_ret
      exact ⟨rfl, HB.out⟩

/-- A store as it is made. -/
theorem store_new (w : World) (p c e : Nat) (hT : ∀ q, Three p c e q → q < w.heap.size) :
    StoreAt ((w.alloc (.map #[] 0)).alloc (.cells (storeC p w.heap.size ⟨0, 0, 0, 0⟩ false) 98)) (w.heap.size + 1) w.heap.size p c e [] ⟨0, 0, 0, 0⟩ false := by
  have h1 := Blk.new (w.alloc (.map #[] 0)) 98 (storeC p w.heap.size ⟨0, 0, 0, 0⟩ false)
  refine ⟨by simpa using h1, (StM.made w).alloc _, fun q hq => by cases hq⟩

set_option maxHeartbeats 2000000 in
theorem told_none (p c e cap : Nat) (w : World) (hT : ∀ q, Three p c e q → q < w.heap.size) :
    Calls Tryz.prog 28 #[.pointer (some ⟨p, 0, none⟩), .slice none 0 cap] w fun e1 w' => (∃ s mb, e1 = .returned (.tuple #[.pointer (some ⟨s, 0, none⟩), .int .i64 0]) ∧ StoreAt w' s mb p c e [] ⟨0, 0, 0, 0⟩ false ∧ w.heap.size ≤ s ∧ w.heap.size ≤ mb) ∧ Below w.heap.size w w' := by
  have HN := Lib.hid (store_new w p c e hT)
  have Hb := Lib.hid (((Below.refl w.heap.size w).alloc (Nat.le_refl _) (.map #[] 0)).alloc (by simp) (.cells (storeC p w.heap.size ⟨0, 0, 0, 0⟩ false) 98))
  have hmm := @run_makeMap Tryz.prog
  unfold storeC at HN Hb
  clear hT
  go_enter Tryz.func28, Tryz.ntmps28
  go_wp2_with fail
  refine wp_loop_rounds 1 ?_
  rw [rounds_succ]
  go_wp2_with fail
  go_ret2
  exact ⟨⟨_, _, rfl, HN.out, by omega, Nat.le_refl _⟩, Hb.out⟩

/-- How a Mount ends that lets no sector go. -/
def Mounted (p c e Z L : Nat) (ss : List (Nat × List UInt8)) (w w' : World) (e1 : Ending) : Prop :=
  (∃ s mb, e1 = .returned (.tuple #[.pointer (some ⟨s, 0, none⟩), .int .i64 0]) ∧ GoodX w' s mb p c e Z L [] ⟨0, 0, 0, 0⟩ ss ∧ w.heap.size ≤ s ∧ w.heap.size ≤ mb) ∧ Below w.heap.size w w'

set_option maxHeartbeats 4000000 in
theorem mount_none (p c e Z L : Nat) (ss : List (Nat × List UInt8)) (w : World) (hs : FS w p c e Z L ss) (hMark : Mark w) (hno : ∀ x ∈ ss, stU x.2 = false) (hfree : 0 < (secsOf ss).countP (opensB (L : Int))) :
    Calls Tryz.prog 10 #[.pointer (some ⟨p, 0, none⟩)] w fun e1 w' => Mounted p c e Z L ss w w' e1 := by
  have hz := hs.bz
  have hg := geo_field2 (ss.length : Int) (Z : Int) (L : Int)
  have Hlook := Lib.hid (look_any p c e Z L ss w hs hMark)
  have hnu : ∀ x ∈ secsOf ss, x.st ≠ 2 := fun x hx => by
    unfold secsOf at hx
    obtain ⟨y, hy, rfl⟩ := List.mem_map.1 hx
    have h1 := hno y hy
    show stS y.2 ≠ 2
    rcases stS_cases y.2 with ⟨_, h2⟩ | ⟨h2, _⟩ | ⟨h2, _⟩
    · rw [h1] at h2; cases h2
    · rw [h2]; decide
    · rw [h2]; decide
  have HS := Lib.hid hs
  have HM := Lib.hid hMark
  have Hnu := Lib.hid hnu
  obtain ⟨n, hn⟩ : ∃ n, n = ss.length := ⟨_, rfl⟩
  obtain ⟨fr, hfr⟩ : ∃ fr, fr = (secsOf ss).countP (opensB (L : Int)) := ⟨_, rfl⟩
  rw [← hn] at Hlook hg
  rw [← hfr] at hfree
  have hfrl : fr ≤ 64 := by rw [hfr]; exact Nat.le_trans List.countP_le_length (by rw [secsOf_len]; omega)
  have hnb : n ≤ 64 := by omega
  have Hn := Lib.hid hn
  have Hfr := Lib.hid hfr
  clear hs hMark hno hnu hn hfr hz
  go_enter Tryz.func10, Tryz.ntmps10
  go_wp2_with fail
  refine Hlook.out.mono ?_
  rintro e1 w1 ⟨⟨A, cap, rfl, hG⟩, hb1⟩
  have HG := Lib.hid hG
  have Hb1 := Lib.hid hb1
  have Hur := Lib.hid (usedRow_none A n cap (secsOf ss) w1 hG.row Hnu.out (by omega))
  clear hG hb1 Hlook
  go_wp2_with fail
  refine Hur.out.mono ?_
  rintro e2 w2 ⟨rfl, hb2⟩
  have Hb2 := Lib.hid (Hb1.out.trans (hb2.mono Hb1.out.size))
  have HG2 := Lib.hid (HG.out.below Sc.cells_len hb2)
  have Hto := Lib.hid (told_none p c e 0 w2 (fun q hq => by have := HS.out.three_lt hq; have := Hb2.out.size; omega))
  clear hb2 Hur
  go_wp2_with fail
  refine Hto.out.mono ?_
  rintro e3 w3 ⟨⟨s, mb, rfl, hSt, hsw, hmw⟩, hb3⟩
  have Hb3 := Lib.hid (Hb2.out.trans (hb3.mono Hb2.out.size))
  have HG3 := Lib.hid (HG2.out.below Sc.cells_len hb3)
  have HSt := Lib.hid hSt
  have Hgeo := Lib.hid ((HS.out.below Hb3.out).geo)
  rw [← Hn.out] at Hgeo
  have Hfree := Lib.hid (fun W (hW : Below w3.heap.size w3 W) => free_any A n cap (secsOf ss) (L : Int) W ((HG3.out.below Sc.cells_len hW).row) (by omega))
  rw [← Hfr.out] at Hfree
  clear hSt hb3 Hto
  go_wp2_with fail
  refine Hgeo.out.mono ?_
  rintro e4 w4 ⟨rfl, hb4⟩
  have HSt4 := Lib.hid (HSt.out.below hb4)
  have Hb4 := Lib.hid (Hb3.out.trans (hb4.mono Hb3.out.size))
  have Hf4 := Lib.hid (Hfree.out w4 hb4)
  clear hb4 Hgeo Hfree
  go_wp2_with fail
  refine Hf4.out.mono ?_
  rintro e5 w5 ⟨rfl, hb5⟩
  have HSt5 := Lib.hid (HSt4.out.below hb5)
  have Hb5 := Lib.hid (Hb4.out.trans (hb5.mono Hb4.out.size))
  have hs2 : w.heap.size ≤ s := by have := Hb2.out.size; omega
  have hm2 : w.heap.size ≤ mb := by have := Hb2.out.size; omega
  clear hb5 Hf4
  go_wp2_with fail
  go_ret2
  exact ⟨⟨s, mb, rfl, ⟨HSt5.out, HS.out.below Hb5.out, HM.out.below Hb5.out, (fun q hq => by cases hq), Or.inl rfl⟩, hs2, hm2⟩, Hb5.out⟩

end Go.Proofs.YtidbipbangifbaaGreatDoor

/- The walk over carpetbagmake's Next. -/
namespace Go.Proofs.YtidbipbangifbaaGreatDoor
set_option maxRecDepth 100000
open Go.RowKit Go.Maps

/-- A tape as it lies: its own block is new, its bytes are old. -/
structure TapeAt (w : World) (B g : Nat) (A : Option Addr) (n cap : Nat) (xs : List UInt8) (at_ : Nat) : Prop where
  blk : Blk w g 37 #[.slice A n cap, .int .i64 (at_ : Int)]
  row : ByteSl w (fun q => B ≤ q) A n cap xs
  le : at_ ≤ n
  new : B ≤ g
  n1 : n ≤ 1048576

theorem TapeAt.only {w w' : World} {B g n cap at_ : Nat} {A : Option Addr} {xs : List UInt8} {T : Nat → Prop} (h : TapeAt w B g A n cap xs at_) (k : Only T w w') (hg : ¬ T g) (hb : ∀ i, T i → B ≤ i) : TapeAt w' B g A n cap xs at_ :=
  ⟨k.blk h.blk hg, h.row.only k (fun i _ h1 => hb i h1), h.le, h.new, h.n1⟩
theorem TapeAt.below {w w' : World} {B g n cap at_ : Nat} {A : Option Addr} {xs : List UInt8} (h : TapeAt w B g A n cap xs at_) (k : Below w.heap.size w w') : TapeAt w' B g A n cap xs at_ :=
  h.only (Only.of_below (S := Empty) k) (fun h => h) (fun _ h => h.elim)

/-- How Next ends: a number below k. -/
def Nexted (B g : Nat) (A : Option Addr) (n cap : Nat) (xs : List UInt8) (k : Nat) (w w' : World) (e1 : Ending) : Prop :=
  (∃ v : Nat, v < k ∧ e1 = .returned (.int .i64 (v : Int))) ∧ (∃ at2, TapeAt w' B g A n cap xs at2) ∧ Only (· = g) w w'

set_option maxHeartbeats 2000000 in
theorem next_tape (B g : Nat) (A : Option Addr) (n cap : Nat) (xs : List UInt8) (at_ k : Nat) (w : World) (h : TapeAt w B g A n cap xs at_) (hk : 2 ≤ k) (hk2 : k ≤ 1048576) :
    Calls Tryz.prog 9 #[.pointer (some ⟨g, 0, none⟩), .int .i64 (k : Int)] w fun e1 w' => Nexted B g A n cap xs k w w' e1 := by
  have hn1 := h.n1
  have hle := h.le
  have c0 : w.cell? ⟨g, 0, none⟩ = some (.slice A n cap) := h.blk.cell 0
  have c1 : w.cell? ⟨g, 1, none⟩ = some (.int .i64 (at_ : Int)) := h.blk.cell 1
  have f1 := h.blk.frozen 1
  have hgl := h.blk.lt
  have hcap := h.row.2.1
  have hk3 : decide ((k : Int) < 2) = false := by simp; omega
  by_cases hlt : at_ < n
  · obtain ⟨ad, x, rfl, had, hadB, hx, hc⟩ := h.row.at_ hlt
    have hag : ad.block ≠ g := fun e => hadB (by rw [e]; exact h.new)
    have hO : Only (· = g) w (w.setCell ⟨g, 1, none⟩ (.int .i64 ((at_ : Int) + 1))) := (Only.refl (· = g) w).setCell (p := ⟨g, 1, none⟩) (Or.inl rfl) _
    have hb1 := h.blk.set_ 1 (.int .i64 ((at_ : Int) + 1))
    have HT : Hid (TapeAt (w.setCell ⟨g, 1, none⟩ (.int .i64 ((at_ : Int) + 1))) B g (some ad) n cap xs (at_ + 1)) := Lib.hid ⟨by simpa using hb1, h.row.only hO (fun i _ e => by rw [e]; exact h.new), by omega, h.new, hn1⟩
    have hlt2 : decide ((n : Int) ≤ (at_ : Int)) = false := by simp; omega
    have HO := Lib.hid hO
    have hxb : x.toNat < 256 := x.toNat_lt
    have hd : ((at_ : Int) + 1 - 1) = (at_ : Int) := by omega
    have hc2 : (w.setCell ⟨g, 1, none⟩ (.int .i64 ((at_ : Int) + 1))).cell? (ad.add at_) = some (.int .u8 (x.toNat : Int)) := (hO.cell (p := ad.add at_) (by rw [addr_add_block]; exact had) (by rw [addr_add_block]; exact hag)).trans hc
    have hd0 : (w.setCell ⟨g, 1, none⟩ (.int .i64 ((at_ : Int) + 1))).cell? ⟨g, 0, none⟩ = some (.slice (some ad) n cap) := hb1.cell 0
    have hd1 : (w.setCell ⟨g, 1, none⟩ (.int .i64 ((at_ : Int) + 1))).cell? ⟨g, 1, none⟩ = some (.int .i64 ((at_ : Int) + 1)) := by rw [hb1.cell]; rfl
    clear h hx hO hb1
    go_enter Tryz.func9, Tryz.ntmps9
    go_wp2_with fail
    go_region
    go_wp2_with fail
    obtain ⟨w1, hw1⟩ : ∃ w1, w1 = w.setCell ⟨g, 1, none⟩ (.int .i64 ((at_ : Int) + 1)) := ⟨_, rfl⟩
    rw [← hw1] at HT HO hc2 hd0 hd1 ⊢
    have hmod : (x.toNat : Int) % (k : Int) = ((x.toNat % k : Nat) : Int) := by simp
    have hk0 : ((k : Int) == 0) = false := by simp; omega
    clear hw1 c0 c1 f1
    go_region
    go_wp2_with fail
    go_ret
    exact ⟨⟨x.toNat % k, Nat.mod_lt _ (by omega), by simp⟩, ⟨at_ + 1, HT.out.only ((Only.refl Empty w1).drew.drew) (fun h => h) (fun _ h => h.elim)⟩, HO.out.drew.drew⟩
  · have hlt2 : decide ((n : Int) ≤ (at_ : Int)) = true := by simp; omega
    have HT := Lib.hid h
    clear h
    go_enter Tryz.func9, Tryz.ntmps9
    go_wp2_with fail
    go_region
    go_wp2_with fail
    go_ret
    exact ⟨⟨0, by omega, rfl⟩, ⟨at_, HT.out.only (Only.refl Empty w).drew (fun h => h) (fun _ h => h.elim)⟩, (Only.refl _ _).drew⟩

theorem next_tape_v (B g : Nat) (A : Option Addr) (n cap : Nat) (xs : List UInt8) (at_ k : Nat) (kv : Int) (w : World) (h : TapeAt w B g A n cap xs at_) (hk : 2 ≤ k) (hk2 : k ≤ 1048576) (hv : kv = (k : Int)) :
    Calls Tryz.prog 9 #[.pointer (some ⟨g, 0, none⟩), .int .i64 kv] w fun e1 w' => Nexted B g A n cap xs k w w' e1 := by
  subst hv
  exact next_tape B g A n cap xs at_ k w h hk hk2

end Go.Proofs.YtidbipbangifbaaGreatDoor

/- The walk over carpetbagmake's Changes. -/
namespace Go.Proofs.YtidbipbangifbaaGreatDoor
set_option maxRecDepth 100000
open Go.RowKit Go.Maps

/-- A change whose blob was made anew. -/
def BlobOwn (w : World) (base : Nat) (f : Ch) : Prop := ∃ gb, f.A = some ⟨gb, 0, none⟩ ∧ base ≤ gb ∧ Blk w gb 5 (cellsB f.blob) ∧ f.n = f.blob.length ∧ f.cap = f.n ∧ f.n ≤ 1048576
theorem BlobOwn.keep {E : TypeId → Prop} {w w' : World} {base : Nat} {f : Ch} (h : BlobOwn w base f) (k : Keep E w w') (hE : ¬ E 5) : BlobOwn w' base f := by
  obtain ⟨gb, h1, h2, h3, h4⟩ := h
  exact ⟨gb, h1, h2, k _ _ _ h3 hE, h4⟩
theorem BlobOwn.sl {w : World} {base : Nat} {f : Ch} (h : BlobOwn w base f) : ByteSl w (fun q => q < base) f.A f.n f.cap f.blob ∧ (f.A = none → f.n = 0 ∧ f.cap = 0) := by
  obtain ⟨gb, h1, h2, h3, h4, h5, h6⟩ := h
  refine ⟨⟨h4.symm, by omega, by unfold maxLen; omega, fun _ => ⟨_, h1, h3.lt, by show ¬ gb < base; omega, fun j x hx => ?_⟩⟩, fun h => by rw [h1] at h; cases h⟩
  rw [show (⟨gb, 0, none⟩ : Addr).add j = ⟨gb, j, none⟩ by simp [Addr.add]; omega, h3.cell]
  simp [cellsB, hx]

theorem key6 (v : Nat) (h : v < 6) : ∃ kb : ByteArray, (#[.string ⟨#[97]⟩, .string ⟨#[98]⟩, .string ⟨#[99]⟩, .string ⟨#[100, 47, 49]⟩, .string ⟨#[100, 47, 50]⟩, .string ⟨#[97]⟩] : Array Value)[v]? = some (.string kb) ∧ kb.size ≤ 3 := by
  have h1 : v = 0 ∨ v = 1 ∨ v = 2 ∨ v = 3 ∨ v = 4 ∨ v = 5 := by omega
  rcases h1 with rfl | rfl | rfl | rfl | rfl | rfl <;> exact ⟨_, rfl, by decide⟩
theorem len4 (v : Nat) (h : v < 4) : ∃ nb : Nat, (#[.int .i64 0, .int .i64 3, .int .i64 9, .int .i64 30] : Array Value)[v]? = some (.int .i64 (nb : Int)) ∧ nb ≤ 30 := by
  have h1 : v = 0 ∨ v = 1 ∨ v = 2 ∨ v = 3 := by omega
  rcases h1 with rfl | rfl | rfl | rfl
  · exact ⟨0, rfl, by decide⟩
  · exact ⟨3, rfl, by decide⟩
  · exact ⟨9, rfl, by decide⟩
  · exact ⟨30, rfl, by decide⟩

theorem cellsB_setv (xs : List UInt8) (j v : Nat) (hv : v < 256) : (cellsB xs).setIfInBounds j (.int .u8 (v : Int)) = cellsB (xs.set j (UInt8.ofNat v)) := by
  have e : B8 (UInt8.ofNat v) = .int .u8 (v : Int) := by
    unfold B8
    rw [UInt8.toNat_ofNat_of_lt' hv]
  rw [← e, cellsB_set]

/-- How Changes ends: one change or two, made anew. -/
def Changed (B g : Nat) (A : Option Addr) (n cap : Nat) (xs : List UInt8) (w w' : World) (e1 : Ending) : Prop :=
  (∃ A' m cap' l, m ≤ 2 ∧ e1 = .returned (.slice A' m cap') ∧ Chs w' (fun q => q < w.heap.size) A' m cap' l) ∧ (∃ at2, TapeAt w' B g A n cap xs at2) ∧ Only (· = g) w w'

end Go.Proofs.YtidbipbangifbaaGreatDoor
