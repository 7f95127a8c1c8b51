/- The walk over blob's keysBySector. -/
import Derived.Test.YtnhfmcijadficaaGreatDoorZay
import Derived.Test.YtnhfmcijadficaaGreatDoorZaw
import Derived.Laws.OwnMore
import Derived.Test.YtnhfmcijadficaaGreatDoorZaq
namespace Go.Proofs.YtnhfmcijadficaaGreatDoor
set_option maxRecDepth 100000
open Go.RowKit Go.Maps

/-- Keys by sectors. -/
def kbsL (M : Al Sv) (S : Nat) (l : List (List UInt8)) : List (List (List UInt8)) := (List.range S).map fun (j : Nat) => l.filter fun k => decide ((svAt M k).sec = (j : Int))
theorem kbsL_len (M : Al Sv) (S : Nat) (l : List (List UInt8)) : (kbsL M S l).length = S := by simp [kbsL]
theorem kbsL_snoc (M : Al Sv) (S : Nat) (l : List (List UInt8)) (x : List UInt8) (j : Nat) (ks : List (List UInt8)) (hj : (svAt M x).sec = (j : Int)) (hk : (kbsL M S l)[j]? = some ks) : kbsL M S (l ++ [x]) = (kbsL M S l).set j (ks ++ [x]) := by
  apply List.ext_getElem?
  intro i
  unfold kbsL at hk ⊢
  rw [List.getElem?_set]
  by_cases hi : i < S
  · rw [List.getElem?_map, List.getElem?_range hi]
    simp only [Option.map_some, List.length_map, List.length_range]
    rw [List.filter_append]
    by_cases hij : j = i
    · subst hij
      rw [List.getElem?_map, List.getElem?_range hi] at hk
      simp only [Option.map_some, Option.some.injEq] at hk
      rw [if_pos rfl, if_pos hi, hk]
      simp [hj]
    · rw [if_neg hij, List.getElem?_map, List.getElem?_range hi]
      simp only [Option.map_some]
      have : decide ((svAt M x).sec = (i : Int)) = false := by rw [hj]; simp; omega
      simp [this]
  · rw [List.getElem?_eq_none (by simp; omega)]
    split
    · split
      · rename_i h1 h2
        simp at h2
        omega
      · rfl
    · rw [List.getElem?_eq_none (by simp; omega)]
theorem kbsL_nil (M : Al Sv) (S : Nat) : kbsL M S [] = List.replicate S [] := by
  unfold kbsL
  apply List.ext_getElem?
  intro i
  rw [List.getElem?_map, List.getElem?_replicate]
  by_cases hi : i < S
  · rw [List.getElem?_range hi, if_pos hi]; rfl
  · rw [List.getElem?_eq_none (by simp; omega), if_neg hi]; rfl

/-- Each blob stands in one of so many sectors. -/
def SecsIn (M : Al Sv) (S : Nat) : Prop := ∀ q ∈ M, 0 ≤ q.2.sec ∧ q.2.sec < (S : Int)

theorem Tryz.infoStrs : (Tryz.prog.info? 67).map (fun i => (i.zero, i.size, i.bytes)) = some (some (.slice none 0 0), 1, 24) := by kernel_rfl
theorem keys_made (w : World) (base bi n : Nat) (A : Option Addr) (cap : Nat) (hle : base ≤ bi) (h : w.ownsRow base 67 1 (.slice A n cap) n (madeCells (Value.cells (.slice none 0 0)) (n * 1)).toList) : KeysAt w base bi A cap (List.replicate n ⟨none, 0, []⟩) ∧ (List.replicate n (⟨none, 0, []⟩ : Kr)).length = n := by
  have hlen : (List.replicate n (⟨none, 0, []⟩ : Kr)).length = n := List.length_replicate
  have hf : (madeCells (Value.cells (.slice none 0 0)) (n * 1)).toList = (List.replicate n (⟨none, 0, []⟩ : Kr)).flatMap Kr.cells := by
    rw [Nat.mul_one, show Value.cells (.slice none 0 0) = #[.slice none 0 0] from by simp [Value.cells], toList_madeCells_one]
    clear h hlen
    induction n with
    | zero => rfl
    | succ n ih => rw [List.replicate_succ, List.replicate_succ, List.flatMap_cons, ← ih]; rfl
  rw [hf] at h
  obtain ⟨A', c', he, hG⟩ := GotR.of_own kr_len h hlen
  cases he
  refine ⟨⟨hle, by rw [hlen]; exact hG, fun i k hk => ?_, fun i j a b ha hb hij => ?_⟩, hlen⟩
  · rw [List.getElem?_replicate] at hk
    split at hk
    · cases hk
      exact GotR.nil_ _ _ _ _ _
    · cases hk
  · rw [List.getElem?_replicate] at ha
    split at ha
    · cases ha
      exact Or.inl rfl
    · cases ha


theorem stand_field0 (a : Int) (v : Value) (W : World) : (Instr.field 134 (.agg #[.int .i64 a, v]) 0).run Tryz.prog W = .ok (.int .i64 a) W := by kernel_rfl
theorem stand_field1 (a : Int) (A : Option Addr) (n c : Nat) (W : World) : (Instr.field 134 (.agg #[.int .i64 a, .slice A n c]) 1).run Tryz.prog W = .ok (.slice A n c) W := by kernel_rfl
theorem keysOf_nil (M : Al Sv) : keysOf [] M = M.map (·.1) := by
  unfold keysOf
  rw [List.filter_eq_self]
  intro k _
  simp [preB]
theorem StM.look_enc {w : World} {b n : Nat} {M : Al Sv} (h : StM w b n M) (k : List UInt8) (hk : k.length ≤ maxLen) : (Instr.lookup 102 (.map (some b)) (encStr k) false).run Tryz.prog w = .ok (svAt M k).v w := by
  have h1 := h.look ⟨k.toArray⟩ (by show k.toArray.size ≤ _; simpa using hk)
  simpa [encStr] using h1

set_option maxHeartbeats 1000000 in
theorem keysBy_any (s mb p c e Z L : Nat) (M : Al Sv) (h : HeadV) (d : Bool) (ss : List (Nat × List UInt8)) (w : World) (hS : StoreAt w s mb p c e M h d) (hs : FS w p c e Z L ss) (hM : M.length ≤ 1048576) (hF : FairM M) (hsec : SecsIn M ss.length) :
    Calls Tryz.prog 87 #[.pointer (some ⟨s, 0, none⟩)] w fun e1 w' => (∃ A cap K bi, e1 = .returned (.slice A ss.length cap) ∧ KeysAt w' w.heap.size bi A cap K ∧ K.length = ss.length ∧ K.map Kr.ks = kbsL M ss.length (M.map (·.1)) ∧ bi ≤ w'.heap.size) ∧ Below w.heap.size w w' := by
  obtain ⟨i0, hi, hz0, hz1, hz2⟩ := info_parts Tryz.infoStrs
  have hz := hs.bz
  have s0 : w.cell? ⟨s, 0, none⟩ = some (.pointer (some ⟨p, 0, none⟩)) := hS.blk.cell 0
  have hg := geo_field0 (ss.length : Int) (Z : Int) (L : Int)
  have HS := Lib.hid hs
  have HK := Lib.hid hS
  have Hat : Hid (∀ x, x ∈ M.map (·.1) → x.length ≤ 64 ∧ ∃ j : Nat, (svAt M x).sec = (j : Int) ∧ j < ss.length) := Lib.hid (fun x hx => by
    obtain ⟨q, hq, rfl⟩ := List.mem_map.1 hx
    have h1 := svAt_v (afind_of_mem hS.map.sorted hq)
    have h2 := hsec q hq
    refine ⟨(hF q hq).1, q.2.sec.toNat, ?_, ?_⟩
    · show (svAt M q.1).sec = _
      rw [h1]
      omega
    · omega)
  obtain ⟨S, hSS⟩ : ∃ S, S = ss.length := ⟨_, rfl⟩
  rw [← hSS] at hg hz Hat ⊢
  have HSS := Lib.hid hSS
  have hsb : S ≤ 64 := hz.2.1
  have hib : i0.bytes * S ≤ 281474976710656 := by rw [hz2]; omega
  clear hs hS hsec hSS hz hF
  go_enter Tryz.func87, Tryz.ntmps87
  go_wp2_with fail
  refine HS.out.geo.mono ?_
  rw [← HSS.out]
  rintro e1 w1 ⟨rfl, hb1⟩
  have Hb1 := Lib.hid hb1
  clear hb1
  go_wp2_with (at_make; refine wpList_make_full _ rfl _ _ 107 rfl w.heap.size 67 i0 (.slice none 0 0) 1 Tryz.underlying107 hi hz0 hz1 _ _ _ _ S rfl rfl rfl rfl hib (by unfold maxLen; omega) Hb1.out.size ?_; intro w2 hrow2 hg2)
  have hk2 := keys_made w2 w.heap.size (w2.heap.size) S _ S (Nat.le_trans Hb1.out.size hg2.size) hrow2
  have hb2 : Below w1.heap.size w1 w2 := ⟨hg2.os, hg2.tape, hg2.output, hg2.size, fun i hi => hg2.block i hi (by simp)⟩
  have Hb2 := Lib.hid (Hb1.out.trans (hb2.mono Hb1.out.size))
  have Hrow2 := Lib.hid hrow2
  have Hkeys := Lib.hid (keys_any s mb p c e M h d ⟨#[]⟩ w2 (HK.out.below Hb2.out) hM)
  have hgo12 : w1.heap.size < w2.heap.size := by
    rcases hrow2.2 with ⟨hn, _⟩ | ⟨g', cap', cur, hv, _, hb, _⟩
    · cases hn
    · cases hv
      exact (Array.getElem?_eq_some_iff.1 hb).1
  clear hk2 hrow2 hg2 hb2
  go_wp2_with fail
  refine Hkeys.out.mono ?_
  rintro e3 w3 ⟨⟨A3, n3, cap3, rfl, hG3⟩, hb3⟩
  have Hb3 := Lib.hid (Hb2.out.trans (hb3.mono Hb2.out.size))
  have hks : keysOf (⟨#[]⟩ : ByteArray).data.toList M = M.map (·.1) := keysOf_nil M
  rw [hks] at hG3
  obtain ⟨LK, hLK⟩ : ∃ LK, LK = M.map (·.1) := ⟨_, rfl⟩
  rw [← hLK] at hG3
  have HLK := Lib.hid hLK
  obtain ⟨go, hgo⟩ : ∃ go, go = w1.heap.size := ⟨_, rfl⟩
  rw [← hgo] at Hrow2 hgo12 ⊢
  have hrow3 := hG3.out (S := fun q => q = go ∨ w3.heap.size ≤ q) (fun q h1 h2 h3 => by rcases h3 with h3 | h3 <;> omega)
  have HG3 := Lib.hid hrow3
  have hgo3 : go < w3.heap.size := by have := hb3.size; omega
  have hk3 := keys_made w3 w.heap.size w3.heap.size S (some ⟨go, 0, none⟩) S Hb3.out.size (own_only Hrow2.out (Only.of_below (S := Empty) hb3) (fun _ _ _ h => h))
  have HK3 := Lib.hid hk3.1
  have HK3l := Lib.hid hk3.2
  have HStore := Lib.hid (HK.out.below Hb3.out)
  have hsl : s < w.heap.size := HK.out.blk.lt
  have hml : mb < w.heap.size := HK.out.map.lt
  have hwgo : w.heap.size ≤ go := by rw [hgo]; exact Hb1.out.size
  have hlen3 : LK.length = n3 := hG3.row.1
  have hn3 : n3 ≤ 1048576 := by rw [← hlen3, HLK.out, List.length_map]; exact hM
  have hcap3 : n3 ≤ cap3 := hG3.row.2.1
  have hcap32 : cap3 ≤ 9223372036854775807 := by have := hG3.row.2.2.1; unfold maxLen at this; omega
  clear hks hLK hG3 hb3 hrow3 hk3 hgo Hrow2 Hkeys
  go_wp2_with fail
  go_loopw [17] (fun v wr => ∃ (i : Nat) (K : List Kr), i ≤ n3 ∧ v = .int .i64 (i : Int) ∧ Hid (KeysAt wr w.heap.size w3.heap.size (some ⟨go, 0, none⟩) S K) ∧ Hid (K.length = S ∧ K.map Kr.ks = kbsL M S (LK.take i)) ∧ Hid (Only (fun q => q = go ∨ w3.heap.size ≤ q) w3 wr)) (fun v _ => n3 - (intOf v).toNat)
  case atStart =>
    refine ⟨0, _, Nat.zero_le _, rfl, HK3, Lib.hid ⟨HK3l.out, ?_⟩, Lib.hid (Only.refl _ _)⟩
    rw [List.take_zero, kbsL_nil, List.map_replicate]
  case round =>
    obtain ⟨i, K, hi, rfl, HKK, HKs, HO⟩ := hrel
    by_cases hlt : i < n3
    · obtain ⟨b, o, x, rfl, hb, -, hx, hc⟩ := (HG3.out.only HO.out (fun _ _ h => h)).at_ hlt
      have c0 := hc 0 (by omega)
      simp only [strC, List.getElem?_cons_zero, Nat.mul_one, Nat.add_zero] at c0
      have hmem : x ∈ M.map (·.1) := by rw [← HLK.out]; exact List.mem_of_getElem? hx
      obtain ⟨hx64, j, hj, hjS⟩ := Hat.out x hmem
      have htk := take_snoc LK i x hx
      obtain ⟨k, hk⟩ : ∃ k, K[j]? = some k := ⟨_, List.getElem?_eq_getElem (by rw [HKs.out.1]; exact hjS)⟩
      have hkk : (kbsL M S (LK.take i))[j]? = some k.ks := by rw [← HKs.out.2, List.getElem?_map, hk]; rfl
      have hsn := kbsL_snoc M S (LK.take i) x j k.ks hj hkk
      rw [← htk] at hsn
      have hkl : k.ks.length ≤ 1048576 := by
        have h1 : k.ks.length ≤ (LK.take i).length := by
          unfold kbsL at hkk
          rw [List.getElem?_map, List.getElem?_range hjS] at hkk
          simp only [Option.map_some, Option.some.injEq] at hkk
          rw [← hkk]
          exact List.length_filter_le _ _
        rw [List.length_take] at h1
        omega
      have Hsn := Lib.hid hsn
      have hnT : ∀ q, q < w.heap.size → ¬ (q = go ∨ w3.heap.size ≤ q) := fun q h1 h2 => by rcases h2 with h2 | h2 <;> omega
      have hlook := (HStore.out.map.only HO.out (hnT mb hml)).look_enc x (by unfold maxLen; omega)
      have s1 : wr.cell? ⟨s, 1, none⟩ = some (.map (some mb)) := (HO.out.blk HStore.out.blk (hnT s hsl)).cell 1
      obtain ⟨f, hf⟩ : ∃ f, f = svAt M x := ⟨_, rfl⟩
      rw [← hf] at hlook hj
      obtain ⟨sec, fg, fn, fc, fx⟩ := f
      simp only at hj
      subst hj
      unfold Sv.v at hlook
      simp only at hlook
      have hfld := stand_field0 (j : Int) (.slice (adr fg) fn fc)
      obtain ⟨d0, e0, hgl⟩ := HKK.out.outer.cell1 hk rfl
      have hwrs : w3.heap.size ≤ wr.heap.size := HO.out.size
      have hal := (Below.refl wr.heap.size wr).alloc (Nat.le_refl _) (.cells #[encStr x] 9)
      have HKa := Lib.hid (HKK.out.below hal)
      have Hstr := Lib.hid (str_lit x wr)
      have Hk := Lib.hid hk
      have HKl := Lib.hid HKs.out.1
      have HO4 := Lib.hid (HO.out.trans (Only.of_below (S := fun q => q = go ∨ w3.heap.size ≤ q) hal))
      have hjS0 : (0 : Int) ≤ (j : Int) := by omega
      have hjS1 : (j : Int) < (S : Int) := by omega
      clear hx hmem htk hkk hsn hf hc hal hk
      go_wp2_with (at_builtin; refine wpList_append_strs rfl _ _ rfl w3.heap.size k.A k.ks.length k.cap k.ks rfl (HKa.out.inner j k Hk.out) _ 1 1 [x] rfl Hstr.out (fun h => by cases h) (by omega) (by simp; omega) ?_; intro A4 c4 w4 hg4 hgr4 hr4 hl4; obtain ⟨d4, e4, hgl4⟩ := (HKa.out.grow rfl Hk.out hgr4).cell1 Hk.out rfl)
      have hput := HKa.out.put rfl Hk.out hg4 rfl hgr4 (hl4.imp id (fun h => ⟨_, h, Nat.le_refl _⟩))
      have HO5 := Lib.hid ((HO4.out.trans (Only.of_grown hgr4 (fun q e _ => Or.inr (hr4 q e)))).trans ((Only.refl (fun q => q = go ∨ w3.heap.size ≤ q) w4).setCell (p := ⟨go, j, none⟩) (Or.inl (Or.inl rfl)) (.slice A4 (k.ks.length + 1) c4)))
      have Hput := Lib.hid hput
      clear hput hg4 hgr4 hr4 hl4
      go_roundw
      case rel =>
        refine ⟨i + 1, _, by omega, by simp, Hput, Lib.hid ⟨by rw [List.length_set]; exact HKl.out, ?_⟩, HO5⟩
        rw [Hsn.out, List.map_set, HKs.out.2]
      case measure => simp [intOf]; omega
    · have hin : i = n3 := by omega
      subst hin
      have ht : LK.take i = LK := List.take_of_length_le (by omega)
      rw [ht, HLK.out] at HKs
      go_wp2_with fail
      go_ret
      exact ⟨⟨_, _, K, _, rfl, HKK.out, HKs.out.1, HKs.out.2, HO.out.size⟩, Hb3.out.trans (HO.out.below (by have := Hb3.out.size; omega) (fun q h1 h2 => by rcases h2 with h2 | h2 <;> omega))⟩

end Go.Proofs.YtnhfmcijadficaaGreatDoor

/- The walk over a plan's lay. -/
namespace Go.Proofs.YtnhfmcijadficaaGreatDoor
set_option maxRecDepth 100000
open Go.RowKit

theorem PlanAt.cell_ {w : World} {g base p mb Z : Nat} {vk : Value} {R : PP} {P : PV} (h : PlanAt w g base p mb Z vk R P) (j : Nat) (v : Value) (x : HeadV) (e : ∀ vs vst, (planC p mb vs vk P.h vst).setIfInBounds j v = planC p mb vs vk x vst) :
    PlanAt (w.setCell ⟨g, j, none⟩ v) g base p mb Z vk R { P with h := x } ∧ PO g base w (w.setCell ⟨g, j, none⟩ v) := by
  have hO : Only (· = g) w (w.setCell ⟨g, j, none⟩ v) := (Only.refl (· = g) w).setCell (p := ⟨g, j, none⟩) (Or.inl rfl) _
  refine ⟨⟨?_, h.secs.far Sc.cells_len h.blk (by decide) hO, h.sts.far (stp_len p Z) h.blk (by decide) hO⟩, hO.mono (fun q _ hq => Or.inl hq), Keep.of_block h.blk (Or.inl rfl) hO⟩
  have h1 := h.blk.set_ j v
  rw [e] at h1
  exact h1

/-- A plan behind a commit that was laid in its head. -/
def PV.laid (P : PV) (k o t : Nat) (A : Option Addr) (n cap : Nat) (l : List Ch) : PV :=
  ⟨P.l, ⟨P.h.sec, P.h.next + (roomL l : Int), P.h.left - (roomL l : Int), P.h.txn + 1⟩, P.sts ++ [.lay k o t A n cap l]⟩

set_option maxHeartbeats 1000000 in
theorem pLay_any (g base p mb Z : Nat) (vk : Value) (R : PP) (P : PV) (k o t : Nat) (A : Option Addr) (n cap : Nat) (l : List Ch) (w : World) (hP : PlanAt w g base p mb Z vk R P) (hlen : l.length = n) (hC : ∀ W, PO g base w W → Chs W Empty A n cap l) (hF : Fair l) (hn : n ≤ 1024) (hst : P.sts.length ≤ 1000000) (hbase : base ≤ w.heap.size)
    (hnx : P.h.next = ((k * Z + o : Nat) : Int)) (ht : P.h.txn + 1 = (t : Int)) (ht1 : 0 ≤ P.h.txn) (ht2 : P.h.txn ≤ 4294901759) (hkz : k * Z + o ≤ 4194304) (hlf : 0 ≤ P.h.left ∧ P.h.left ≤ 65536) :
    Calls Tryz.prog 48 #[.pointer (some ⟨g, 0, none⟩), .slice A n cap] w fun e1 w' => e1 = .returned (.tuple #[]) ∧ (∃ R', PlanAt w' g base p mb Z vk R' (P.laid k o t A n cap l)) ∧ PO g base w w' := by
  obtain ⟨RA, Rc, As, cs⟩ := R
  obtain ⟨pl, ⟨hsec, hnext, hleft, htxn⟩, sts⟩ := P
  simp only at hst hnx ht ht1 ht2 hlf
  have HP := Lib.hid hP
  have HC := Lib.hid hC
  have HF := Lib.hid hF
  have hrl := roomL_le l hF
  rw [hlen] at hrl
  have hlaid : Hid (PV.laid ⟨pl, ⟨hsec, hnext, hleft, htxn⟩, sts⟩ k o t A n cap l = ⟨pl, ⟨hsec, hnext + (roomL l : Int), hleft - (roomL l : Int), htxn + 1⟩, sts ++ [.lay k o t A n cap l]⟩) := Lib.hid rfl
  have Hro := Lib.hid (fun W (hW : PO g base w W) => roomOf_any A n cap l W (hC W hW) hF hn)
  obtain ⟨M, hM⟩ : ∃ M, M = roomL l := ⟨_, rfl⟩
  rw [← hM] at hlaid Hro hrl
  have c7 : w.cell? ⟨g, 7, none⟩ = some (.int .u32 htxn) := hP.blk.cell 7
  have f7 := hP.blk.frozen 7
  have hgl := hP.blk.lt
  have Hnx := Lib.hid hnx
  have Ht := Lib.hid ht
  have hkb := hnx
  have hh1 := hP.cell_ 7 (.int .u32 (htxn + 1)) ⟨hsec, hnext, hleft, htxn + 1⟩ (fun vs vst => by simp [planC])
  obtain ⟨w1, hw1⟩ : ∃ w1, w1 = w.setCell ⟨g, 7, none⟩ (.int .u32 (htxn + 1)) := ⟨_, rfl⟩
  rw [← hw1] at hh1
  have Hh1 := Lib.hid hh1
  have hbn : 0 ≤ hnext ∧ hnext ≤ 4194304 := by omega
  clear hP hC hF hM hnx hh1 hkb ht hlen
  go_enter Tryz.func48, Tryz.ntmps48
  go_wp2_with fail
  rw [← hw1]
  have HP1 := Lib.hid Hh1.out.1.drew
  have HO1 := Lib.hid Hh1.out.2.drew
  have hsz1 : base ≤ w1.drew.heap.size := Nat.le_trans hbase HO1.out.size
  obtain ⟨As2, cs2, w2, hrun, hP2, hO2, c8b, f8b, hB2⟩ := HP1.out.step_run (.lay k o t A n cap l) (Nat.le_trans hst (by decide)) hsz1
  have hv : Stp.v p Z (.lay k o t A n cap l) = .func (.func 91) #[.agg #[.pointer (some ⟨p, 0, none⟩), .int .i64 hnext, .int .u32 (htxn + 1), .slice A n cap]] #[] := by
    show Value.func _ #[.agg #[_, .int .i64 ((k * Z + o : Nat) : Int), .int .u32 (t : Int), _]] _ = _
    rw [← Hnx.out, ← Ht.out]
  rw [hv] at hrun
  have c0 : w1.cell? ⟨g, 0, none⟩ = some (.pointer (some ⟨p, 0, none⟩)) := HP1.out.blk.cell 0
  have c5 : w1.cell? ⟨g, 5, none⟩ = some (.int .i64 hnext) := HP1.out.blk.cell 5
  have c7b : w1.cell? ⟨g, 7, none⟩ = some (.int .u32 (htxn + 1)) := HP1.out.blk.cell 7
  have c8 : w1.cell? ⟨g, 8, none⟩ = some (.slice As sts.length cs) := HP1.out.blk.cell 8
  have hgl1 : g < w1.heap.size := HP1.out.blk.lt
  replace hrun : (Builtin.append_ #[93, 93] 93 #[.slice As sts.length cs, .slice (some ⟨w1.heap.size, 0, none⟩) 1 1]).run Tryz.prog (w1.alloc (.cells #[.func (.func 91) #[.agg #[.pointer (some ⟨p, 0, none⟩), .int .i64 hnext, .int .u32 (htxn + 1), .slice A n cap]] #[]] 150)).drew = .ok (.slice As2 (sts.length + 1) cs2) w2 := hrun
  simp only at c8b hP2 hO2
  obtain ⟨q, hq⟩ : ∃ q, q = sts.length := ⟨_, rfl⟩
  rw [← hq] at hrun c8 c8b hP2 hO2 hst
  have HP2 := Lib.hid hP2
  have HO2 := Lib.hid (HO1.out.trans hO2)
  have hsA : w1.cell? ⟨g, 0, none⟩ = some (.pointer (some ⟨p, 0, none⟩)) ∧ w1.cell? ⟨g, 5, none⟩ = some (.int .i64 hnext) ∧ w1.cell? ⟨g, 7, none⟩ = some (.int .u32 (htxn + 1)) := ⟨c0, c5, c7b⟩
  have hs1 : w1.drew.cell? ⟨g, 0, none⟩ = some (.pointer (some ⟨p, 0, none⟩)) ∧ w1.drew.cell? ⟨g, 5, none⟩ = some (.int .i64 hnext) ∧ w1.drew.cell? ⟨g, 7, none⟩ = some (.int .u32 (htxn + 1)) := hsA
  have HsAl : Hid (∀ o : Obj, (w1.alloc o).drew.cell? ⟨g, 0, none⟩ = some (.pointer (some ⟨p, 0, none⟩)) ∧ (w1.alloc o).drew.cell? ⟨g, 5, none⟩ = some (.int .i64 hnext) ∧ (w1.alloc o).drew.cell? ⟨g, 7, none⟩ = some (.int .u32 (htxn + 1))) := Lib.hid (fun o => by
    have hb := HP1.out.blk.alloc o
    exact ⟨hb.cell 0, hb.cell 5, hb.cell 7⟩)
  have hs2 : w2.cell? ⟨g, 0, none⟩ = some (.pointer (some ⟨p, 0, none⟩)) ∧ w2.cell? ⟨g, 5, none⟩ = some (.int .i64 hnext) ∧ w2.cell? ⟨g, 7, none⟩ = some (.int .u32 (htxn + 1)) := ⟨hB2.cell 0, hB2.cell 5, hB2.cell 7⟩
  have hs3 : (w2.setCell ⟨g, 8, none⟩ (.slice As2 (q + 1) cs2)).cell? ⟨g, 0, none⟩ = some (.pointer (some ⟨p, 0, none⟩)) ∧ (w2.setCell ⟨g, 8, none⟩ (.slice As2 (q + 1) cs2)).cell? ⟨g, 5, none⟩ = some (.int .i64 hnext) ∧ (w2.setCell ⟨g, 8, none⟩ (.slice As2 (q + 1) cs2)).cell? ⟨g, 7, none⟩ = some (.int .u32 (htxn + 1)) := ⟨HP2.out.blk.cell 0, HP2.out.blk.cell 5, HP2.out.blk.cell 7⟩
  clear hv hq hP2 hO2 c7 f7 hgl hw1 hB2 hsA
  refine wp_region_held_drew (S := fun W => W.cell? ⟨g, 0, none⟩ = some (.pointer (some ⟨p, 0, none⟩)) ∧ W.cell? ⟨g, 5, none⟩ = some (.int .i64 hnext) ∧ W.cell? ⟨g, 7, none⟩ = some (.int .u32 (htxn + 1))) (by kernel_rfl) hs1 (fun hHeld => ?_)
  refine take_yes 0 14 ?_ rfl rfl (by kernel_rfl) (by kernel_rfl) (by kernel_rfl) (fun _ _ _ h => h) (by kernel_rfl) ?_ (by assumption) ?_; rotate_left; (focus (intro w hSw; (try dsimp only at hSw); go_simp; all_goals with_reducible rfl)); simp only [Act.put, List.setIfInBounds_toArray, List.set_cons_zero, List.set_cons_succ]
  refine take_yes 1 15 ?_ rfl rfl (by kernel_rfl) (by kernel_rfl) (by kernel_rfl) (fun _ _ _ h => h) (by kernel_rfl) ?_ (by assumption) ?_; rotate_left; (focus (intro w hSw; (try dsimp only at hSw); go_simp; all_goals with_reducible rfl)); simp only [Act.put, List.setIfInBounds_toArray, List.set_cons_zero, List.set_cons_succ]
  refine take_yes 2 16 ?_ rfl rfl (by kernel_rfl) (by kernel_rfl) (by kernel_rfl) (fun _ _ _ h => h) (by kernel_rfl) ?_ (by assumption) ?_; rotate_left; (focus (intro w hSw; (try dsimp only at hSw); go_simp; all_goals with_reducible rfl)); simp only [Act.put, List.setIfInBounds_toArray, List.set_cons_zero, List.set_cons_succ]
  refine take_yes 3 17 ?_ rfl rfl (by kernel_rfl) (by kernel_rfl) (by kernel_rfl) (fun _ _ _ h => h) (by kernel_rfl) ?_ (by assumption) ?_; rotate_left; (focus (intro w hSw; (try dsimp only at hSw); go_simp; all_goals with_reducible rfl)); simp only [Act.put, List.setIfInBounds_toArray, List.set_cons_zero, List.set_cons_succ]
  refine take_yes 5 19 ?_ rfl rfl (by kernel_rfl) (by kernel_rfl) (by kernel_rfl) (fun _ _ _ h => h) (by kernel_rfl) ?_ (by assumption) ?_; rotate_left; (focus (intro w hSw; (try dsimp only at hSw); go_simp; all_goals with_reducible rfl)); simp only [Act.put, List.setIfInBounds_toArray, List.set_cons_zero, List.set_cons_succ]
  refine take_yes 6 20 ?_ rfl rfl (by kernel_rfl) (by kernel_rfl) (by kernel_rfl) (fun _ _ _ h => h) (by kernel_rfl) ?_ (by assumption) ?_; rotate_left; (focus (intro w hSw; (try dsimp only at hSw); go_simp; all_goals with_reducible rfl)); simp only [Act.put, List.setIfInBounds_toArray, List.set_cons_zero, List.set_cons_succ]
  refine take_yes 7 21 ?_ rfl rfl (by kernel_rfl) (by kernel_rfl) (by kernel_rfl) (fun _ _ _ h => h) (by kernel_rfl) ?_ (by assumption) ?_; rotate_left; (focus (intro w hSw; (try dsimp only at hSw); go_simp; all_goals with_reducible rfl)); simp only [Act.put, List.setIfInBounds_toArray, List.set_cons_zero, List.set_cons_succ]
  refine take_yes 8 22 ?_ rfl rfl (by kernel_rfl) (by kernel_rfl) (by kernel_rfl) (fun _ _ _ h => h) (by kernel_rfl) ?_ (by assumption) ?_; rotate_left; (focus (intro w hSw; (try dsimp only at hSw); go_simp; all_goals with_reducible rfl)); simp only [Act.put, List.setIfInBounds_toArray, List.set_cons_zero, List.set_cons_succ]
  refine take_yes 9 23 ?_ rfl rfl (by kernel_rfl) (by kernel_rfl) (by kernel_rfl) (fun _ _ _ h => h) (by kernel_rfl) ?_ (by assumption) ?_; rotate_left; (focus (intro w hSw; (try dsimp only at hSw); go_simp; all_goals with_reducible rfl)); simp only [Act.put, List.setIfInBounds_toArray, List.set_cons_zero, List.set_cons_succ]
  refine take_yes 10 24 ?_ rfl rfl (by kernel_rfl) (by kernel_rfl) (by kernel_rfl) (fun _ _ _ h => h) (by kernel_rfl) ?_ (by assumption) ?_; rotate_left; (focus (intro w hSw; (try dsimp only at hSw); go_simp; all_goals with_reducible rfl)); simp only [Act.put, List.setIfInBounds_toArray, List.set_cons_zero, List.set_cons_succ]
  refine take_yes 11 25 ?_ rfl rfl (by kernel_rfl) (by kernel_rfl) (by kernel_rfl) (fun _ _ _ h => h) (by kernel_rfl) ?_ (by assumption) ?_; rotate_left; (focus (intro w hSw; (try dsimp only at hSw); go_simp; all_goals with_reducible rfl)); simp only [Act.put, List.setIfInBounds_toArray, List.set_cons_zero, List.set_cons_succ]
  refine take_yes 12 26 ?_ rfl rfl (by kernel_rfl) (by kernel_rfl) (by kernel_rfl) (fun _ _ _ h => h) (by kernel_rfl) ?_ (by assumption) ?_; rotate_left; (focus (intro w hSw; (try dsimp only at hSw); go_simp; all_goals with_reducible rfl)); simp only [Act.put, List.setIfInBounds_toArray, List.set_cons_zero, List.set_cons_succ]
  refine take_yes 13 27 ?_ rfl rfl (by kernel_rfl) (by kernel_rfl) (by kernel_rfl) (fun _ _ _ h => h) (by kernel_rfl) ?_ (by assumption) ?_; rotate_left; (focus (intro w hSw; (try dsimp only at hSw); go_simp; all_goals with_reducible rfl)); simp only [Act.put, List.setIfInBounds_toArray, List.set_cons_zero, List.set_cons_succ]
  refine take_yes 14 28 ?_ rfl rfl (by kernel_rfl) (by kernel_rfl) (by kernel_rfl) (fun _ _ _ h => h) (by kernel_rfl) ?_ (by assumption) ?_; rotate_left; (focus (intro w hSw; (try dsimp only at hSw); go_simp; all_goals with_reducible rfl)); simp only [Act.put, List.setIfInBounds_toArray, List.set_cons_zero, List.set_cons_succ]
  refine take_yes 15 29 ?_ rfl rfl (by kernel_rfl) (by kernel_rfl) (by kernel_rfl) (fun _ _ _ h => h) (by kernel_rfl) ?_ (by assumption) ?_; rotate_left; (focus (intro w hSw; (try dsimp only at hSw); go_simp; all_goals with_reducible rfl)); simp only [Act.put, List.setIfInBounds_toArray, List.set_cons_zero, List.set_cons_succ]
  refine take_yes 16 30 ?_ rfl rfl (by kernel_rfl) (by kernel_rfl) (by kernel_rfl) (fun _ _ _ h => h) (by kernel_rfl) ?_ (by assumption) ?_; rotate_left; (focus (intro w hSw; (try dsimp only at hSw); go_simp; all_goals with_reducible rfl)); simp only [Act.put, List.setIfInBounds_toArray, List.set_cons_zero, List.set_cons_succ]
  refine take_yes 17 31 ?_ rfl rfl (by kernel_rfl) (by kernel_rfl) (by kernel_rfl) (fun _ _ _ h => h) (by kernel_rfl) ?_ (by assumption) ?_; rotate_left; (focus (intro w hSw; (try dsimp only at hSw); go_simp; all_goals with_reducible rfl)); simp only [Act.put, List.setIfInBounds_toArray, List.set_cons_zero, List.set_cons_succ]
  refine take_yes 18 32 ?_ rfl rfl (by kernel_rfl) (by kernel_rfl) (by kernel_rfl) (fun _ _ _ h => h) (by kernel_rfl) ?_ (by assumption) ?_; rotate_left; (focus (intro w hSw; (try dsimp only at hSw); go_simp; all_goals with_reducible rfl)); simp only [Act.put, List.setIfInBounds_toArray, List.set_cons_zero, List.set_cons_succ]
  refine take_yes 19 33 ?_ rfl rfl (by kernel_rfl) (by kernel_rfl) (by kernel_rfl) (fun _ _ _ h => h) (by kernel_rfl) ?_ (by assumption) ?_; rotate_left; (focus (intro w hSw; (try dsimp only at hSw); go_simp; all_goals with_reducible rfl)); simp only [Act.put, List.setIfInBounds_toArray, List.set_cons_zero, List.set_cons_succ]
  refine take_yes 20 34 ?_ rfl rfl (by kernel_rfl) (by kernel_rfl) (by kernel_rfl) (fun _ _ _ h => h) (by kernel_rfl) ?_ (by assumption) ?_; rotate_left; (focus (intro w hSw; (try dsimp only at hSw); go_simp; all_goals with_reducible rfl)); simp only [Act.put, List.setIfInBounds_toArray, List.set_cons_zero, List.set_cons_succ]
  refine take_yes 21 35 ?_ rfl rfl (by kernel_rfl) (by kernel_rfl) (by kernel_rfl) (fun _ _ _ h => h) (by kernel_rfl) ?_ (by assumption) ?_; rotate_left; (focus (intro w hSw; (try dsimp only at hSw); go_simp; all_goals with_reducible rfl)); simp only [Act.put, List.setIfInBounds_toArray, List.set_cons_zero, List.set_cons_succ]
  refine wpAnyH_ready (rs := [4, 22]) (by kernel_rfl) (by simp) ?_
  refine AllReadyH.cons rfl (fun K hK => ?_) (AllReadyH.cons rfl (fun K hK => ?_) AllReadyH.nil)
  · go_simp
    refine hK.out _ _ hs1 (fun _ => ?_)
    clear hK K
    try simp only [Act.put, List.setIfInBounds_toArray, List.set_cons_zero, List.set_cons_succ]
    refine wpAnyH_ready (rs := [22]) (by kernel_rfl) (by simp) ?_
    refine AllReadyH.cons rfl (fun K hK => ?_) AllReadyH.nil
    go_simp
    refine hK.out _ _ (HsAl.out _) (fun _ => ?_)
    clear hK K
    try simp only [Act.put, List.setIfInBounds_toArray, List.set_cons_zero, List.set_cons_succ]
    refine wpAnyH_ready (rs := [23]) (by kernel_rfl) (by simp) ?_
    refine AllReadyH.cons rfl (fun K hK => ?_) AllReadyH.nil
    refine step_append_eq (ts := 93) rfl (.tmp 18) (.tmp 36) rfl rfl rfl rfl hrun ?_
    refine hK.out _ _ hs2 (fun _ => ?_)
    clear hK K
    try simp only [Act.put, List.setIfInBounds_toArray, List.set_cons_zero, List.set_cons_succ]
    refine take_yes 24 38 ?_ rfl rfl (by kernel_rfl) (by kernel_rfl) (by kernel_rfl) (fun _ _ _ h => h) (by kernel_rfl) ?_ (by assumption) ?_; rotate_left; (focus (intro w hSw; (try dsimp only at hSw); go_simp; all_goals with_reducible rfl)); simp only [Act.put, List.setIfInBounds_toArray, List.set_cons_zero, List.set_cons_succ]
    refine take_yes 25 39 ?_ rfl rfl (by kernel_rfl) (by kernel_rfl) (by kernel_rfl) (fun _ _ _ h => h) (by kernel_rfl) ?_ (by assumption) ?_; rotate_left; (focus (intro w hSw; (try dsimp only at hSw); go_simp; all_goals with_reducible rfl)); simp only [Act.put, List.setIfInBounds_toArray, List.set_cons_zero, List.set_cons_succ]
    refine wpAnyH_ready (rs := [26]) (by kernel_rfl) (by simp) ?_
    refine AllReadyH.cons rfl (fun K hK => ?_) AllReadyH.nil
    go_simp
    refine hK.out _ _ (hs3) (fun _ => ?_)
    clear hK K
    try simp only [Act.put, List.setIfInBounds_toArray, List.set_cons_zero, List.set_cons_succ]
    refine wpAnyH_done (by kernel_rfl) ?_ _
    obtain ⟨w3, h3⟩ : ∃ w3, w3 = w2.setCell ⟨g, 8, none⟩ (.slice As2 (q + 1) cs2) := ⟨_, rfl⟩
    rw [← h3] at HP2 HO2 ⊢
    clear h3 hrun c0 c5 c7b c8 c8b f8b hgl1 hsz1 hs1 HsAl hs2 hs3 hHeld
    have Hr3 := Lib.hid (Hro.out w3 HO2.out)
    go_wp2_with fail
    refine Hr3.out.mono ?_
    rintro e4 w4 ⟨rfl, hb4⟩
    have HP4 := Lib.hid (HP2.out.below hb4)
    have HO4 := Lib.hid (HO2.out.trans (PO.of_below (g := g) (base := base) hb4))
    have q5 : w4.cell? ⟨g, 5, none⟩ = some (.int .i64 hnext) := HP4.out.blk.cell 5
    have q6 : w4.cell? ⟨g, 6, none⟩ = some (.int .i64 hleft) := HP4.out.blk.cell 6
    have r5 := HP4.out.blk.frozen 5
    have r6 := HP4.out.blk.frozen 6
    have hgl4 := HP4.out.blk.lt
    have h5 := HP4.out.cell_ 5 (.int .i64 (hnext + (M : Int))) ⟨hsec, hnext + (M : Int), hleft, htxn + 1⟩ (fun vs vst => by simp [planC])
    have h6 := h5.1.cell_ 6 (.int .i64 (hleft - (M : Int))) ⟨hsec, hnext + (M : Int), hleft - (M : Int), htxn + 1⟩ (fun vs vst => by simp [planC])
    have HE := Lib.hid (And.intro h6.1 ((HO4.out.trans h5.2).trans h6.2))
    clear hb4 h5 h6 Hr3 Hro
    go_wp2_with fail
    go_end0
    refine ⟨rfl, ⟨⟨RA, Rc, As2, cs2⟩, ?_⟩, HE.out.2⟩
    rw [hlaid.out]
    exact HE.out.1

  · go_simp
    refine hK.out _ _ (HsAl.out _) (fun _ => ?_)
    clear hK K
    try simp only [Act.put, List.setIfInBounds_toArray, List.set_cons_zero, List.set_cons_succ]
    refine wpAnyH_ready (rs := [4]) (by kernel_rfl) (by simp) ?_
    refine AllReadyH.cons rfl (fun K hK => ?_) AllReadyH.nil
    go_simp
    refine hK.out _ _ (HsAl.out _) (fun _ => ?_)
    clear hK K
    try simp only [Act.put, List.setIfInBounds_toArray, List.set_cons_zero, List.set_cons_succ]
    refine wpAnyH_ready (rs := [23]) (by kernel_rfl) (by simp) ?_
    refine AllReadyH.cons rfl (fun K hK => ?_) AllReadyH.nil
    refine step_append_eq (ts := 93) rfl (.tmp 18) (.tmp 36) rfl rfl rfl rfl hrun ?_
    refine hK.out _ _ hs2 (fun _ => ?_)
    clear hK K
    try simp only [Act.put, List.setIfInBounds_toArray, List.set_cons_zero, List.set_cons_succ]
    refine take_yes 24 38 ?_ rfl rfl (by kernel_rfl) (by kernel_rfl) (by kernel_rfl) (fun _ _ _ h => h) (by kernel_rfl) ?_ (by assumption) ?_; rotate_left; (focus (intro w hSw; (try dsimp only at hSw); go_simp; all_goals with_reducible rfl)); simp only [Act.put, List.setIfInBounds_toArray, List.set_cons_zero, List.set_cons_succ]
    refine take_yes 25 39 ?_ rfl rfl (by kernel_rfl) (by kernel_rfl) (by kernel_rfl) (fun _ _ _ h => h) (by kernel_rfl) ?_ (by assumption) ?_; rotate_left; (focus (intro w hSw; (try dsimp only at hSw); go_simp; all_goals with_reducible rfl)); simp only [Act.put, List.setIfInBounds_toArray, List.set_cons_zero, List.set_cons_succ]
    refine wpAnyH_ready (rs := [26]) (by kernel_rfl) (by simp) ?_
    refine AllReadyH.cons rfl (fun K hK => ?_) AllReadyH.nil
    go_simp
    refine hK.out _ _ (hs3) (fun _ => ?_)
    clear hK K
    try simp only [Act.put, List.setIfInBounds_toArray, List.set_cons_zero, List.set_cons_succ]
    refine wpAnyH_done (by kernel_rfl) ?_ _
    obtain ⟨w3, h3⟩ : ∃ w3, w3 = w2.setCell ⟨g, 8, none⟩ (.slice As2 (q + 1) cs2) := ⟨_, rfl⟩
    rw [← h3] at HP2 HO2 ⊢
    clear h3 hrun c0 c5 c7b c8 c8b f8b hgl1 hsz1 hs1 HsAl hs2 hs3 hHeld
    have Hr3 := Lib.hid (Hro.out w3 HO2.out)
    go_wp2_with fail
    refine Hr3.out.mono ?_
    rintro e4 w4 ⟨rfl, hb4⟩
    have HP4 := Lib.hid (HP2.out.below hb4)
    have HO4 := Lib.hid (HO2.out.trans (PO.of_below (g := g) (base := base) hb4))
    have q5 : w4.cell? ⟨g, 5, none⟩ = some (.int .i64 hnext) := HP4.out.blk.cell 5
    have q6 : w4.cell? ⟨g, 6, none⟩ = some (.int .i64 hleft) := HP4.out.blk.cell 6
    have r5 := HP4.out.blk.frozen 5
    have r6 := HP4.out.blk.frozen 6
    have hgl4 := HP4.out.blk.lt
    have h5 := HP4.out.cell_ 5 (.int .i64 (hnext + (M : Int))) ⟨hsec, hnext + (M : Int), hleft, htxn + 1⟩ (fun vs vst => by simp [planC])
    have h6 := h5.1.cell_ 6 (.int .i64 (hleft - (M : Int))) ⟨hsec, hnext + (M : Int), hleft - (M : Int), htxn + 1⟩ (fun vs vst => by simp [planC])
    have HE := Lib.hid (And.intro h6.1 ((HO4.out.trans h5.2).trans h6.2))
    clear hb4 h5 h6 Hr3 Hro
    go_wp2_with fail
    go_end0
    refine ⟨rfl, ⟨⟨RA, Rc, As2, cs2⟩, ?_⟩, HE.out.2⟩
    rw [hlaid.out]
    exact HE.out.1

end Go.Proofs.YtnhfmcijadficaaGreatDoor

/- The walk over blob's settle. -/
namespace Go.Proofs.YtnhfmcijadficaaGreatDoor
set_option maxRecDepth 100000
open Go.RowKit Go.Maps

/-- A key's sector is told anew. -/
def reSec1 (j : Int) (M : Al (Int × List UInt8)) (k : List UInt8) : Al (Int × List UInt8) := aput M k (j, ((afind M k).getD (0, [])).2)
def reSecL (j : Int) (M : Al (Int × List UInt8)) (ks : List (List UInt8)) : Al (Int × List UInt8) := ks.foldl (reSec1 j) M
/-- The sectors of all keys are told anew. -/
def reSecK : Nat → Al (Int × List UInt8) → List (List (List UInt8)) → Al (Int × List UInt8)
  | _, M, [] => M
  | j, M, ks :: K => reSecK (j + 1) (reSecL (j : Int) M ks) K
theorem reSecL_snoc (j : Int) (M : Al (Int × List UInt8)) (ks : List (List UInt8)) (k : List UInt8) : reSecL j M (ks ++ [k]) = reSec1 j (reSecL j M ks) k := by simp [reSecL, List.foldl_append]
theorem reSecK_snoc : ∀ (K : List (List (List UInt8))) (j : Nat) (M : Al (Int × List UInt8)) (ks : List (List UInt8)), reSecK j M (K ++ [ks]) = reSecL ((j + K.length : Nat) : Int) (reSecK j M K) ks
  | [], j, M, ks => rfl
  | k :: K, j, M, ks => by
    show reSecK (j + 1) _ (K ++ [ks]) = _
    rw [reSecK_snoc K (j + 1)]
    show reSecL ((j + 1 + K.length : Nat) : Int) _ ks = reSecL ((j + (K.length + 1) : Nat) : Int) _ ks
    rw [show j + 1 + K.length = j + (K.length + 1) by omega]
    rfl

theorem StM.put_len {w : World} {b n : Nat} {M : Al Sv} (h : StM w b n M) (k : List UInt8) (f : Sv) (hk : (afind M k).isSome = true) : (aput M k f).length = M.length := by
  have ht := World.ownsMap.tidy h Tryz.standKeyed
  have h1 := size_del (k := .string k) ht
  rw [has_sm, hk, del_sm] at h1
  unfold smD at h1
  rw [Maps.size_eq, Maps.size_eq, List.length_map, List.length_map] at h1
  unfold aput
  rw [ains_len]
  simpa using h1
theorem afind_isSome {α : Type} (M : Al α) (k : List UInt8) : (afind M k).isSome = M.any (fun p => p.1 == k) := by
  unfold afind
  rw [Option.isSome_map]
  induction M with
  | nil => rfl
  | cons q r ih =>
    rw [List.any_cons, List.find?_cons]
    cases q.1 == k
    · exact ih
    · rfl
theorem isSome_aput {α : Type} (M : Al α) (k k' : List UInt8) (v : α) (h : (afind M k').isSome = true) : (afind (aput M k v) k').isSome = true := by
  rw [afind_isSome, List.any_eq_true] at h ⊢
  obtain ⟨q, hq, he⟩ := h
  by_cases hk : q.1 = k
  · exact ⟨(k, v), (aput_mem M k v _).2 (Or.inl rfl), by rw [← hk]; exact he⟩
  · exact ⟨q, (aput_mem M k v q).2 (Or.inr ⟨hq, hk⟩), he⟩

/-- The plan's value, as settle takes it. -/
def planV (p mb : Nat) (vs vk : Value) (h : HeadV) (vst : Value) : Value := .agg (planC p mb vs vk h vst)

/-- A store while its keys are told anew. -/
structure Settling (wr : World) (s mb p c e base bi n : Nat) (A : Option Addr) (cap : Nat) (K : List Kr) (h : HeadV) (d : Bool) (X : Al (Int × List UInt8)) (w : World) : Prop where
  st : ∃ M, StoreAt wr s mb p c e M h d ∧ amap Sv.a M = X ∧ M.length = n ∧ FairM M ∧ ∀ k ∈ K, ∀ x ∈ k.ks, (afind M x).isSome = true
  keys : KeysAt wr base bi A cap K
  only : Only (fun q => q = s ∨ q = mb) w wr

theorem Settling.drew {wr : World} {s mb p c e base bi n : Nat} {A : Option Addr} {cap : Nat} {K : List Kr} {h : HeadV} {d : Bool} {X : Al (Int × List UInt8)} {w : World} (H : Settling wr s mb p c e base bi n A cap K h d X w) : Settling wr.drew s mb p c e base bi n A cap K h d X w := by
  obtain ⟨⟨M, hM, h1⟩, hK, hO⟩ := H
  have hD := (Only.refl Empty wr).drew
  refine ⟨⟨M, ⟨hD.blk hM.blk (fun h => h), hM.map.only hD (fun h => h), hM.bl.only hD (fun _ _ h => h.elim)⟩, h1⟩, hK.only hD (fun _ _ _ h => h), hO.drew⟩

set_option maxHeartbeats 1000000 in
theorem settle_one (s mb p c e base bi n j : Nat) (A : Option Addr) (cap : Nat) (K : List Kr) (h : HeadV) (d : Bool) (X : Al (Int × List UInt8)) (w wr : World) (x : List UInt8) (hx64 : x.length ≤ 64) (hn : n ≤ 1048576) (hin : ∃ k ∈ K, x ∈ k.ks) (hsb : s < base ∧ mb < base) (H : Settling wr s mb p c e base bi n A cap K h d X w) :
    ∃ f w2, (Instr.lookup 102 (.map (some mb)) (encStr x) false).run Tryz.prog wr = .ok (Sv.v f) wr ∧ (Instr.mapUpdate 102 (.map (some mb)) (encStr x) (Sv.v ⟨(j : Int), f.g, f.n, f.cap, f.xs⟩)).run Tryz.prog wr = .ok () w2 ∧ Settling w2 s mb p c e base bi n A cap K h d (reSec1 (j : Int) X x) w ∧
      w2.cell? ⟨s, 1, none⟩ = some (.map (some mb)) := by
  obtain ⟨⟨M, hM, hX, hlen, hfair, hall⟩, hK, hO⟩ := H
  obtain ⟨k, hk, hxk⟩ := hin
  have hxM := hall k hk x hxk
  have hlook := hM.map.look_enc x (by unfold maxLen; omega)
  have hput := hM.map.put_run (by unfold maxLen; omega) ⟨x.toArray⟩ (by show x.toArray.size ≤ _; simp; unfold maxLen; omega) ⟨(j : Int), (svAt M x).g, (svAt M x).n, (svAt M x).cap, (svAt M x).xs⟩
  obtain ⟨w2, hr, hm2, ho2⟩ := hput
  have hne := hM.ne
  have hbat := hM.bl.at_ x
  have hlen2 := hM.map.put_len x ⟨(j : Int), (svAt M x).g, (svAt M x).n, (svAt M x).cap, (svAt M x).xs⟩ hxM
  have hb2 := ho2.blk hM.blk (fun e => hne e.symm)
  refine ⟨svAt M x, w2, hlook, by simpa [encStr] using hr, ⟨⟨_, ⟨hb2, ?_, ?_⟩, ?_, by rw [hlen2, hlen], ?_, ?_⟩, hK.only ho2 (fun i h1 _ h2 => by omega), hO.trans (ho2.mono (fun _ _ h => Or.inr h))⟩, hb2.cell 1⟩
  · have := hm2.tight
    exact this
  · exact BlobsAt.put (hM.bl.only ho2 (fun i _ h => Or.inr (Or.inl h))) _ _ ⟨hbat.1.only ho2 (fun i _ h => Or.inr (Or.inl h)), hbat.2⟩
  · rw [aput_map, hX]
    unfold reSec1
    rw [← hX, afind_map]
    unfold svAt
    cases hf : afind M x with
    | none => rw [hf] at hxM; cases hxM
    | some f => rfl
  · intro q hq
    rcases (aput_mem _ _ _ q).1 hq with rfl | ⟨h1, _⟩
    · exact ⟨hx64, svAt_fair hfair x⟩
    · exact hfair q h1
  · intro k' hk' y hy
    exact isSome_aput _ _ _ _ (hall k' hk' y hy)

end Go.Proofs.YtnhfmcijadficaaGreatDoor
