/- The walk over told: what a row of sectors tells. -/
import Derived.Test.YtnhfmcijadficaaGreatDoorZbj
import Derived.Test.YtnhfmcijadficaaGreatDoorZbg
import Derived.Test.YtnhfmcijadficaaGreatDoorZat
namespace Go.Proofs.YtnhfmcijadficaaGreatDoor
set_option maxRecDepth 100000
open Go.RowKit Go.Maps

/-- What the scan of a flash's sectors finds: records, end, closed. -/
abbrev Scans := Nat → List FD × Nat × Bool
def Tells (ss : List (Nat × List UInt8)) (T : Scans) : Prop := ∀ k m xs, ss[k]? = some (m, xs) → ∃ en, IsEnd xs en ∧ Runs xs en 12 false (T k).1 (T k).2.1 (T k).2.2
theorem tells_ex (ss : List (Nat × List UInt8)) : ∃ T, Tells ss T := by
  have h1 : ∀ k : Nat, ∃ t : List FD × Nat × Bool, ∀ m xs, ss[k]? = some (m, xs) → ∃ en, IsEnd xs en ∧ Runs xs en 12 false t.1 t.2.1 t.2.2 := by
    intro k
    cases hk : ss[k]? with
    | none => exact ⟨([], 0, false), fun m xs h => by cases h⟩
    | some y =>
      obtain ⟨m, xs⟩ := y
      obtain ⟨en, hE⟩ := IsEnd.exists_ xs
      obtain ⟨l, to, c, hR⟩ := Runs.exists_ xs en hE.le xs.length 12 false (by omega)
      refine ⟨(l, to, c), fun m' xs' h => ?_⟩
      cases h
      exact ⟨en, hE, hR⟩
  exact ⟨fun k => Classical.choose (h1 k), fun k m xs h => Classical.choose_spec (h1 k) m xs h⟩
def toldX (T : Scans) (ks : List Nat) : AX := ks.foldl (fun X k => readX X (T k).1 (k : Int)) []
def toldH (Z : Nat) (T : Scans) (ks : List Nat) : HeadV := ks.foldl (fun _ k => readH Z k (T k).1 (T k).2.1 (T k).2.2) ⟨0, 0, 0, 0⟩

/-- How told ends. -/
def ToldTo (p c e Z : Nat) (T : Scans) (ks : List Nat) (w w' : World) (e1 : Ending) : Prop :=
  (∃ s mb M, e1 = .returned (.tuple #[.pointer (some ⟨s, 0, none⟩), .int .i64 0]) ∧ StoreAt w' s mb p c e M (toldH Z T ks) false ∧ amap Sv.a M = toldX T ks ∧ M.length ≤ ks.length * 4096 ∧ w.heap.size ≤ s ∧ w.heap.size ≤ mb) ∧ Below w.heap.size w w'

set_option maxHeartbeats 8000000 in
theorem told_any {m : Nat} (p c e Z Lm n cap : Nat) (A : Option Addr) (l : List (Fin (m + 1))) (T : Scans) (ss : List (Nat × List UInt8)) (w : World) (hs : FS w p c e Z Lm ss) (hA : RowSl finC 1 w Empty A n cap l) (hT : Tells ss T) (hm : m < ss.length) (hn : n ≤ 64) :
    Calls Tryz.prog 37 #[.pointer (some ⟨p, 0, none⟩), .slice A n cap] w fun e1 w' => ToldTo p c e Z T (l.map Fin.val) w w' e1 := by
  have hT3 : ∀ q, Three p c e q → q < w.heap.size := fun q hq => hs.lt q hq
  have HN := Lib.hid (store_new w p c e hT3)
  have Hb := Lib.hid (((Below.refl w.heap.size w).alloc (Nat.le_refl _) (.map #[] 0)).alloc (by simp) (.cells (storeC p w.heap.size ⟨0, 0, 0, 0⟩ false) 106))
  have hmm := @run_makeMap Tryz.prog
  have hncap : n ≤ cap := hA.2.1
  have hcap2 : cap ≤ 9223372036854775807 := by have := hA.2.2.1; unfold maxLen at this; omega
  have hln := hA.1
  have HA := Lib.hid hA
  have HS := Lib.hid hs
  have HT := Lib.hid hT
  have HT3 := Lib.hid hT3
  unfold storeC at HN Hb
  clear hs hA hT hT3
  go_enter Tryz.func37, Tryz.ntmps37
  go_wp2_with fail
  obtain ⟨w1, hw1⟩ : ∃ w1, w1 = (w.alloc (.map #[] 0)).alloc (.cells #[.pointer (some ⟨p, 0, none⟩), .map (some w.heap.size), .int .i64 0, .int .i64 0, .int .i64 0, .int .u32 0, .bool false] 106) := ⟨_, rfl⟩
  rw [← hw1] at HN Hb ⊢
  have Hw1 := Lib.hid hw1
  clear hw1
  have Hrk : Hid (∀ (k : Nat) (M : Al Sv) (h : HeadV) (W : World), k < ss.length → StoreAt W (w.heap.size + 1) w.heap.size p c e M h false → Below w.heap.size w W → M.length ≤ 500000 →
      Calls Tryz.prog 74 #[.pointer (some ⟨w.heap.size + 1, 0, none⟩), .int .i64 (k : Int)] W fun e1 w' => ReadTo (w.heap.size + 1) w.heap.size p c e Z k M (T k).1 (T k).2.1 (T k).2.2 W w' e1 ∧ (T k).1.length ≤ 4096) := Lib.hid (by
    intro k M h W hk hSt hB hM
    obtain ⟨⟨m', xs⟩, hx⟩ : ∃ y, ss[k]? = some y := ⟨_, List.getElem?_eq_getElem hk⟩
    obtain ⟨en, hE, hR⟩ := HT.out k m' xs hx
    have hfs := HS.out.below hB
    have hxl := hfs.len hx
    have hz := hfs.bz
    have hfew := hR.few (by omega)
    refine (read_any (w.heap.size + 1) w.heap.size p c e Z Lm k m' en _ _ ss xs M h _ W hSt hfs hx hE hR hM (fun q hq => ?_)).mono ?_
    · have := HT3.out q hq
      exact ⟨by omega, by omega⟩
    · intro e1 w' h1
      exact ⟨h1, by omega⟩)
  clear Hw1 hmm
  go_loopw [4, 14] (fun sv v wr => ∃ (i : Nat) (Mi : Al Sv), i ≤ n ∧ v = .int .i64 (i : Int) ∧ sv = .pointer (some ⟨w.heap.size + 1, 0, none⟩) ∧ Mi.length ≤ i * 4096 ∧ Hid (StoreAt wr (w.heap.size + 1) w.heap.size p c e Mi (toldH Z T ((l.take i).map Fin.val)) false) ∧ Hid (amap Sv.a Mi = toldX T ((l.take i).map Fin.val)) ∧ Hid (Below w.heap.size w wr)) (fun _ v _ => n - (intOf v).toNat)
  case atStart => exact ⟨0, [], Nat.zero_le _, rfl, rfl, by simp, HN, Lib.hid rfl, Hb⟩
  case round =>
    obtain ⟨i, Mi, hi, rfl, rfl, hMi, HSi, HXi, HB⟩ := hrel
    have hsr := HB.out.size
    by_cases hlt : i < n
    · obtain ⟨b, o, f, rfl, hbl, -, hf, hc⟩ := (HA.out.only (Only.of_below (S := Empty) HB.out) (fun _ _ h => h)).at_ hlt
      have htk := take_snoc l i f hf
      have c0 : wr.cell? ⟨b, o + i, none⟩ = some (.int .i64 (f.val : Int)) := by have := hc 0 (by omega); rw [Nat.mul_one] at this; exact this
      have Hr := Lib.hid (Hrk.out f.val Mi _ wr (by have := f.isLt; omega) HSi.out HB.out (by omega))
      have Hhs : Hid (readH Z f.val (T f.val).1 (T f.val).2.1 (T f.val).2.2 = toldH Z T ((l.take (i + 1)).map Fin.val)) := Lib.hid (by rw [htk, List.map_append, List.map_singleton]; unfold toldH; rw [fold_snoc])
      have Hxs : Hid (readX (toldX T ((l.take i).map Fin.val)) (T f.val).1 (f.val : Int) = toldX T ((l.take (i + 1)).map Fin.val)) := Lib.hid (by rw [htk, List.map_append, List.map_singleton]; unfold toldX; rw [fold_snoc])
      have hbl2 : b < wr.heap.size := hbl
      clear hc hf htk
      obtain ⟨kf, hkf⟩ : ∃ kf : Nat, kf = f.val := ⟨_, rfl⟩
      rw [← hkf] at c0 Hr Hhs Hxs
      clear hkf
      go_wp2_with fail
      refine Hr.out.mono ?_
      rintro e2 w2 ⟨⟨rfl, ⟨M', hS2, hX2, hM2⟩, hO2⟩, hl2⟩
      have HS2 := Lib.hid (Hhs.out ▸ hS2)
      have HX2 : Hid (amap Sv.a M' = toldX T ((l.take (i + 1)).map Fin.val)) := Lib.hid (by rw [hX2, HXi.out, Hxs.out])
      have HB2 := Lib.hid (HB.out.trans (hO2.below hsr (fun k hk h => by omega)))
      have hM3 : M'.length ≤ (i + 1) * 4096 := by omega
      clear Hr hS2 hX2 hO2 HSi HXi c0 Hhs Hxs
      go_wp2_with fail
      go_roundw
      case rel => exact ⟨i + 1, M', by omega, by simp, rfl, hM3, HS2, HX2, HB2⟩
      case measure => simp [intOf]; omega
    · have hin : i = n := by omega
      subst hin
      have hte : l.take i = l := List.take_of_length_le (by omega)
      rw [hte] at HXi HSi
      clear hte
      go_wp2_with fail
      go_ret2
      exact ⟨⟨_, _, Mi, rfl, HSi.out, HXi.out, by rw [List.length_map, hln]; exact hMi, by omega, Nat.le_refl _⟩, HB.out⟩

end Go.Proofs.YtnhfmcijadficaaGreatDoor

/- The walk over Mount of any flash that has a sector to open. -/
namespace Go.Proofs.YtnhfmcijadficaaGreatDoor
set_option maxRecDepth 100000
open Go.RowKit Go.Maps

/-- How a Mount ends that lets no sector go. -/
def MountTo (p c e Z : Nat) (T : Scans) (ks : List Nat) (w w' : World) (e1 : Ending) : Prop :=
  (∃ s mb M, e1 = .returned (.tuple #[.pointer (some ⟨s, 0, none⟩), .int .i64 0]) ∧ StoreAt w' s mb p c e M (toldH Z T ks) false ∧ amap Sv.a M = toldX T ks ∧ M.length ≤ ks.length * 4096 ∧ w.heap.size ≤ s ∧ w.heap.size ≤ mb) ∧ Below w.heap.size w w'
def usedK (m : Nat) (ss : List (Nat × List UInt8)) : List Nat := (usedRow m (secsOf ss)).map Fin.val

set_option maxHeartbeats 4000000 in
theorem mount_any {m : Nat} (p c e Z L : Nat) (T : Scans) (ss : List (Nat × List UInt8)) (w : World) (hs : FS w p c e Z L ss) (hMark : Mark w) (hm : ss.length = m + 1) (hm18 : m ≤ 18) (hT : Tells ss T) (hfree : 0 < (secsOf ss).countP (opensB (L : Int))) :
    Calls Tryz.prog 10 #[.pointer (some ⟨p, 0, none⟩)] w fun e1 w' => MountTo p c e Z T (usedK m ss) w w' e1 := by
  have hz := hs.bz
  have hg := geo_field2 (ss.length : Int) (Z : Int) (L : Int)
  have Hlook := Lib.hid (look_any p c e Z L ss w hs hMark)
  have HS := Lib.hid hs
  have HM := Lib.hid hMark
  have HT := Lib.hid hT
  have hul : (usedRow m (secsOf ss)).length ≤ m + 1 := by unfold usedRow; rw [sorted_len]; exact Nat.le_trans (List.length_filter_le _ _) (by simp)
  obtain ⟨ur, hur⟩ : ∃ ur, ur = usedRow m (secsOf ss) := ⟨_, rfl⟩
  obtain ⟨r, hr⟩ : ∃ r, r = ur.length := ⟨_, rfl⟩
  have hk : usedK m ss = ur.map Fin.val := by rw [hur]; rfl
  rw [hk]
  rw [← hur, ← hr] at hul
  have Hu := Lib.hid hur
  have Hr := Lib.hid hr
  obtain ⟨n, hn⟩ : ∃ n, n = ss.length := ⟨_, rfl⟩
  obtain ⟨fr, hfr⟩ : ∃ fr, fr = (secsOf ss).countP (opensB (L : Int)) := ⟨_, rfl⟩
  rw [← hn] at Hlook hg
  rw [← hfr] at hfree
  have hfrl : fr ≤ 64 := by rw [hfr]; exact Nat.le_trans List.countP_le_length (by rw [secsOf_len]; omega)
  have hnb : n ≤ 64 := by omega
  have Hn := Lib.hid hn
  have Hfr := Lib.hid hfr
  have Hnm : Hid (n = m + 1) := Lib.hid (by omega)
  have hmss : m < ss.length := by omega
  clear hs hMark hT hn hfr hz hm hur hr hk
  go_enter Tryz.func10, Tryz.ntmps10
  go_wp2_with fail
  refine Hlook.out.mono ?_
  rintro e1 w1 ⟨⟨A, cap, rfl, hG⟩, hb1⟩
  have HG := Lib.hid hG
  have Hb1 := Lib.hid hb1
  have Hur := Lib.hid (usedRow_any A n cap (secsOf ss) w1 hG.row Hnm.out hm18)
  rw [← Hu.out, ← Hr.out] at Hur
  clear hG hb1 Hlook
  go_wp2_with fail
  refine Hur.out.mono ?_
  rintro e2 w2 ⟨⟨A2, c2, rfl, hG2⟩, hb2⟩
  have Hb2 := Lib.hid (Hb1.out.trans (hb2.mono Hb1.out.size))
  have HG2 := Lib.hid (HG.out.below Sc.cells_len hb2)
  have Hto := Lib.hid (told_any p c e Z L r c2 A2 ur T ss w2 (HS.out.below Hb2.out) hG2.row HT.out hmss (by omega))
  clear hb2 Hur hG2
  have hr1 : r ≤ 19 := by omega
  clear hul
  go_wp2_with fail
  refine Hto.out.mono ?_
  rintro e3 w3 ⟨⟨s, mb, M, rfl, hSt, hX, hMl, hsw, hmw⟩, hb3⟩
  have Hb3 := Lib.hid (Hb2.out.trans (hb3.mono Hb2.out.size))
  have HG3 := Lib.hid (HG2.out.below Sc.cells_len hb3)
  have HSt := Lib.hid hSt
  have HX := Lib.hid hX
  have HMl := Lib.hid hMl
  have Hgeo := Lib.hid ((HS.out.below Hb3.out).geo)
  rw [← Hn.out] at Hgeo
  have Hfree := Lib.hid (fun W (hW : Below w3.heap.size w3 W) => free_any A n cap (secsOf ss) (L : Int) W ((HG3.out.below Sc.cells_len hW).row) (by omega))
  rw [← Hfr.out] at Hfree
  clear hSt hb3 Hto hX hMl
  go_wp2_with fail
  refine Hgeo.out.mono ?_
  rintro e4 w4 ⟨rfl, hb4⟩
  have HSt4 := Lib.hid (HSt.out.below hb4)
  have Hb4 := Lib.hid (Hb3.out.trans (hb4.mono Hb3.out.size))
  have Hf4 := Lib.hid (Hfree.out w4 hb4)
  clear hb4 Hgeo Hfree
  go_wp2_with fail
  refine Hf4.out.mono ?_
  rintro e5 w5 ⟨rfl, hb5⟩
  have HSt5 := Lib.hid (HSt4.out.below hb5)
  have Hb5 := Lib.hid (Hb4.out.trans (hb5.mono Hb4.out.size))
  have hs2 : w.heap.size ≤ s := by have := Hb2.out.size; omega
  have hm2 : w.heap.size ≤ mb := by have := Hb2.out.size; omega
  clear hb5 Hf4
  go_wp2_with fail
  go_ret2
  exact ⟨⟨s, mb, M, rfl, HSt5.out, HX.out, HMl.out, hs2, hm2⟩, Hb5.out⟩

end Go.Proofs.YtnhfmcijadficaaGreatDoor

/- What a scan finds behind a commit that was laid: what it found before, and the commit's records. -/
namespace Go.Proofs.YtnhfmcijadficaaGreatDoor
set_option maxRecDepth 100000
open Go.RowKit

theorem cut_same {ys zs : List UInt8} {q : Nat} (h : zs.take q = ys.take q) (a b : Nat) (hab : a + b ≤ q) : (zs.drop a).take b = (ys.drop a).take b := by
  have h1 : ∀ l : List UInt8, (l.drop a).take b = ((l.take q).drop a).take b := fun l => by
    rw [List.drop_take, List.take_take, Nat.min_eq_left (by omega)]
  rw [h1 zs, h1 ys, h]
theorem get_same {ys zs : List UInt8} {q : Nat} (h : zs.take q = ys.take q) (i : Nat) (hi : i < q) : zs[i]? = ys[i]? := by
  have h1 : ∀ l : List UInt8, l[i]? = (l.take q)[i]? := fun l => by rw [List.getElem?_take, if_pos hi]
  rw [h1 zs, h1 ys, h]

theorem out_sz2 {ys : List UInt8} (h : (out ys).e = 0) : (out ys).size = szOf ys ∧ szOf ys ≤ ys.length ∧ ((out ys).whole = true → (ys[nA ys + nB ys + 15]?.getD 1) = 0) := by
  have h2 := (out_size h).2
  by_cases hp : pE ys = 0
  · have hs : (out ys).size = szOf ys := by
      unfold out
      rw [if_pos hp]
      split <;> rfl
    refine ⟨hs, by omega, fun hw => ?_⟩
    unfold out at hw
    rw [if_pos hp] at hw
    split at hw
    · exact of_decide_eq_true hw
    · cases hw
  · exfalso
    apply hp
    unfold out at h
    rw [if_neg hp] at h
    exact h

theorem out_head2 {xs : List UInt8} {er : Int} (h : hdE xs = er) (h0 : er ≠ 0) : out xs = ⟨0, 0, [], [], 0, 0, false, er⟩ := by
  have hp : pE xs = er := by unfold pE; rw [if_neg (by rw [h]; exact h0), h]
  unfold out
  rw [hp, if_neg h0]

/-- What Parse answers of a record that is there depends on the record's bytes alone. -/
theorem out_same2 {ys zs : List UInt8} {q : Nat} (he : (out ys).e = 0) (hq : (out ys).size ≤ q) (hql : q ≤ ys.length) (h : zs.take q = ys.take q) : out zs = out ys := by
  obtain ⟨hsz, hlen, -⟩ := out_sz2 he
  rw [hsz] at hq
  have hzl : q ≤ zs.length := by
    have h1 := congrArg List.length h
    rw [List.length_take, List.length_take] at h1
    omega
  have h16 : nA ys + nB ys + 16 ≤ q := hq
  have eK : nK zs = nK ys := by unfold nK; rw [cut_same h 0 1 (by omega)]
  have eT : nT zs = nT ys := by unfold nT; rw [cut_same h 1 4 (by omega)]
  have eA : nA zs = nA ys := by unfold nA; rw [cut_same h 5 1 (by omega)]
  have eB : nB zs = nB ys := by unfold nB; rw [cut_same h 6 2 (by omega)]
  have eC : nC zs = nC ys := by unfold nC; rw [cut_same h 8 1 (by omega)]
  have eS : nS zs = nS ys := by unfold nS; rw [cut_same h 9 2 (by omega)]
  have e9 : zs.take 9 = ys.take 9 := cut_same h 0 9 (by omega)
  have e0 : zs[0]? = ys[0]? := get_same h 0 (by omega)
  have eH : hdE zs = hdE ys := by
    unfold hdE
    rw [e0, eS, e9, eK, eT, eA, eB, eC]
    have h1 : ¬ zs.length < 11 := by omega
    have h2 : ¬ ys.length < 11 := by omega
    simp only [h1, h2, if_false]
  have eZ : szOf zs = szOf ys := by unfold szOf; rw [eA, eB]
  have eP : pE zs = pE ys := by
    unfold pE
    rw [eH, eZ]
    have h1 : ¬ zs.length < szOf ys := by unfold szOf; omega
    have h2 : ¬ ys.length < szOf ys := by unfold szOf; omega
    simp only [h1, h2, if_false]
  have eO : sumOk zs = sumOk ys := by
    unfold sumOk
    rw [eA, eB, cut_same h (nA ys + nB ys + 11) 4 (by omega), show zs.take (nA ys + nB ys + 11) = ys.take (nA ys + nB ys + 11) from cut_same h 0 (nA ys + nB ys + 11) (by omega)]
  unfold out
  rw [eP, eO, eK, eT, eA, eB, eC, eZ, cut_same h 11 (nA ys) (by omega), cut_same h (11 + nA ys) (nB ys) (by omega), get_same h (nA ys + nB ys + 15) (by omega)]

theorem out_first {ys : List UInt8} (he : (out ys).e = 0) : ys[0]? ≠ some 255 := by
  intro h
  have h1 : hdE ys = 11 := by unfold hdE; rw [h]; rfl
  rw [out_head2 h1 (by decide)] at he
  cases he

/-- Records that are laid where the scan ended are found behind what it found. -/
theorem runs_more {xs xs' : List UInt8} {en en' m : Nat} {rs : List RN} (hE' : IsEnd xs' en') (hmay : ∀ r ∈ rs, r.may) (hl : xs'.length = xs.length) : ∀ {pl to : Nat} {c c' : Bool} {L : List FD}, Runs xs en pl c L to c' → c' = false → pl ≤ xs.length → xs'.take to = xs.take to →
    xs'.drop to = laid rs ++ List.replicate m 255 → Runs xs' en' pl c (L ++ fds to rs) (to + (laid rs).length) false := by
  intro pl to c c' L h
  induction h with
  | stop pl c h1 =>
    intro hc hp htk hdr
    subst hc
    have hl2 := congrArg List.length hdr
    rw [List.length_drop, List.length_append, List.length_replicate] at hl2
    have h2 := runs_recs hE' rs pl false (List.replicate m 255) [] (pl + (laid rs).length) false hmay hdr (.stop _ _ (end_le hE' (fun j h3 h4 => by
      have h5 : xs'[pl + (j - pl)]? = (laid rs ++ List.replicate m 255)[j - pl]? := by rw [← List.getElem?_drop, hdr]
      rw [show pl + (j - pl) = j by omega] at h5
      rw [h5, List.getElem?_append_right (by omega), List.getElem?_replicate, if_pos (by omega)])))
    rw [List.append_nil] at h2
    rw [List.nil_append]
    exact h2
  | bad pl c _ _ => intro hc; cases hc
  | go pl c l to c' h1 h2 h3 ih =>
    intro hc hp htk hdr
    have h4 := out_size h2
    rw [List.length_drop] at h4
    obtain ⟨_, f2, f3⟩ := h3.few (by omega)
    have hsame : out (xs'.drop pl) = out (xs.drop pl) := out_same2 (q := to - pl) h2 (by omega) (by rw [List.length_drop]; omega) (cut_same htk pl (to - pl) (by omega))
    have hlt : pl < en' := by
      rcases Nat.lt_or_ge pl en' with h5 | h5
      · exact h5
      · have h6 := hE'.blank pl h5 (by omega)
        have h7 := out_first (ys := xs'.drop pl) (by rw [hsame]; exact h2)
        rw [List.getElem?_drop, Nat.add_zero] at h7
        exact absurd h6 h7
    have h8 := ih hc (by omega) htk hdr
    have h9 := Runs.go (xs := xs') (en := en') pl c (l ++ fds to rs) (to + (laid rs).length) false hlt (by rw [hsame]; exact h2) (by rw [hsame]; exact h8)
    rw [hsame] at h9
    rw [List.append_assoc]
    exact h9

end Go.Proofs.YtnhfmcijadficaaGreatDoor

/- Which records count behind a commit that was laid. -/
namespace Go.Proofs.YtnhfmcijadficaaGreatDoor
set_option maxRecDepth 100000
open Go.RowKit

def Rc.rn (r : Rc) : RN := ⟨r.k, r.t, r.c, r.s.data.toList, r.blob⟩
theorem laid_rn (l : List Rc) : laid (l.map Rc.rn) = l.flatMap Rc.bytes := by
  unfold laid
  rw [List.flatMap_map]
  rfl
theorem mem_fds : ∀ (rs : List RN) (pl : Nat) (d : FD), d ∈ fds pl rs → ∃ r ∈ rs, ∃ q, d = r.fd q
  | [], _, d, h => by cases h
  | r :: rs, pl, d, h => by
    rw [fds] at h
    rcases List.mem_cons.1 h with h | h
    · exact ⟨r, by simp, pl, h⟩
    · obtain ⟨r', h1, q, h2⟩ := mem_fds rs _ d h
      exact ⟨r', by simp [h1], q, h2⟩
theorem fds_len : ∀ (rs : List RN) (pl : Nat), (fds pl rs).length = rs.length
  | [], _ => rfl
  | r :: rs, pl => by rw [fds, List.length_cons, List.length_cons, fds_len rs]

theorem step_keep (F : Nat → Nat × Bool) (d : FD) {t : Nat} (h : t ≠ d.t) : stepT F d t = F t := by unfold stepT put; rw [if_neg h]
theorem step_end (G : Nat → Nat × Bool) (e : FD) {u n : Nat} (h1 : (G u).1 = n) (he : e.t = u ∧ e.k = 3 ∧ e.c = (n : Int)) : stepT G e u = (n, true) := by
  unfold stepT put
  rw [he.1, if_pos rfl, if_pos he.2.1, h1, if_pos he.2.2]
theorem fold_keep {u : Nat} : ∀ (N : List FD) (F : Nat → Nat × Bool), (∀ d ∈ N, d.t = u) → ∀ t, t ≠ u → (N.foldl stepT F) t = F t
  | [], F, _, t, _ => rfl
  | d :: N, F, h, t, ht => by
    rw [List.foldl_cons, fold_keep N _ (fun q hq => h q (by simp [hq])) t ht]
    exact step_keep F d (by rw [h d (by simp)]; exact ht)
theorem fold_old {u : Nat} : ∀ (N : List FD) (F : Nat → Nat × Bool), (∀ d ∈ N, d.t ≠ u) → (N.foldl stepT F) u = F u
  | [], F, _ => rfl
  | d :: N, F, h => by
    rw [List.foldl_cons, fold_old N _ (fun q hq => h q (by simp [hq]))]
    exact step_keep F d (fun e => h d (by simp) e.symm)
theorem fold_cnt {u : Nat} : ∀ (N : List FD) (F : Nat → Nat × Bool), (∀ d ∈ N, d.t = u ∧ d.k ≠ 3) → ((N.foldl stepT F) u).1 = (F u).1 + N.length
  | [], F, _ => rfl
  | d :: N, F, h => by
    rw [List.foldl_cons, fold_cnt N _ (fun q hq => h q (by simp [hq]))]
    obtain ⟨h1, h2⟩ := h d (by simp)
    have h3 : (stepT F d u).1 = (F u).1 + 1 := by
      unfold stepT put
      rw [h1, if_pos rfl, if_neg h2]
    rw [h3, List.length_cons]
    omega

/-- The records of a commit with a Txn of its own count, and what counted counts on. -/
theorem commits_more (L N : List FD) (e : FD) (u : Nat) (hL : ∀ d ∈ L, d.t ≠ u) (hN : ∀ d ∈ N, d.t = u ∧ d.k ≠ 3) (he : e.t = u ∧ e.k = 3 ∧ e.c = (N.length : Int)) : commitsF (L ++ (N ++ [e])) = commitsF L ++ N := by
  have h0 : (countT L) u = (0, false) := fold_old L _ hL
  have hF : countT (L ++ (N ++ [e])) = stepT (N.foldl stepT (countT L)) e := by
    rw [← List.append_assoc, countT_snoc]
    unfold countT
    rw [List.foldl_append]
  have h1 : ((N.foldl stepT (countT L)) u).1 = N.length := by rw [fold_cnt N _ hN, h0]; simp
  have hu : countT (L ++ (N ++ [e])) u = (N.length, true) := by
    rw [hF]
    exact step_end _ _ h1 he
  have ht : ∀ t, t ≠ u → countT (L ++ (N ++ [e])) t = countT L t := fun t hne => by
    rw [hF, step_keep _ _ (by rw [he.1]; exact hne), fold_keep N _ (fun d hd => (hN d hd).1) t hne]
  unfold commitsF
  rw [List.filter_append, List.filter_append]
  have e1 : L.filter (keepT (countT (L ++ (N ++ [e])))) = L.filter (keepT (countT L)) := List.filter_congr (fun d hd => by unfold keepT; rw [ht d.t (hL d hd)])
  have e2 : N.filter (keepT (countT (L ++ (N ++ [e])))) = N := List.filter_eq_self.2 (fun d hd => by
    unfold keepT
    rw [(hN d hd).1, hu]
    simp [(hN d hd).2])
  have e3 : [e].filter (keepT (countT (L ++ (N ++ [e])))) = [] := by
    rw [List.filter_eq_nil_iff]
    intro d hd
    rw [List.mem_singleton] at hd
    subst hd
    unfold keepT
    simp [he.2.1]
  rw [e1, e2, e3, List.append_nil]

/-- A commit's changes as they are found. -/
theorem apply_found (k : Int) (t : Nat) : ∀ (l : List Ch) (X : AX) (pl : Nat), (fds pl ((l.map (Ch.rc · t)).map Rc.rn)).foldl (fun X d => applyD X d k) X = applyL X l k
  | [], X, pl => rfl
  | f :: l, X, pl => by
    rw [List.map_cons, List.map_cons, fds, List.foldl_cons, apply_found k t l]
    have h1 : applyD X ((Rc.rn (f.rc t)).fd pl) k = applyA X f k := by
      unfold applyD applyA Rc.rn RN.fd Ch.rc Ch.rk Ch.rB
      cases f.del <;> simp
    rw [h1]
    rfl

/-- What a sector tells behind a commit that was laid there. -/
theorem read_more (X : AX) (L : List FD) (k : Int) (l : List Ch) (u pl : Nat) (hL : ∀ d ∈ L, d.t ≠ u) : readX X (L ++ fds pl ((recsL l u).map Rc.rn)) k = applyL (readX X L k) l k := by
  unfold recsL
  rw [List.map_append, fds_append]
  unfold readX
  have h1 : fds (pl + (laid ((l.map (Ch.rc · u)).map Rc.rn)).length) ([endRc l.length u].map Rc.rn) = [(Rc.rn (endRc l.length u)).fd (pl + (laid ((l.map (Ch.rc · u)).map Rc.rn)).length)] := rfl
  rw [h1, commits_more L _ _ u hL ?_ ?_, List.foldl_append, apply_found]
  · intro d hd
    obtain ⟨r, hr, q, rfl⟩ := mem_fds _ _ d hd
    obtain ⟨r2, hr2, rfl⟩ := List.mem_map.1 hr
    obtain ⟨f, _, rfl⟩ := List.mem_map.1 hr2
    refine ⟨rfl, ?_⟩
    show ((f.rk : Nat) : Int) ≠ 3
    unfold Ch.rk
    split <;> decide
  · refine ⟨rfl, rfl, ?_⟩
    rw [fds_len, List.length_map, List.length_map]
    rfl

end Go.Proofs.YtnhfmcijadficaaGreatDoor

/- A store that was mounted of any bytes stands as a commit asks. -/
namespace Go.Proofs.YtnhfmcijadficaaGreatDoor
set_option maxRecDepth 100000
open Go.RowKit Go.Maps

theorem okx_read {S : Nat} {X : AX} {L : List FD} {k : Nat} (hX : OkX S X) (hL : ∀ d ∈ L, d.okD) (hk : k < S) : OkX S (readX X L (k : Int)) := by
  unfold readX
  have hC : ∀ d ∈ commitsF L, d.okD ∧ d.k ≠ 3 := fun d hd => by
    obtain ⟨h1, h2⟩ := List.mem_filter.1 hd
    refine ⟨hL d h1, fun h3 => ?_⟩
    unfold keepT at h2
    rw [h3] at h2
    simp at h2
  generalize commitsF L = C at hC
  induction C generalizing X with
  | nil => exact hX
  | cons d C ih =>
    rw [List.foldl_cons]
    refine ih ?_ (fun q hq => hC q (by simp [hq]))
    obtain ⟨h1, h3⟩ := hC d (by simp)
    have h2 := mayB_iff.1 h1.1
    unfold applyD
    split
    · exact fun q hq => hX q ((adel_mem _ _ _).1 hq).1
    · next hne =>
      intro q hq
      rcases (aput_mem _ _ _ _).1 hq with h4 | h4
      · subst h4
        refine ⟨by show d.key.length ≤ 64; omega, ?_, by show (0 : Int) ≤ (k : Int); omega, by show (k : Int) < (S : Int); omega⟩
        show mayB 1 1 (d.key.length : Int) (d.blob.length : Int) 0 = true
        rw [mayB_iff]
        omega
      · exact hX q h4.1

theorem okx_told {ss : List (Nat × List UInt8)} {T : Scans} (hT : Tells ss T) (ks : List Nat) (hk : ∀ k ∈ ks, k < ss.length) : OkX ss.length (toldX T ks) := by
  unfold toldX
  have h0 : OkX ss.length ([] : AX) := fun q hq => by cases hq
  generalize ([] : AX) = X at h0
  induction ks generalizing X with
  | nil => exact h0
  | cons k ks ih =>
    rw [List.foldl_cons]
    have hlt := hk k (by simp)
    obtain ⟨en, hE, hR⟩ := hT k ss[k].1 ss[k].2 (by rw [List.getElem?_eq_getElem hlt])
    exact ih (fun q hq => hk q (by simp [hq])) _ (okx_read h0 hR.oks hlt)

theorem Runs.open_end {xs : List UInt8} {en pl to : Nat} {c c' : Bool} {L : List FD} (h : Runs xs en pl c L to c') : c' = false → en ≤ to := by
  induction h with
  | stop pl c h1 => exact fun _ => h1
  | bad => intro h; cases h
  | go pl c l to c' h1 h2 _ ih => exact ih

theorem used_at {m : Nat} {ss : List (Nat × List UInt8)} {k : Nat} (h : k ∈ usedK m ss) (hm : ss.length = m + 1) : k < ss.length ∧ ∃ e xs, ss[k]? = some (e, xs) ∧ stU xs = true := by
  unfold usedK usedRow sortedBy at h
  obtain ⟨x, hx, rfl⟩ := List.mem_map.1 h
  rw [List.mem_mergeSort] at hx
  have h1 := (List.mem_filter.1 hx).2
  have hlt : x.val < ss.length := by have := x.isLt; omega
  refine ⟨hlt, ss[x.val].1, ss[x.val].2, by rw [List.getElem?_eq_getElem hlt], ?_⟩
  unfold usedP secsOf at h1
  rw [List.getElem?_map, List.getElem?_eq_getElem hlt] at h1
  simp only [Option.map_some, Option.getD_some] at h1
  unfold usedB secOf at h1
  have h2 := of_decide_eq_true h1
  rcases stS_cases ss[x.val].2 with ⟨_, h3⟩ | ⟨h3, _⟩ | ⟨h3, _⟩
  · exact h3
  · simp only at h2
    rw [h3] at h2
    cases h2
  · simp only at h2
    rw [h3] at h2
    cases h2

theorem hinv_told {m Z : Nat} {ss : List (Nat × List UInt8)} {T : Scans} (hT : Tells ss T) (hm : ss.length = m + 1) (hZ : ∀ (k e : Nat) (xs : List UInt8), ss[k]? = some (e, xs) → xs.length = Z) (h12 : 12 ≤ Z) : HInv Z ss (toldH Z T (usedK m ss)) := by
  rcases List.eq_nil_or_concat (usedK m ss) with h | ⟨ks, k, h⟩
  · rw [h]
    exact Or.inl rfl
  · obtain ⟨hlt, e, xs, hx, hU⟩ := used_at (k := k) (by rw [h]; simp) hm
    obtain ⟨en, hE, hR⟩ := hT k e xs hx
    have hlen := hZ k e xs hx
    obtain ⟨f1, f2, f3⟩ := hR.few (by omega)
    have ht : toldH Z T (usedK m ss) = readH Z k (T k).1 (T k).2.1 (T k).2.2 := by
      rw [h, List.concat_eq_append]
      unfold toldH
      rw [fold_snoc]
    rw [ht]
    unfold readH
    cases hc : (T k).2.2 with
    | true => exact Or.inl rfl
    | false =>
      rw [hc] at hR
      have hen := hR.open_end rfl
      refine Or.inr ⟨k, (T k).2.1, rfl, rfl, rfl, by omega, f3, by show (0 : Int) ≤ ((maxT (T k).1 : Nat) : Int); omega, ?_, e, xs, hx, hU, fun j h1 h2 => hE.blank j (by omega) (by omega)⟩
      have := maxT_le (T k).1 (fun d hd => (hR.oks d hd).2)
      show ((maxT (T k).1 : Nat) : Int) ≤ 4294967295
      omega

/-- How a Mount of any bytes ends, for a commit. -/
theorem MountTo.good {p c e Z L m : Nat} {T : Scans} {ss : List (Nat × List UInt8)} {w w' : World} {e1 : Ending} (h : MountTo p c e Z T (usedK m ss) w w' e1) (hs : FS w p c e Z L ss) (hM : Mark w) (hT : Tells ss T) (hm : ss.length = m + 1) :
    (∃ s mb M, e1 = .returned (.tuple #[.pointer (some ⟨s, 0, none⟩), .int .i64 0]) ∧ GoodX w' s mb p c e Z L M (toldH Z T (usedK m ss)) ss ∧ amap Sv.a M = toldX T (usedK m ss) ∧ M.length ≤ (usedK m ss).length * 4096 ∧ w.heap.size ≤ s ∧ w.heap.size ≤ mb) ∧ Below w.heap.size w w' := by
  obtain ⟨⟨s, mb, M, h1, h2, h3, h4, h5, h6⟩, hb⟩ := h
  have hz := hs.bz
  refine ⟨⟨s, mb, M, h1, ⟨h2, hs.below hb, hM.below hb, ?_, hinv_told hT hm (fun k e xs hx => hs.len hx) (by omega)⟩, h3, h4, h5, h6⟩, hb⟩
  rw [h3]
  exact okx_told hT _ (fun k hk => (used_at hk hm).1)

end Go.Proofs.YtnhfmcijadficaaGreatDoor
