/- The walk over BlobOdd. -/
import Derived.Test.YtnhfmcijadficaaGreatDoorZbl
import Derived.Test.YtnhfmcijadficaaGreatDoorZbm
import Derived.Test.YtnhfmcijadficaaGreatDoorZah
import Derived.Deep.DeepCutAuto
import Derived.Lib.SlBytesConst
namespace Go.Proofs.YtnhfmcijadficaaGreatDoor
set_option maxRecDepth 100000
open Go.RowKit Go.Maps

theorem read_len (L : List FD) (k : Int) (X : AX) : (readX X L k).length ≤ X.length + L.length := by
  unfold readX
  have h1 : (commitsF L).length ≤ L.length := List.length_filter_le _ _
  suffices ∀ (C : List FD) (X : AX), (C.foldl (fun X d => applyD X d k) X).length ≤ X.length + C.length by
    have := this (commitsF L) X
    omega
  intro C
  induction C with
  | nil => exact fun X => Nat.le_refl _
  | cons d C ih =>
    intro X
    rw [List.foldl_cons, List.length_cons]
    have h2 := ih (applyD X d k)
    have h3 : (applyD X d k).length ≤ X.length + 1 := by
      unfold applyD
      split
      · unfold adel
        have := List.length_filter_le (fun q : List UInt8 × (Int × List UInt8) => decide (q.1 ≠ d.key)) X
        exact Nat.le_trans (List.length_filter_le _ _) (by omega)
      · exact aput_len _ _ _
    omega
theorem told_len (T : Scans) (B : Nat) : ∀ (ks : List Nat) (X : AX), (∀ k ∈ ks, (T k).1.length ≤ B) → (ks.foldl (fun X k => readX X (T k).1 (k : Int)) X).length ≤ X.length + ks.length * B
  | [], X, _ => by simp
  | k :: ks, X, h => by
    rw [List.foldl_cons, List.length_cons, Nat.add_mul]
    have h1 := told_len T B ks (readX X (T k).1 (k : Int)) (fun q hq => h q (by simp [hq]))
    have h2 := read_len (T k).1 (k : Int) X
    have h3 := h k (by simp)
    omega
theorem usedK_len (m : Nat) (ss : List (Nat × List UInt8)) : (usedK m ss).length ≤ m + 1 := by
  unfold usedK usedRow
  rw [List.length_map, sorted_len]
  exact Nat.le_trans (List.length_filter_le _ _) (by simp)
/-- A flash of six sectors of 256 bytes tells at most ninety keys. -/
theorem few_told {w : World} {p c e L : Nat} {ss : List (Nat × List UInt8)} {T : Scans} (hs : FS w p c e 256 L ss) (hT : Tells ss T) (h6 : ss.length = 5 + 1) : (toldX T (usedK 5 ss)).length ≤ 96 := by
  have h1 := told_len T 16 (usedK 5 ss) [] (fun k hk => by
    obtain ⟨_, e', xs, hx, _⟩ := used_at hk h6
    obtain ⟨en, hE, hR⟩ := hT k e' xs hx
    have hl := hs.len hx
    have := (hR.few (by omega)).1
    omega)
  have h2 := usedK_len 5 ss
  unfold toldX
  have h3 : (usedK 5 ss).length * 16 ≤ 6 * 16 := Nat.mul_le_mul_right _ h2
  simp only [List.length_nil] at h1
  omega

theorem gotR_rowS {α : Type} {cells : α → List Value} {k : Nat} {t : TypeId} {base : Nat} {w : World} {A : Option Addr} {n cap : Nat} {l : List α} {S : Nat → Prop} (h : GotR cells k t base w A n cap l) (hS : ∀ q, base ≤ q → ¬ S q) : RowSl cells k w S A n cap l :=
  ⟨h.row.1, h.row.2.1, h.row.2.2.1, fun hn => by
    obtain ⟨b, o, hA, hb, _, hc⟩ := h.row.2.2.2 hn
    refine ⟨b, o, hA, hb, ?_, hc⟩
    rcases h.here with h0 | ⟨g, cur, h0, h1, _⟩
    · rw [h0] at hA; cases hA
    · rw [h0] at hA; cases hA; exact hS _ h1⟩
theorem marked_cell (w : World) (j : Nat) : (w.alloc (.cells #[.int .u8 110, .int .u8 101, .int .u8 119] 5 (3, 4))).cell? ⟨w.heap.size, j, none⟩ = (#[Value.int .u8 110, .int .u8 101, .int .u8 119] : Array Value)[j]? := by
  have h : (w.alloc (.cells #[.int .u8 110, .int .u8 101, .int .u8 119] 5 (3, 4))).heap[w.heap.size]? = some (.cells #[.int .u8 110, .int .u8 101, .int .u8 119] 5 (3, 4)) := by
    show (w.heap.push _)[w.heap.size]? = _
    simp
  simp only [World.cell?, h]
  rfl
theorem alloc_size1 (w : World) (o : Obj) : (w.alloc o).heap.size = w.heap.size + 1 := by simp
/-- The law's change. -/
def oddCh (key : ByteArray) (g : Nat) : Ch := ⟨false, { data := #[107] } ++ key, some ⟨g, 0, none⟩, 3, 3, [110, 101, 119]⟩
theorem odd_size (key : ByteArray) : (({ data := #[107] } : ByteArray) ++ key).size = key.size + 1 := by
  rw [ByteArray.size_append]
  show 1 + key.size = _
  omega
theorem odd_refu (key : ByteArray) (g : Nat) (h : key.size ≤ 60) : refuC [oddCh key g] (256 - 12) = 0 := by
  have h1 : (oddCh key g).may = true := by
    unfold Ch.may oddCh Ch.rk Ch.rN
    rw [mayB_iff, odd_size]
    simp
    omega
  have h2 : roomL [oddCh key g] ≤ 122 := by
    unfold roomL Ch.sz oddCh Ch.rN
    simp only [List.map_cons, List.map_nil, List.sum_cons, List.sum_nil, odd_size]
    simp
    omega
  unfold refuC
  rw [if_neg (by simp [h1]), if_neg (by simp [dupB]), if_neg (by omega)]

set_option maxHeartbeats 8000000 in
theorem blobOdd_any (a1 : Nat) (A : Option Addr) (n cap : Nat) (xs : List UInt8) (key : ByteArray) (w : World) (h1 : a1 ≤ 255) (hB : ByteSl w (fun k => w.heap.size ≤ k) A n cap xs) (hM : Mark w) :
    Calls Tryz.prog 3 #[.slice A n cap, .int .u8 (a1 : Int), .string key] w fun e w' => e = .returned (.bool true) ∧ Below w.heap.size w w' := by
  have HM := Lib.hid hM
  have HB := Lib.hid hB
  have Hfx := Lib.hid (fixed8_any w hM)
  have h0w : 0 < w.heap.size := hM.pos
  have hncap : n ≤ cap := hB.2.1
  have hcap2 : cap ≤ 9223372036854775807 := by have := hB.2.2.1; unfold maxLen at this; omega
  obtain ⟨r, hr, hrb⟩ : ∃ r : Nat, ((a1 : Int) * 4) % 1000 = (r : Int) ∧ r ≤ 999 := ⟨(a1 * 4) % 1000, by omega, by omega⟩
  clear hM hB
  go_enter Tryz.func3, Tryz.ntmps3
  go_wp2_with fail
  refine Hfx.out.mono ?_
  rintro e0 w0 ⟨rfl, hb0⟩
  have Hb0 := Lib.hid hb0
  have hs0 := hb0.size
  clear Hfx hb0
  by_cases hlong : 400 < n
  · go_wp2_with fail
    go_ret
    exact ⟨rfl, Hb0.out⟩
  by_cases hlong2 : 60 < key.size
  · go_wp2_with fail
    go_ret
    exact ⟨rfl, Hb0.out⟩
  have hn4 : n ≤ 400 := by omega
  have hk6 : key.size ≤ 60 := by omega
  have Hnew := Lib.hid (new_yes 6 256 50 w0 ⟨by decide, by decide, by decide, by decide, by decide, by decide⟩)
  go_wp2_with fail
  refine Hnew.out.mono ?_
  rintro e1 w1 ⟨p, c, er, rfl, hfl, hb1, hp, hc, he⟩
  have Hb1 := Lib.hid (Hb0.out.trans (hb1.mono hs0))
  have hs1 := hb1.size
  have hB1 := (HB.out.only (Only.of_below (S := Empty) Hb1.out) (fun _ _ h => h.elim)).mono (T := Three p c er) (fun i _ hq => by
    show w.heap.size ≤ i
    rcases hq with rfl | rfl | rfl <;> omega)
  have Hpg := Lib.hid (prog_fresh p c er 6 256 50 r n cap xs A w1 hfl hB1 (by omega))
  have Hthr0 : Hid (∀ q, Three p c er q → w.heap.size ≤ q) := Lib.hid (fun q hq => by rcases hq with rfl | rfl | rfl <;> omega)
  clear Hnew hfl hb1 hB1
  go_wp2_with fail
  rw [hr]
  refine Hpg.out.mono ?_
  rintro e2 w2 ⟨rfl, ⟨ss, hfs, h6, hbl⟩, ho2⟩
  obtain ⟨T, hT⟩ := tells_ex ss
  have h2f := odd_free (L := 50) hbl (by omega) hn4
  have Hb2 := Lib.hid (Hb1.out.trans (ho2.below (B := w.heap.size) (by omega) (fun k hk hq => by have := Hthr0.out k hq; omega)))
  have hM2 : Mark w2 := HM.out.below Hb2.out
  have Hmo := Lib.hid (mount_any (m := 5) p c er 256 50 T ss w2 hfs hM2 h6 (by decide) hT (by omega))
  have HT := Lib.hid hT
  have HM2 := Lib.hid hM2
  have Hfs := Lib.hid hfs
  have H2f := Lib.hid h2f
  have hs2 := ho2.size
  have H6 := Lib.hid h6
  clear Hpg hfs hbl ho2 hT hM2 h2f h6 hr
  go_wp2_with fail
  refine Hmo.out.mono ?_
  rintro e3 w3 hmt
  obtain ⟨⟨s, mb, M, rfl, hG, hX, -, hs, hm⟩, hb3⟩ := MountTo.good hmt Hfs.out HM2.out HT.out H6.out
  have hMl : M.length ≤ 96 := by
    have h8 := few_told Hfs.out HT.out H6.out
    rw [← hX] at h8
    unfold amap at h8
    rw [List.length_map] at h8
    exact h8
  have HG := Lib.hid hG
  have HX := Lib.hid hX
  have Hb3 := Lib.hid (Hb2.out.trans (hb3.mono Hb2.out.size))
  have hs3 := hb3.size
  have Hpr := Lib.hid (pairs_any s mb p c er 256 50 ss M _ w3 hG (by omega))
  have Hthr : Hid (∀ q, Three p c er q → q ≠ s ∧ q ≠ mb) := Lib.hid (fun q hq => by have := Hfs.out.lt q hq; omega)
  have Hmut : Hid (∀ q, Mut s mb p c er q → w.heap.size ≤ q ∧ q < w3.heap.size) := Lib.hid (by
    intro q hq
    have hS := hG.st
    have hf := hG.fs.lt q
    rcases hq with rfl | rfl | hq
    · exact ⟨by omega, hS.blk.lt⟩
    · exact ⟨by omega, hS.map.lt⟩
    · exact ⟨Hthr0.out q hq, hf hq⟩)
  clear Hmo hmt hG hX hb3
  go_wp2_with fail
  refine Hpr.out.mono ?_
  rintro e4 w4 ⟨⟨A4, n4, c4, rfl, hP4⟩, hb4⟩
  have HG4 := Lib.hid (HG.out.below hb4)
  have HP4 := Lib.hid hP4
  have Hb4 := Lib.hid (Hb3.out.trans (hb4.mono Hb3.out.size))
  have hs4 := hb4.size
  clear hP4 hb4 Hpr HG
  have kc := fun (w : World) (C : Array Value) (n c : Nat) => Lib.run_convert_bytes_const (P := Tryz.prog) w 22 5 C n c Tryz.underlying22 Tryz.underlying5
  go_wp2_with fail
  have hcell := marked_cell w4
  obtain ⟨wm, hwm⟩ : ∃ wm, wm = w4.alloc (.cells #[.int .u8 110, .int .u8 101, .int .u8 119] 5 (3, 4)) := ⟨_, rfl⟩
  have hwms : wm.heap.size = w4.heap.size + 1 := by rw [hwm]; exact alloc_size1 _ _
  have hbm : Below w4.heap.size w4 wm := by rw [hwm]; exact (Below.refl w4.heap.size w4).alloc (Nat.le_refl _) _
  rw [← hwm] at hcell ⊢
  have hMn : ∀ q, w4.heap.size ≤ q → ¬ Mut s mb p c er q := fun q h1 h2 => by have := (Hmut.out q h2).2; omega
  have hbs : ByteSl wm (Mut s mb p c er) (some ⟨w4.heap.size, 0, none⟩) 3 3 [110, 101, 119] := by
    refine ⟨rfl, by decide, by decide, fun _ => ⟨⟨w4.heap.size, 0, none⟩, rfl, by show w4.heap.size < _; omega, hMn _ (Nat.le_refl _), fun j x hx => ?_⟩⟩
    rw [show (⟨w4.heap.size, 0, none⟩ : Addr).add j = ⟨w4.heap.size, j, none⟩ by simp [Addr.add]; omega, hcell]
    rcases j with _ | _ | _ | j
    · cases hx; rfl
    · cases hx; rfl
    · cases hx; rfl
    · cases hx
  have hchs := chs_lit (w := wm) (S := Mut s mb p c er) (oddCh key w4.heap.size) ⟨hbs, fun h => by cases h⟩ (hMn _ (by omega))
  rw [hwms] at hchs
  have hbc : Below wm.heap.size wm (wm.alloc (.cells #[.bool false, .string ({ data := #[107] } ++ key), .slice (some ⟨w4.heap.size, 0, none⟩) 3 3] 37)) := (Below.refl wm.heap.size wm).alloc (Nat.le_refl _) _
  have hbc4 := hbm.trans (hbc.mono hbm.size)
  obtain ⟨wc, hwc⟩ : ∃ wc, wc = wm.alloc (.cells #[.bool false, .string ({ data := #[107] } ++ key), .slice (some ⟨w4.heap.size, 0, none⟩) 3 3] 37) := ⟨_, rfl⟩
  have hchs2 : Chs wc (Mut s mb p c er) (some ⟨w4.heap.size + 1, 0, none⟩) 1 1 [oddCh key w4.heap.size] := by rw [hwc]; exact hchs
  rw [← hwc] at hbc4 ⊢
  have HGc := Lib.hid (HG4.out.below hbc4)
  have HC := Lib.hid hchs2
  have Hbc := Lib.hid (Hb4.out.trans (hbc4.mono Hb4.out.size))
  have HRc := Lib.hid ((gotR_rowS (S := Mut s mb p c er) HP4.out (fun q h1 h2 => by have := (Hmut.out q h2).2; omega)).below hbc4)
  have HAc := Lib.hid HP4.out.isNil
  have hsc := hbc4.size
  have Hcm := Lib.hid (commit_any s mb p c er 256 50 M _ ss (some ⟨w4.heap.size + 1, 0, none⟩) 1 1 [oddCh key w4.heap.size] wc HGc.out (by omega) HC.out (by decide) Hthr.out (fun hh => by have := (Hmut.out 0 hh).1; omega) (by rw [H6.out]; omega))
  obtain ⟨g, hg⟩ : ∃ g, g = w4.heap.size := ⟨_, rfl⟩
  rw [← hg] at Hcm HC ⊢
  have Href := Lib.hid (odd_refu key g hk6)
  clear hcell hwm hwms hbm hbs hchs hbc hbc4 hwc hchs2 kc HG4 HP4 hMn hg
  refine Hcm.out.mono ?_
  rintro e5 w5 hO
  rcases hO.tells HGc.out HT.out HX.out H6.out Href.out (fun f hf => by rw [List.mem_singleton.1 hf]; rfl) H2f.out with ⟨rfl, hb5⟩ | ⟨rfl, M', h', ss', T', hG5, hT5, hs5, hbl5, htl5, hM5, hcnt5, hon5⟩
  · have HG5 := Lib.hid (HGc.out.below hb5)
    have Hb5 := Lib.hid (Hbc.out.trans (hb5.mono Hbc.out.size))
    have HR5 := Lib.hid (HRc.out.below hb5)
    have Hmo2 := Lib.hid (mount_any (m := 5) p c er 256 50 T ss w5 HG5.out.fs HG5.out.mark H6.out (by decide) HT.out (by have := H2f.out; omega))
    clear hb5 hO Hcm HRc
    go_wp2_with fail
    refine Hmo2.out.mono ?_
    rintro e6 w6 hmt
    obtain ⟨⟨s2, mb2, M2, rfl, hG6, hX6, -, hs6, hm6⟩, hb6⟩ := MountTo.good hmt HG5.out.fs HG5.out.mark HT.out H6.out
    have heq : amap Sv.a M2 = amap Sv.a M := hX6.trans HX.out.symm
    have hMl2 : M2.length ≤ 96 := by
      have h8 := congrArg List.length heq
      unfold amap at h8
      rw [List.length_map, List.length_map] at h8
      omega
    have Hpr6 := Lib.hid (pairs_any s2 mb2 p c er 256 50 ss M2 _ w6 hG6 (by omega))
    rw [heq] at Hpr6
    have HR6 := Lib.hid ((HR5.out.below hb6).mono (T := Empty) (fun _ _ h => h.elim))
    have Hb6 := Lib.hid (Hb5.out.trans (hb6.mono Hb5.out.size))
    clear hmt hG6 hX6 hb6 heq Hmo2 HR5
    go_wp2_with fail
    refine Hpr6.out.mono ?_
    rintro e7 w7 ⟨⟨A7, n7, c7, rfl, hP7⟩, hb7⟩
    have Hsm := Lib.hid (refSame_yes A7 A4 n7 n4 c7 c4 _ w7 hP7.row (HR6.out.below hb7) (by
      have h8 := hP7.row.1
      have h9 : (blobsOf (amap Sv.a M)).length = M.length := by unfold blobsOf amap; simp
      omega))
    have Hb7 := Lib.hid (Hb6.out.trans (hb7.mono Hb6.out.size))
    clear hP7 hb7 Hpr6
    go_wp2_with fail
    refine Hsm.out.mono ?_
    rintro e8 w8 ⟨rfl, hb8⟩
    go_wp2_with fail
    go_ret
    exact ⟨rfl, Hb7.out.trans (hb8.mono Hb7.out.size)⟩
  · have HG5 := Lib.hid hG5
    have HT5 := Lib.hid hT5
    have H65 : Hid (ss'.length = 5 + 1) := Lib.hid (by rw [hs5]; exact H6.out)
    have Hb5 := Lib.hid (Hbc.out.trans (hon5.below (B := w.heap.size) Hbc.out.size (fun k hk hq => by have := (Hmut.out k hq).1; omega)))
    have HR5 := Lib.hid (HRc.out.only hon5 (fun _ _ h => h))
    have HC5 := Lib.hid (HC.out.only hon5 (fun _ _ h => h))
    have Hbl5 := Lib.hid hbl5
    have Htl5 := Lib.hid htl5
    have hsz5 := hon5.size
    have Hmo2 := Lib.hid (mount_any (m := 5) p c er 256 50 T' ss' w5 hG5.fs hG5.mark H65.out (by decide) hT5 (by have := H2f.out; omega))
    clear hO Hcm HRc hG5 hT5 hs5 hon5 hbl5 htl5 hcnt5 HC
    go_wp2_with fail
    refine Hmo2.out.mono ?_
    rintro e6 w6 hmt
    obtain ⟨⟨s2, mb2, M2, rfl, hG6, hX6, -, hs6, hm6⟩, hb6⟩ := MountTo.good hmt HG5.out.fs HG5.out.mark HT5.out H65.out
    have hMl2 : M2.length ≤ 96 := by
      have h8 := few_told HG5.out.fs HT5.out H65.out
      rw [← hX6] at h8
      unfold amap at h8
      rw [List.length_map] at h8
      exact h8
    have heq : blobsOf (amap Sv.a M2) = applyBL (blobsOf (amap Sv.a M)) [oddCh key g] := by rw [hX6]; exact Htl5.out
    have HG6 := Lib.hid hG6
    have HGs := Lib.hid (HG5.out.below hb6)
    have HR6 := Lib.hid (HR5.out.below hb6)
    have HC6 := Lib.hid ((HC5.out.only (Only.of_below (S := Empty) hb6) (fun _ _ h => h.elim)).mono (T := Empty) (fun _ _ h => h.elim))
    have Hb6 := Lib.hid (Hb5.out.trans (hb6.mono Hb5.out.size))
    have Heq := Lib.hid heq
    have hsz6 := hb6.size
    have Hpr6 := Lib.hid (pairs_any s2 mb2 p c er 256 50 ss' M2 _ w6 hG6 (by omega))
    rw [heq] at Hpr6
    obtain ⟨Y, hY⟩ : ∃ Y, Y = applyBL (blobsOf (amap Sv.a M)) [oddCh key g] := ⟨_, rfl⟩
    have hYl : Y.length ≤ 96 := by
      rw [hY, ← heq]
      unfold blobsOf amap
      simp
      exact hMl2
    have Hps := Lib.hid (fun (W : World) (hW : GoodX W s mb p c er 256 50 M' h' ss') => pairs_any s mb p c er 256 50 ss' M' h' W hW (by omega))
    have Hpm := Lib.hid (fun (W : World) (hW : GoodX W s2 mb2 p c er 256 50 M2 (toldH 256 T' (usedK 5 ss')) ss') => pairs_any s2 mb2 p c er 256 50 ss' M2 _ W hW (by omega))
    rw [Hbl5.out, ← hY] at Hps
    rw [heq, ← hY] at Hpm
    rw [← hY] at Hpr6
    have hy0 : (blobsOf (amap Sv.a M)).length ≤ 96 := by unfold blobsOf amap; simp; exact hMl
    have HY := Lib.hid hY
    clear hmt hG6 hX6 hb6 heq Hmo2 HR5 HC5 hY Heq
    go_wp2_with fail
    refine Hpr6.out.mono ?_
    rintro e7 w7 ⟨⟨A7, n7, c7, rfl, hP7⟩, hb7⟩
    have hn7 := hP7.row.1
    have HP7 := Lib.hid hP7
    have HR7 := Lib.hid ((HR6.out.mono (T := Empty) (fun _ _ h => h.elim)).below hb7)
    have HC7 := Lib.hid (HC6.out.only (Only.of_below (S := Empty) hb7) (fun _ _ h => h))
    have hn4l := HR7.out.1
    have Hap := Lib.hid (refApply_any Empty A4 (some ⟨g + 1, 0, none⟩) n4 1 c4 1 (blobsOf (amap Sv.a M)) [oddCh key g] w7 (fun _ _ h => h.elim) HR7.out HAc.out HC7.out (by omega) (by omega))
    rw [← HY.out] at Hap
    have HGs7 := Lib.hid (HGs.out.below hb7)
    have HGm7 := Lib.hid (HG6.out.below hb7)
    have Hb7 := Lib.hid (Hb6.out.trans (hb7.mono Hb6.out.size))
    clear hP7 hb7 Hpr6 HR6 HC6 HR7 HC7 HGs HG6
    go_wp2_with fail
    refine Hap.out.mono ?_
    rintro e8 w8 ⟨⟨A8, n8, c8, rfl, hR8, -⟩, hb8⟩
    have Hsm := Lib.hid (refSame_yes A7 A8 n7 n8 c7 c8 Y w8 (HP7.out.row.below hb8) hR8 (by omega))
    have HGs8 := Lib.hid (HGs7.out.below hb8)
    have HGm8 := Lib.hid (HGm7.out.below hb8)
    have Hb8 := Lib.hid (Hb7.out.trans (hb8.mono Hb7.out.size))
    clear hR8 hb8 Hap HP7 HGs7 HGm7
    go_wp2_with fail
    refine Hsm.out.mono ?_
    rintro e9 w9 ⟨rfl, hb9⟩
    have HGs9 := Lib.hid (HGs8.out.below hb9)
    have HGm9 := Lib.hid (HGm8.out.below hb9)
    have Hb9 := Lib.hid (Hb8.out.trans (hb9.mono Hb8.out.size))
    clear hb9 Hsm HGs8 HGm8
    go_wp2_with fail
    refine (Hps.out w9 HGs9.out).mono ?_
    rintro e10 w10 ⟨⟨A10, n10, c10, rfl, hP10⟩, hb10⟩
    have hn10 := hP10.row.1
    have HP10 := Lib.hid hP10
    have HGm10 := Lib.hid (HGm9.out.below hb10)
    have Hb10 := Lib.hid (Hb9.out.trans (hb10.mono Hb9.out.size))
    clear hP10 hb10 HGs9 HGm9
    go_wp2_with fail
    refine (Hpm.out w10 HGm10.out).mono ?_
    rintro e11 w11 ⟨⟨A11, n11, c11, rfl, hP11⟩, hb11⟩
    have Hsm2 := Lib.hid (refSame_yes A10 A11 n10 n11 c10 c11 Y w11 (HP10.out.row.below hb11) hP11.row (by omega))
    have Hb11 := Lib.hid (Hb10.out.trans (hb11.mono Hb10.out.size))
    clear hP11 hb11 HP10 HGm10
    go_wp2_with fail
    refine Hsm2.out.mono ?_
    rintro e12 w12 ⟨rfl, hb12⟩
    go_wp2_with fail
    go_ret
    exact ⟨rfl, Hb11.out.trans (hb12.mono Hb11.out.size)⟩

theorem blobOdd_int (s1 : Int) (A : Option Addr) (n cap : Nat) (xs : List UInt8) (key : ByteArray) (w : World) (a1 : 0 ≤ s1) (b1 : s1 ≤ 255) (hB : ByteSl w (fun k => w.heap.size ≤ k) A n cap xs) (hM : Mark w) :
    Calls Tryz.prog 3 #[.slice A n cap, .int .u8 s1, .string key] w fun e w' => e = .returned (.bool true) ∧ Below w.heap.size w w' := by
  obtain ⟨x1, rfl⟩ := Int.eq_ofNat_of_zero_le a1
  exact blobOdd_any x1 A n cap xs key w (by omega) hB hM

end Go.Proofs.YtnhfmcijadficaaGreatDoor
