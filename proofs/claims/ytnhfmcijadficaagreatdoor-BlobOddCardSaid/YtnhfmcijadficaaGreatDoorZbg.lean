/- Mount of a flash none of whose sectors is used. -/
import Derived.Test.YtnhfmcijadficaaGreatDoorZbf
import Derived.Test.YtnhfmcijadficaaGreatDoorZaw
import Derived.Carry
import Derived.Test.YtnhfmcijadficaaGreatDoorZad
namespace Go.Proofs.YtnhfmcijadficaaGreatDoor
set_option maxRecDepth 100000
open Go.RowKit Go.Maps

set_option maxHeartbeats 1000000 in
theorem ins_none (A : Option Addr) (cap : Nat) (f : Value) (w : World) : Calls Tryz.prog 139 #[.slice A 0 cap, .int .i64 0, .int .i64 0, f] w fun e w' => e = .returned (.tuple #[]) ∧ w = w' := by
  go_enter Tryz.func139, Tryz.ntmps139
  go_wp2_with fail
  refine wp_loop_rounds 1 ?_
  rw [rounds_succ]
  go_wp2_with fail
  go_end0
  exact ⟨rfl, rfl⟩

set_option maxHeartbeats 1000000 in
theorem stable_none (A : Option Addr) (cap : Nat) (f : Value) (w : World) : Calls Tryz.prog 71 #[.slice A 0 cap, f] w fun e w' => e = .returned (.tuple #[]) ∧ w = w' := by
  have H : Calls Tryz.prog 112 #[.slice A 0 cap, .int .i64 0, f] w fun e w' => e = .returned (.tuple #[]) ∧ w = w' := by
    have Hi := Lib.hid (ins_none A cap f w)
    go_enter Tryz.func112, Tryz.ntmps112
    go_wp2_with fail
    refine wp_loop_rounds 1 ?_
    rw [rounds_succ]
    go_wp2_with fail
    refine Hi.out.mono ?_
    rintro e1 w1 ⟨rfl, rfl⟩
    go_wp2_with fail
    refine wp_loop_rounds 1 ?_
    rw [rounds_succ]
    go_wp2_with fail
    go_end0
    exact ⟨rfl, rfl⟩
  have HH := Lib.hid H
  clear H
  go_enter Tryz.func71, Tryz.ntmps71
  go_wp2_with fail
  refine HH.out.mono ?_
  rintro e1 w1 ⟨rfl, rfl⟩
  go_wp2_with fail
  go_end0
  exact ⟨rfl, rfl⟩

set_option maxHeartbeats 2000000 in
theorem usedRow_none (A : Option Addr) (n cap : Nat) (l : List Sc) (w : World) (hS : Secs w Empty A n cap l) (hno : ∀ s ∈ l, s.st ≠ 2) (hn : n ≤ 1048576) :
    Calls Tryz.prog 36 #[.slice A n cap] w fun e w' => e = .returned (.slice none 0 0) ∧ Below w.heap.size w w' := by
  have HS := Lib.hid hS
  have Hno := Lib.hid hno
  have hncap : n ≤ cap := hS.2.1
  have hcap2 : cap ≤ 9223372036854775807 := by have := hS.2.2.1; unfold maxLen at this; omega
  have Hst := Lib.hid (stable_none none 0)
  clear hS hno
  go_enter Tryz.func36, Tryz.ntmps36
  go_wp2_with fail
  have hb0 := (Below.refl w.heap.size w).alloc (Nat.le_refl _) (.cells #[.slice A n cap] 84)
  have Hb0 := Lib.hid hb0
  clear hb0
  go_loopw [3, 8] (fun r v wr => ∃ i : Nat, i ≤ n ∧ v = .int .i64 (i : Int) ∧ r = .slice none 0 0 ∧ Hid (Below w.heap.size w wr)) (fun _ v _ => n - (intOf v).toNat)
  case atStart => exact ⟨0, Nat.zero_le _, rfl, rfl, Hb0⟩
  case round =>
    obtain ⟨i, hi, rfl, rfl, HB⟩ := hrel
    by_cases hlt : i < n
    · obtain ⟨b, o, s, rfl, hb, -, hf, hc⟩ := RowSl.at_ (cells := Sc.cells) (k := 3) (HS.out.only (Only.of_below (S := Empty) HB.out) (fun _ _ h => h)) hlt
      have hst := Hno.out s (List.mem_of_getElem? hf)
      have hst2 : (s.st == 2) = false := by simpa using hst
      have c0 : wr.cell? ⟨b, o + i * 3, none⟩ = some (.int .i64 s.st) := hc 0 (by omega)
      have c1 : wr.cell? ⟨b, o + i * 3 + 1, none⟩ = some (.int .u32 s.q) := hc 1 (by omega)
      have c2 : wr.cell? ⟨b, o + i * 3 + 2, none⟩ = some (.int .i64 s.er) := hc 2 (by omega)
      have Hal := Lib.hid (HB.out.trans (((Below.refl wr.heap.size wr).alloc (Nat.le_refl _) (.cells #[.int .i64 s.st, .int .u32 s.q, .int .i64 s.er] 96)).mono HB.out.size))
      clear hc hf hst
      go_wp2_with fail
      go_roundw
      case rel => exact ⟨i + 1, by omega, by simp, rfl, Hal⟩
      case measure => simp [intOf]; omega
    · have hin : i = n := by omega
      subst hin
      go_wp2_with fail
      refine (Hst.out _ _).mono ?_
      rintro e1 w1 ⟨rfl, rfl⟩
      go_wp2_with fail
      go_ret
      exact ⟨rfl, HB.out⟩

/-- A store as it is made. -/
theorem store_new (w : World) (p c e : Nat) (hT : ∀ q, Three p c e q → q < w.heap.size) :
    StoreAt ((w.alloc (.map #[] 0)).alloc (.cells (storeC p w.heap.size ⟨0, 0, 0, 0⟩ false) 106)) (w.heap.size + 1) w.heap.size p c e [] ⟨0, 0, 0, 0⟩ false := by
  have h1 := Blk.new (w.alloc (.map #[] 0)) 106 (storeC p w.heap.size ⟨0, 0, 0, 0⟩ false)
  refine ⟨by simpa using h1, (StM.made w).alloc _, fun q hq => by cases hq⟩

set_option maxHeartbeats 2000000 in
theorem told_none (p c e cap : Nat) (w : World) (hT : ∀ q, Three p c e q → q < w.heap.size) :
    Calls Tryz.prog 37 #[.pointer (some ⟨p, 0, none⟩), .slice none 0 cap] w fun e1 w' => (∃ s mb, e1 = .returned (.tuple #[.pointer (some ⟨s, 0, none⟩), .int .i64 0]) ∧ StoreAt w' s mb p c e [] ⟨0, 0, 0, 0⟩ false ∧ w.heap.size ≤ s ∧ w.heap.size ≤ mb) ∧ Below w.heap.size w w' := by
  have HN := Lib.hid (store_new w p c e hT)
  have Hb := Lib.hid (((Below.refl w.heap.size w).alloc (Nat.le_refl _) (.map #[] 0)).alloc (by simp) (.cells (storeC p w.heap.size ⟨0, 0, 0, 0⟩ false) 106))
  have hmm := @run_makeMap Tryz.prog
  unfold storeC at HN Hb
  clear hT
  go_enter Tryz.func37, Tryz.ntmps37
  go_wp2_with fail
  refine wp_loop_rounds 1 ?_
  rw [rounds_succ]
  go_wp2_with fail
  go_ret2
  exact ⟨⟨_, _, rfl, HN.out, by omega, Nat.le_refl _⟩, Hb.out⟩

/-- How a Mount ends that lets no sector go. -/
def Mounted (p c e Z L : Nat) (ss : List (Nat × List UInt8)) (w w' : World) (e1 : Ending) : Prop :=
  (∃ s mb, e1 = .returned (.tuple #[.pointer (some ⟨s, 0, none⟩), .int .i64 0]) ∧ GoodX w' s mb p c e Z L [] ⟨0, 0, 0, 0⟩ ss ∧ w.heap.size ≤ s ∧ w.heap.size ≤ mb) ∧ Below w.heap.size w w'

set_option maxHeartbeats 4000000 in
theorem mount_none (p c e Z L : Nat) (ss : List (Nat × List UInt8)) (w : World) (hs : FS w p c e Z L ss) (hMark : Mark w) (hno : ∀ x ∈ ss, stU x.2 = false) (hfree : 0 < (secsOf ss).countP (opensB (L : Int))) :
    Calls Tryz.prog 10 #[.pointer (some ⟨p, 0, none⟩)] w fun e1 w' => Mounted p c e Z L ss w w' e1 := by
  have hz := hs.bz
  have hg := geo_field2 (ss.length : Int) (Z : Int) (L : Int)
  have Hlook := Lib.hid (look_any p c e Z L ss w hs hMark)
  have hnu : ∀ x ∈ secsOf ss, x.st ≠ 2 := fun x hx => by
    unfold secsOf at hx
    obtain ⟨y, hy, rfl⟩ := List.mem_map.1 hx
    have h1 := hno y hy
    show stS y.2 ≠ 2
    rcases stS_cases y.2 with ⟨_, h2⟩ | ⟨h2, _⟩ | ⟨h2, _⟩
    · rw [h1] at h2; cases h2
    · rw [h2]; decide
    · rw [h2]; decide
  have HS := Lib.hid hs
  have HM := Lib.hid hMark
  have Hnu := Lib.hid hnu
  obtain ⟨n, hn⟩ : ∃ n, n = ss.length := ⟨_, rfl⟩
  obtain ⟨fr, hfr⟩ : ∃ fr, fr = (secsOf ss).countP (opensB (L : Int)) := ⟨_, rfl⟩
  rw [← hn] at Hlook hg
  rw [← hfr] at hfree
  have hfrl : fr ≤ 64 := by rw [hfr]; exact Nat.le_trans List.countP_le_length (by rw [secsOf_len]; omega)
  have hnb : n ≤ 64 := by omega
  have Hn := Lib.hid hn
  have Hfr := Lib.hid hfr
  clear hs hMark hno hnu hn hfr hz
  go_enter Tryz.func10, Tryz.ntmps10
  go_wp2_with fail
  refine Hlook.out.mono ?_
  rintro e1 w1 ⟨⟨A, cap, rfl, hG⟩, hb1⟩
  have HG := Lib.hid hG
  have Hb1 := Lib.hid hb1
  have Hur := Lib.hid (usedRow_none A n cap (secsOf ss) w1 hG.row Hnu.out (by omega))
  clear hG hb1 Hlook
  go_wp2_with fail
  refine Hur.out.mono ?_
  rintro e2 w2 ⟨rfl, hb2⟩
  have Hb2 := Lib.hid (Hb1.out.trans (hb2.mono Hb1.out.size))
  have HG2 := Lib.hid (HG.out.below Sc.cells_len hb2)
  have Hto := Lib.hid (told_none p c e 0 w2 (fun q hq => by have := HS.out.three_lt hq; have := Hb2.out.size; omega))
  clear hb2 Hur
  go_wp2_with fail
  refine Hto.out.mono ?_
  rintro e3 w3 ⟨⟨s, mb, rfl, hSt, hsw, hmw⟩, hb3⟩
  have Hb3 := Lib.hid (Hb2.out.trans (hb3.mono Hb2.out.size))
  have HG3 := Lib.hid (HG2.out.below Sc.cells_len hb3)
  have HSt := Lib.hid hSt
  have Hgeo := Lib.hid ((HS.out.below Hb3.out).geo)
  rw [← Hn.out] at Hgeo
  have Hfree := Lib.hid (fun W (hW : Below w3.heap.size w3 W) => free_any A n cap (secsOf ss) (L : Int) W ((HG3.out.below Sc.cells_len hW).row) (by omega))
  rw [← Hfr.out] at Hfree
  clear hSt hb3 Hto
  go_wp2_with fail
  refine Hgeo.out.mono ?_
  rintro e4 w4 ⟨rfl, hb4⟩
  have HSt4 := Lib.hid (HSt.out.below hb4)
  have Hb4 := Lib.hid (Hb3.out.trans (hb4.mono Hb3.out.size))
  have Hf4 := Lib.hid (Hfree.out w4 hb4)
  clear hb4 Hgeo Hfree
  go_wp2_with fail
  refine Hf4.out.mono ?_
  rintro e5 w5 ⟨rfl, hb5⟩
  have HSt5 := Lib.hid (HSt4.out.below hb5)
  have Hb5 := Lib.hid (Hb4.out.trans (hb5.mono Hb4.out.size))
  have hs2 : w.heap.size ≤ s := by have := Hb2.out.size; omega
  have hm2 : w.heap.size ≤ mb := by have := Hb2.out.size; omega
  clear hb5 Hf4
  go_wp2_with fail
  go_ret2
  exact ⟨⟨s, mb, rfl, ⟨HSt5.out, HS.out.below Hb5.out, HM.out.below Hb5.out, (fun q hq => by cases hq), Or.inl rfl⟩, hs2, hm2⟩, Hb5.out⟩

end Go.Proofs.YtnhfmcijadficaaGreatDoor

/- Rows of places, and their stable sort. -/
namespace Go.Proofs.YtnhfmcijadficaaGreatDoor
set_option maxRecDepth 100000
open Go.RowKit Go.Sort

section
variable {m : Nat}
def encF (x : Fin (m + 1)) : Value := .int .i64 (x.val : Int)
def finC (x : Fin (m + 1)) : List Value := [encF x]
theorem fin_len (x : Fin (m + 1)) : (finC x).length = 1 := rfl
theorem fin_one (x : Fin (m + 1)) : ∀ v ∈ finC x, v.oneCell' = true := by
  intro v hv
  simp only [finC, List.mem_cons, List.not_mem_nil, or_false] at hv
  subst hv
  rfl
theorem flat_fin (l : List (Fin (m + 1))) : l.flatMap finC = l.map encF := by
  induction l with
  | nil => rfl
  | cons a l ih => rw [List.flatMap_cons, List.map_cons, ih]; rfl
/-- A sort's world: only the row's block has turned. -/
theorem sortWorld_only (w : World) (blk k : Nat) (dk : Array (Fin (m + 1))) (os : Array Obj) : Only (· = blk) w (sortWorld encF w blk 0 k dk os) := by
  refine ⟨rfl, rfl, rfl, ?_, fun j hj hne => ?_⟩
  · unfold sortWorld grow
    simp [Sort.ahead]
  · unfold sortWorld
    rw [heap_grow_old _ _ (by simpa [Sort.ahead] using hj)]
    unfold putRow mapBlock
    show (Array.modify w.heap blk _)[j]? = _
    rw [Array.getElem?_modify, if_neg (fun h => hne h.symm)]
theorem CmpAt.only {W W' : World} {g b o n cap blk : Nat} {l : List Sc} (h : CmpAt W g b o n cap l) (k : Only (· = blk) W W') (hg : g ≠ blk) (hb : b ≠ blk) : CmpAt W' g b o n cap l :=
  ⟨(k.cell (p := ⟨g, 0, none⟩) h.gl hg).trans h.box, Nat.lt_of_lt_of_le h.gl k.size, Nat.lt_of_lt_of_le h.bl k.size, fun i s hs => (k.cell (p := ⟨b, o + i * 3 + 1, none⟩) h.bl hb).trans (h.row i s hs)⟩
/-- A sector's Seq, by its place. -/
def seqOf (sl : List Sc) (x : Fin (m + 1)) : Int := (sl[x.val]?.map Sc.q).getD 0
theorem ltOf_cf (q : Fin (m + 1) → Int) : ltOf (fun x y => cf32 (q x) (q y)) = ltQ q := by
  funext x y
  show decide (cf32 (q x) (q y) < 0) = decide (q x < q y)
  unfold cf32
  by_cases h1 : q x < q y
  · rw [if_pos h1]; simp [h1]
  · rw [if_neg h1]
    split <;> simp [h1]
/-- The row's sorted list. -/
def sortedBy (q : Fin (m + 1) → Int) (l : List (Fin (m + 1))) : List (Fin (m + 1)) := l.mergeSort (fun x y => !ltL q y x)
theorem sorted_len (q : Fin (m + 1) → Int) (l : List (Fin (m + 1))) : (sortedBy q l).length = l.length := by unfold sortedBy; simp

theorem ins_row (g0 b o nS capS : Nat) (sl : List Sc) (hsl : sl.length = m + 1) (hnS : nS = m + 1) (hcS : nS ≤ capS) (hcS2 : capS ≤ 9223372036854775807) (base g cap n : Nat) (cur : Array Value) (l : List (Fin (m + 1))) (w : World) (hB : Blk w g 3 cur) (hbase : base ≤ g) (hln : l.length = n) (hnc : n ≤ cap) (hcm : cap ≤ maxLen) (hcs : cur.size = cap) (ht : cur.toList.take n = l.map encF)
    (hP : l.Pairwise (fun x y => x.val < y.val)) (hC : CmpAt w g0 b o nS capS sl) (hg0 : g0 < base) (hb0 : b < base) (hn : n ≤ 1048576) :
    Calls Tryz.prog 139 #[.slice (some ⟨g, 0, none⟩) n cap, .int .i64 0, .int .i64 (n : Int), .func (.func 72) #[] #[.pointer (some ⟨g0, 0, none⟩)]] w fun e w' => e = .returned (.tuple #[]) ∧ GotR finC 1 3 base w' (some ⟨g, 0, none⟩) n cap (sortedBy (seqOf sl) l) ∧ Only (fun q => base ≤ q) w w' := by
  have hgetl : ∀ j (hj : j < n), cur[j]? = some (encF (l[j]'(by omega))) := by
    intro j hj
    have h1 := congrArg (fun L => L[j]?) ht
    simp only [List.getElem?_take, List.getElem?_map] at h1
    rw [if_pos hj, List.getElem?_eq_getElem (show j < l.length by omega), Option.map_some] at h1
    simpa using h1
  have hH : Holds encF w g 0 l.toArray := by
    intro j hj
    have hj2 : j < n := by simpa [hln] using hj
    refine ⟨?_, hB.frozen _⟩
    rw [hB.cell, Nat.zero_add, hgetl j hj2]
    congr 2
    rw [getElem!_pos _ _ (by simpa using (by omega : j < l.length))]
    simp
  have hs := Any.insertionSortCmpFunc_one insLays encF (fun _ => rfl) (fun x y : Fin (m + 1) => cf32 (seqOf sl x) (seqOf sl y)) 72 #[.pointer (some ⟨g0, 0, none⟩)] g 0 cap 0 n l.toArray w (enters_of Tryz.func72 (by kernel_rfl) rfl) (fun k os dk hdk x y => by
      have hO := sortWorld_only w g k dk os
      have hC2 := hC.only hO (by omega) (by omega)
      obtain ⟨sx, hx⟩ : ∃ sx, sl[x.val]? = some sx := ⟨_, List.getElem?_eq_getElem (by rw [hsl]; exact x.isLt)⟩
      obtain ⟨sy, hy⟩ : ∃ sy, sl[y.val]? = some sy := ⟨_, List.getElem?_eq_getElem (by rw [hsl]; exact y.isLt)⟩
      have h := usedCmp_any _ g0 b o nS capS sl x.val y.val sx sy hC2 hcS hcS2 hx hy (by have := x.isLt; omega) (by have := y.isLt; omega)
      have ex : seqOf sl x = sx.q := by unfold seqOf; rw [hx]; rfl
      have ey : seqOf sl y = sy.q := by unfold seqOf; rw [hy]; rfl
      rw [← ex, ← ey] at h
      exact h) hH (Nat.zero_le _) (by simp [hln]) (by simp [hln]; omega)
  have e1 : l.toArray.size = n := by simp [hln]
  rw [e1, ltOf_cf] at hs
  refine hs.mono ?_
  rintro e w' ⟨rfl, k, rfl⟩
  have hil := ins_list (seqOf sl) l.toArray (by simpa using hP)
  rw [e1] at hil
  obtain ⟨d, hd⟩ : ∃ d, d = insertionSort (ltQ (seqOf sl)) l.toArray 0 n := ⟨_, rfl⟩
  rw [← hd] at hil ⊢
  have hdl : d.toList = sortedBy (seqOf sl) l := hil
  have hds : d.size = n := by
    have := congrArg List.length hdl
    rw [sorted_len, hln] at this
    simpa using this
  have hO : Only (· = g) w ((putRow encF w g 0 d).drewN k) := by
    have h1 := sortWorld_only w g 0 d #[]
    rw [sortWorld_none] at h1
    exact h1.drewN k
  have hB2 : Blk ((putRow encF w g 0 d).drewN k) g 3 (putCells encF 0 d cur) := by
    refine Blk.drewN ?_ k
    show (Array.modify w.heap g _)[g]? = _
    rw [Array.getElem?_modify, if_pos rfl, show w.heap[g]? = _ from hB]
    rfl
  have hsz : (putCells encF 0 d cur).size = cap := by unfold putCells; simp [hcs]
  have htk : (putCells encF 0 d cur).toList.take n = (sortedBy (seqOf sl) l).map encF := by
    rw [← hdl]
    apply List.ext_getElem?
    intro j
    rw [List.getElem?_take]
    by_cases hj : j < n
    · rw [if_pos hj]
      unfold putCells
      rw [Array.getElem?_toList, Array.getElem?_mapIdx, Array.getElem?_eq_getElem (by omega), Option.map_some, if_pos ⟨Nat.zero_le _, by omega⟩, List.getElem?_map, List.getElem?_eq_getElem (by simp; omega), Option.map_some, Nat.sub_zero, getElem!_pos d j (by omega)]
      simp
    · rw [if_neg hj, List.getElem?_eq_none]
      simp
      omega
  have hrl : (sortedBy (seqOf sl) l).length = n := by rw [sorted_len, hln]
  have hflat : (putCells encF 0 d cur).toList.take (n * 1) = (sortedBy (seqOf sl) l).flatMap finC := by rw [Nat.mul_one, htk, flat_fin]
  refine ⟨rfl, ⟨⟨by rw [rows_len fin_len, hrl], Or.inr ⟨g, cap, _, rfl, hbase, hB2, hnc, hcm, by rw [hsz, Nat.mul_one], hflat⟩⟩, ?_, (fun h => by cases h), Or.inr ⟨g, _, rfl, hbase, hB2, by rw [hsz, Nat.mul_one]⟩⟩, hO.mono (fun j _ hj => by subst hj; exact hbase)⟩
  refine RowSl.of_blk fin_len hB2 hrl hnc hcm (fun j hj => ?_) (fun h => h)
  rw [← hflat, List.getElem?_take, if_pos hj]
  simp
end

end Go.Proofs.YtnhfmcijadficaaGreatDoor

/- The walks over the stable sort of a short row, over usedRow. -/
namespace Go.Proofs.YtnhfmcijadficaaGreatDoor
set_option maxRecDepth 100000
open Go.RowKit Go.Sort

section
variable {m : Nat}
theorem stable_row (g0 b o nS capS : Nat) (sl : List Sc) (hsl : sl.length = m + 1) (hnS : nS = m + 1) (hcS : nS ≤ capS) (hcS2 : capS ≤ 9223372036854775807) (base cap n : Nat) (A : Option Addr) (l : List (Fin (m + 1))) (w : World) (hG : GotR finC 1 3 base w A n cap l) (hn : n ≤ 19)
    (hP : l.Pairwise (fun x y => x.val < y.val)) (hC : CmpAt w g0 b o nS capS sl) (hg0 : g0 < base) (hb0 : b < base) :
    Calls Tryz.prog 71 #[.slice A n cap, .func (.func 72) #[] #[.pointer (some ⟨g0, 0, none⟩)]] w fun e w' => e = .returned (.tuple #[]) ∧ GotR finC 1 3 base w' A n cap (sortedBy (seqOf sl) l) ∧ Only (fun q => base ≤ q) w w' := by
  have hln := hG.row.1
  rcases hG.own.2 with ⟨hnil, h0⟩ | ⟨g, cap', cur, hv, hbase, hB, h1, h2, h3, h4⟩
  · cases hnil
    have hl0 : l = [] := List.eq_nil_of_length_eq_zero (by omega)
    subst hl0
    refine (stable_none none 0 _ w).mono ?_
    rintro e w' ⟨rfl, rfl⟩
    exact ⟨rfl, by simpa [sortedBy] using hG, Only.refl _ _⟩
  · cases hv
    have Hi := Lib.hid (ins_row g0 b o nS capS sl hsl hnS hcS hcS2 base g cap n cur l w hB hbase hln h1 h2 (by rw [h3, Nat.mul_one]) (by rw [← flat_fin, ← h4, Nat.mul_one]) hP hC hg0 hb0 (by omega))
    have HH : Hid (Calls Tryz.prog 112 #[.slice (some ⟨g, 0, none⟩) n cap, .int .i64 (n : Int), .func (.func 72) #[] #[.pointer (some ⟨g0, 0, none⟩)]] w fun e w' => e = .returned (.tuple #[]) ∧ GotR finC 1 3 base w' (some ⟨g, 0, none⟩) n cap (sortedBy (seqOf sl) l) ∧ Only (fun q => base ≤ q) w w') := Lib.hid (by
      have d1 : decide ((20 : Int) ≤ (n : Int)) = false := decide_eq_false (by omega)
      have d2 : decide ((20 : Int) < (n : Int)) = false := decide_eq_false (by omega)
      clear hG hB h1 h2 h3 h4 hP hC
      go_enter Tryz.func112, Tryz.ntmps112
      go_wp2_with fail
      refine wp_loop_rounds 1 ?_
      rw [rounds_succ]
      go_wp2_with fail
      refine Hi.out.mono ?_
      rintro e1 w1 ⟨rfl, hg1, ho1⟩
      go_wp2_with fail
      refine wp_loop_rounds 1 ?_
      rw [rounds_succ]
      go_wp2_with fail
      go_end0
      exact ⟨rfl, hg1, ho1⟩)
    clear hG hB h1 h2 h3 h4 hP hC Hi
    go_enter Tryz.func71, Tryz.ntmps71
    go_wp2_with fail
    refine HH.out.mono ?_
    rintro e1 w1 ⟨rfl, hg1, ho1⟩
    go_wp2_with fail
    go_end0
    exact ⟨rfl, hg1, ho1⟩

theorem Tryz.infoInt1 : (Tryz.prog.info? 3).map (fun i => (i.zero, i.size, i.bytes)) = some (some (.int .i64 0), 1, 8) := by kernel_rfl
theorem wpList_append_fin {ops : Array Oper} {rest : List Oper} {q : Oper} {u : Act} {w : World} {S : Nat → Prop} {Q : Exit → Act → World → Prop} (hgd : q.guard = none) (s x : Operand) (hq : q.op = .call { callee := .builtin .append, args := #[s, x], argTypes := #[76, 76] })
    (base : Nat) (B : Option Addr) (m0 c0 : Nat) (zs : List (Fin (m + 1))) (hs : u.eval s = .slice B m0 c0) (hown : GotR finC 1 3 base w B m0 c0 zs) (A : Option Addr) (k c : Nat) (l : List (Fin (m + 1)))
    (hx : u.eval x = .slice A k c) (hB : RowSl finC 1 w S A k c l) (hn : A = none → k = 0 ∧ c = 0) (hm : m0 + k ≤ 16777216) (hbase : base ≤ w.heap.size)
    (h : ∀ A' c' w', GotR finC 1 3 base w' A' (m0 + k) c' (zs ++ l) → w.grownBy w' (Value.slice B m0 c0).ownBlock → (∀ g, (Value.slice B m0 c0).ownBlock = some g → base ≤ g) → wpList Tryz.prog ops Q rest (u.put q.dst (.slice A' (m0 + k) c')) w') : wpList Tryz.prog ops Q (q :: rest) u w :=
  wpList_append_rows fin_len fin_one (by decide) 76 3 _ 8 Tryz.underlying76 Tryz.infoInt1 (by simp [Value.cells]) (by decide) hgd s x hq base B m0 c0 zs hs hown A k c l hx hB hn hm hbase (fun A' c' w' h1 h2 h3 _ => h A' c' w' h1 h2 h3)
theorem fin_lit (x : Fin (m + 1)) (w : World) : RowSl finC 1 (w.alloc (.cells #[.int .i64 (x.val : Int)] 3)) Empty (some ⟨w.heap.size, 0, none⟩) 1 1 [x] :=
  RowSl.lit fin_len w Empty 3 [x] 1 [.int .i64 (x.val : Int)] (by simp [finC, encF]) rfl (by decide) (fun h => h)

/-- The used sectors' places; in the order of Seq. -/
def usedP (sl : List Sc) (x : Fin (m + 1)) : Bool := (sl[x.val]?.map usedB).getD false
def usedTo (sl : List Sc) (i : Nat) : List (Fin (m + 1)) := ((List.finRange (m + 1)).take i).filter (usedP sl)
def usedRow (m : Nat) (sl : List Sc) : List (Fin (m + 1)) := sortedBy (seqOf sl) ((List.finRange (m + 1)).filter (usedP sl))
theorem usedTo_snoc (sl : List Sc) (i : Nat) (hi : i < m + 1) : usedTo (m := m) sl (i + 1) = usedTo sl i ++ (if usedP (m := m) sl ⟨i, hi⟩ then [⟨i, hi⟩] else []) := by
  unfold usedTo
  have h1 : (List.finRange (m + 1))[i]? = some ⟨i, hi⟩ := by rw [List.getElem?_eq_getElem (by simpa using hi)]; simp
  rw [take_snoc _ i _ h1, List.filter_append]
  congr 1
  rw [List.filter_cons]
  rfl
theorem usedTo_len (sl : List Sc) (i : Nat) : (usedTo (m := m) sl i).length ≤ i := by
  unfold usedTo
  refine Nat.le_trans (List.length_filter_le _ _) ?_
  rw [List.length_take]
  omega
theorem finRange_lt : (List.finRange (m + 1)).Pairwise (fun x y => x.val < y.val) := by
  rw [List.pairwise_iff_getElem]
  intro i j hi hj hij
  simpa using hij

set_option maxHeartbeats 4000000 in
theorem usedRow_any (A : Option Addr) (nS capS : Nat) (sl : List Sc) (w : World) (hS : Secs w Empty A nS capS sl) (hn : nS = m + 1) (hm : m ≤ 18) :
    Calls Tryz.prog 36 #[.slice A nS capS] w fun e w' => (∃ A' cap', e = .returned (.slice A' (usedRow m sl).length cap') ∧ GotR finC 1 3 w.heap.size w' A' (usedRow m sl).length cap' (usedRow m sl)) ∧ Below w.heap.size w w' := by
  have HS := Lib.hid hS
  have hncap : nS ≤ capS := hS.2.1
  have hcap2 : capS ≤ 9223372036854775807 := by have := hS.2.2.1; unfold maxLen at this; omega
  have hlen : sl.length = m + 1 := by rw [hS.1, hn]
  obtain ⟨bS, oS, hA, hbS, -, -⟩ := hS.2.2.2 (by omega)
  have hrowS := hS.2.2.2 (by omega)
  subst hA
  have hB0 := Blk.new w 84 #[.slice (some ⟨bS, oS, none⟩) nS capS]
  have hb0 := (Below.refl w.heap.size w).alloc (Nat.le_refl _) (.cells #[.slice (some ⟨bS, oS, none⟩) nS capS] 84)
  have Hn := Lib.hid hn
  have Hlen := Lib.hid hlen
  clear hS hrowS hn hlen
  go_enter Tryz.func36, Tryz.ntmps36
  go_wp2_with fail
  obtain ⟨w0, hw0⟩ : ∃ w0, w0 = w.alloc (.cells #[.slice (some ⟨bS, oS, none⟩) nS capS] 84) := ⟨_, rfl⟩
  have hs0 : w0.heap.size = w.heap.size + 1 := by rw [hw0]; simp
  rw [← hw0] at hB0 hb0 ⊢
  have HB0 := Lib.hid hB0
  have Hb0 := Lib.hid hb0
  have HS0 := Lib.hid (HS.out.only (Only.of_below (S := Empty) hb0) (fun _ _ h => h))
  clear hw0 hB0 hb0
  go_loopw [3, 8] (fun r v wr => ∃ (i c3 : Nat) (A3 : Option Addr), i ≤ nS ∧ v = .int .i64 (i : Int) ∧ r = .slice A3 (usedTo (m := m) sl i).length c3 ∧ Hid (GotR finC 1 3 w0.heap.size wr A3 (usedTo (m := m) sl i).length c3 (usedTo sl i)) ∧ Hid (Below w0.heap.size w0 wr)) (fun _ v _ => nS - (intOf v).toNat)
  case atStart => exact ⟨0, 0, none, Nat.zero_le _, rfl, rfl, Lib.hid (GotR.nil_ _ _ _ _ _), Lib.hid (Below.refl _ _)⟩
  case round =>
    obtain ⟨i, c3, A3, hi, rfl, rfl, HG, HB⟩ := hrel
    have hgb := (Only.of_below (S := Empty) HB.out).blk HB0.out (fun h => h)
    have k0 : wr.cell? ⟨w.heap.size, 0, none⟩ = some (.slice (some ⟨bS, oS, none⟩) nS capS) := hgb.cell 0
    have k0l := hgb.lt
    have hsr := HB.out.size
    by_cases hlt : i < nS
    · obtain ⟨b, o, s, hA, hb, -, hf, hc⟩ := RowSl.at_ (cells := Sc.cells) (k := 3) (HS0.out.only (Only.of_below (S := Empty) HB.out) (fun _ _ h => h)) hlt
      cases hA
      obtain ⟨st, q, er⟩ := s
      have c0 : wr.cell? ⟨bS, oS + i * 3, none⟩ = some (.int .i64 st) := hc 0 (by omega)
      have c1 : wr.cell? ⟨bS, oS + i * 3 + 1, none⟩ = some (.int .u32 q) := hc 1 (by omega)
      have c2 : wr.cell? ⟨bS, oS + i * 3 + 2, none⟩ = some (.int .i64 er) := hc 2 (by omega)
      have hiM : i < m + 1 := by have := Hn.out; omega
      have hsn := usedTo_snoc (m := m) sl i hiM
      have hup : usedP (m := m) sl ⟨i, hiM⟩ = decide (st = 2) := by unfold usedP usedB; rw [show sl[(⟨i, hiM⟩ : Fin (m + 1)).val]? = some ⟨st, q, er⟩ from hf]; rfl
      rw [hup] at hsn
      have hul := usedTo_len (m := m) sl i
      obtain ⟨L, hL⟩ : ∃ L, L = (.cells #[.int .i64 st, .int .u32 q, .int .i64 er] 96 : Obj) := ⟨_, rfl⟩
      have HB2 := Lib.hid (HB.out.alloc hsr L)
      have HG2 := Lib.hid (HG.out.alloc fin_len L)
      by_cases hst : st = 2
      · subst hst
        rw [if_pos (by decide)] at hsn
        have Hsn := Lib.hid hsn
        have hrow := fin_lit (m := m) ⟨i, hiM⟩ (wr.alloc L)
        rw [show (wr.alloc L).heap.size = wr.heap.size + 1 by simp] at hrow
        have Hrow := Lib.hid hrow
        have HG3 := Lib.hid (HG2.out.alloc fin_len (.cells #[.int .i64 (i : Int)] 3))
        have HB3 := Lib.hid (HB2.out.alloc (by simp; omega) (.cells #[.int .i64 (i : Int)] 3))
        clear hsn hc hf hup hrow hgb
        rw [hL] at HG3 HB3 Hrow
        clear hL HG2 HB2
        go_wp2_with (at_builtin; refine wpList_append_fin rfl _ _ rfl w0.heap.size A3 (usedTo (m := m) sl i).length c3 (usedTo sl i) rfl HG3.out _ 1 1 _ rfl Hrow.out (fun h => by cases h) (by omega) (by simp; omega) ?_; intro A4 c4 w4 hg4 hgr4 hr4)
        have HB4 := Lib.hid (below_gotR HB3.out (by simp; omega) hgr4 hr4 (Nat.le_refl _))
        rw [← Hsn.out] at hg4
        have HG4 := Lib.hid hg4
        have hl4 : (usedTo (m := m) sl i).length + 1 = (usedTo (m := m) sl (i + 1)).length := by rw [Hsn.out]; simp
        clear hg4 hgr4 hr4
        go_roundw
        case rel => exact ⟨i + 1, c4, A4, by omega, by simp, by rw [hl4], by rw [hl4] at HG4; exact HG4, HB4⟩
        case measure => simp [intOf]; omega
      · have hst2 : (st == 2) = false := by simpa using hst
        rw [if_neg (by simpa using hst), List.append_nil] at hsn
        have Hsn := Lib.hid hsn
        clear hsn hc hf hup hgb
        rw [hL] at HG2 HB2
        clear hL
        go_wp2_with fail
        go_roundw
        case rel => exact ⟨i + 1, c3, A3, by omega, by simp, by rw [Hsn.out], by rw [Hsn.out]; exact HG2, HB2⟩
        case measure => simp [intOf]; omega
    · have hin : i = nS := by omega
      have hfull : usedTo (m := m) sl i = (List.finRange (m + 1)).filter (usedP sl) := by unfold usedTo; rw [List.take_of_length_le (by have := Hn.out; simp; omega)]
      have hul := usedTo_len (m := m) sl i
      have hrl : (usedRow m sl).length = (usedTo (m := m) sl i).length := by unfold usedRow; rw [sorted_len, hfull]
      have hcmp : CmpAt wr w.heap.size bS oS nS capS sl := by
        refine ⟨k0, k0l, by have := hbS; omega, fun j s hs => ?_⟩
        obtain ⟨b, o, s2, hA, hb, -, hf, hc⟩ := RowSl.at_ (cells := Sc.cells) (k := 3) (i := j) (HS0.out.only (Only.of_below (S := Empty) HB.out) (fun _ _ h => h)) (by have := (List.getElem?_eq_some_iff.1 hs).1; have := Hn.out; have := Hlen.out; omega)
        cases hA
        rw [hs] at hf
        cases hf
        exact hc 1 (by omega)
      have Hst := Lib.hid (stable_row (m := m) w.heap.size bS oS nS capS sl Hlen.out Hn.out hncap hcap2 w0.heap.size c3 (usedTo (m := m) sl i).length A3 (usedTo sl i) wr HG.out (by have := usedTo_len (m := m) sl i; have := Hn.out; omega) (by rw [hfull]; exact finRange_lt.filter _) hcmp (by omega) (by omega))
      rw [hfull] at Hst
      have hdef : sortedBy (seqOf sl) ((List.finRange (m + 1)).filter (usedP sl)) = usedRow m sl := rfl
      rw [hdef] at Hst
      rw [hfull] at hrl
      clear hcmp hgb
      rw [hfull]
      go_wp2_with fail
      refine Hst.out.mono ?_
      rintro e1 w1 ⟨rfl, hg1, ho1⟩
      go_wp2_with fail
      go_ret
      refine ⟨⟨A3, c3, by rw [hrl]; rfl, ?_⟩, Hb0.out.trans ((HB.out.mono (by omega)).trans (ho1.below (by omega) (fun k hk h => by omega)))⟩
      rw [hrl]
      exact hg1.lower (by omega)
end

end Go.Proofs.YtnhfmcijadficaaGreatDoor
