/- Rows of places, and their stable sort. -/
import Derived.Test.YtnhfmcijadficaaGreatDoorZaj
import Derived.Test.YtnhfmcijadficaaGreatDoorZbg
import Derived.Test.YtnhfmcijadficaaGreatDoorZbi
namespace Go.Proofs.YtnhfmcijadficaaGreatDoor
set_option maxRecDepth 100000
open Go.RowKit Go.Sort

section
variable {m : Nat}
def encF (x : Fin (m + 1)) : Value := .int .i64 (x.val : Int)
def finC (x : Fin (m + 1)) : List Value := [encF x]
theorem fin_len (x : Fin (m + 1)) : (finC x).length = 1 := rfl
theorem fin_one (x : Fin (m + 1)) : ∀ v ∈ finC x, v.oneCell' = true := by
  intro v hv
  simp only [finC, List.mem_cons, List.not_mem_nil, or_false] at hv
  subst hv
  rfl
theorem flat_fin (l : List (Fin (m + 1))) : l.flatMap finC = l.map encF := by
  induction l with
  | nil => rfl
  | cons a l ih => rw [List.flatMap_cons, List.map_cons, ih]; rfl
/-- A sort's world: only the row's block has turned. -/
theorem sortWorld_only (w : World) (blk k : Nat) (dk : Array (Fin (m + 1))) (os : Array Obj) : Only (· = blk) w (sortWorld encF w blk 0 k dk os) := by
  refine ⟨rfl, rfl, rfl, ?_, fun j hj hne => ?_⟩
  · unfold sortWorld grow
    simp [Sort.ahead]
  · unfold sortWorld
    rw [heap_grow_old _ _ (by simpa [Sort.ahead] using hj)]
    unfold putRow mapBlock
    show (Array.modify w.heap blk _)[j]? = _
    rw [Array.getElem?_modify, if_neg (fun h => hne h.symm)]
theorem CmpAt.only {W W' : World} {g b o n cap blk : Nat} {l : List Sc} (h : CmpAt W g b o n cap l) (k : Only (· = blk) W W') (hg : g ≠ blk) (hb : b ≠ blk) : CmpAt W' g b o n cap l :=
  ⟨(k.cell (p := ⟨g, 0, none⟩) h.gl hg).trans h.box, Nat.lt_of_lt_of_le h.gl k.size, Nat.lt_of_lt_of_le h.bl k.size, fun i s hs => (k.cell (p := ⟨b, o + i * 3 + 1, none⟩) h.bl hb).trans (h.row i s hs)⟩
/-- A sector's Seq, by its place. -/
def seqOf (sl : List Sc) (x : Fin (m + 1)) : Int := (sl[x.val]?.map Sc.q).getD 0
theorem ltOf_cf (q : Fin (m + 1) → Int) : ltOf (fun x y => cf32 (q x) (q y)) = ltQ q := by
  funext x y
  show decide (cf32 (q x) (q y) < 0) = decide (q x < q y)
  unfold cf32
  by_cases h1 : q x < q y
  · rw [if_pos h1]; simp [h1]
  · rw [if_neg h1]
    split <;> simp [h1]
/-- The row's sorted list. -/
def sortedBy (q : Fin (m + 1) → Int) (l : List (Fin (m + 1))) : List (Fin (m + 1)) := l.mergeSort (fun x y => !ltL q y x)
theorem sorted_len (q : Fin (m + 1) → Int) (l : List (Fin (m + 1))) : (sortedBy q l).length = l.length := by unfold sortedBy; simp

theorem ins_row (g0 b o nS capS : Nat) (sl : List Sc) (hsl : sl.length = m + 1) (hnS : nS = m + 1) (hcS : nS ≤ capS) (hcS2 : capS ≤ 9223372036854775807) (base g cap n : Nat) (cur : Array Value) (l : List (Fin (m + 1))) (w : World) (hB : Blk w g 3 cur) (hbase : base ≤ g) (hln : l.length = n) (hnc : n ≤ cap) (hcm : cap ≤ maxLen) (hcs : cur.size = cap) (ht : cur.toList.take n = l.map encF)
    (hP : l.Pairwise (fun x y => x.val < y.val)) (hC : CmpAt w g0 b o nS capS sl) (hg0 : g0 < base) (hb0 : b < base) (hn : n ≤ 1048576) :
    Calls Tryz.prog 139 #[.slice (some ⟨g, 0, none⟩) n cap, .int .i64 0, .int .i64 (n : Int), .func (.func 72) #[] #[.pointer (some ⟨g0, 0, none⟩)]] w fun e w' => e = .returned (.tuple #[]) ∧ GotR finC 1 3 base w' (some ⟨g, 0, none⟩) n cap (sortedBy (seqOf sl) l) ∧ Only (fun q => base ≤ q) w w' := by
  have hgetl : ∀ j (hj : j < n), cur[j]? = some (encF (l[j]'(by omega))) := by
    intro j hj
    have h1 := congrArg (fun L => L[j]?) ht
    simp only [List.getElem?_take, List.getElem?_map] at h1
    rw [if_pos hj, List.getElem?_eq_getElem (show j < l.length by omega), Option.map_some] at h1
    simpa using h1
  have hH : Holds encF w g 0 l.toArray := by
    intro j hj
    have hj2 : j < n := by simpa [hln] using hj
    refine ⟨?_, hB.frozen _⟩
    rw [hB.cell, Nat.zero_add, hgetl j hj2]
    congr 2
    rw [getElem!_pos _ _ (by simpa using (by omega : j < l.length))]
    simp
  have hs := Any.insertionSortCmpFunc_one insLays encF (fun _ => rfl) (fun x y : Fin (m + 1) => cf32 (seqOf sl x) (seqOf sl y)) 72 #[.pointer (some ⟨g0, 0, none⟩)] g 0 cap 0 n l.toArray w (enters_of Tryz.func72 (by kernel_rfl) rfl) (fun k os dk hdk x y => by
      have hO := sortWorld_only w g k dk os
      have hC2 := hC.only hO (by omega) (by omega)
      obtain ⟨sx, hx⟩ : ∃ sx, sl[x.val]? = some sx := ⟨_, List.getElem?_eq_getElem (by rw [hsl]; exact x.isLt)⟩
      obtain ⟨sy, hy⟩ : ∃ sy, sl[y.val]? = some sy := ⟨_, List.getElem?_eq_getElem (by rw [hsl]; exact y.isLt)⟩
      have h := usedCmp_any _ g0 b o nS capS sl x.val y.val sx sy hC2 hcS hcS2 hx hy (by have := x.isLt; omega) (by have := y.isLt; omega)
      have ex : seqOf sl x = sx.q := by unfold seqOf; rw [hx]; rfl
      have ey : seqOf sl y = sy.q := by unfold seqOf; rw [hy]; rfl
      rw [← ex, ← ey] at h
      exact h) hH (Nat.zero_le _) (by simp [hln]) (by simp [hln]; omega)
  have e1 : l.toArray.size = n := by simp [hln]
  rw [e1, ltOf_cf] at hs
  refine hs.mono ?_
  rintro e w' ⟨rfl, k, rfl⟩
  have hil := ins_list (seqOf sl) l.toArray (by simpa using hP)
  rw [e1] at hil
  obtain ⟨d, hd⟩ : ∃ d, d = insertionSort (ltQ (seqOf sl)) l.toArray 0 n := ⟨_, rfl⟩
  rw [← hd] at hil ⊢
  have hdl : d.toList = sortedBy (seqOf sl) l := hil
  have hds : d.size = n := by
    have := congrArg List.length hdl
    rw [sorted_len, hln] at this
    simpa using this
  have hO : Only (· = g) w ((putRow encF w g 0 d).drewN k) := by
    have h1 := sortWorld_only w g 0 d #[]
    rw [sortWorld_none] at h1
    exact h1.drewN k
  have hB2 : Blk ((putRow encF w g 0 d).drewN k) g 3 (putCells encF 0 d cur) := by
    refine Blk.drewN ?_ k
    show (Array.modify w.heap g _)[g]? = _
    rw [Array.getElem?_modify, if_pos rfl, show w.heap[g]? = _ from hB]
    rfl
  have hsz : (putCells encF 0 d cur).size = cap := by unfold putCells; simp [hcs]
  have htk : (putCells encF 0 d cur).toList.take n = (sortedBy (seqOf sl) l).map encF := by
    rw [← hdl]
    apply List.ext_getElem?
    intro j
    rw [List.getElem?_take]
    by_cases hj : j < n
    · rw [if_pos hj]
      unfold putCells
      rw [Array.getElem?_toList, Array.getElem?_mapIdx, Array.getElem?_eq_getElem (by omega), Option.map_some, if_pos ⟨Nat.zero_le _, by omega⟩, List.getElem?_map, List.getElem?_eq_getElem (by simp; omega), Option.map_some, Nat.sub_zero, getElem!_pos d j (by omega)]
      simp
    · rw [if_neg hj, List.getElem?_eq_none]
      simp
      omega
  have hrl : (sortedBy (seqOf sl) l).length = n := by rw [sorted_len, hln]
  have hflat : (putCells encF 0 d cur).toList.take (n * 1) = (sortedBy (seqOf sl) l).flatMap finC := by rw [Nat.mul_one, htk, flat_fin]
  refine ⟨rfl, ⟨⟨by rw [rows_len fin_len, hrl], Or.inr ⟨g, cap, _, rfl, hbase, hB2, hnc, hcm, by rw [hsz, Nat.mul_one], hflat⟩⟩, ?_, (fun h => by cases h), Or.inr ⟨g, _, rfl, hbase, hB2, by rw [hsz, Nat.mul_one]⟩⟩, hO.mono (fun j _ hj => by subst hj; exact hbase)⟩
  refine RowSl.of_blk fin_len hB2 hrl hnc hcm (fun j hj => ?_) (fun h => h)
  rw [← hflat, List.getElem?_take, if_pos hj]
  simp
end

end Go.Proofs.YtnhfmcijadficaaGreatDoor

/- The walks over the stable sort of a short row, over usedRow. -/
namespace Go.Proofs.YtnhfmcijadficaaGreatDoor
set_option maxRecDepth 100000
open Go.RowKit Go.Sort

section
variable {m : Nat}
theorem stable_row (g0 b o nS capS : Nat) (sl : List Sc) (hsl : sl.length = m + 1) (hnS : nS = m + 1) (hcS : nS ≤ capS) (hcS2 : capS ≤ 9223372036854775807) (base cap n : Nat) (A : Option Addr) (l : List (Fin (m + 1))) (w : World) (hG : GotR finC 1 3 base w A n cap l) (hn : n ≤ 19)
    (hP : l.Pairwise (fun x y => x.val < y.val)) (hC : CmpAt w g0 b o nS capS sl) (hg0 : g0 < base) (hb0 : b < base) :
    Calls Tryz.prog 71 #[.slice A n cap, .func (.func 72) #[] #[.pointer (some ⟨g0, 0, none⟩)]] w fun e w' => e = .returned (.tuple #[]) ∧ GotR finC 1 3 base w' A n cap (sortedBy (seqOf sl) l) ∧ Only (fun q => base ≤ q) w w' := by
  have hln := hG.row.1
  rcases hG.own.2 with ⟨hnil, h0⟩ | ⟨g, cap', cur, hv, hbase, hB, h1, h2, h3, h4⟩
  · cases hnil
    have hl0 : l = [] := List.eq_nil_of_length_eq_zero (by omega)
    subst hl0
    refine (stable_none none 0 _ w).mono ?_
    rintro e w' ⟨rfl, rfl⟩
    exact ⟨rfl, by simpa [sortedBy] using hG, Only.refl _ _⟩
  · cases hv
    have Hi := Lib.hid (ins_row g0 b o nS capS sl hsl hnS hcS hcS2 base g cap n cur l w hB hbase hln h1 h2 (by rw [h3, Nat.mul_one]) (by rw [← flat_fin, ← h4, Nat.mul_one]) hP hC hg0 hb0 (by omega))
    have HH : Hid (Calls Tryz.prog 112 #[.slice (some ⟨g, 0, none⟩) n cap, .int .i64 (n : Int), .func (.func 72) #[] #[.pointer (some ⟨g0, 0, none⟩)]] w fun e w' => e = .returned (.tuple #[]) ∧ GotR finC 1 3 base w' (some ⟨g, 0, none⟩) n cap (sortedBy (seqOf sl) l) ∧ Only (fun q => base ≤ q) w w') := Lib.hid (by
      have d1 : decide ((20 : Int) ≤ (n : Int)) = false := decide_eq_false (by omega)
      have d2 : decide ((20 : Int) < (n : Int)) = false := decide_eq_false (by omega)
      clear hG hB h1 h2 h3 h4 hP hC
      go_enter Tryz.func112, Tryz.ntmps112
      go_wp2_with fail
      refine wp_loop_rounds 1 ?_
      rw [rounds_succ]
      go_wp2_with fail
      refine Hi.out.mono ?_
      rintro e1 w1 ⟨rfl, hg1, ho1⟩
      go_wp2_with fail
      refine wp_loop_rounds 1 ?_
      rw [rounds_succ]
      go_wp2_with fail
      go_end0
      exact ⟨rfl, hg1, ho1⟩)
    clear hG hB h1 h2 h3 h4 hP hC Hi
    go_enter Tryz.func71, Tryz.ntmps71
    go_wp2_with fail
    refine HH.out.mono ?_
    rintro e1 w1 ⟨rfl, hg1, ho1⟩
    go_wp2_with fail
    go_end0
    exact ⟨rfl, hg1, ho1⟩

theorem Tryz.infoInt1 : (Tryz.prog.info? 3).map (fun i => (i.zero, i.size, i.bytes)) = some (some (.int .i64 0), 1, 8) := by kernel_rfl
theorem wpList_append_fin {ops : Array Oper} {rest : List Oper} {q : Oper} {u : Act} {w : World} {S : Nat → Prop} {Q : Exit → Act → World → Prop} (hgd : q.guard = none) (s x : Operand) (hq : q.op = .call { callee := .builtin .append, args := #[s, x], argTypes := #[76, 76] })
    (base : Nat) (B : Option Addr) (m0 c0 : Nat) (zs : List (Fin (m + 1))) (hs : u.eval s = .slice B m0 c0) (hown : GotR finC 1 3 base w B m0 c0 zs) (A : Option Addr) (k c : Nat) (l : List (Fin (m + 1)))
    (hx : u.eval x = .slice A k c) (hB : RowSl finC 1 w S A k c l) (hn : A = none → k = 0 ∧ c = 0) (hm : m0 + k ≤ 16777216) (hbase : base ≤ w.heap.size)
    (h : ∀ A' c' w', GotR finC 1 3 base w' A' (m0 + k) c' (zs ++ l) → w.grownBy w' (Value.slice B m0 c0).ownBlock → (∀ g, (Value.slice B m0 c0).ownBlock = some g → base ≤ g) → wpList Tryz.prog ops Q rest (u.put q.dst (.slice A' (m0 + k) c')) w') : wpList Tryz.prog ops Q (q :: rest) u w :=
  wpList_append_rows fin_len fin_one (by decide) 76 3 _ 8 Tryz.underlying76 Tryz.infoInt1 (by simp [Value.cells]) (by decide) hgd s x hq base B m0 c0 zs hs hown A k c l hx hB hn hm hbase (fun A' c' w' h1 h2 h3 _ => h A' c' w' h1 h2 h3)
theorem fin_lit (x : Fin (m + 1)) (w : World) : RowSl finC 1 (w.alloc (.cells #[.int .i64 (x.val : Int)] 3)) Empty (some ⟨w.heap.size, 0, none⟩) 1 1 [x] :=
  RowSl.lit fin_len w Empty 3 [x] 1 [.int .i64 (x.val : Int)] (by simp [finC, encF]) rfl (by decide) (fun h => h)

/-- The used sectors' places; in the order of Seq. -/
def usedP (sl : List Sc) (x : Fin (m + 1)) : Bool := (sl[x.val]?.map usedB).getD false
def usedTo (sl : List Sc) (i : Nat) : List (Fin (m + 1)) := ((List.finRange (m + 1)).take i).filter (usedP sl)
def usedRow (m : Nat) (sl : List Sc) : List (Fin (m + 1)) := sortedBy (seqOf sl) ((List.finRange (m + 1)).filter (usedP sl))
theorem usedTo_snoc (sl : List Sc) (i : Nat) (hi : i < m + 1) : usedTo (m := m) sl (i + 1) = usedTo sl i ++ (if usedP (m := m) sl ⟨i, hi⟩ then [⟨i, hi⟩] else []) := by
  unfold usedTo
  have h1 : (List.finRange (m + 1))[i]? = some ⟨i, hi⟩ := by rw [List.getElem?_eq_getElem (by simpa using hi)]; simp
  rw [take_snoc _ i _ h1, List.filter_append]
  congr 1
  rw [List.filter_cons]
  rfl
theorem usedTo_len (sl : List Sc) (i : Nat) : (usedTo (m := m) sl i).length ≤ i := by
  unfold usedTo
  refine Nat.le_trans (List.length_filter_le _ _) ?_
  rw [List.length_take]
  omega
theorem finRange_lt : (List.finRange (m + 1)).Pairwise (fun x y => x.val < y.val) := by
  rw [List.pairwise_iff_getElem]
  intro i j hi hj hij
  simpa using hij

set_option maxHeartbeats 4000000 in
theorem usedRow_any (A : Option Addr) (nS capS : Nat) (sl : List Sc) (w : World) (hS : Secs w Empty A nS capS sl) (hn : nS = m + 1) (hm : m ≤ 18) :
    Calls Tryz.prog 36 #[.slice A nS capS] w fun e w' => (∃ A' cap', e = .returned (.slice A' (usedRow m sl).length cap') ∧ GotR finC 1 3 w.heap.size w' A' (usedRow m sl).length cap' (usedRow m sl)) ∧ Below w.heap.size w w' := by
  have HS := Lib.hid hS
  have hncap : nS ≤ capS := hS.2.1
  have hcap2 : capS ≤ 9223372036854775807 := by have := hS.2.2.1; unfold maxLen at this; omega
  have hlen : sl.length = m + 1 := by rw [hS.1, hn]
  obtain ⟨bS, oS, hA, hbS, -, -⟩ := hS.2.2.2 (by omega)
  have hrowS := hS.2.2.2 (by omega)
  subst hA
  have hB0 := Blk.new w 84 #[.slice (some ⟨bS, oS, none⟩) nS capS]
  have hb0 := (Below.refl w.heap.size w).alloc (Nat.le_refl _) (.cells #[.slice (some ⟨bS, oS, none⟩) nS capS] 84)
  have Hn := Lib.hid hn
  have Hlen := Lib.hid hlen
  clear hS hrowS hn hlen
  go_enter Tryz.func36, Tryz.ntmps36
  go_wp2_with fail
  obtain ⟨w0, hw0⟩ : ∃ w0, w0 = w.alloc (.cells #[.slice (some ⟨bS, oS, none⟩) nS capS] 84) := ⟨_, rfl⟩
  have hs0 : w0.heap.size = w.heap.size + 1 := by rw [hw0]; simp
  rw [← hw0] at hB0 hb0 ⊢
  have HB0 := Lib.hid hB0
  have Hb0 := Lib.hid hb0
  have HS0 := Lib.hid (HS.out.only (Only.of_below (S := Empty) hb0) (fun _ _ h => h))
  clear hw0 hB0 hb0
  go_loopw [3, 8] (fun r v wr => ∃ (i c3 : Nat) (A3 : Option Addr), i ≤ nS ∧ v = .int .i64 (i : Int) ∧ r = .slice A3 (usedTo (m := m) sl i).length c3 ∧ Hid (GotR finC 1 3 w0.heap.size wr A3 (usedTo (m := m) sl i).length c3 (usedTo sl i)) ∧ Hid (Below w0.heap.size w0 wr)) (fun _ v _ => nS - (intOf v).toNat)
  case atStart => exact ⟨0, 0, none, Nat.zero_le _, rfl, rfl, Lib.hid (GotR.nil_ _ _ _ _ _), Lib.hid (Below.refl _ _)⟩
  case round =>
    obtain ⟨i, c3, A3, hi, rfl, rfl, HG, HB⟩ := hrel
    have hgb := (Only.of_below (S := Empty) HB.out).blk HB0.out (fun h => h)
    have k0 : wr.cell? ⟨w.heap.size, 0, none⟩ = some (.slice (some ⟨bS, oS, none⟩) nS capS) := hgb.cell 0
    have k0l := hgb.lt
    have hsr := HB.out.size
    by_cases hlt : i < nS
    · obtain ⟨b, o, s, hA, hb, -, hf, hc⟩ := RowSl.at_ (cells := Sc.cells) (k := 3) (HS0.out.only (Only.of_below (S := Empty) HB.out) (fun _ _ h => h)) hlt
      cases hA
      obtain ⟨st, q, er⟩ := s
      have c0 : wr.cell? ⟨bS, oS + i * 3, none⟩ = some (.int .i64 st) := hc 0 (by omega)
      have c1 : wr.cell? ⟨bS, oS + i * 3 + 1, none⟩ = some (.int .u32 q) := hc 1 (by omega)
      have c2 : wr.cell? ⟨bS, oS + i * 3 + 2, none⟩ = some (.int .i64 er) := hc 2 (by omega)
      have hiM : i < m + 1 := by have := Hn.out; omega
      have hsn := usedTo_snoc (m := m) sl i hiM
      have hup : usedP (m := m) sl ⟨i, hiM⟩ = decide (st = 2) := by unfold usedP usedB; rw [show sl[(⟨i, hiM⟩ : Fin (m + 1)).val]? = some ⟨st, q, er⟩ from hf]; rfl
      rw [hup] at hsn
      have hul := usedTo_len (m := m) sl i
      obtain ⟨L, hL⟩ : ∃ L, L = (.cells #[.int .i64 st, .int .u32 q, .int .i64 er] 96 : Obj) := ⟨_, rfl⟩
      have HB2 := Lib.hid (HB.out.alloc hsr L)
      have HG2 := Lib.hid (HG.out.alloc fin_len L)
      by_cases hst : st = 2
      · subst hst
        rw [if_pos (by decide)] at hsn
        have Hsn := Lib.hid hsn
        have hrow := fin_lit (m := m) ⟨i, hiM⟩ (wr.alloc L)
        rw [show (wr.alloc L).heap.size = wr.heap.size + 1 by simp] at hrow
        have Hrow := Lib.hid hrow
        have HG3 := Lib.hid (HG2.out.alloc fin_len (.cells #[.int .i64 (i : Int)] 3))
        have HB3 := Lib.hid (HB2.out.alloc (by simp; omega) (.cells #[.int .i64 (i : Int)] 3))
        clear hsn hc hf hup hrow hgb
        rw [hL] at HG3 HB3 Hrow
        clear hL HG2 HB2
        go_wp2_with (at_builtin; refine wpList_append_fin rfl _ _ rfl w0.heap.size A3 (usedTo (m := m) sl i).length c3 (usedTo sl i) rfl HG3.out _ 1 1 _ rfl Hrow.out (fun h => by cases h) (by omega) (by simp; omega) ?_; intro A4 c4 w4 hg4 hgr4 hr4)
        have HB4 := Lib.hid (below_gotR HB3.out (by simp; omega) hgr4 hr4 (Nat.le_refl _))
        rw [← Hsn.out] at hg4
        have HG4 := Lib.hid hg4
        have hl4 : (usedTo (m := m) sl i).length + 1 = (usedTo (m := m) sl (i + 1)).length := by rw [Hsn.out]; simp
        clear hg4 hgr4 hr4
        go_roundw
        case rel => exact ⟨i + 1, c4, A4, by omega, by simp, by rw [hl4], by rw [hl4] at HG4; exact HG4, HB4⟩
        case measure => simp [intOf]; omega
      · have hst2 : (st == 2) = false := by simpa using hst
        rw [if_neg (by simpa using hst), List.append_nil] at hsn
        have Hsn := Lib.hid hsn
        clear hsn hc hf hup hgb
        rw [hL] at HG2 HB2
        clear hL
        go_wp2_with fail
        go_roundw
        case rel => exact ⟨i + 1, c3, A3, by omega, by simp, by rw [Hsn.out], by rw [Hsn.out]; exact HG2, HB2⟩
        case measure => simp [intOf]; omega
    · have hin : i = nS := by omega
      have hfull : usedTo (m := m) sl i = (List.finRange (m + 1)).filter (usedP sl) := by unfold usedTo; rw [List.take_of_length_le (by have := Hn.out; simp; omega)]
      have hul := usedTo_len (m := m) sl i
      have hrl : (usedRow m sl).length = (usedTo (m := m) sl i).length := by unfold usedRow; rw [sorted_len, hfull]
      have hcmp : CmpAt wr w.heap.size bS oS nS capS sl := by
        refine ⟨k0, k0l, by have := hbS; omega, fun j s hs => ?_⟩
        obtain ⟨b, o, s2, hA, hb, -, hf, hc⟩ := RowSl.at_ (cells := Sc.cells) (k := 3) (i := j) (HS0.out.only (Only.of_below (S := Empty) HB.out) (fun _ _ h => h)) (by have := (List.getElem?_eq_some_iff.1 hs).1; have := Hn.out; have := Hlen.out; omega)
        cases hA
        rw [hs] at hf
        cases hf
        exact hc 1 (by omega)
      have Hst := Lib.hid (stable_row (m := m) w.heap.size bS oS nS capS sl Hlen.out Hn.out hncap hcap2 w0.heap.size c3 (usedTo (m := m) sl i).length A3 (usedTo sl i) wr HG.out (by have := usedTo_len (m := m) sl i; have := Hn.out; omega) (by rw [hfull]; exact finRange_lt.filter _) hcmp (by omega) (by omega))
      rw [hfull] at Hst
      have hdef : sortedBy (seqOf sl) ((List.finRange (m + 1)).filter (usedP sl)) = usedRow m sl := rfl
      rw [hdef] at Hst
      rw [hfull] at hrl
      clear hcmp hgb
      rw [hfull]
      go_wp2_with fail
      refine Hst.out.mono ?_
      rintro e1 w1 ⟨rfl, hg1, ho1⟩
      go_wp2_with fail
      go_ret
      refine ⟨⟨A3, c3, by rw [hrl]; rfl, ?_⟩, Hb0.out.trans ((HB.out.mono (by omega)).trans (ho1.below (by omega) (fun k hk h => by omega)))⟩
      rw [hrl]
      exact hg1.lower (by omega)
end

end Go.Proofs.YtnhfmcijadficaaGreatDoor

/- What a scan finds may be records; a change is done wherever its blob lies; the walk over greatestTxn. -/
namespace Go.Proofs.YtnhfmcijadficaaGreatDoor
set_option maxRecDepth 100000
open Go.RowKit Go.Maps

/-- A copy of bytes, as a map keeps it. -/
theorem clone_sv0 (A : Option Addr) (n cap : Nat) (xs : List UInt8) (S : Nat → Prop) (w : World) (hB : ByteSl w Empty A n cap xs) (hA : A = none → n = 0 ∧ cap = 0) (hm : n ≤ 16777216) (hS : ∀ W, Below w.heap.size w W → ∀ q, w.heap.size ≤ q → q < W.heap.size → ¬ S q) :
    Calls Tryz.prog 67 #[.slice A n cap] w fun e w' => (∃ g cap', e = .returned (.slice (adr g) n cap') ∧ ByteSl w' S (adr g) n cap' xs ∧ (adr g = none → n = 0 ∧ cap' = 0)) ∧ Below w.heap.size w w' := by
  refine (clone_any A n cap xs w hB hA hm).mono ?_
  rintro e1 w1 ⟨⟨A1, cap1, rfl, hG⟩, hb⟩
  obtain ⟨A', cap', he, hB1, _⟩ := ByteSl.of_own (S := S) hG.own (fun q h1 h2 => hS w1 hb q h1 h2)
  cases he
  refine ⟨?_, hb⟩
  rcases hG.own.2 with ⟨he, h0⟩ | ⟨g, cap2, cur, he, _⟩
  · cases he
    exact ⟨none, 0, rfl, hB1, fun _ => ⟨h0, rfl⟩⟩
  · cases he
    exact ⟨some g, cap1, rfl, hB1, fun h => by cases h⟩

set_option maxHeartbeats 2000000 in
theorem apply_put0 (s mb p c e : Nat) (M : Al Sv) (h : HeadV) (d : Bool) (f : Ch) (sec : Int) (w : World) (hS : StoreAt w s mb p c e M h d) (hf : ByteSl w Empty f.A f.n f.cap f.blob ∧ (f.A = none → f.n = 0 ∧ f.cap = 0)) (hd : f.del = false) (hk : f.s.size ≤ 64) (hn : f.n ≤ 4096) (hM : M.length ≤ 1048576) (hlt : Three p c e s → False) (hlt2 : ∀ q, w.heap.size ≤ q → ¬ Mut s mb p c e q) :
    Calls Tryz.prog 50 #[.pointer (some ⟨s, 0, none⟩), f.v, .int .i64 sec] w fun e1 w' => Applied s mb p c e M h d f sec w w' e1 := by
  obtain ⟨dl, key, A, n, cap, xs⟩ := f
  simp only at hd hk hn hf
  subst hd
  unfold Ch.v
  have HS := Lib.hid hS
  have hb0 := (Below.refl w.heap.size w).alloc (Nat.le_refl _) (.cells #[.bool false, .string key, .slice A n cap] 37)
  have Hcl := Lib.hid (fun W (hW : Only Empty (w.alloc (.cells #[.bool false, .string key, .slice A n cap] 37)) W) => clone_sv0 A n cap xs (Mut s mb p c e) W (hf.1.only ((Only.of_below (S := Empty) hb0).trans hW) (fun _ _ h => h.elim)) hf.2 (by omega) (fun W2 _ q h1 _ => hlt2 q (by have := hW.size; simp at this; omega)))
  have hbox := Blk.new w 37 #[.bool false, .string key, .slice A n cap]
  have s1' : w.cell? ⟨s, 1, none⟩ = some (.map (some mb)) := hS.blk.cell 1
  have hsl : s < w.heap.size := hS.blk.lt
  have hne := hS.ne
  have hml : mb < w.heap.size := hS.map.lt
  have HSx : Hid (∀ W, Only (· = mb) (w.alloc (.cells #[.bool false, .string key, .slice A n cap] 37)) W → W.cell? ⟨s, 1, none⟩ = some (.map (some mb)) ∧ W.cell? ⟨w.heap.size, 1, none⟩ = some (.string key) ∧ W.cell? ⟨w.heap.size, 2, none⟩ = some (.slice A n cap)) := Lib.hid (fun W hW => by
    have h1 := hW.blk hbox (by omega)
    exact ⟨(hW.blk (hS.blk.alloc _) (fun h => hne h.symm)).cell 1, h1.cell 1, h1.cell 2⟩)
  have HM : Hid (∀ W, Only Empty (w.alloc (.cells #[.bool false, .string key, .slice A n cap] 37)) W → StM W mb M.length M) := Lib.hid (fun W hW => (hS.map.alloc _).only hW (fun h => h))
  have Hb0 := Lib.hid hb0
  have Hend : Hid (∀ (g : Option Nat) (cap' : Nat) (W1 W2 : World), Only Empty (w.alloc (.cells #[.bool false, .string key, .slice A n cap] 37)) W1 → ByteSl W1 (Mut s mb p c e) (adr g) n cap' xs ∧ (adr g = none → n = 0 ∧ cap' = 0) → StM W2 mb (M.length + 1) (aput M key.data.toList ⟨sec, g, n, cap', xs⟩) → Only (· = mb) W1 W2 →
      (∃ M', StoreAt W2 s mb p c e M' h d ∧ amap Sv.a M' = applyA (amap Sv.a M) ⟨false, key, A, n, cap, xs⟩ sec ∧ M'.length ≤ M.length + 1) ∧ Only (· = mb) w W2) := Lib.hid (fun g cap' W1 W2 h1 h2 h3 h4 => by
    have h0 := (Only.of_below (S := Empty) hb0).trans h1
    have h5 : Only (· = mb) w W2 := (h0.mono (T := (· = mb)) (fun _ _ h => h.elim)).trans h4
    refine ⟨⟨_, ⟨h5.blk hS.blk (fun h => hne h.symm), h3.tight, ?_⟩, ?_, aput_len _ _ _⟩, h5⟩
    · exact BlobsAt.put (hS.bl.only h5 (fun i _ h => Or.inr (Or.inl h))) _ _ ⟨h2.1.only h4 (fun i _ h => Or.inr (Or.inl h)), h2.2⟩
    · rw [aput_map]
      rfl)
  have hk2 : Hid (key.size ≤ maxLen) := Lib.hid (by unfold maxLen; omega)
  have hM2 : Hid (M.length < maxLen) := Lib.hid (by unfold maxLen; omega)
  clear hS hf hlt2 hbox hb0
  go_enter Tryz.func50, Tryz.ntmps50
  go_wp2_with fail
  have hD : Only Empty (w.alloc (.cells #[.bool false, .string key, .slice A n cap] 37)) (w.alloc (.cells #[.bool false, .string key, .slice A n cap] 37)).drew := (Only.refl _ _).drew
  have hs1 := HSx.out _ (hD.mono (fun _ _ h => h.elim))
  have HD := Lib.hid hD
  clear hD
  go_region_held3 (fun W => W.cell? ⟨s, 1, none⟩ = some (.map (some mb)) ∧ W.cell? ⟨w.heap.size, 1, none⟩ = some (.string key) ∧ W.cell? ⟨w.heap.size, 2, none⟩ = some (.slice A n cap)) (first | with_reducible exact hs1 | with_reducible exact hs10 | with_reducible exact hs11)
    ((go_at_call 67; (with_reducible refine (Hcl.out _ HD.out).mono ?_); rintro e10 w10 ⟨⟨g10, cap10, rfl, hG10⟩, hb10⟩; have hO10 := HD.out.trans (Only.of_below (S := Empty) hb10); have hs10 := HSx.out _ (hO10.mono (fun _ _ h => h.elim)); obtain ⟨w11, hr11, hm11, ho11⟩ := (HM.out _ hO10).put_run hM2.out key hk2.out ⟨sec, g10, n, cap10, xs⟩; unfold Sv.v at hr11; simp only at hr11; have hs11 := HSx.out _ ((hO10.mono (fun _ _ h => h.elim)).trans ho11)))
  go_wp2
  go_end0
  exact ⟨rfl, Hend.out g10 cap10 w10 w11 hO10 hG10 hm11 ho11⟩

/-- A change is done, wherever its blob lies. -/
theorem apply0_any (s mb p c e : Nat) (M : Al Sv) (h : HeadV) (d : Bool) (f : Ch) (sec : Int) (w : World) (hS : StoreAt w s mb p c e M h d) (hf : ByteSl w Empty f.A f.n f.cap f.blob ∧ (f.A = none → f.n = 0 ∧ f.cap = 0)) (hF : f.s.size ≤ 64 ∧ f.rN ≤ 4096) (hM : M.length ≤ 1048576) (hlt : Three p c e s → False) (hlt2 : ∀ q, w.heap.size ≤ q → ¬ Mut s mb p c e q) :
    Calls Tryz.prog 50 #[.pointer (some ⟨s, 0, none⟩), f.v, .int .i64 sec] w fun e1 w' => Applied s mb p c e M h d f sec w w' e1 := by
  cases hd : f.del
  · refine apply_put0 s mb p c e M h d f sec w hS hf hd hF.1 ?_ hM hlt hlt2
    have := hF.2
    unfold Ch.rN at this
    rw [hd] at this
    exact this
  · exact apply_del s mb p c e M h d f sec w hS hd hF.1


/-- A record that is whole may be one. -/
theorem out_may {ys : List UInt8} (h : (out ys).whole = true) : mayB ((out ys).k : Int) ((out ys).t : Int) ((out ys).key.length : Int) ((out ys).blob.length : Int) ((out ys).c : Int) = true ∧ (out ys).t ≤ 4294967295 := by
  unfold out at h ⊢
  by_cases h1 : pE ys = 0
  · rw [if_pos h1] at h ⊢
    by_cases h2 : sumOk ys = true
    · rw [if_pos h2] at h ⊢
      have h3 : hdE ys = 0 ∧ ¬ ys.length < szOf ys := by
        unfold pE at h1
        by_cases h4 : hdE ys = 0
        · rw [if_pos h4] at h1
          refine ⟨h4, fun h5 => ?_⟩
          rw [if_pos h5] at h1
          cases h1
        · rw [if_neg h4] at h1
          exact absurd h1 h4
      have h4 := (head_facts h3.1).2.2.2
      have h5 := h3.2
      unfold szOf at h5
      have h6 : ((ys.drop 11).take (nA ys)).length = nA ys := by rw [List.length_take, List.length_drop]; omega
      have h7 : ((ys.drop (11 + nA ys)).take (nB ys)).length = nB ys := by rw [List.length_take, List.length_drop]; omega
      simp only
      rw [h6, h7]
      refine ⟨h4, ?_⟩
      unfold nT
      have h8 := getV_lt ((ys.drop 1).take 4)
      have h9 : ((ys.drop 1).take 4).length ≤ 4 := by rw [List.length_take]; omega
      have h10 : 256 ^ ((ys.drop 1).take 4).length ≤ 256 ^ 4 := Nat.pow_le_pow_right (by omega) h9
      have h11 : (256 : Nat) ^ 4 = 4294967296 := by decide
      omega
    · rw [if_neg h2] at h
      cases h
  · rw [if_neg h1] at h
    cases h
/-- A found record that may be one. -/
def FD.okD (d : FD) : Prop := mayB d.k (d.t : Int) (d.key.length : Int) (d.blob.length : Int) d.c = true ∧ d.t ≤ 4294967295
theorem Runs.oks {xs : List UInt8} {en pl to : Nat} {c c' : Bool} {L : List FD} (h : Runs xs en pl c L to c') : ∀ d ∈ L, d.okD := by
  induction h with
  | stop => exact fun d hd => (by cases hd)
  | bad => exact fun d hd => (by cases hd)
  | go pl c l to c' h1 h2 _ ih =>
    intro d hd
    rcases List.mem_append.1 hd with h3 | h3
    · by_cases hw : (out (xs.drop pl)).whole = true
      · rw [if_pos hw, List.mem_singleton] at h3
        subst h3
        exact out_may hw
      · rw [if_neg hw] at h3
        cases h3
    · exact ih d h3
theorem Runs.few {xs : List UInt8} {en pl to : Nat} {c c' : Bool} {L : List FD} (h : Runs xs en pl c L to c') (hp : pl ≤ xs.length) : L.length * 16 + pl ≤ xs.length ∧ to ≤ xs.length ∧ pl ≤ to := by
  induction h with
  | stop pl c _ => exact ⟨by simpa using hp, hp, Nat.le_refl _⟩
  | bad pl c _ _ => exact ⟨by simpa using hp, Nat.le_refl _, hp⟩
  | go pl c l to c' h1 h2 _ ih =>
    have h3 := out_size h2
    rw [List.length_drop] at h3
    obtain ⟨i1, i2, i3⟩ := ih (by omega)
    refine ⟨?_, i2, by omega⟩
    rw [List.length_append, Nat.add_mul]
    have : (if (out (xs.drop pl)).whole = true then [fdOf pl (out (xs.drop pl))] else []).length ≤ 1 := by split <;> simp
    omega
theorem okD_fair {d : FD} (h : d.okD) (h3 : d.k ≠ 3) : d.key.length ≤ 64 ∧ d.blob.length ≤ 4096 ∧ (d.k = 1 ∨ d.k = 2) := by
  have h1 := mayB_iff.1 h.1
  rcases h1.2 with h2 | h2 | h2
  · exact ⟨by omega, by omega, Or.inl h2.1⟩
  · exact ⟨by omega, by omega, Or.inr h2.1⟩
  · exact absurd h2.1 h3

/-- The greatest Txn. -/
def maxT (L : List FD) : Nat := L.foldl (fun m d => max m d.t) 0
theorem maxT_snoc (L : List FD) (d : FD) : maxT (L ++ [d]) = max (maxT L) d.t := by unfold maxT; rw [List.foldl_append]; rfl
theorem maxT_le (L : List FD) (h : ∀ d ∈ L, d.t ≤ 4294967295) : maxT L ≤ 4294967295 := by
  unfold maxT
  suffices ∀ (m : Nat), m ≤ 4294967295 → L.foldl (fun m d => max m d.t) m ≤ 4294967295 from this 0 (by omega)
  induction L with
  | nil => exact fun m hm => hm
  | cons a L ih =>
    intro m hm
    rw [List.foldl_cons]
    have := h a (List.mem_cons_self ..)
    exact ih (fun d hd => h d (List.mem_cons_of_mem _ hd)) _ (by omega)

end Go.Proofs.YtnhfmcijadficaaGreatDoor

/- The walks over greatestTxn and over a store's read. -/
namespace Go.Proofs.YtnhfmcijadficaaGreatDoor
set_option maxRecDepth 100000
open Go.RowKit Go.Maps

theorem Founds.row {w : World} {S : Nat → Prop} {A : Option Addr} {n cap : Nat} {l : List Fd} (h : Founds w S A n cap l) : RowSl Fd.cells 6 w S A n cap l := ⟨h.1, h.2.1, h.2.2.1, h.2.2.2.1⟩
theorem Founds.below {w w' : World} {S : Nat → Prop} {A : Option Addr} {n cap : Nat} {l : List Fd} (h : Founds w S A n cap l) (b : Below w.heap.size w w') : Founds w' S A n cap l := h.only (Only.of_below (S := Empty) b) (fun _ _ h => h.elim)

set_option maxHeartbeats 4000000 in
theorem greatest_any (A : Option Addr) (n cap : Nat) (l : List Fd) (w : World) (hF : Founds w Empty A n cap l) (ht : ∀ d ∈ l.map Fd.d, d.t ≤ 4294967295) (hn : n ≤ 1048576) :
    Calls Tryz.prog 116 #[.slice A n cap] w fun e w' => e = .returned (.int .u32 (maxT (l.map Fd.d) : Int)) ∧ Below w.heap.size w w' := by
  have HF := Lib.hid hF
  have hncap : n ≤ cap := hF.2.1
  have hcap2 : cap ≤ 9223372036854775807 := by have := hF.2.2.1; unfold maxLen at this; omega
  have hln := hF.1
  have Hmx : Hid (∀ i, maxT ((l.take i).map Fd.d) ≤ 4294967295) := Lib.hid (fun i => maxT_le _ (fun d hd => by
    obtain ⟨f, hf, rfl⟩ := List.mem_map.1 hd
    exact ht _ (List.mem_map.2 ⟨f, List.mem_of_mem_take hf, rfl⟩)))
  have Ht := Lib.hid ht
  clear hF ht
  go_enter Tryz.func116, Tryz.ntmps116
  go_wp2_with fail
  go_loopw [3, 8] (fun r v wr => ∃ i : Nat, i ≤ n ∧ v = .int .i64 (i : Int) ∧ r = .int .u32 (maxT ((l.take i).map Fd.d) : Int) ∧ Hid (Below w.heap.size w wr)) (fun _ v _ => n - (intOf v).toNat)
  case atStart => exact ⟨0, Nat.zero_le _, rfl, rfl, Lib.hid (Below.refl _ _)⟩
  case round =>
    obtain ⟨i, hi, rfl, rfl, HB⟩ := hrel
    have hmx := Hmx.out i
    by_cases hlt : i < n
    · obtain ⟨b, o, f, hA, hbl, -, hf, hc⟩ := ((HF.out.below HB.out).row).at_ hlt
      have htk := take_snoc l i f hf
      have htf : f.t ≤ 4294967295 := Ht.out f.d (List.mem_map.2 ⟨f, List.mem_of_getElem? hf, rfl⟩)
      have hsn : maxT ((l.take (i + 1)).map Fd.d) = max (maxT ((l.take i).map Fd.d)) f.t := by rw [htk, List.map_append]; exact maxT_snoc _ _
      obtain ⟨pl, k, t, s, A2, n2, cap2, cc, xs⟩ := f
      have c0 : wr.cell? ⟨b, o + i * 6, none⟩ = some (.int .i64 pl) := hc 0 (by omega)
      have c1 : wr.cell? ⟨b, o + i * 6 + 1, none⟩ = some (.int .i64 k) := hc 1 (by omega)
      have c2 : wr.cell? ⟨b, o + i * 6 + 2, none⟩ = some (.int .u32 (t : Int)) := hc 2 (by omega)
      have c3 : wr.cell? ⟨b, o + i * 6 + 3, none⟩ = some (.string s) := hc 3 (by omega)
      have c4 : wr.cell? ⟨b, o + i * 6 + 4, none⟩ = some (.slice A2 n2 cap2) := hc 4 (by omega)
      have c5 : wr.cell? ⟨b, o + i * 6 + 5, none⟩ = some (.int .i64 cc) := hc 5 (by omega)
      have HB2 := Lib.hid (HB.out.alloc HB.out.size (.cells #[.int .i64 pl, .int .i64 k, .int .u32 (t : Int), .string s, .slice A2 n2 cap2, .int .i64 cc] 190))
      have Hsn := Lib.hid hsn
      obtain ⟨mx, hmx2⟩ : ∃ mx, mx = maxT ((l.take i).map Fd.d) := ⟨_, rfl⟩
      rw [← hmx2] at Hsn hmx ⊢
      subst hA
      clear hc hf htk hsn hmx2
      go_wp2_with fail
      go_roundw
      case rel =>
        refine ⟨i + 1, by omega, by simp, ?_, HB2⟩
        rw [Hsn.out]
        exact congrArg (fun v : Int => Value.int .u32 v) (by simp; omega)
      case measure => simp [intOf]; omega
    · have hin : i = n := by omega
      subst hin
      have hte : l.take i = l := List.take_of_length_le (by omega)
      rw [hte]
      go_wp2_with fail
      go_ret
      exact ⟨rfl, HB.out⟩

end Go.Proofs.YtnhfmcijadficaaGreatDoor

/- The walk over a store's read: what a sector tells is done. -/
namespace Go.Proofs.YtnhfmcijadficaaGreatDoor
set_option maxRecDepth 100000
open Go.RowKit Go.Maps

/-- What a found record that counts does to a map; what a sector does; the head behind it. -/
def applyD (X : AX) (d : FD) (k : Int) : AX := if d.k = 2 then adel X d.key else aput X d.key (k, d.blob)
def readX (X : AX) (L : List FD) (k : Int) : AX := (commitsF L).foldl (fun X d => applyD X d k) X
def readH (Z k : Nat) (L : List FD) (to : Nat) (cl : Bool) : HeadV := if cl then ⟨0, 0, 0, 0⟩ else ⟨(k : Int), ((k * Z + to : Nat) : Int), ((Z - to : Nat) : Int), (maxT L : Int)⟩
/-- How a read ends. -/
def ReadTo (s mb p c e Z k : Nat) (M : Al Sv) (L : List FD) (to : Nat) (cl : Bool) (w w' : World) (e1 : Ending) : Prop :=
  e1 = .returned (.int .i64 0) ∧ (∃ M', StoreAt w' s mb p c e M' (readH Z k L to cl) false ∧ amap Sv.a M' = readX (amap Sv.a M) L (k : Int) ∧ M'.length ≤ M.length + L.length) ∧ Only (fun q => q = s ∨ q = mb) w w'

/-- A found record that counts, as a change. -/
def Fd.ch (f : Fd) : Ch := ⟨decide (f.k = 2), f.s, f.A, f.n, f.cap, f.blob⟩
theorem fold_snoc {α β : Type} (g : β → α → β) (x : β) (l : List α) (a : α) : (l ++ [a]).foldl g x = g (l.foldl g x) a := by rw [List.foldl_append]; rfl

theorem map_cell {w : World} {b n : Nat} {M : Al Sv} (h : StM w b n M) (ad : Addr) (hb : ad.block = b) : w.cell? ad = none := by
  obtain ⟨es, clock, hh, _⟩ := h
  unfold World.cell?
  rw [hb, hh]
theorem bytes_notmap {w : World} {b nM : Nat} {M : Al Sv} (hM : StM w b nM M) {A : Option Addr} {n cap : Nat} {xs : List UInt8} (h : ByteSl w Empty A n cap xs) : ByteSl w (· = b) A n cap xs := by
  refine ⟨h.1, h.2.1, h.2.2.1, fun hn => ?_⟩
  obtain ⟨ad, ha, hl, _, hx⟩ := h.2.2.2 hn
  refine ⟨ad, ha, hl, fun hb => ?_, hx⟩
  obtain ⟨x, hx0⟩ : ∃ x, xs[0]? = some x := ⟨_, List.getElem?_eq_getElem (by rw [h.1]; exact hn)⟩
  have h1 := hx 0 x hx0
  rw [map_cell hM (ad.add 0) (by rw [addr_add_block]; exact hb)] at h1
  cases h1
theorem founds_notmap {w : World} {b nM : Nat} {M : Al Sv} (hM : StM w b nM M) {A : Option Addr} {n cap : Nat} {l : List Fd} (h : Founds w Empty A n cap l) : Founds w (· = b) A n cap l := by
  refine ⟨h.1, h.2.1, h.2.2.1, fun hn => ?_, fun f hf => ⟨bytes_notmap hM (h.2.2.2.2 f hf).1, (h.2.2.2.2 f hf).2⟩⟩
  obtain ⟨b0, o, ha, hl, _, hx⟩ := h.2.2.2.1 hn
  refine ⟨b0, o, ha, hl, fun hb => ?_, hx⟩
  obtain ⟨f, hf⟩ : ∃ f, l[0]? = some f := ⟨_, List.getElem?_eq_getElem (by rw [h.1]; exact hn)⟩
  have h1 := hx 0 f hf 0 (by omega)
  rw [map_cell hM _ hb] at h1
  cases h1

theorem blk_cell {w : World} {g : Nat} {t : TypeId} {cs : Array Value} (hB : Blk w g t cs) (ad : Addr) (hb : ad.block = g) {v : Value} (h : w.cell? ad = some v) : ∃ i : Nat, cs[i]? = some v := by
  have e : w.heap[ad.block]? = some (.cells cs t (0, 0)) := by rw [hb]; exact hB
  simp only [World.cell?, e] at h
  split at h
  · cases h
  · exact ⟨_, h⟩
theorem bytes_apart {w : World} {S : Nat → Prop} {g : Nat} {t : TypeId} {cs : Array Value} (hB : Blk w g t cs) (h8 : ∀ (i : Nat) (x : UInt8), cs[i]? ≠ some (B8 x)) {A : Option Addr} {n cap : Nat} {xs : List UInt8} (h : ByteSl w S A n cap xs) : ByteSl w (fun q => S q ∨ q = g) A n cap xs := by
  refine ⟨h.1, h.2.1, h.2.2.1, fun hn => ?_⟩
  obtain ⟨ad, ha, hl, hs, hx⟩ := h.2.2.2 hn
  refine ⟨ad, ha, hl, fun hb => ?_, hx⟩
  rcases hb with hb | hb
  · exact hs hb
  · obtain ⟨x, hx0⟩ : ∃ x, xs[0]? = some x := ⟨_, List.getElem?_eq_getElem (by rw [h.1]; exact hn)⟩
    obtain ⟨i, hi⟩ := blk_cell hB (ad.add 0) (by rw [addr_add_block]; exact hb) (hx 0 x hx0)
    exact h8 i x hi
theorem founds_apart {w : World} {S : Nat → Prop} {g : Nat} {t : TypeId} {cs : Array Value} (hB : Blk w g t cs) (h8 : ∀ (i : Nat) (x : UInt8), cs[i]? ≠ some (B8 x)) (hstr : ∀ (i : Nat) s, cs[i]? ≠ some (.string s)) {A : Option Addr} {n cap : Nat} {l : List Fd} (h : Founds w S A n cap l) : Founds w (fun q => S q ∨ q = g) A n cap l := by
  refine ⟨h.1, h.2.1, h.2.2.1, fun hn => ?_, fun f hf => ⟨bytes_apart hB h8 (h.2.2.2.2 f hf).1, (h.2.2.2.2 f hf).2⟩⟩
  obtain ⟨b0, o, ha, hl, hs, hx⟩ := h.2.2.2.1 hn
  refine ⟨b0, o, ha, hl, fun hb => ?_, hx⟩
  rcases hb with hb | hb
  · exact hs hb
  · obtain ⟨f, hf⟩ : ∃ f, l[0]? = some f := ⟨_, List.getElem?_eq_getElem (by rw [h.1]; exact hn)⟩
    have h1 := hx 0 f hf 3 (by omega)
    have h2 : f.cells[3]? = some (.string f.s) := rfl
    rw [h2] at h1
    obtain ⟨i, hi⟩ := blk_cell hB _ hb h1
    exact hstr i _ hi
theorem store_cells (p mb : Nat) (h : HeadV) (d : Bool) : (∀ (i : Nat) (x : UInt8), (storeC p mb h d)[i]? ≠ some (B8 x)) ∧ ∀ (i : Nat) s, (storeC p mb h d)[i]? ≠ some (.string s) := by
  unfold storeC B8
  refine ⟨fun i x => ?_, fun i x => ?_⟩
  · rcases i with _ | _ | _ | _ | _ | _ | _ | i <;> simp
  · rcases i with _ | _ | _ | _ | _ | _ | _ | i <;> simp

set_option maxHeartbeats 8000000 in
theorem read_any (s mb p c e Z Lm k m en to : Nat) (cl : Bool) (ss : List (Nat × List UInt8)) (xs : List UInt8) (M : Al Sv) (h : HeadV) (L : List FD) (w : World) (hS : StoreAt w s mb p c e M h false) (hs : FS w p c e Z Lm ss) (hk : ss[k]? = some (m, xs)) (hE : IsEnd xs en) (hR : Runs xs en 12 false L to cl)
    (hM : M.length ≤ 500000) (hT : ∀ q, Three p c e q → q ≠ s ∧ q ≠ mb) :
    Calls Tryz.prog 74 #[.pointer (some ⟨s, 0, none⟩), .int .i64 (k : Int)] w fun e1 w' => ReadTo s mb p c e Z k M L to cl w w' e1 := by
  have hz := hs.bz
  have hxl := hs.len hk
  have hkz := kz_lt (Z := Z) hk
  have hkS := lt_at hk
  have hfew := hR.few (by omega)
  have hoks := hR.oks
  have s0 : w.cell? ⟨s, 0, none⟩ = some (.pointer (some ⟨p, 0, none⟩)) := hS.blk.cell 0
  have hsl := hS.blk.lt
  have hml := hS.map.lt
  have hg := geo_field1 (ss.length : Int) (Z : Int) (Lm : Int)
  have Hgeo := Lib.hid hs.geo
  have Hrd := Lib.hid (fun W (hW : Below w.heap.size w W) => ((hs.below hW).sec hk).read p c e ss.length Z Lm k m xs W)
  have hkm : (k : Int) * (Z : Int) = ((k * Z : Nat) : Int) := by simp
  obtain ⟨q0, hq0⟩ : ∃ q0, q0 = k * Z := ⟨_, rfl⟩
  obtain ⟨nS, hnS⟩ : ∃ nS, nS = ss.length := ⟨_, rfl⟩
  rw [← hq0] at hkm hkz Hrd
  rw [← hnS] at hg Hgeo
  have HS := Lib.hid hS
  have HE := Lib.hid hE
  have HR := Lib.hid hR
  have HT := Lib.hid hT
  have Hlt : Hid (∀ q, w.heap.size ≤ q → ¬ Mut s mb p c e q) := Lib.hid (fun q hq hm => by
    rcases hm with rfl | rfl | hm
    · omega
    · omega
    · have := hs.lt q hm; omega)
  have hq0b : q0 + Z ≤ 4194304 := by omega
  have hto : to ≤ Z := by omega
  have hL16 : L.length ≤ 4096 := by omega
  have hxZ : xs.length = Z := hxl
  have hZb : 64 ≤ Z ∧ Z ≤ 65536 := by omega
  have Hq0 := Lib.hid hq0
  have Hok := Lib.hid hoks
  clear hS hs hk hE hR hT hoks hz hxl hkz hfew hq0 hnS hkS
  go_enter Tryz.func74, Tryz.ntmps74
  go_wp2_with fail
  refine Hgeo.out.mono ?_
  rintro e1 w1 ⟨rfl, hb1⟩
  have Hb1 := Lib.hid hb1
  have s1 : w1.cell? ⟨s, 0, none⟩ = some (.pointer (some ⟨p, 0, none⟩)) := ((HS.out.below hb1).blk.cell 0)
  have hs1 := hb1.size
  clear hb1 Hgeo s0
  go_wp2_with fail
  have hrd := Hrd.out w1 Hb1.out
  refine hrd.mono ?_
  rintro e2 w2 ⟨v2, rfl, hown2, hb2⟩
  obtain ⟨A2, c2, rfl, hB2, -⟩ := ByteSl.of_own (S := Empty) hown2 (fun _ _ _ h => h)
  have Hb2 := Lib.hid (Hb1.out.trans (hb2.mono hs1))
  have Hsc := Lib.hid (scan_any A2 Z c2 xs w2 hB2 (by omega) (by omega) en HE.out L to cl HR.out)
  have hs2 := hb2.size
  clear hrd Hrd hown2 hb2 hB2 s1
  go_wp2_with fail
  refine Hsc.out.mono ?_
  rintro e3 w3 ⟨⟨A3, n3, c3, l3, rfl, hl3, hG3⟩, hb3⟩
  have Hb3 := Lib.hid (Hb2.out.trans (hb3.mono (by omega)))
  have hs3 := hb3.size
  have hn3 : n3 ≤ L.length := by have h1 := hG3.reads.1; have h2 : L.length = l3.length := by (rw [← hl3, List.length_map])
                                 omega
  have HF3 := Lib.hid hG3.reads
  have Hl3 := Lib.hid hl3
  have HokF : Hid (∀ f ∈ l3, f.d.okD) := Lib.hid (fun f hf => Hok.out _ (by rw [← Hl3.out]; exact List.mem_map.2 ⟨f, hf, rfl⟩))
  have hfn : ∀ f ∈ l3, f.n ≤ 16777216 := fun f hf => by
    have h1 := (hG3.reads.2.2.2.2 f hf).1.1
    have h2 := mayB_iff.1 (HokF.out f hf).1
    have h3 : f.d.blob.length = f.n := h1
    omega
  have Hcm := Lib.hid (commits_any A3 n3 c3 l3 w3 HF3.out (fun f hf => (HokF.out f hf).2) (by omega) hfn)
  rw [hl3] at Hcm
  clear Hsc hb3 hl3 hG3 hfn
  go_wp2_with fail
  refine Hcm.out.mono ?_
  rintro e4 w4 ⟨⟨A4, n4, c4, l4, rfl, hl4, hG4⟩, hb4⟩
  have Hb4 := Lib.hid (Hb3.out.trans (hb4.mono (by omega)))
  have hs4 := hb4.size
  have hn4 : n4 ≤ L.length := by
    have h1 := hG4.reads.1
    have h2 : l4.length = (commitsF L).length := by rw [← hl4, List.length_map]
    have h3 : (commitsF L).length ≤ L.length := List.length_filter_le _ _
    omega
  have HF3b := Lib.hid (HF3.out.below hb4)
  have HF4 := Lib.hid (founds_notmap ((HS.out.below Hb4.out).map) hG4.reads)
  have Hl4 := Lib.hid hl4
  have hl4n : l4.length = n4 := hG4.reads.1
  have Hok4 : Hid (∀ f ∈ l4, f.d.okD ∧ f.d.k ≠ 3) := Lib.hid (fun f hf => by
    have h1 : f.d ∈ commitsF L := by rw [← Hl4.out]; exact List.mem_map.2 ⟨f, hf, rfl⟩
    obtain ⟨h2, h3⟩ := List.mem_filter.1 h1
    refine ⟨Hok.out _ h2, fun h4 => ?_⟩
    unfold keepT at h3
    rw [h4] at h3
    simp at h3)
  have hn4c : n4 ≤ c4 := HF4.out.2.1
  have hc4m : c4 ≤ 9223372036854775807 := by have := HF4.out.2.2.1; unfold maxLen at this; omega
  have HS4 := Lib.hid (HS.out.below Hb4.out)
  clear Hcm hb4 hl4 hG4 HS Hb1 Hb2 Hb3
  go_wp2_with fail
  go_loopw [42] (fun v wr => ∃ (i : Nat) (Mi : Al Sv), i ≤ n4 ∧ v = .int .i64 (i : Int) ∧ Mi.length ≤ M.length + i ∧ Hid (StoreAt wr s mb p c e Mi h false) ∧ Hid (amap Sv.a Mi = ((l4.take i).map Fd.d).foldl (fun X d => applyD X d (k : Int)) (amap Sv.a M)) ∧ Hid (Only (· = mb) w4 wr)) (fun v _ => n4 - (intOf v).toNat)
  case atStart => exact ⟨0, M, Nat.zero_le _, rfl, by omega, HS4, Lib.hid rfl, Lib.hid (Only.refl _ _)⟩
  case round =>
    obtain ⟨i, Mi, hi, rfl, hMi, HSi, HXi, HO⟩ := hrel
    have hsr := HO.out.size
    have sr0 : wr.cell? ⟨s, 0, none⟩ = some (.pointer (some ⟨p, 0, none⟩)) := HSi.out.blk.cell 0
    have hsrl := HSi.out.blk.lt
    by_cases hlt : i < n4
    · obtain ⟨b, o, f, hA, hbl, -, hf, hc⟩ := ((HF4.out.only HO.out (fun j hj h => h)).row).at_ hlt
      have hfm := List.mem_of_getElem? hf
      have hokf := Hok4.out f hfm
      have hfair := okD_fair hokf.1 hokf.2
      have htk := take_snoc l4 i f hf
      have HXs : Hid (applyA (amap Sv.a Mi) f.ch (k : Int) = ((l4.take (i + 1)).map Fd.d).foldl (fun X d => applyD X d (k : Int)) (amap Sv.a M)) := Lib.hid (by
        rw [htk, List.map_append, List.map_singleton, fold_snoc, ← HXi.out]
        unfold applyA applyD Fd.ch Fd.d
        by_cases h2 : f.k = 2
        · simp [h2]
        · simp [h2])
      have hbf := (HF4.out.only HO.out (fun j hj h => h)).2.2.2.2 f hfm
      have Hap := Lib.hid (fun W (hW : Below wr.heap.size wr W) => apply0_any s mb p c e Mi h false f.ch (k : Int) W (HSi.out.below hW) ⟨(hbf.1.mono (T := Empty) (fun _ _ h => h.elim)).only (Only.of_below (S := Empty) hW) (fun _ _ h => h), hbf.2⟩ ⟨by have := hfair.1; rw [show f.d.key = f.s.data.toList from rfl, size_data] at this; exact this, by
          unfold Ch.rN
          split
          · omega
          · have h3 : f.d.blob.length = f.n := hbf.1.1
            show f.n ≤ 4096
            omega⟩ (by omega) (fun hm => (HT.out s hm).1 rfl) (fun q hq => Hlt.out q (by have := hW.size; have := Hb4.out.size; omega)))
      have hdl : (f.k == 2) = decide (f.k = 2) := rfl
      obtain ⟨pl, kk, t, sk, A5, n5, cap5, cc, bs⟩ := f
      have c0 : wr.cell? ⟨b, o + i * 6, none⟩ = some (.int .i64 pl) := hc 0 (by omega)
      have c1 : wr.cell? ⟨b, o + i * 6 + 1, none⟩ = some (.int .i64 kk) := hc 1 (by omega)
      have c2 : wr.cell? ⟨b, o + i * 6 + 2, none⟩ = some (.int .u32 (t : Int)) := hc 2 (by omega)
      have c3 : wr.cell? ⟨b, o + i * 6 + 3, none⟩ = some (.string sk) := hc 3 (by omega)
      have c4 : wr.cell? ⟨b, o + i * 6 + 4, none⟩ = some (.slice A5 n5 cap5) := hc 4 (by omega)
      have c5 : wr.cell? ⟨b, o + i * 6 + 5, none⟩ = some (.int .i64 cc) := hc 5 (by omega)
      have hal := (Below.refl wr.heap.size wr).alloc (Nat.le_refl _) (.cells #[.int .i64 pl, .int .i64 kk, .int .u32 (t : Int), .string sk, .slice A5 n5 cap5, .int .i64 cc] 190)
      subst hA
      clear hc hf hfm htk hokf hfair hbf
      go_wp2_with fail
      refine (Hap.out _ hal).mono ?_
      rintro e5 w5 ⟨rfl, ⟨M', hS5, hX5, hM5⟩, hO5⟩
      have HS5 := Lib.hid hS5
      have HX5 := Lib.hid (hX5.trans HXs.out)
      have HO5 := Lib.hid (HO.out.trans ((Only.of_below (S := (· = mb)) hal).trans hO5))
      clear hS5 hX5 hO5 Hap HXs HSi HXi HO c0 c1 c2 c3 c4 c5 sr0 hal
      go_wp2_with fail
      go_roundw
      case rel => exact ⟨i + 1, M', by omega, by simp, by omega, HS5, HX5, HO5⟩
      case measure => simp [intOf]; omega
    · have hin : i = n4 := by omega
      subst hin
      have hte : l4.take i = l4 := List.take_of_length_le (by omega)
      rw [hte, Hl4.out] at HXi
      have q2 : wr.cell? ⟨s, 2, none⟩ = some (.int .i64 h.sec) := HSi.out.blk.cell 2
      have q3 : wr.cell? ⟨s, 3, none⟩ = some (.int .i64 h.next) := HSi.out.blk.cell 3
      have q4 : wr.cell? ⟨s, 4, none⟩ = some (.int .i64 h.left) := HSi.out.blk.cell 4
      have q5 : wr.cell? ⟨s, 5, none⟩ = some (.int .u32 h.txn) := HSi.out.blk.cell 5
      have r2 := HSi.out.blk.frozen 2
      have r3 := HSi.out.blk.frozen 3
      have r4 := HSi.out.blk.frozen 4
      have r5 := HSi.out.blk.frozen 5
      have hsh := HSi.out.set_head ⟨0, 0, 0, 0⟩
      have HO6 := Lib.hid (((Only.of_below (S := fun q => q = s ∨ q = mb) Hb4.out).trans (HO.out.mono (T := fun q => q = s ∨ q = mb) (fun _ _ h => Or.inr h))).trans (hsh.2.mono (T := fun q => q = s ∨ q = mb) (fun _ _ h => Or.inl h)))
      have HS6 := Lib.hid hsh.1
      have HF6 := Lib.hid ((((founds_apart HS4.out.blk (store_cells p mb h false).1 (store_cells p mb h false).2 (founds_notmap HS4.out.map HF3b.out)).only HO.out (fun _ _ h => Or.inl h)).only hsh.2 (fun _ _ h => Or.inr h)).mono (T := Empty) (fun _ _ h => h.elim))
      have hwl := hsh.2.size
      clear hsh HSi HF4 HF3b HF3 HO Hb4 hte HS4
      obtain ⟨w6, hw6⟩ : ∃ w6, w6 = ((((wr.setCell ⟨s, 2, none⟩ (.int .i64 0)).setCell ⟨s, 3, none⟩ (.int .i64 0)).setCell ⟨s, 4, none⟩ (.int .i64 0)).setCell ⟨s, 5, none⟩ (.int .u32 0)) := ⟨_, rfl⟩
      rw [← hw6] at HS6 HO6 HF6 hwl
      have hl3n : l3.length = n3 := HF6.out.1
      have Hgr := Lib.hid (greatest_any A3 n3 c3 l3 w6 HF6.out (fun d hd => by
        obtain ⟨f, hf, rfl⟩ := List.mem_map.1 hd
        exact (HokF.out f hf).2) (by omega))
      rw [Hl3.out] at Hgr
      have q0' : w6.cell? ⟨s, 0, none⟩ = some (.pointer (some ⟨p, 0, none⟩)) := HS6.out.blk.cell 0
      have HX6 : Hid (amap Sv.a Mi = readX (amap Sv.a M) L (k : Int)) := Lib.hid HXi.out
      have hMi2 : Mi.length ≤ M.length + L.length := by omega
      clear HXi
      go_upto_if 12 with (fail)
      · have hclf : cl = false := by simp_all
        rw [← hw6]
        refine Hgr.out.mono ?_
        rintro e7 w7 ⟨rfl, hb7⟩
        have HS7 := Lib.hid (HS6.out.below hb7)
        have HO7 := Lib.hid (HO6.out.trans (Only.of_below (S := fun q => q = s ∨ q = mb) hb7))
        have q2 : w7.cell? ⟨s, 2, none⟩ = some (.int .i64 0) := HS7.out.blk.cell 2
        have q3 : w7.cell? ⟨s, 3, none⟩ = some (.int .i64 0) := HS7.out.blk.cell 3
        have q4 : w7.cell? ⟨s, 4, none⟩ = some (.int .i64 0) := HS7.out.blk.cell 4
        have q5 : w7.cell? ⟨s, 5, none⟩ = some (.int .u32 0) := HS7.out.blk.cell 5
        have r2 := HS7.out.blk.frozen 2
        have r3 := HS7.out.blk.frozen 3
        have r4 := HS7.out.blk.frozen 4
        have r5 := HS7.out.blk.frozen 5
        have hsl7 := HS7.out.blk.lt
        have Hh := Lib.hid (HS7.out.set_head ⟨(k : Int), ((q0 + to : Nat) : Int), ((Z - to : Nat) : Int), (maxT L : Int)⟩)
        have hcz : ((Z - to : Nat) : Int) = (Z : Int) - (to : Int) := by omega
        have hcq : ((q0 + to : Nat) : Int) = (q0 : Int) + (to : Int) := by omega
        rw [hcz, hcq] at Hh
        have HMl := Lib.hid hMi2
        have Hcl := Lib.hid hclf
        have Hcz := Lib.hid hcz
        have Hcq := Lib.hid hcq
        clear hb7 hw6 HS6 HO6 HF6 Hgr HS7 q0' hwl hMi2 hclf hcz hcq hMi
        go_wp2_with fail
        go_ret
        refine ⟨rfl, ⟨Mi, ?_, HX6.out, HMl.out⟩, HO7.out.trans (Hh.out.2.mono (T := fun q => q = s ∨ q = mb) (fun _ _ h => Or.inl h))⟩
        have he : readH Z k L to cl = ⟨(k : Int), (q0 : Int) + (to : Int), (Z : Int) - (to : Int), (maxT L : Int)⟩ := by
          unfold readH
          rw [Hcl.out, ← Hcz.out, ← Hcq.out, Hq0.out]
          rfl
        rw [he]
        exact Hh.out.1
      · have hclt : cl = true := by simp_all
        rw [← hw6]
        go_ret
        refine ⟨rfl, ⟨Mi, ?_, HX6.out, hMi2⟩, HO6.out⟩
        rw [hclt]
        exact HS6.out

end Go.Proofs.YtnhfmcijadficaaGreatDoor
