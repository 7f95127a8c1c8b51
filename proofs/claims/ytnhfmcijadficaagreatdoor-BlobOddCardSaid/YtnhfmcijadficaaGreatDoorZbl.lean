/- The library's insertion sort by a comparison, laid at rows of ints; the stable sort of a short row: what it makes, plain. -/
import Derived.Test.YtnhfmcijadficaaGreatDoorZas
import Derived.Shelf.SlSortCmp.Insertion
import Derived.Sort.LotA
import Derived.Test.YtnhfmcijadficaaGreatDoorZar
import Derived.Test.YtnhfmcijadficaaGreatDoorZaq
import Derived.Deep.QuietTactic
import Derived.BigQuiet
import Derived.Test.YtnhfmcijadficaaGreatDoorZbf
namespace Go.Proofs.YtnhfmcijadficaaGreatDoor
set_option maxRecDepth 100000
open Go.RowKit Go.Sort

/-- The numbers here of that sort's function and types. -/
def insRen : Go.Shelf.Ren := ⟨fun | 20 => 139 | n => n, fun | 0 => 0 | 3 => 3 | 4 => 4 | 22 => 76 | 24 => 3 | 25 => 142 | n => n, fun n => n⟩
theorem insLays : Go.Proofs.SlLaysF.n20 Tryz.prog insRen := {
  mixed := by kernel_rfl,
  f20 := ⟨Tryz.f139.name, by kernel_rfl, Tryz.func139.trans (congrArg some (by kernel_rfl))⟩,
  t0 := Tryz.underlying0,
  a0 := Tryz.isAgg0,
  z0 := Tryz.sizeOf0,
  v0 := Tryz.zeroValue0,
  t3 := Tryz.underlying3,
  a3 := Tryz.isAgg3,
  z3 := Tryz.sizeOf3,
  v3 := Tryz.zeroValue3,
  t4 := Tryz.underlying4,
  a4 := Tryz.isAgg4,
  z4 := Tryz.sizeOf4,
  v4 := Tryz.zeroValue4,
  t22 := Tryz.underlying76,
  a22 := Tryz.isAgg76,
  z22 := Tryz.sizeOf76,
  v22 := Tryz.zeroValue76,
  a24 := Tryz.isAgg3,
  z24 := Tryz.sizeOf3,
  t25 := Tryz.underlying142,
  a25 := Tryz.isAgg142,
  z25 := Tryz.sizeOf142,
  v25 := Tryz.zeroValue142 }

section
variable {m : Nat} (q : Fin (m + 1) → Int)
/-- By the key; by the key, then the place. -/
def ltQ (x y : Fin (m + 1)) : Bool := decide (q x < q y)
def ltL (x y : Fin (m + 1)) : Bool := decide (q x < q y) || (decide (q x = q y) && decide (x.val < y.val))
theorem ltL_swo : SWO (ltL q) := by
  refine ⟨fun x => by unfold ltL; simp, fun x y z h1 h2 => ?_, fun x y z h1 h2 => ?_⟩
  · unfold ltL at *
    simp at *
    omega
  · unfold ltL at *
    simp at *
    omega
theorem ltL_total (x y : Fin (m + 1)) (h1 : ltL q x y = false) (h2 : ltL q y x = false) : x = y := by
  unfold ltL at *
  simp at *
  apply Fin.ext
  omega
theorem swp_get (d : Array (Fin (m + 1))) (i j k : Nat) (hi : i < d.size) (hj : j < d.size) : (swp d i j)[k]! = if k = j then d[i]! else if k = i then d[j]! else d[k]! := by
  unfold swp
  by_cases hkj : k = j
  · subst hkj
    rw [if_pos rfl, getElem!_set_same _ _ _ (by simpa using hj)]
  · rw [if_neg hkj]
    by_cases hki : k = i
    · subst hki
      rw [if_pos rfl]
      rw [Array.getElem!_eq_getD, Array.getD_eq_getD_getElem?, Array.getElem?_setIfInBounds_ne (fun h => hkj h.symm), ← Array.getD_eq_getD_getElem?, ← Array.getElem!_eq_getD, getElem!_set_same _ _ _ hi]
    · rw [if_neg hki]
      rw [Array.getElem!_eq_getD, Array.getD_eq_getD_getElem?, Array.getElem?_setIfInBounds_ne (fun h => hkj h.symm), Array.getElem?_setIfInBounds_ne (fun h => hki h.symm), ← Array.getD_eq_getD_getElem?, ← Array.getElem!_eq_getD]
theorem swp_size (d : Array (Fin (m + 1))) (i j : Nat) : (swp d i j).size = d.size := by unfold swp; simp

/-- A greater one that goes down meets only smaller ones: it doesn't matter whether places count. -/
theorem ins_same : ∀ (j : Nat) (d : Array (Fin (m + 1))), j < d.size → (∀ k, k < j → d[k]!.val < d[j]!.val) → insInner (ltQ q) 0 j d = insInner (ltL q) 0 j d
  | 0, _, _, _ => rfl
  | j + 1, d, hs, h => by
    have h1 := h j (by omega)
    have he : ltQ q d[j + 1]! d[j]! = ltL q d[j + 1]! d[j]! := by
      unfold ltQ ltL
      have : decide (d[j + 1]!.val < d[j]!.val) = false := decide_eq_false (by omega)
      rw [this]
      simp
    unfold insInner
    rw [he]
    split
    · refine ins_same j (swp d (j + 1) j) (by rw [swp_size]; omega) (fun k hk => ?_)
      rw [swp_get d _ _ _ hs (by omega), swp_get d _ _ _ hs (by omega), if_neg (by omega), if_neg (by omega), if_pos rfl]
      exact h k (by omega)
    · rfl
theorem ins_keeps (lt : Fin (m + 1) → Fin (m + 1) → Bool) : ∀ (j : Nat) (d : Array (Fin (m + 1))), j < d.size → (insInner lt 0 j d).size = d.size ∧ (∀ k, j < k → (insInner lt 0 j d)[k]! = d[k]!) ∧ ∀ k, k ≤ j → ∃ k', k' ≤ j ∧ (insInner lt 0 j d)[k]! = d[k']!
  | 0, d, _ => ⟨rfl, fun _ _ => rfl, fun k hk => ⟨k, hk, rfl⟩⟩
  | j + 1, d, hs => by
    unfold insInner
    split
    · obtain ⟨h1, h2, h3⟩ := ins_keeps lt j (swp d (j + 1) j) (by rw [swp_size]; omega)
      refine ⟨by rw [h1, swp_size], fun k hk => ?_, fun k hk => ?_⟩
      · rw [h2 k (by omega), swp_get d _ _ _ hs (by omega), if_neg (by omega), if_neg (by omega)]
      · by_cases hkj : k ≤ j
        · obtain ⟨k', hk', he⟩ := h3 k hkj
          rw [swp_get d _ _ _ hs (by omega)] at he
          split at he
          · exact ⟨j + 1, Nat.le_refl _, he⟩
          · rw [if_neg (by omega)] at he
            exact ⟨k', by omega, he⟩
        · have : k = j + 1 := by omega
          subst this
          refine ⟨j, by omega, ?_⟩
          rw [h2 (j + 1) (by omega), swp_get d _ _ _ hs (by omega), if_neg (by omega), if_pos rfl]
    · exact ⟨rfl, fun _ _ => rfl, fun k hk => ⟨k, hk, rfl⟩⟩
theorem out_same : ∀ (t i b : Nat) (d : Array (Fin (m + 1))), b - i = t → b ≤ d.size → (∀ j k, j < k → i ≤ k → k < b → d[j]!.val < d[k]!.val) → insOuter (ltQ q) 0 b i d = insOuter (ltL q) 0 b i d
  | 0, i, b, d, ht, hb, _ => by
    unfold insOuter
    rw [if_neg (by omega), if_neg (by omega)]
  | t + 1, i, b, d, ht, hb, h => by
    unfold insOuter
    rw [if_pos (by omega), if_pos (by omega), ins_same q i d (by omega) (fun k hk => h k i hk (Nat.le_refl _) (by omega))]
    obtain ⟨h1, h2, h3⟩ := ins_keeps (ltL q) i d (by omega)
    refine out_same t (i + 1) b _ (by omega) (by rw [h1]; exact hb) (fun j k hjk hik hkb => ?_)
    rw [h2 k (by omega)]
    by_cases hji : j ≤ i
    · obtain ⟨k', hk', he⟩ := h3 j hji
      rw [he]
      exact h k' k (by omega) (by omega) hkb
    · rw [h2 j (by omega)]
      exact h j k hjk (by omega) hkb
/-- A row that rises by places is sorted by key and place. -/
theorem ins_list (d : Array (Fin (m + 1))) (h : d.toList.Pairwise (fun x y => x.val < y.val)) : (insertionSort (ltQ q) d 0 d.size).toList = d.toList.mergeSort (fun x y => !ltL q y x) := by
  have h1 : insertionSort (ltQ q) d 0 d.size = insertionSort (ltL q) d 0 d.size := by
    unfold insertionSort
    refine out_same q _ 1 d.size d rfl (Nat.le_refl _) (fun j k hjk _ hk => ?_)
    have h2 := (List.pairwise_iff_getElem.1 h) j k (by simpa using (by omega : j < d.size)) (by simpa using hk) hjk
    rw [getElem!_pos d j (by omega), getElem!_pos d k hk]
    simpa using h2
  rw [h1]
  obtain ⟨h2, h3⟩ := insertionSort_holds (lt := ltL q) (ltL_swo q) d 0 d.size (Nat.zero_le _) (Nat.le_refl _)
  exact sorted_unique_holds (lt := ltL q) (ltL_swo q) (fun x y a b => ltL_total q x y a b) d _ h2 h3
end

end Go.Proofs.YtnhfmcijadficaaGreatDoor

/- The walks over cmp.Compare at numbers of 32 bits, over the comparison of usedRow, over the stable sort of a short row. -/
namespace Go.Proofs.YtnhfmcijadficaaGreatDoor
set_option maxRecDepth 100000
open Go.RowKit Go.Sort

def cf32 (x y : Int) : Int := if x < y then -1 else if y < x then 1 else 0
theorem nan32 (x : Int) (w : World) : Calls Tryz.prog 113 #[.int .u32 x] w fun e w' => e = .returned (.bool false) ∧ w = w' := by
  go_enter Tryz.func113, Tryz.ntmps113
  go_wp2
  go_ret
  exact ⟨by simp, rfl⟩
theorem compare32 (x y : Int) (w : World) : Calls Tryz.prog 73 #[.int .u32 x, .int .u32 y] w fun e w' => e = .returned (.int .i64 (cf32 x y)) ∧ w = w' := by
  have H1 := Lib.hid (nan32 x w)
  have H2 := Lib.hid (nan32 y w)
  by_cases h1 : x < y
  · have he : cf32 x y = -1 := by unfold cf32; rw [if_pos h1]
    rw [he]
    go_enter Tryz.func73, Tryz.ntmps73
    go_wp2_with fail
    refine H1.out.mono ?_
    rintro e1 w1 ⟨rfl, rfl⟩
    go_wp2_with fail
    refine H2.out.mono ?_
    rintro e1 w1 ⟨rfl, rfl⟩
    go_wp2_with fail
    go_ret
    exact ⟨rfl, rfl⟩
  · by_cases h2 : y < x
    · have he : cf32 x y = 1 := by unfold cf32; rw [if_neg h1, if_pos h2]
      rw [he]
      go_enter Tryz.func73, Tryz.ntmps73
      go_wp2_with fail
      refine H1.out.mono ?_
      rintro e1 w1 ⟨rfl, rfl⟩
      go_wp2_with fail
      refine H2.out.mono ?_
      rintro e1 w1 ⟨rfl, rfl⟩
      go_wp2_with fail
      go_ret
      exact ⟨rfl, rfl⟩
    · have he : cf32 x y = 0 := by unfold cf32; rw [if_neg h1, if_neg h2]
      rw [he]
      go_enter Tryz.func73, Tryz.ntmps73
      go_wp2_with fail
      refine H1.out.mono ?_
      rintro e1 w1 ⟨rfl, rfl⟩
      go_wp2_with fail
      refine H2.out.mono ?_
      rintro e1 w1 ⟨rfl, rfl⟩
      go_wp2_with fail
      go_ret
      exact ⟨rfl, rfl⟩

/-- What the comparison of usedRow reads: the box of the sectors, their row. -/
structure CmpAt (W : World) (g b o : Nat) (n cap : Nat) (l : List Sc) : Prop where
  box : W.cell? ⟨g, 0, none⟩ = some (.slice (some ⟨b, o, none⟩) n cap)
  gl : g < W.heap.size
  bl : b < W.heap.size
  row : ∀ (i : Nat) (s : Sc), l[i]? = some s → W.cell? ⟨b, o + i * 3 + 1, none⟩ = some (.int .u32 s.q)
theorem usedCmp_any (W : World) (g b o n cap : Nat) (l : List Sc) (x y : Nat) (sx sy : Sc) (h : CmpAt W g b o n cap l) (hn : n ≤ cap) (hcap : cap ≤ 9223372036854775807) (hx : l[x]? = some sx) (hy : l[y]? = some sy) (hxn : x < n) (hyn : y < n) :
    Calls Tryz.prog 72 #[.int .i64 (x : Int), .int .i64 (y : Int), .pointer (some ⟨g, 0, none⟩)] W fun e w' => e = .returned (.int .i64 (cf32 sx.q sy.q)) ∧ ∃ q, w' = W.drewN q := by
  have c0 := h.box
  have gl := h.gl
  have bl := h.bl
  have x1 := h.row x sx hx
  have y1 := h.row y sy hy
  have hxI : (x : Int) < (n : Int) := by omega
  have hyI : (y : Int) < (n : Int) := by omega
  have Hc := Lib.hid (fun V => compare32 sx.q sy.q V)
  clear h hx hy
  go_enter Tryz.func72, Tryz.ntmps72
  go_wp2_with fail
  go_quiet ((go_at_call 73; exact Calls.quiet_of_same ((Hc.out _).mono fun _ _ ⟨h1, h2⟩ => ⟨h1, h2.symm⟩)))
  go_wp2_with fail
  go_ret
  exact ⟨rfl, _, rfl⟩

end Go.Proofs.YtnhfmcijadficaaGreatDoor

/- Rows of places, and their stable sort. -/
namespace Go.Proofs.YtnhfmcijadficaaGreatDoor
set_option maxRecDepth 100000
open Go.RowKit Go.Sort

section
variable {m : Nat}
def encF (x : Fin (m + 1)) : Value := .int .i64 (x.val : Int)
def finC (x : Fin (m + 1)) : List Value := [encF x]
theorem fin_len (x : Fin (m + 1)) : (finC x).length = 1 := rfl
theorem fin_one (x : Fin (m + 1)) : ∀ v ∈ finC x, v.oneCell' = true := by
  intro v hv
  simp only [finC, List.mem_cons, List.not_mem_nil, or_false] at hv
  subst hv
  rfl
theorem flat_fin (l : List (Fin (m + 1))) : l.flatMap finC = l.map encF := by
  induction l with
  | nil => rfl
  | cons a l ih => rw [List.flatMap_cons, List.map_cons, ih]; rfl
/-- A sort's world: only the row's block has turned. -/
theorem sortWorld_only (w : World) (blk k : Nat) (dk : Array (Fin (m + 1))) (os : Array Obj) : Only (· = blk) w (sortWorld encF w blk 0 k dk os) := by
  refine ⟨rfl, rfl, rfl, ?_, fun j hj hne => ?_⟩
  · unfold sortWorld grow
    simp [Sort.ahead]
  · unfold sortWorld
    rw [heap_grow_old _ _ (by simpa [Sort.ahead] using hj)]
    unfold putRow mapBlock
    show (Array.modify w.heap blk _)[j]? = _
    rw [Array.getElem?_modify, if_neg (fun h => hne h.symm)]
theorem CmpAt.only {W W' : World} {g b o n cap blk : Nat} {l : List Sc} (h : CmpAt W g b o n cap l) (k : Only (· = blk) W W') (hg : g ≠ blk) (hb : b ≠ blk) : CmpAt W' g b o n cap l :=
  ⟨(k.cell (p := ⟨g, 0, none⟩) h.gl hg).trans h.box, Nat.lt_of_lt_of_le h.gl k.size, Nat.lt_of_lt_of_le h.bl k.size, fun i s hs => (k.cell (p := ⟨b, o + i * 3 + 1, none⟩) h.bl hb).trans (h.row i s hs)⟩
/-- A sector's Seq, by its place. -/
def seqOf (sl : List Sc) (x : Fin (m + 1)) : Int := (sl[x.val]?.map Sc.q).getD 0
theorem ltOf_cf (q : Fin (m + 1) → Int) : ltOf (fun x y => cf32 (q x) (q y)) = ltQ q := by
  funext x y
  show decide (cf32 (q x) (q y) < 0) = decide (q x < q y)
  unfold cf32
  by_cases h1 : q x < q y
  · rw [if_pos h1]; simp [h1]
  · rw [if_neg h1]
    split <;> simp [h1]
/-- The row's sorted list. -/
def sortedBy (q : Fin (m + 1) → Int) (l : List (Fin (m + 1))) : List (Fin (m + 1)) := l.mergeSort (fun x y => !ltL q y x)
theorem sorted_len (q : Fin (m + 1) → Int) (l : List (Fin (m + 1))) : (sortedBy q l).length = l.length := by unfold sortedBy; simp

theorem ins_row (g0 b o nS capS : Nat) (sl : List Sc) (hsl : sl.length = m + 1) (hnS : nS = m + 1) (hcS : nS ≤ capS) (hcS2 : capS ≤ 9223372036854775807) (base g cap n : Nat) (cur : Array Value) (l : List (Fin (m + 1))) (w : World) (hB : Blk w g 3 cur) (hbase : base ≤ g) (hln : l.length = n) (hnc : n ≤ cap) (hcm : cap ≤ maxLen) (hcs : cur.size = cap) (ht : cur.toList.take n = l.map encF)
    (hP : l.Pairwise (fun x y => x.val < y.val)) (hC : CmpAt w g0 b o nS capS sl) (hg0 : g0 < base) (hb0 : b < base) (hn : n ≤ 1048576) :
    Calls Tryz.prog 139 #[.slice (some ⟨g, 0, none⟩) n cap, .int .i64 0, .int .i64 (n : Int), .func (.func 72) #[] #[.pointer (some ⟨g0, 0, none⟩)]] w fun e w' => e = .returned (.tuple #[]) ∧ GotR finC 1 3 base w' (some ⟨g, 0, none⟩) n cap (sortedBy (seqOf sl) l) ∧ Only (fun q => base ≤ q) w w' := by
  have hgetl : ∀ j (hj : j < n), cur[j]? = some (encF (l[j]'(by omega))) := by
    intro j hj
    have h1 := congrArg (fun L => L[j]?) ht
    simp only [List.getElem?_take, List.getElem?_map] at h1
    rw [if_pos hj, List.getElem?_eq_getElem (show j < l.length by omega), Option.map_some] at h1
    simpa using h1
  have hH : Holds encF w g 0 l.toArray := by
    intro j hj
    have hj2 : j < n := by simpa [hln] using hj
    refine ⟨?_, hB.frozen _⟩
    rw [hB.cell, Nat.zero_add, hgetl j hj2]
    congr 2
    rw [getElem!_pos _ _ (by simpa using (by omega : j < l.length))]
    simp
  have hs := Any.insertionSortCmpFunc_one insLays encF (fun _ => rfl) (fun x y : Fin (m + 1) => cf32 (seqOf sl x) (seqOf sl y)) 72 #[.pointer (some ⟨g0, 0, none⟩)] g 0 cap 0 n l.toArray w (enters_of Tryz.func72 (by kernel_rfl) rfl) (fun k os dk hdk x y => by
      have hO := sortWorld_only w g k dk os
      have hC2 := hC.only hO (by omega) (by omega)
      obtain ⟨sx, hx⟩ : ∃ sx, sl[x.val]? = some sx := ⟨_, List.getElem?_eq_getElem (by rw [hsl]; exact x.isLt)⟩
      obtain ⟨sy, hy⟩ : ∃ sy, sl[y.val]? = some sy := ⟨_, List.getElem?_eq_getElem (by rw [hsl]; exact y.isLt)⟩
      have h := usedCmp_any _ g0 b o nS capS sl x.val y.val sx sy hC2 hcS hcS2 hx hy (by have := x.isLt; omega) (by have := y.isLt; omega)
      have ex : seqOf sl x = sx.q := by unfold seqOf; rw [hx]; rfl
      have ey : seqOf sl y = sy.q := by unfold seqOf; rw [hy]; rfl
      rw [← ex, ← ey] at h
      exact h) hH (Nat.zero_le _) (by simp [hln]) (by simp [hln]; omega)
  have e1 : l.toArray.size = n := by simp [hln]
  rw [e1, ltOf_cf] at hs
  refine hs.mono ?_
  rintro e w' ⟨rfl, k, rfl⟩
  have hil := ins_list (seqOf sl) l.toArray (by simpa using hP)
  rw [e1] at hil
  obtain ⟨d, hd⟩ : ∃ d, d = insertionSort (ltQ (seqOf sl)) l.toArray 0 n := ⟨_, rfl⟩
  rw [← hd] at hil ⊢
  have hdl : d.toList = sortedBy (seqOf sl) l := hil
  have hds : d.size = n := by
    have := congrArg List.length hdl
    rw [sorted_len, hln] at this
    simpa using this
  have hO : Only (· = g) w ((putRow encF w g 0 d).drewN k) := by
    have h1 := sortWorld_only w g 0 d #[]
    rw [sortWorld_none] at h1
    exact h1.drewN k
  have hB2 : Blk ((putRow encF w g 0 d).drewN k) g 3 (putCells encF 0 d cur) := by
    refine Blk.drewN ?_ k
    show (Array.modify w.heap g _)[g]? = _
    rw [Array.getElem?_modify, if_pos rfl, show w.heap[g]? = _ from hB]
    rfl
  have hsz : (putCells encF 0 d cur).size = cap := by unfold putCells; simp [hcs]
  have htk : (putCells encF 0 d cur).toList.take n = (sortedBy (seqOf sl) l).map encF := by
    rw [← hdl]
    apply List.ext_getElem?
    intro j
    rw [List.getElem?_take]
    by_cases hj : j < n
    · rw [if_pos hj]
      unfold putCells
      rw [Array.getElem?_toList, Array.getElem?_mapIdx, Array.getElem?_eq_getElem (by omega), Option.map_some, if_pos ⟨Nat.zero_le _, by omega⟩, List.getElem?_map, List.getElem?_eq_getElem (by simp; omega), Option.map_some, Nat.sub_zero, getElem!_pos d j (by omega)]
      simp
    · rw [if_neg hj, List.getElem?_eq_none]
      simp
      omega
  have hrl : (sortedBy (seqOf sl) l).length = n := by rw [sorted_len, hln]
  have hflat : (putCells encF 0 d cur).toList.take (n * 1) = (sortedBy (seqOf sl) l).flatMap finC := by rw [Nat.mul_one, htk, flat_fin]
  refine ⟨rfl, ⟨⟨by rw [rows_len fin_len, hrl], Or.inr ⟨g, cap, _, rfl, hbase, hB2, hnc, hcm, by rw [hsz, Nat.mul_one], hflat⟩⟩, ?_, (fun h => by cases h), Or.inr ⟨g, _, rfl, hbase, hB2, by rw [hsz, Nat.mul_one]⟩⟩, hO.mono (fun j _ hj => by subst hj; exact hbase)⟩
  refine RowSl.of_blk fin_len hB2 hrl hnc hcm (fun j hj => ?_) (fun h => h)
  rw [← hflat, List.getElem?_take, if_pos hj]
  simp
end

end Go.Proofs.YtnhfmcijadficaaGreatDoor
