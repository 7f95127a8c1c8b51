/- The condition on the tables that sha's rows list, and what the walks take of it; arguments opened. -/
import Derived.Test.YtpcjmicciccihaaDoorZag
import Derived.Test.YtpcjmicciccihaaDoorZal
import Derived.Test.YtpcjmicciccihaaDoorZad
import Derived.Test.YtpcjmicciccihaaDoorCards
import Derived.Test.YtpcjmicciccihaaDoorTie
import Derived.Lay
namespace Go.Proofs.YtpcjmicciccihaaDoor
set_option maxRecDepth 100000
open Go.ChangeShapes Go.WideShapes Go.ChangeAt Go.RowKit Go.Joins

/-- The variables that the rows list. -/
def laidD : List (String × DataW Unit) := [("carpetbag/sha.start", Rows.laid_carpetbag_sha_start), ("carpetbag/sha.roots", Rows.laid_carpetbag_sha_roots)]
theorem gStart : Tryd.prog.globalNamed "carpetbag/sha.start" = some 0 := by kernel_rfl
theorem tStart : (Tryd.prog.globals[0]?).map (·.type) = some 45 := by kernel_rfl
theorem gRoots : Tryd.prog.globalNamed "carpetbag/sha.roots" = some 1 := by kernel_rfl
theorem tRoots : (Tryd.prog.globals[1]?).map (·.type) = some 57 := by kernel_rfl
theorem cells_of {w : World} {g : Nat} {l : List UInt32} (h : ∃ t fr, w.heap[g]? = some (.cells (l.map WV).toArray t fr)) : (∀ j x, l[j]? = some x → w.cell? ⟨g, j, none⟩ = some (WV x)) ∧ g < w.heap.size := by
  obtain ⟨t, fr, hb⟩ := h
  refine ⟨fun j x hj => ?_, (Array.getElem?_eq_some_iff.1 hb).1⟩
  rw [cell_of_row w g j _ t fr hb, List.getElem?_toArray, List.getElem?_map, hj]
  rfl
/-- What the condition gives the walks: the tables' cells. -/
theorem sha_of_laid {W : World} (h : laidMetH Tryd.prog laidD W) : ShaT W := by
  rw [MakeChecks.laidMetH_plain _ _ _ (by kernel_rfl)] at h
  obtain ⟨ps, ⟨g0, t0, cs0, f0, p0, q0, hg0, ht0, hv0, hd0, ⟨g1, t1, cs1, f1, p1, q1, hg1, ht1, hv1, hd1, _, _⟩, _⟩, _⟩ := h
  obtain rfl := Option.some.inj (gStart.symm.trans hg0)
  obtain rfl := Option.some.inj (tStart.symm.trans ht0)
  obtain rfl := Option.some.inj (gRoots.symm.trans hg1)
  obtain rfl := Option.some.inj (tRoots.symm.trans ht1)
  have e0 := (flat_of_trod 5 _ _ _ _ (by kernel_rfl) hd0).1
  have e1 := (flat_of_trod 5 _ _ _ _ (by kernel_rfl) hd1).1
  have k0 : cs0 = (startW.l.map WV).toArray := by
    apply Array.toList_inj.1
    rw [e0]
    kernel_rfl
  have k1 : cs1 = (rootsL.map WV).toArray := by
    apply Array.toList_inj.1
    rw [e1]
    kernel_rfl
  subst k0
  subst k1
  have c0 := cells_of (var_block gStart hv0)
  have c1 := cells_of (var_block gRoots hv1)
  exact ⟨c0.1, c1.1, by have := c1.2; omega⟩

section
variable {H : Type} {enc : TypeId × Value → H} {W : World} {base : Nat}
/-- 32 bytes by value. -/
theorem open_a32 {v : Value} {d : DataW H} {p : List MemPlace} (h : DataW.Trod enc Tryd.prog W 0 (fun _ => true) true 24 v d p) : ∃ l : List UInt8, l.length = 32 ∧ v = .agg (cellsB l) := by
  obtain ⟨fuel, ht⟩ := h
  obtain ⟨xs, m, _, _, hl, hn, hf⟩ := DataW.trod_array Tryd.underlying24 ht
  have hc : Tryd.prog.cellsOf 24 = 32 := by kernel_rfl
  have hc8 : Tryd.prog.cellsOf 5 = 1 := by kernel_rfl
  rw [hc] at hl
  rw [hc8] at hf
  have hcell : ∀ i, i < 32 → ∃ x : UInt8, v.cells.toList[i]? = some (B8 x) := by
    intro i hi
    have h1 := hf i hi
    rw [List.getElem?_eq_getElem (show i < xs.length by omega)] at h1
    obtain ⟨n, e1, _, wn⟩ := DataW.trod_int Tryd.underlying5 h1
    have hb := bd_u8i wn
    refine ⟨UInt8.ofNat n.toNat, ?_⟩
    have h2 : ((v.cells.toList.drop (i * 1)).take 1)[0]? = v.cells.toList[i]? := by
      rw [List.getElem?_take_of_lt (by omega), List.getElem?_drop]; simp
    rw [← h2, e1]
    show some _ = some _
    congr 1
    unfold B8
    congr 1
    rw [UInt8.toNat_ofNat']
    omega
  have hex : ∃ l : List UInt8, l.length = 32 ∧ v.cells.toList = l.map B8 := by
    refine ⟨(List.range 32).map (fun i => if hi : i < 32 then (hcell i hi).choose else 0), by simp, ?_⟩
    apply List.ext_getElem?
    intro i
    rw [List.map_map, List.getElem?_map]
    by_cases hi : i < 32
    · rw [List.getElem?_range hi, (hcell i hi).choose_spec]
      simp [hi]
    · rw [List.getElem?_eq_none (by rw [hl]; omega), List.getElem?_eq_none (by simp; omega)]
      rfl
  obtain ⟨l, hll, hv⟩ := hex
  refine ⟨l, hll, ?_⟩
  have hsz : v.cells.size = 32 := by simpa using hl
  cases v with
  | agg cs =>
    congr 1
    apply Array.toList_inj.1
    rw [show (cellsB l).toList = l.map B8 by simp [cellsB]]
    exact hv
  | _ => simp [Value.cells] at hsz
end
end Go.Proofs.YtpcjmicciccihaaDoor
