/- SHA-256: a Hash's Sum; Sum. -/
import Derived.Test.YtpcjmicciccihaaDoorZag
import Derived.Laws.Externs
import Derived.Test.YtpcjmicciccihaaDoorZac
namespace Go.Proofs.YtpcjmicciccihaaDoor
set_option maxRecDepth 100000
open Go.RowKit

theorem HashC.at_ {w : World} {g : Nat} {l : List UInt8} (h : HashC w g l) : HashAt w g l := ⟨_, fun _ => rfl, h⟩
theorem info48 : (Tryd.prog.info? 48).map (·.size) = some 73 := by kernel_rfl
theorem info24 : (Tryd.prog.info? 24).map (·.size) = some 32 := by kernel_rfl
theorem cellsB_one (l : List UInt8) : (cellsB l).all (·.oneCell') = true :=
  all_oneCell_toArray (fun u hu => by obtain ⟨z, _, rfl⟩ := List.mem_map.1 hu; rfl)

set_option maxHeartbeats 4000000 in
theorem hsum_any (w : World) (g : Nat) (l : List UInt8) (hT : ShaT w) (hH : HashAt w g l) (hl : l.length ≤ 549755813888) :
    Calls Tryd.prog 11 #[.pointer (some ⟨g, 0, none⟩)] w fun e w' => e = .returned (.agg (cellsB (sumF l))) ∧ Below w.heap.size w w' := by
  obtain ⟨u, hu, hb⟩ := hH
  have hrl : (hsF l).r.length = 64 := hsF_r l
  have HT := Lib.hid hT
  have hlt := hb.lt
  have hs2 := hT.size
  obtain ⟨N, hN⟩ : ∃ N, N = l.length := ⟨_, rfl⟩
  have HN := Lib.hid hN
  obtain ⟨HC, hHC⟩ : ∃ HC, HC = hcells u (hsF l).r N := ⟨_, rfl⟩
  have HHC := Lib.hid hHC
  have HCs : Hid (HC.size = 73) := Lib.hid (by rw [hHC, hcells_len _ _ _ hrl])
  have HC72 : Hid (HC[72]? = some (.int .u64 (N : Int))) := Lib.hid (by rw [hHC]; exact hcells_size _ _ _ hrl)
  have HU := Lib.hid hu
  have hNl : N ≤ 549755813888 := by omega
  rw [← hN, ← hHC] at hb
  have Hb := Lib.hid hb
  clear hT hu hN hHC hl hrl hb
  have hA : ∀ o, (w.alloc o).heap[g]? = some (.cells HC 48 (0, 0)) := fun o => Hb.out.alloc o
  have hA2 : ∀ o cs, ((w.alloc o).alloc (.cells cs 48)).heap[w.heap.size + 1]? = some (.cells cs 48 (0, 0)) := fun o cs => by
    have h := Blk.new (w.alloc o) 48 cs
    rw [show (w.alloc o).heap.size = w.heap.size + 1 by simp] at h
    exact h
  have HC1 : Hid (HC.all (·.oneCell') = true) := Lib.hid (by
    rw [HHC.out]
    unfold hcells
    refine all_oneCell_toArray (fun x hx => ?_)
    rcases List.mem_append.1 hx with h | h
    · obtain ⟨z, _, rfl⟩ := List.mem_map.1 h; rfl
    · rcases List.mem_append.1 h with h | h
      · obtain ⟨z, _, rfl⟩ := List.mem_map.1 h; rfl
      · rw [List.mem_singleton.1 h]; rfl)
  have hz : ∀ W : World, (zeroValue 48).run Tryd.prog W = .ok (.agg (hcells ⟨0, 0, 0, 0, 0, 0, 0, 0⟩ (List.replicate 64 0) 0)) W := fun W => by kernel_rfl
  obtain ⟨Z2, hZ2⟩ : ∃ Z2, Z2 = hcells ⟨0, 0, 0, 0, 0, 0, 0, 0⟩ (List.replicate 64 0) 0 := ⟨_, rfl⟩
  rw [← hZ2] at hz
  have HZ2 : Hid (Z2.size = 73) := Lib.hid (by rw [hZ2]; rfl)
  clear hZ2
  have hA3 : ∀ o, (((w.alloc o).alloc (.cells Z2 48)).setRow (w.heap.size + 1) HC).cell? ⟨g, 72, none⟩ = some (.int .u64 (N : Int)) := fun o => by
    have h : Blk (((w.alloc o).alloc (.cells Z2 48)).setRow (w.heap.size + 1) HC) g 48 HC :=
      ((Hb.out.alloc o).alloc _).of (setRow_other _ _ _ _ (by omega))
    exact (h.cell 72).trans HC72.out
  go_enter Tryd.func11, Tryd.ntmps11
  go_wp2_with (first | with_reducible refine wpList_load_row rfl 48 (.tmp 9) rfl g rfl 48 HC (0, 0) _ (hA _) Tryd.underlying48 rfl (by rw [HCs.out]; exact info48) ?_ | with_reducible refine wpList_store_row rfl 48 (.tmp 3) (.tmp 10) rfl (w.heap.size + 1) HC rfl rfl 48 _ (hA2 _ _) (by rw [HCs.out]; exact info48) (by rw [HCs.out]; exact HZ2.out) HC1.out ?_)
  obtain ⟨w2, hw2⟩ : ∃ W, (((w.alloc (.cells (cellsB (List.replicate 32 0)) 24)).alloc (.cells Z2 48)).setRow (w.heap.size + 1) HC) = W := ⟨_, rfl⟩
  change Calls _ _ _ (((w.alloc (.cells (cellsB (List.replicate 32 0)) 24)).alloc (.cells Z2 48)).setRow (w.heap.size + 1) HC) _
  have hs0 : ((w.alloc (.cells (cellsB (List.replicate 32 0)) 24)).alloc (.cells Z2 48)).heap.size = w.heap.size + 1 + 1 := by simp
  have hb01 : Below w.heap.size w ((w.alloc (.cells (cellsB (List.replicate 32 0)) 24)).alloc (.cells Z2 48)) := ((Below.refl _ _).alloc (Nat.le_refl _) _).alloc (by simp) _
  have hw02 : Below w.heap.size w w2 := by rw [← hw2]; exact below_setRow hb01 (by omega) _
  have hB2 : Blk w2 (w.heap.size + 1) 48 HC := by rw [← hw2]; exact setRow_heap _ _ _ _ _ _ (hA2 _ _)
  have hB1 : Blk w2 w.heap.size 24 (cellsB (List.replicate 32 0)) := by
    rw [← hw2]
    exact ((Blk.new _ _ _).alloc _).of (setRow_other _ _ _ _ (by omega))
  have hH2 : HashAt w2 (w.heap.size + 1) l := ⟨u, HU.out, by rw [← HN.out, ← HHC.out]; exact hB2⟩
  rw [hw2]
  have HW02 := Lib.hid hw02
  have HB1 := Lib.hid hB1
  have HH2 := Lib.hid hH2
  have hl2 := hB2.lt
  clear hw2 hs0 hb01 hw02 hB2 hB1 hH2 hA hA2 hA3 hz
  refine (ending_any w2 N (by omega)).mono ?_
  rintro e w3 ⟨⟨v, rfl, hown⟩, hb3⟩
  obtain ⟨A3, c3, rfl, hE3, -⟩ := ByteSl.of_own (S := (· = w.heap.size + 1)) hown (fun q hq _ h => by have h : q = w.heap.size + 1 := h; omega)
  have HE3 := Lib.hid hE3
  have Hb3 := Lib.hid hb3
  clear hown hE3 hb3
  go_wp2_with fail
  have hez : endZ N < 64 := by unfold endZ; omega
  refine (write_any w3 (w.heap.size + 1) l (endL N) A3 (endZ N + 9) c3 (HT.out.only (Only.of_below (HW02.out.trans (Hb3.out.mono HW02.out.size)) : Only Empty w w3) (fun h => h) (fun h => h)) (by omega) (HH2.out.of (Hb3.out.block _ hl2)) HE3.out (by have := HN.out; omega)).mono ?_
  rintro e w4 ⟨rfl, hC4, ho4⟩
  obtain ⟨V, hV⟩ : ∃ V, V = (hsF (l ++ endL N)).w := ⟨_, rfl⟩
  obtain ⟨R4, hR4⟩ : ∃ R4, R4 = (hsF (l ++ endL N)).r := ⟨_, rfl⟩
  obtain ⟨N4, hN4⟩ : ∃ N4, N4 = (l ++ endL N).length := ⟨_, rfl⟩
  have hb4 : Blk w4 (w.heap.size + 1) 48 (hcells V R4 N4) := by rw [hV, hR4, hN4]; exact hC4
  have HV : Hid (sumF l = digest V) := Lib.hid (by rw [hV, HN.out]; rfl)
  have c0 : w4.cell? ⟨w.heap.size + 1, 0, none⟩ = some (.int .u32 (V.a.toNat : Int)) := (hb4.cell 0).trans (hcells_word _ _ _ 0 (by omega))
  have c1 : w4.cell? ⟨w.heap.size + 1, 1, none⟩ = some (.int .u32 (V.b.toNat : Int)) := (hb4.cell 1).trans (hcells_word _ _ _ 1 (by omega))
  have c2 : w4.cell? ⟨w.heap.size + 1, 2, none⟩ = some (.int .u32 (V.c.toNat : Int)) := (hb4.cell 2).trans (hcells_word _ _ _ 2 (by omega))
  have c4_3 : w4.cell? ⟨w.heap.size + 1, 3, none⟩ = some (.int .u32 (V.d.toNat : Int)) := (hb4.cell 3).trans (hcells_word _ _ _ 3 (by omega))
  have c4_4 : w4.cell? ⟨w.heap.size + 1, 4, none⟩ = some (.int .u32 (V.e.toNat : Int)) := (hb4.cell 4).trans (hcells_word _ _ _ 4 (by omega))
  have c5 : w4.cell? ⟨w.heap.size + 1, 5, none⟩ = some (.int .u32 (V.f.toNat : Int)) := (hb4.cell 5).trans (hcells_word _ _ _ 5 (by omega))
  have c6 : w4.cell? ⟨w.heap.size + 1, 6, none⟩ = some (.int .u32 (V.g.toNat : Int)) := (hb4.cell 6).trans (hcells_word _ _ _ 6 (by omega))
  have c7 : w4.cell? ⟨w.heap.size + 1, 7, none⟩ = some (.int .u32 (V.h.toNat : Int)) := (hb4.cell 7).trans (hcells_word _ _ _ 7 (by omega))
  have hs23 := Hb3.out.size
  have HW04 := Lib.hid ((HW02.out.trans (Hb3.out.mono HW02.out.size)).trans (ho4.below (Nat.le_trans HW02.out.size hs23) (fun q hq h => by have h : q = w.heap.size + 1 := h; omega)))
  have hl1 := HB1.out.lt
  have HB14 := Lib.hid ((HB1.out.of (Hb3.out.block _ hl1)).of (ho4.block _ (by omega) (by simp)))
  clear hV hR4 hN4 hC4 hb4 ho4
  go_wp2_with fail
  refine (wsum_any w4 V).mono ?_
  rintro e w5 ⟨rfl, hb5⟩
  have HW05 := Lib.hid (HW04.out.trans (hb5.mono HW04.out.size))
  have HB15 := Lib.hid (HB14.out.of (hb5.block _ HB14.out.lt))
  obtain ⟨D, hD⟩ : ∃ D, D = cellsB (digest V) := ⟨_, rfl⟩
  have HD := Lib.hid hD
  have HDs : Hid (D.size = 32) := Lib.hid (by rw [hD, cellsB_len, digest_len])
  have HD1 : Hid (D.all (·.oneCell') = true) := Lib.hid (by rw [hD]; exact cellsB_one _)
  have HZD : Hid ((cellsB (List.replicate 32 0)).size = D.size) := Lib.hid (by rw [HDs.out]; rfl)
  rw [← hD]
  clear hb5 hD c0 c1 c2 c4_3 c4_4 c5 c6 c7
  have hg5 : w5.heap[w.heap.size]? = some (.cells (cellsB (List.replicate 32 0)) 24 (0, 0)) := HB15.out
  go_wp2_with (with_reducible refine wpList_store_row rfl 24 (.tmp 2) (.tmp 19) rfl w.heap.size D rfl rfl 24 _ hg5 (by rw [HDs.out]; exact info24) HZD.out HD1.out ?_)
  refine bodyPost_ret (v := .agg D) (results_cell_row Tryd.results11 _ _ w.heap.size 24 D (0, 0) _ rfl (setRow_heap _ _ _ _ _ _ hg5) Tryd.underlying24 rfl (by rw [HDs.out]; exact info24)) rfl ?_
  refine ⟨by rw [HV.out, HD.out], ?_⟩
  exact below_setRow HW05.out (Nat.le_refl _) _

theorem shsum_any (w : World) (bs : List UInt8) (A : Option Addr) (n cap : Nat) (hT : ShaT w) (hB : ByteSl w Empty A n cap bs) (hl : n ≤ 549755813888) :
    Calls Tryd.prog 7 #[.slice A n cap] w fun e w' => e = .returned (.agg (cellsB (sumF bs))) ∧ Below w.heap.size w w' := by
  have HT := Lib.hid hT
  have HB := Lib.hid hB
  have hs2 := hT.size
  clear hT hB
  go_enter Tryd.func7, Tryd.ntmps7
  go_wp2_with fail
  obtain ⟨w1, hw1⟩ : ∃ W, w.alloc (.cells (cellsB (List.replicate 32 0)) 24) = W := ⟨_, rfl⟩
  change Calls _ _ _ (w.alloc (.cells (cellsB (List.replicate 32 0)) 24)) _
  have hw01 : Below w.heap.size w w1 := by rw [← hw1]; exact (Below.refl _ _).alloc (Nat.le_refl _) _
  have hB1 : Blk w1 w.heap.size 24 (cellsB (List.replicate 32 0)) := by rw [← hw1]; exact Blk.new _ _ _
  rw [hw1]
  have HW1 := Lib.hid hw01
  have HB1 := Lib.hid hB1
  have hl1 := hB1.lt
  clear hw1 hw01 hB1
  refine (new_any w1).mono ?_
  rintro e w2 ⟨rfl, hH2, hb2⟩
  have HH2 := Lib.hid hH2
  have HW2 := Lib.hid (HW1.out.trans (hb2.mono HW1.out.size))
  have HB2 := Lib.hid (HB1.out.of (hb2.block _ hl1))
  have HX2 := Lib.hid ((HB.out.only (Only.of_below HW2.out : Only Empty w w2) (fun _ _ h => h)))
  have hs12 := hb2.size
  have hAx : Hid (ByteSl w2 (· = w1.heap.size) A n cap bs) := Lib.hid (by
    obtain ⟨h1, h2, h3, h4⟩ := HX2.out
    refine ⟨h1, h2, h3, fun h0 => ?_⟩
    obtain ⟨ad, e1, _, _, e4⟩ := h4 h0
    obtain ⟨ad', e1', hb', _, _⟩ := HB.out.2.2.2 h0
    rw [e1] at e1'
    cases e1'
    exact ⟨ad, e1, Nat.lt_of_lt_of_le hb' HW2.out.size, by omega, e4⟩)
  clear hH2 hb2
  go_wp2_with fail
  refine (write_any w2 w1.heap.size [] bs A n cap (HT.out.only (Only.of_below HW2.out : Only Empty w w2) (fun h => h) (fun h => h)) (by omega) HH2.out hAx.out (by show 0 + n ≤ _; omega)).mono ?_
  rintro e w3 ⟨rfl, hC3, ho3⟩
  have HC3 := Lib.hid hC3
  have HW3 := Lib.hid (HW2.out.trans (ho3.below HW2.out.size (fun q hq h => by have h : q = w1.heap.size := h; omega)))
  have HB3 := Lib.hid (HB2.out.of (ho3.block _ HB2.out.lt (by omega)))
  have hnl := HB.out.1
  clear hC3 ho3
  go_wp2_with fail
  refine (hsum_any w3 w1.heap.size bs (HT.out.only (Only.of_below HW3.out : Only Empty w w3) (fun h => h) (fun h => h)) HC3.out.at_ (by omega)).mono ?_
  rintro e w5 ⟨rfl, hb5⟩
  have HW05 := Lib.hid (HW3.out.trans (hb5.mono HW3.out.size))
  have HB15 := Lib.hid (HB3.out.of (hb5.block _ HB3.out.lt))
  obtain ⟨D, hD⟩ : ∃ D, D = cellsB (sumF bs) := ⟨_, rfl⟩
  have HD := Lib.hid hD
  have HDs : Hid (D.size = 32) := Lib.hid (by rw [hD, cellsB_len, sumF_len])
  have HD1 : Hid (D.all (·.oneCell') = true) := Lib.hid (by rw [hD]; exact cellsB_one _)
  have HZD : Hid ((cellsB (List.replicate 32 0)).size = D.size) := Lib.hid (by rw [HDs.out]; rfl)
  rw [← hD]
  clear hb5 hD
  have hg5 : w5.heap[w.heap.size]? = some (.cells (cellsB (List.replicate 32 0)) 24 (0, 0)) := HB15.out
  go_wp2_with (with_reducible refine wpList_store_row rfl 24 (.tmp 2) (.tmp 9) rfl w.heap.size D rfl rfl 24 _ hg5 (by rw [HDs.out]; exact info24) HZD.out HD1.out ?_)
  refine bodyPost_ret (v := .agg D) (results_cell_row Tryd.results7 _ _ w.heap.size 24 D (0, 0) _ rfl (setRow_heap _ _ _ _ _ _ hg5) Tryd.underlying24 rfl (by rw [HDs.out]; exact info24)) rfl ?_
  refine ⟨by rw [HD.out], ?_⟩
  exact below_setRow HW05.out (Nat.le_refl _) _
end Go.Proofs.YtpcjmicciccihaaDoor

/- SHA-256's signs: Hex, Unhex, and the document's. -/
namespace Go.Proofs.YtpcjmicciccihaaDoor
set_option maxRecDepth 100000
open Go.RowKit

def digL : List UInt8 := [48, 49, 50, 51, 52, 53, 54, 55, 56, 57, 97, 98, 99, 100, 101, 102]
def digS : ByteArray := ⟨#[48, 49, 50, 51, 52, 53, 54, 55, 56, 57, 97, 98, 99, 100, 101, 102]⟩
def hexD (y : Nat) : UInt8 := digL.getD y 0
/-- A hash's signs. -/
def hexF (l : List UInt8) : List UInt8 := l.flatMap fun x => [hexD (x.toNat / 16), hexD (x.toNat % 16)]
theorem hexF_len (l : List UInt8) : (hexF l).length = 2 * l.length := by
  induction l with
  | nil => rfl
  | cons x l ih =>
    show ([hexD (x.toNat / 16), hexD (x.toNat % 16)] ++ hexF l).length = 2 * (l.length + 1)
    rw [List.length_append, ih]
    simp; omega
theorem hexF_get (l : List UInt8) : ∀ j : Nat, (hexF l)[2 * j]? = l[j]?.map (fun x => hexD (x.toNat / 16)) ∧ (hexF l)[2 * j + 1]? = l[j]?.map (fun x => hexD (x.toNat % 16)) := by
  induction l with
  | nil => intro j; exact ⟨rfl, rfl⟩
  | cons x l ih =>
    intro j
    cases j with
    | zero => exact ⟨rfl, rfl⟩
    | succ j =>
      obtain ⟨h1, h2⟩ := ih j
      exact ⟨h1, h2⟩
theorem hexF_next (l : List UInt8) (k : Nat) (x : UInt8) (h : l[k]? = some x) : hexF (l.take (k + 1)) = hexF (l.take k) ++ [hexD (x.toNat / 16), hexD (x.toNat % 16)] := by
  obtain ⟨h1, h2⟩ := List.getElem?_eq_some_iff.1 h
  rw [List.take_succ_eq_append_getElem h1, h2]
  simp [hexF]
/-- The last place among the first k at which c stands. -/
def lastI (c : UInt8) : Nat → Int
  | 0 => -1
  | k + 1 => if hexD k == c then (k : Int) else lastI c k
def unI (c : UInt8) : Int := firstIdx digS c
theorem unI_last (c : UInt8) : lastI c 16 = unI c := by
  have h : ∀ n : Nat, n < 256 → lastI (UInt8.ofNat n) 16 = unI (UInt8.ofNat n) := by decide +kernel
  have := h c.toNat (byte_lt c)
  rwa [UInt8.ofNat_toNat] at this
theorem unI_in (c : UInt8) : -1 ≤ unI c ∧ unI c ≤ 15 := by
  have h : ∀ n : Nat, n < 256 → -1 ≤ unI (UInt8.ofNat n) ∧ unI (UInt8.ofNat n) ≤ 15 := by decide +kernel
  have := h c.toNat (byte_lt c)
  rwa [UInt8.ofNat_toNat] at this
theorem unI_hex (y : Nat) (h : y < 16) : unI (hexD y) = (y : Int) := by
  have h2 : ∀ y : Nat, y < 16 → unI (hexD y) = (y : Int) := by decide +kernel
  exact h2 y h
/-- A sign's half byte. -/
def hv (s : List UInt8) (k : Nat) : UInt8 := UInt8.ofNat (unI (s.getD k 0)).toNat
theorem hv_lt (s : List UInt8) (k : Nat) : (hv s k).toNat < 16 := by
  unfold hv
  have := unI_in (s.getD k 0)
  rw [UInt8.toNat_ofNat']
  omega
theorem hv_int (s : List UInt8) (k : Nat) (h : 0 ≤ unI (s.getD k 0)) : ((hv s k).toNat : Int) = unI (s.getD k 0) := by
  unfold hv
  have := unI_in (s.getD k 0)
  rw [UInt8.toNat_ofNat']
  omega
/-- The bytes that the first i signs make. -/
def unB (s : List UInt8) (i : Nat) : List UInt8 := (List.range 32).map fun j => if 2 * j + 1 < i then hv s (2 * j) * 16 + hv s (2 * j + 1) else if 2 * j < i then hv s (2 * j) else 0
theorem unB_len (s : List UInt8) (i : Nat) : (unB s i).length = 32 := by simp [unB]
theorem unB_zero (s : List UInt8) : unB s 0 = List.replicate 32 0 := by
  unfold unB
  apply List.ext_getElem
  · simp
  · intro i h1 h2
    simp only [List.getElem_map, List.getElem_range]
    rw [if_neg (by omega), if_neg (by omega), List.getElem_replicate]
def unX (s : List UInt8) (i : Nat) : UInt8 := if i % 2 = 0 then 0 else hv s (i - 1)
theorem unX_lt (s : List UInt8) (i : Nat) : (unX s i).toNat < 16 := by
  unfold unX
  split
  · decide
  · exact hv_lt _ _
theorem unB_get (s : List UInt8) (i : Nat) (h : i < 64) : (unB s i)[i / 2]? = some (unX s i) := by
  unfold unB unX
  rw [List.getElem?_map, List.getElem?_range (by omega)]
  simp only [Option.map_some]
  congr 1
  by_cases h2 : i % 2 = 0
  · rw [if_neg (by omega), if_neg (by omega), if_pos h2]
  · rw [if_neg (by omega), if_pos (by omega), if_neg h2]
    congr 1; omega
theorem unB_set (s : List UInt8) (i : Nat) (h : i < 64) : (unB s i).set (i / 2) (unX s i * 16 + hv s i) = unB s (i + 1) := by
  unfold unB unX
  apply List.ext_getElem
  · simp
  · intro j h1 h2
    simp only [List.length_set, List.length_map, List.length_range] at h1
    rw [List.getElem_set]
    simp only [List.getElem_map, List.getElem_range]
    by_cases hj : i / 2 = j
    · rw [if_pos hj]
      by_cases h3 : i % 2 = 0
      · rw [if_pos h3, if_neg (by omega), if_pos (by omega)]
        rw [show 2 * j = i by omega]
        simp
      · rw [if_neg h3, if_pos (by omega), show 2 * j = i - 1 by omega, show i - 1 + 1 = i by omega]
    · rw [if_neg hj]
      by_cases h4 : 2 * j + 1 < i
      · rw [if_pos h4, if_pos (by omega)]
      · rw [if_neg h4, if_neg (show ¬ 2 * j < i by omega), if_neg (show ¬ 2 * j + 1 < i + 1 by omega), if_neg (show ¬ 2 * j < i + 1 by omega)]
/-- What 64 signs tell. -/
noncomputable def unhexF (s : List UInt8) : Option (List UInt8) := open Classical in if s.length = 64 ∧ ∀ k, k < 64 → 0 ≤ unI (s.getD k 0) then some (unB s 64) else none
theorem unhex_hex (l : List UInt8) (h : l.length = 32) : unhexF (hexF l) = some l := by
  have gd : ∀ j, j < 32 → l[j]? = some (l.getD j 0) := fun j hj => by rw [List.getD_eq_getElem?_getD, List.getElem?_eq_getElem (by omega)]; rfl
  have g0 : ∀ j, j < 32 → (hexF l)[2 * j]? = some (hexD ((l.getD j 0).toNat / 16)) := fun j hj => by rw [(hexF_get l j).1, gd j hj]; rfl
  have g1 : ∀ j, j < 32 → (hexF l)[2 * j + 1]? = some (hexD ((l.getD j 0).toNat % 16)) := fun j hj => by rw [(hexF_get l j).2, gd j hj]; rfl
  have u0 : ∀ j, j < 32 → unI ((hexF l).getD (2 * j) 0) = (((l.getD j 0).toNat / 16 : Nat) : Int) := by
    intro j hj
    rw [List.getD_eq_getElem?_getD, g0 j hj]
    have := byte_lt (l.getD j 0)
    exact unI_hex _ (by omega)
  have u1 : ∀ j, j < 32 → unI ((hexF l).getD (2 * j + 1) 0) = (((l.getD j 0).toNat % 16 : Nat) : Int) := by
    intro j hj
    rw [List.getD_eq_getElem?_getD, g1 j hj]
    exact unI_hex _ (by omega)
  unfold unhexF
  rw [if_pos]
  · congr 1
    unfold unB
    apply List.ext_getElem
    · simp [h]
    · intro j h1 h2
      simp only [List.length_map, List.length_range] at h1
      simp only [List.getElem_map, List.getElem_range]
      rw [if_pos (by omega)]
      apply UInt8.toNat_inj.1
      have b := byte_lt (l.getD j 0)
      have e : l.getD j 0 = l[j] := by rw [List.getD_eq_getElem?_getD, List.getElem?_eq_getElem (by omega)]; rfl
      have a0 : (hv (hexF l) (2 * j)).toNat = (l.getD j 0).toNat / 16 := by
        have := hv_int (hexF l) (2 * j) (by rw [u0 j (by omega)]; omega)
        rw [u0 j (by omega)] at this
        omega
      have a1 : (hv (hexF l) (2 * j + 1)).toNat = (l.getD j 0).toNat % 16 := by
        have := hv_int (hexF l) (2 * j + 1) (by rw [u1 j (by omega)]; omega)
        rw [u1 j (by omega)] at this
        omega
      rw [UInt8.toNat_add, UInt8.toNat_mul, a0, a1, ← e]
      show ((l.getD j 0).toNat / 16 * 16 % 256 + (l.getD j 0).toNat % 16) % 256 = _
      omega
  · refine ⟨by rw [hexF_len]; omega, fun k hk => ?_⟩
    by_cases h2 : k % 2 = 0
    · have := u0 (k / 2) (by omega)
      rw [show 2 * (k / 2) = k by omega] at this
      rw [this]; omega
    · have := u1 (k / 2) (by omega)
      rw [show 2 * (k / 2) + 1 = k by omega] at this
      rw [this]; omega

theorem dig_index (W : World) (y : Nat) (k : IntKind) (hk : k = .u8 ∨ k = .i64) (h : y < 16) : (Instr.index 9 (.string digS) (.int k (y : Int))).run Tryd.prog W = .ok (.int .u8 ((hexD y).toNat : Int)) W := by
  rcases hk with rfl | rfl <;> (rcases y with _ | _ | _ | _ | _ | _ | _ | _ | _ | _ | _ | _ | _ | _ | _ | _ | y <;> first | (exfalso; omega) | kernel_rfl)
theorem and15 (x : UInt8) : bits .and .u8 (x.toNat : Int) 15 = ((x.toNat % 16 : Nat) : Int) := by
  have h := u8_and_nat x.toNat 15 (byte_lt x) (by omega)
  rw [show (15 : Nat) = 2 ^ 4 - 1 by decide, Nat.and_two_pow_sub_one_eq_mod] at h
  exact h

set_option maxHeartbeats 2000000 in
theorem hex_any (w : World) (l : List UInt8) (hl : l.length = 32) :
    Calls Tryd.prog 12 #[.agg (cellsB l)] w fun e w' => e = .returned (.string (strB (hexF l))) ∧ Below w.heap.size w w' := by
  have HL := Lib.hid hl
  have hls : (cellsB l).size = 32 := by rw [cellsB_len, hl]
  have Hls := Lib.hid hls
  clear hl hls
  have hA : ∀ o, (w.alloc (.cells (cellsB l) 24) |>.alloc o).heap[w.heap.size]? = some (.cells (cellsB l) 24 (0, 0)) := fun o => (Blk.new w 24 (cellsB l)).alloc o
  have hmk : ∀ W : World, (Instr.makeSlice 22 (.int .i64 0) (.int .i64 64)).run Tryd.prog W = .ok (.slice (some ⟨W.heap.size, 0, none⟩) 0 64) (W.alloc (.cells (cellsB (List.replicate 64 0)) 5)) := fun W => run_make_cap 0 64 (by omega) (by omega) W
  obtain ⟨Z, hZ⟩ : ∃ Z, Z = cellsB (List.replicate 64 0) := ⟨_, rfl⟩
  rw [← hZ] at hmk
  have HZ := Lib.hid hZ
  clear hZ
  go_enter Tryd.func12, Tryd.ntmps12
  go_wp2_with (with_reducible refine wpList_load_row rfl 24 (.tmp 1) rfl w.heap.size rfl 24 (cellsB l) (0, 0) _ (hA _) Tryd.underlying24 rfl (by rw [Hls.out]; exact info24) ?_)
  clear hmk hA
  go_loopw [3, 8] (fun b i wr => ∃ (k cap : Nat) (B : Option Addr), k ≤ 32 ∧ b = .slice B (2 * k) cap ∧ i = .int .i64 (k : Int) ∧ Hid (wr.ownsRow w.heap.size 5 1 (.slice B (2 * k) cap) (2 * k) ((hexF (l.take k)).map B8)) ∧ Hid (Below w.heap.size w wr)) (fun _ i _ => 32 - (intOf i).toNat)
  case atStart =>
    refine ⟨0, 64, some ⟨w.heap.size + 1, 0, none⟩, by omega, rfl, rfl, Lib.hid ?_, Lib.hid (((Below.refl _ _).alloc (Nat.le_refl _) _).alloc (by simp) _)⟩
    have h := Blk.new (w.alloc (.cells (cellsB l) 24)) 5 Z
    rw [show (w.alloc (.cells (cellsB l) 24)).heap.size = w.heap.size + 1 by simp] at h
    rw [HZ.out] at h ⊢
    exact own_of_blk h (by omega) (by simp) (by omega) (by decide) rfl
  case round =>
    obtain ⟨k, cap, B, hk, rfl, rfl, HO, HW⟩ := hrel
    have hsW := HW.out.size
    by_cases hlt : k < 32
    · have hltI : (k : Int) < 32 := by omega
      obtain ⟨x, hx⟩ : ∃ x, l[k]? = some x := ⟨_, List.getElem?_eq_getElem (by rw [HL.out]; exact hlt)⟩
      have hcx : (cellsB l)[k]? = some (.int .u8 (x.toNat : Int)) := by rw [cellsB_get, hx]; rfl
      have hix := run_index_one (P := Tryd.prog) wr 24 5 32 _ (cellsB l) k (.int .u8 (x.toNat : Int)) Tryd.underlying24 Tryd.underlying5 rfl (by kernel_rfl) hlt hcx
      have hxl := byte_lt x
      have e16 : (x.toNat : Int) / 16 = ((x.toNat / 16 : Nat) : Int) := by omega
      have HN := Lib.hid (hexF_next l k x hx)
      have HHl : Hid ((hexF (l.take k)).length = 2 * k) := Lib.hid (by rw [hexF_len, List.length_take, HL.out]; omega)
      obtain ⟨a, ha⟩ : ∃ a, a = x.toNat / 16 := ⟨_, rfl⟩
      obtain ⟨b, hb⟩ : ∃ b, b = x.toNat % 16 := ⟨_, rfl⟩
      have hi1 : ∀ W : World, (Instr.index 9 (.string digS) (.int .u8 ((x.toNat : Int) / 16))).run Tryd.prog W = .ok (.int .u8 ((hexD a).toNat : Int)) W := fun W => by rw [e16, ← ha]; exact dig_index W a .u8 (.inl rfl) (by omega)
      have hi2 : ∀ W : World, (Instr.index 9 (.string digS) (.int .u8 (bits .and .u8 (x.toNat : Int) 15))).run Tryd.prog W = .ok (.int .u8 ((hexD b).toNat : Int)) W := fun W => by rw [and15, ← hb]; exact dig_index W b .u8 (.inl rfl) (by omega)
      rw [← ha, ← hb] at HN
      have HOd := Lib.hid (own_alloc (own_only HO.out ((Only.refl Empty wr).drew) (fun _ _ _ h => h)) (.cells (cellsB [hexD a, hexD b]) 5))
      have HLt := Lib.hid (ByteSl.lit wr.drew Empty [hexD a, hexD b] 2 rfl (fun h => h) (by decide))
      clear hcx e16 ha hb
      unfold digS at hi1 hi2
      go_wp2
      have HBd : Hid (Below w.heap.size w (wr.drew.alloc (.cells (cellsB [hexD a, hexD b]) 5))) := Lib.hid ((HW.out.drewN 1).alloc hsW _)
      have hf1 : ∀ W : World, (execOp (fun _ => undef) { dst := none, op := .move (.tmp 0), type := 0, pos := "", after := #[], guard := none }).run Tryd.prog W = (execOp (fun _ => undef) { dst := none, op := .move (.tmp 0), type := 0, pos := "", after := #[], guard := none }).run Tryd.prog W := fun _ => rfl
      clear hf1
      refine wp_region_held_drew (S := fun _ => True) (by kernel_rfl) trivial (fun hHeld0 => ?_)
      refine take_yes 0 11 ?_ rfl rfl (by kernel_rfl) (by kernel_rfl) (by kernel_rfl) (fun _ _ _ h => h) (by kernel_rfl) ?_ (by assumption) ?_; rotate_left; (focus (intro w hSw; (try dsimp only at hSw); go_simp; all_goals first | with_reducible rfl)); simp only [Act.put, List.setIfInBounds_toArray, List.set_cons_zero, List.set_cons_succ]
      refine take_yes 1 12 ?_ rfl rfl (by kernel_rfl) (by kernel_rfl) (by kernel_rfl) (fun _ _ _ h => h) (by kernel_rfl) ?_ (by assumption) ?_; rotate_left; (focus (intro w hSw; (try dsimp only at hSw); go_simp; all_goals first | with_reducible rfl)); simp only [Act.put, List.setIfInBounds_toArray, List.set_cons_zero, List.set_cons_succ]
      refine take_yes 2 13 ?_ rfl rfl (by kernel_rfl) (by kernel_rfl) (by kernel_rfl) (fun _ _ _ h => h) (by kernel_rfl) ?_ (by assumption) ?_; rotate_left; (focus (intro w hSw; (try dsimp only at hSw); go_simp; all_goals first | with_reducible rfl)); simp only [Act.put, List.setIfInBounds_toArray, List.set_cons_zero, List.set_cons_succ]
      refine take_yes 3 14 (.int .u8 ((hexD a).toNat : Int)) rfl rfl (by kernel_rfl) (by kernel_rfl) (by kernel_rfl) (fun _ _ _ h => h) (by kernel_rfl) ?_ (by assumption) ?_; (focus (intro w hSw; (try dsimp only at hSw); go_simp; all_goals first | with_reducible rfl | simp [hi1])); simp only [Act.put, List.setIfInBounds_toArray, List.set_cons_zero, List.set_cons_succ]
      refine take_yes 4 15 ?_ rfl rfl (by kernel_rfl) (by kernel_rfl) (by kernel_rfl) (fun _ _ _ h => h) (by kernel_rfl) ?_ (by assumption) ?_; rotate_left; (focus (intro w hSw; (try dsimp only at hSw); go_simp; all_goals first | with_reducible rfl)); simp only [Act.put, List.setIfInBounds_toArray, List.set_cons_zero, List.set_cons_succ]
      refine take_yes 5 16 ?_ rfl rfl (by kernel_rfl) (by kernel_rfl) (by kernel_rfl) (fun _ _ _ h => h) (by kernel_rfl) ?_ (by assumption) ?_; rotate_left; (focus (intro w hSw; (try dsimp only at hSw); go_simp; all_goals first | with_reducible rfl)); simp only [Act.put, List.setIfInBounds_toArray, List.set_cons_zero, List.set_cons_succ]
      refine take_yes 6 17 (.int .u8 ((hexD b).toNat : Int)) rfl rfl (by kernel_rfl) (by kernel_rfl) (by kernel_rfl) (fun _ _ _ h => h) (by kernel_rfl) ?_ (by assumption) ?_; (focus (intro w hSw; (try dsimp only at hSw); go_simp; all_goals first | with_reducible rfl | simp [hi2])); simp only [Act.put, List.setIfInBounds_toArray, List.set_cons_zero, List.set_cons_succ]
      refine wpAnyH_ready (rs := [7]) (by kernel_rfl) (by simp) ?_
      refine AllReadyH.cons rfl (fun K hK => ?_) AllReadyH.nil
      go_simp
      refine hK.out _ _ (trivial) (fun _ => ?_)
      clear hK K
      try simp only [Act.put, List.setIfInBounds_toArray, List.set_cons_zero, List.set_cons_succ]
      refine wpAnyH_ready (rs := [8]) (by kernel_rfl) (by simp) ?_
      refine AllReadyH.cons rfl (fun K hK => ?_) AllReadyH.nil
      refine step_append_bytes rfl (.tmp 11) (.tmp 18) rfl w.heap.size (.slice B (2 * k) cap) rfl (2 * k) (hexF (l.take k)) HOd.out (some ⟨wr.heap.size, 0, none⟩) 2 2 [hexD a, hexD b] Empty rfl HLt.out (fun h => by cases h) (by omega) HBd.out.size ?_
      intro v5 w5 ho5 hg5 _
      change K (Act.put _ (some 19) v5) w5
      have HB5 : Hid (Below w.heap.size w w5) := Lib.hid (below_grown HBd.out HBd.out.size hg5 (own_ge HOd.out))
      obtain ⟨A5, c5, rfl, -, -⟩ := own_open ho5
      have HO5 := Lib.hid ho5
      clear ho5 hg5
      refine hK.out _ _ (trivial) (fun _ => ?_)
      clear hK K
      try simp only [Act.put, List.setIfInBounds_toArray, List.set_cons_zero, List.set_cons_succ]
      refine take_yes 9 3 ?_ rfl rfl (by kernel_rfl) (by kernel_rfl) (by kernel_rfl) (fun _ _ _ h => h) (by kernel_rfl) ?_ (by assumption) ?_; rotate_left; (focus (intro w hSw; (try dsimp only at hSw); go_simp; all_goals first | with_reducible rfl)); simp only [Act.put, List.setIfInBounds_toArray, List.set_cons_zero, List.set_cons_succ]
      refine wpAnyH_done (by kernel_rfl) ?_ _
      go_wp2
      go_roundw
      case rel =>
        refine ⟨k + 1, c5, A5, by omega, rfl, by go_num, Lib.hid ?_, HB5⟩
        rw [HN.out]
        exact HO5.out
      case measure => simp [intOf]; omega
    · have HE : Hid (ByteSl wr Empty B (2 * k) cap (hexF l)) := Lib.hid (by
        obtain ⟨A5, c5, he, hB, -⟩ := own_open HO.out
        cases he
        rw [List.take_of_length_le (by rw [HL.out]; omega)] at hB
        exact hB)
      have hcv := conv_bytes HE.out
      obtain ⟨X, hX⟩ : ∃ X, X = strB (hexF l) := ⟨_, rfl⟩
      have HX := Lib.hid hX
      rw [← hX] at hcv
      clear hX
      go_wp2
      go_ret
      exact ⟨by rw [HX.out]; rfl, HW.out⟩

set_option maxHeartbeats 1000000 in
theorem slidx_any (c : UInt8) (w : World) : Calls Tryd.prog 28 #[.string digS, .int .u8 (c.toNat : Int)] w fun e w' => e = .returned (.int .i64 (unI c)) ∧ w = w' := by
  have hr : (Extern.BytealgIndexByte.indexByte #[.string digS, .int .u8 (c.toNat : Int)]).run Tryd.prog w = .ok (.int .i64 (unI c)) w := by
    rw [run_indexByte_string]
    have e : ((c.toNat : Int).toNat).toUInt8 = c := by
      rw [Int.toNat_natCast]
      exact UInt8.ofNat_toNat
    rw [e]
    rfl
  have Hr := Lib.hid hr
  clear hr
  obtain ⟨D, hD⟩ : ∃ D, D = digS := ⟨_, rfl⟩
  rw [← hD] at Hr ⊢
  clear hD
  go_enter Tryd.func28, Tryd.ntmps28
  go_wp2
  rw [run_callFunc_extern Tryd.func34 (by kernel_rfl) (by kernel_rfl) (by kernel_rfl) (e := Extern.BytealgIndexByte.indexByte) (by kernel_rfl), Hr.out]
  simp only [Result.andThen]
  rw [Oper.upon_value]
  go_wp2
  go_ret
  exact ⟨rfl, rfl⟩
set_option maxHeartbeats 1000000 in
theorem stridx_any (c : UInt8) (w : World) : Calls Tryd.prog 21 #[.string digS, .int .u8 (c.toNat : Int)] w fun e w' => e = .returned (.int .i64 (unI c)) ∧ w = w' := by
  have C := Lib.hid (slidx_any c w)
  obtain ⟨D, hD⟩ : ∃ D, D = digS := ⟨_, rfl⟩
  rw [← hD] at C ⊢
  clear hD
  go_enter Tryd.func21, Tryd.ntmps21
  go_wp2_with fail
  refine C.out.mono ?_
  rintro e w1 ⟨rfl, rfl⟩
  go_wp2
  go_ret
  exact ⟨rfl, rfl⟩
end Go.Proofs.YtpcjmicciccihaaDoor

/- SHA-256's signs: Unhex, the program's and the document's. -/
namespace Go.Proofs.YtpcjmicciccihaaDoor
set_option maxRecDepth 100000
open Go.RowKit

theorem strB_sizeH (xs : List UInt8) : (strB xs).size = xs.length := by simp [strB, ByteArray.size]
theorem str_index (W : World) (xs : List UInt8) (k : Nat) (x : UInt8) (h : xs[k]? = some x) : (Instr.index 9 (.string (strB xs)) (.int .i64 (k : Int))).run Tryd.prog W = .ok (.int .u8 (x.toNat : Int)) W := by
  obtain ⟨h1, h2⟩ := List.getElem?_eq_some_iff.1 h
  have h3 : (0 : Int) ≤ (k : Int) ∧ (k : Int) < (strB xs).size := ⟨by omega, by rw [strB_sizeH]; omega⟩
  rw [run_index_string W 9 (strB xs) .i64 (k : Int) Tryd.underlying9, dif_pos h3]
  have e : (strB xs)[(k : Int).toNat]'(by rw [strB_sizeH]; simpa using h1) = x := by
    simp only [Int.toNat_natCast]
    exact h2
  rw [e]
theorem results_cell_row2 {P : Program} {fn : Func} {p q : Tmp} {ty : TypeId} (h : fn.results = #[.cell p ty, .tmp q]) (tmps : Array Value) (w : World) (g : Nat) (t : TypeId) (cs : Array Value) (fr : Nat × Nat) (d : TypeDesc) (v : Value)
    (hp : tmps.getD p undef = .pointer (some ⟨g, 0, none⟩)) (hq : tmps.getD q undef = v) (hg : w.heap[g]? = some (.cells cs t fr))
    (hu : P.underlying ty = some d) (hd : (match d with | .struct _ | .array _ _ => true | _ => false) = true) (hi : (P.info? ty).map (·.size) = some cs.size) :
    (results fn tmps).run P w = .ok (.tuple #[.agg cs, v]) w := by
  have hp' : tmps[p]?.getD undef = .pointer (some ⟨g, 0, none⟩) := by simpa using hp
  have hq' : tmps[q]?.getD undef = v := by simpa using hq
  simp [results, h, hp', hq', asAddr, run_loadVar_row w g t ty cs fr d hg hu hd hi]

/-- What Unhex answers. -/
noncomputable def unhexV (xs : List UInt8) : Value := match unhexF xs with
  | some l => .tuple #[.agg (cellsB l), .int .i64 0]
  | none => .tuple #[.agg (cellsB (List.replicate 32 0)), .int .i64 8]

theorem zero_info : (Tryd.prog.info? 24).map (·.size) = some (cellsB (List.replicate 32 0)).size := by rw [cellsB_len]; exact info24
theorem zero_one : (cellsB (List.replicate 32 0)).all (·.oneCell') = true := cellsB_one _
theorem or16 (x v : Nat) (hx : x < 16) (hv : v < 16) : bits .or .u8 ((x : Int) * 16) (v : Int) = ((x * 16 + v : Nat) : Int) := by
  have h : ∀ x, x < 16 → ∀ v, v < 16 → (x * 16) ||| v = x * 16 + v := by decide
  have h2 := u8_or_nat (x * 16) v (by omega) (by omega)
  rw [h x hx v hv] at h2
  rw [← h2]
  simp
theorem step_int (x y : UInt8) (v : Int) (hx : x.toNat < 16) (hy : y.toNat < 16) (hv : (y.toNat : Int) = v) : Value.int .u8 (bits .or .u8 ((x.toNat : Int) * 16) v) = B8 (x * 16 + y) := by
  rw [← hv, or16 _ _ hx hy]
  unfold B8
  congr 2
  rw [UInt8.toNat_add, UInt8.toNat_mul]
  show _ = (x.toNat * 16 % 256 + y.toNat) % 256
  omega
set_option maxHeartbeats 4000000 in
theorem unhex_any (w : World) (xs : List UInt8) :
    Calls Tryd.prog 13 #[.string (strB xs)] w fun e w' => e = .returned (unhexV xs) ∧ Below w.heap.size w w' := by
  have hsz := strB_sizeH xs
  obtain ⟨n, hn⟩ : ∃ n, n = xs.length := ⟨_, rfl⟩
  rw [← hn] at hsz
  have HN := Lib.hid hn
  have Hix : Hid (∀ (W : World) (k : Nat) (x : UInt8), xs[k]? = some x → (Instr.index 9 (.string (strB xs)) (.int .i64 (k : Int))).run Tryd.prog W = .ok (.int .u8 (x.toNat : Int)) W) := Lib.hid (fun W k x h => str_index W xs k x h)
  obtain ⟨S, hS⟩ : ∃ S, S = strB xs := ⟨_, rfl⟩
  rw [← hS] at hsz Hix ⊢
  clear hS hn
  by_cases hn64 : n = 64
  · subst hn64
    go_enter Tryd.func13, Tryd.ntmps13
    go_wp2
    go_loopw [11] (fun i wr => ∃ k : Nat, k ≤ 64 ∧ i = .int .i64 (k : Int) ∧ Hid (∀ j, j < k → 0 ≤ unI (xs.getD j 0)) ∧ Blk wr w.heap.size 24 (cellsB (List.replicate 32 0)) ∧ Blk wr (w.heap.size + 1) 24 (cellsB (unB xs k)) ∧ Hid (Below w.heap.size w wr)) (fun i _ => 64 - (intOf i).toNat)
    case atStart =>
      refine ⟨0, by omega, rfl, Lib.hid (fun j h => absurd h (by omega)), (Blk.new _ _ _).alloc _, ?_, Lib.hid (((Below.refl _ _).alloc (Nat.le_refl _) _).alloc (by simp) _)⟩
      rw [unB_zero]
      have h := Blk.new (w.alloc (.cells (cellsB (List.replicate 32 0)) 24)) 24 (cellsB (List.replicate 32 0))
      rw [show (w.alloc (.cells (cellsB (List.replicate 32 0)) 24)).heap.size = w.heap.size + 1 by simp] at h
      exact h
    case round =>
      obtain ⟨k, hk, rfl, HA, hb1, hb2, HW⟩ := hrel
      obtain ⟨Z, hZ⟩ : ∃ Z, Z = cellsB (List.replicate 32 0) := ⟨_, rfl⟩
      have HZ := Lib.hid hZ
      have HZs : Hid (Z.size = (cellsB (List.replicate 32 0)).size) := Lib.hid (by rw [hZ])
      rw [← hZ] at hb1
      have hg1 : wr.heap[w.heap.size]? = some (.cells Z 24 (0, 0)) := hb1
      clear hZ
      have hsW := HW.out.size
      by_cases hlt : k < 64
      · obtain ⟨c, hc⟩ : ∃ c, xs[k]? = some c := ⟨_, List.getElem?_eq_getElem (by rw [← HN.out]; exact hlt)⟩
        have hcd : xs.getD k 0 = c := by rw [List.getD_eq_getElem?_getD, hc]; rfl
        have hix := Hix.out wr k c hc
        have hin := unI_in c
        obtain ⟨v, hv_⟩ : ∃ v, v = unI c := ⟨_, rfl⟩
        have C := Lib.hid (stridx_any c wr)
        rw [← hv_] at C hin
        have HV := Lib.hid hv_
        have HCd := Lib.hid hcd
        have HC := Lib.hid hc
        have hlt2 := hb2.lt
        clear hc hcd hv_
        unfold digS at C
        by_cases hneg : v < 0
        · have HF : Hid (unhexV xs = .tuple #[.agg (cellsB (List.replicate 32 0)), .int .i64 8]) := Lib.hid (by
            unfold unhexV unhexF
            rw [if_neg (fun h => by have := h.2 k hlt; rw [HCd.out, ← HV.out] at this; omega)])
          clear hb2 hb1
          go_wp2_with fail
          refine C.out.mono ?_
          rintro e w1 ⟨rfl, rfl⟩
          go_wp2_with (with_reducible refine wpList_store_row rfl 24 (.tmp 2) (.tmp 20) rfl w.heap.size (cellsB (List.replicate 32 0)) rfl (by kernel_rfl) 24 Z hg1 zero_info HZs.out zero_one ?_)
          refine bodyPost_ret (v := .tuple #[.agg (cellsB (List.replicate 32 0)), .int .i64 8]) (results_cell_row2 Tryd.results13 _ _ w.heap.size 24 (cellsB (List.replicate 32 0)) (0, 0) _ (.int .i64 8) rfl rfl (setRow_heap _ _ _ _ _ _ hg1) Tryd.underlying24 rfl zero_info) rfl ?_
          exact ⟨by rw [HF.out], below_setRow HW.out (Nat.le_refl _) _⟩
        · have hneg2 : 0 ≤ v := by omega
          have hx := hb2.cell (k / 2)
          rw [cellsB_get, unB_get xs k hlt] at hx
          have hxl := unX_lt xs k
          obtain ⟨x, hxe⟩ : ∃ x, x = unX xs k := ⟨_, rfl⟩
          rw [← hxe] at hx hxl
          have hx2 : wr.cell? ⟨w.heap.size + 1, k / 2, none⟩ = some (.int .u8 (x.toNat : Int)) := hx
          have hf2 := hb2.frozen (k / 2)
          have Hb1 := Lib.hid hb1
          have Hb2 := Lib.hid hb2
          have HX := Lib.hid hxe
          clear hb1 hb2 hx hxe hneg
          go_wp2_with fail
          refine C.out.mono ?_
          rintro e w1 ⟨rfl, rfl⟩
          go_wp2
          rw [step_int x (hv xs k) v hxl (hv_lt _ _) (by rw [hv_int _ _ (by rw [HCd.out, ← HV.out]; exact hneg2), HCd.out, ← HV.out])]
          refine ⟨⟨k + 1, by omega, by go_num, Lib.hid (fun j hj => ?_), ?_, ?_, Lib.hid (HW.out.setCell (by show w.heap.size ≤ w.heap.size + 1; omega) _)⟩, by simp only [intOf]; omega⟩
          · by_cases hjk : j = k
            · rw [hjk, HCd.out, ← HV.out]; exact hneg2
            · exact HA.out j (by omega)
          · have h := Hb1.out
            rw [HZ.out] at h
            exact h.far (by simp) _
          · have h := Hb2.out.set_ (k / 2) (B8 (x * 16 + hv xs k))
            rw [cellsB_set, HX.out, unB_set xs k hlt, ← HX.out] at h
            exact h
      · have HF : Hid (unhexV xs = .tuple #[.agg (cellsB (unB xs 64)), .int .i64 0]) := Lib.hid (by
          unfold unhexV unhexF
          rw [if_pos ⟨HN.out.symm, fun j hj => HA.out j (by omega)⟩])
        obtain ⟨R, hR⟩ : ∃ R, R = cellsB (unB xs 64) := ⟨_, rfl⟩
        have HR := Lib.hid hR
        have HRs : Hid (R.size = 32) := Lib.hid (by rw [hR, cellsB_len, unB_len])
        have HR1 : Hid (R.all (·.oneCell') = true) := Lib.hid (by rw [hR]; exact cellsB_one _)
        have HRZ : Hid (Z.size = R.size) := Lib.hid (HZs.out.trans (by rw [HRs.out, cellsB_len]; rfl))
        rw [show k = 64 by omega, ← hR] at hb2
        have hg2 : wr.heap[w.heap.size + 1]? = some (.cells R 24 (0, 0)) := hb2
        rw [← hR] at HF
        clear hR hb1 hb2
        go_wp2_with (first | with_reducible refine wpList_load_row rfl 24 (.tmp 4) rfl (w.heap.size + 1) rfl 24 R (0, 0) _ hg2 Tryd.underlying24 rfl (by rw [HRs.out]; exact info24) ?_ | with_reducible refine wpList_store_row rfl 24 (.tmp 2) (.tmp 33) rfl w.heap.size R rfl rfl 24 Z hg1 (by rw [HRs.out]; exact info24) HRZ.out HR1.out ?_)
        refine bodyPost_ret (v := _) (results_cell_row2 Tryd.results13 _ _ w.heap.size 24 R (0, 0) _ _ rfl rfl (setRow_heap _ _ _ _ _ _ hg1) Tryd.underlying24 rfl (by rw [HRs.out]; exact info24)) rfl ?_
        exact ⟨by rw [HF.out]; rfl, below_setRow HW.out (Nat.le_refl _) _⟩
  · have HF : Hid (unhexV xs = .tuple #[.agg (cellsB (List.replicate 32 0)), .int .i64 8]) := Lib.hid (by
      unfold unhexV unhexF
      rw [if_neg (fun h => hn64 (by rw [HN.out]; exact h.1))])
    have hne : ((n : Int) == 64) = false := by simp; omega
    have hA0 : ∀ cs, (w.alloc (.cells cs 24)).heap[w.heap.size]? = some (.cells cs 24 (0, 0)) := fun cs => Blk.new w 24 cs
    clear hn64
    go_enter Tryd.func13, Tryd.ntmps13
    go_wp2_with (with_reducible refine wpList_store_row rfl 24 (.tmp 2) (.tmp 10) rfl w.heap.size (cellsB (List.replicate 32 0)) rfl (by kernel_rfl) 24 _ (hA0 _) zero_info (by kernel_rfl) zero_one ?_)
    refine bodyPost_ret (v := .tuple #[.agg (cellsB (List.replicate 32 0)), .int .i64 8]) (results_cell_row2 Tryd.results13 _ _ w.heap.size 24 (cellsB (List.replicate 32 0)) (0, 0) _ (.int .i64 8) rfl rfl (setRow_heap _ _ _ _ _ _ (hA0 _)) Tryd.underlying24 rfl zero_info) rfl ?_
    exact ⟨by rw [HF.out], below_setRow ((Below.refl _ _).alloc (Nat.le_refl _) _) (Nat.le_refl _) _⟩
end Go.Proofs.YtpcjmicciccihaaDoor

/- SHA-256's signs: the document's Hex and Unhex. -/
namespace Go.Proofs.YtpcjmicciccihaaDoor
set_option maxRecDepth 100000
open Go.RowKit

theorem dig_slice (W : World) (y : Nat) (h : y < 16) : (Instr.slice 9 (.string digS) (some (.int .u8 (y : Int))) (some (.int .u8 ((y : Int) + 1))) none).run Tryd.prog W = .ok (.string (strB [hexD y])) W := by
  rcases y with _ | _ | _ | _ | _ | _ | _ | _ | _ | _ | _ | _ | _ | _ | _ | _ | y <;> first | (exfalso; omega) | kernel_rfl

set_option maxHeartbeats 2000000 in
theorem r21hex_any (w : World) (l : List UInt8) (hl : l.length = 32) :
    Calls Tryd.prog 15 #[.agg (cellsB l)] w fun e w' => e = .returned (.string (strB (hexF l))) ∧ Below w.heap.size w w' := by
  have HL := Lib.hid hl
  have hls : (cellsB l).size = 32 := by rw [cellsB_len, hl]
  have Hls := Lib.hid hls
  clear hl hls
  have hA : (w.alloc (.cells (cellsB l) 24)).heap[w.heap.size]? = some (.cells (cellsB l) 24 (0, 0)) := Blk.new w 24 (cellsB l)
  go_enter Tryd.func15, Tryd.ntmps15
  go_wp2_with (with_reducible refine wpList_load_row rfl 24 (.tmp 1) rfl w.heap.size rfl 24 (cellsB l) (0, 0) _ hA Tryd.underlying24 rfl (by rw [Hls.out]; exact info24) ?_)
  clear hA
  go_loopw [3, 7] (fun b i wr => ∃ (k : Nat) (X : ByteArray), k ≤ 32 ∧ b = .string X ∧ i = .int .i64 (k : Int) ∧ Hid (X = strB (hexF (l.take k))) ∧ Hid (Below w.heap.size w wr)) (fun _ i _ => 32 - (intOf i).toNat)
  case atStart => exact ⟨0, _, by omega, rfl, rfl, Lib.hid rfl, Lib.hid ((Below.refl _ _).alloc (Nat.le_refl _) _)⟩
  case round =>
    obtain ⟨k, X, hk, rfl, rfl, HX, HW⟩ := hrel
    have hsW := HW.out.size
    by_cases hlt : k < 32
    · have hltI : (k : Int) < 32 := by omega
      obtain ⟨x, hx⟩ : ∃ x, l[k]? = some x := ⟨_, List.getElem?_eq_getElem (by rw [HL.out]; exact hlt)⟩
      have hcx : (cellsB l)[k]? = some (.int .u8 (x.toNat : Int)) := by rw [cellsB_get, hx]; rfl
      have hix := run_index_one (P := Tryd.prog) wr 24 5 32 _ (cellsB l) k (.int .u8 (x.toNat : Int)) Tryd.underlying24 Tryd.underlying5 rfl (by kernel_rfl) hlt hcx
      have hxl := byte_lt x
      have HN := Lib.hid (hexF_next l k x hx)
      obtain ⟨a, ha⟩ : ∃ a, a = x.toNat / 16 := ⟨_, rfl⟩
      obtain ⟨b, hb⟩ : ∃ b, b = x.toNat % 16 := ⟨_, rfl⟩
      have e1 : (x.toNat : Int) / 16 = (a : Int) := by omega
      have e2 : (x.toNat : Int) % 16 = (b : Int) := by omega
      have et : (x.toNat : Int).tmod 16 = (b : Int) := by rw [Int.tmod_eq_emod_of_nonneg (by omega)]; omega
      have ha16 : a < 16 := by omega
      have hb16 : b < 16 := by omega
      have hi1 : ∀ W : World, (Instr.slice 9 (.string digS) (some (.int .u8 (a : Int))) (some (.int .u8 ((a : Int) + 1))) none).run Tryd.prog W = .ok (.string (strB [hexD a])) W := fun W => dig_slice W a ha16
      have hi2 : ∀ W : World, (Instr.slice 9 (.string digS) (some (.int .u8 (b : Int))) (some (.int .u8 ((b : Int) + 1))) none).run Tryd.prog W = .ok (.string (strB [hexD b])) W := fun W => dig_slice W b hb16
      rw [← ha, ← hb] at HN
      obtain ⟨S1, hS1⟩ : ∃ S1, S1 = strB [hexD a] := ⟨_, rfl⟩
      obtain ⟨S2, hS2⟩ : ∃ S2, S2 = strB [hexD b] := ⟨_, rfl⟩
      rw [← hS1] at hi1
      rw [← hS2] at hi2
      have HS1 := Lib.hid hS1
      have HS2 := Lib.hid hS2
      have hXs : X.size ≤ 64 := by rw [HX.out, strB_sizeH, hexF_len, List.length_take]; omega
      have hS1s : S1.size = 1 := by rw [hS1]; rfl
      have hS2s : S2.size = 1 := by rw [hS2]; rfl
      have hl1 : ¬ (9223372036854775807 < X.size + S1.size) := by omega
      have hl2 : ¬ (9223372036854775807 < X.size + S1.size + S2.size) := by omega
      clear hXs hS1s hS2s
      clear hcx ha hb hS1 hS2 hx
      unfold digS at hi1 hi2
      have wa : IntKind.u8.wrap (a : Int) = (a : Int) := by rw [IntKind.wrap_u8]; omega
      have wb : IntKind.u8.wrap (b : Int) = (b : Int) := by rw [IntKind.wrap_u8]; omega
      have w1 : IntKind.u8.wrap ((a : Int) + 1) = (a : Int) + 1 := by rw [IntKind.wrap_u8]; omega
      have w2 : IntKind.u8.wrap ((b : Int) + 1) = (b : Int) + 1 := by rw [IntKind.wrap_u8]; omega
      go_wp2
      refine wp_region_held_drew (S := fun _ => True) (by kernel_rfl) trivial (fun hHeld0 => ?_)
      refine take_yes 0 10 ?_ rfl rfl (by kernel_rfl) (by kernel_rfl) (by kernel_rfl) (fun _ _ _ h => h) (by kernel_rfl) ?_ (by assumption) ?_; rotate_left; (focus (intro w hSw; (try dsimp only at hSw); go_simp; all_goals first | with_reducible rfl)); simp only [Act.put, List.setIfInBounds_toArray, List.set_cons_zero, List.set_cons_succ]
      refine take_yes 1 11 ?_ rfl rfl (by kernel_rfl) (by kernel_rfl) (by kernel_rfl) (fun _ _ _ h => h) (by kernel_rfl) ?_ (by assumption) ?_; rotate_left; (focus (intro w hSw; (try dsimp only at hSw); go_simp; all_goals first | with_reducible rfl)); simp only [Act.put, List.setIfInBounds_toArray, List.set_cons_zero, List.set_cons_succ]
      refine take_yes 2 12 (.int .u8 (a : Int)) rfl rfl (by kernel_rfl) (by kernel_rfl) (by kernel_rfl) (fun _ _ _ h => h) (by kernel_rfl) ?_ (by assumption) ?_; (focus (intro w hSw; (try dsimp only at hSw); go_simp; all_goals first | with_reducible rfl | simp [wa])); simp only [Act.put, List.setIfInBounds_toArray, List.set_cons_zero, List.set_cons_succ]
      refine take_yes 3 13 ?_ rfl rfl (by kernel_rfl) (by kernel_rfl) (by kernel_rfl) (fun _ _ _ h => h) (by kernel_rfl) ?_ (by assumption) ?_; rotate_left; (focus (intro w hSw; (try dsimp only at hSw); go_simp; all_goals first | with_reducible rfl)); simp only [Act.put, List.setIfInBounds_toArray, List.set_cons_zero, List.set_cons_succ]
      refine take_yes 4 14 (.int .u8 (a : Int)) rfl rfl (by kernel_rfl) (by kernel_rfl) (by kernel_rfl) (fun _ _ _ h => h) (by kernel_rfl) ?_ (by assumption) ?_; (focus (intro w hSw; (try dsimp only at hSw); go_simp; all_goals first | with_reducible rfl | simp [wa])); simp only [Act.put, List.setIfInBounds_toArray, List.set_cons_zero, List.set_cons_succ]
      refine take_yes 5 15 (.int .u8 ((a : Int) + 1)) rfl rfl (by kernel_rfl) (by kernel_rfl) (by kernel_rfl) (fun _ _ _ h => h) (by kernel_rfl) ?_ (by assumption) ?_; (focus (intro w hSw; (try dsimp only at hSw); go_simp; all_goals first | with_reducible rfl | simp [w1])); simp only [Act.put, List.setIfInBounds_toArray, List.set_cons_zero, List.set_cons_succ]
      refine take_yes 6 16 (.string S1) rfl rfl (by kernel_rfl) (by kernel_rfl) (by kernel_rfl) (fun _ _ _ h => h) (by kernel_rfl) ?_ (by assumption) ?_; (focus (intro w hSw; (try dsimp only at hSw); go_simp; all_goals first | with_reducible rfl | simp [hi1])); simp only [Act.put, List.setIfInBounds_toArray, List.set_cons_zero, List.set_cons_succ]
      refine take_yes 7 17 (.string (X ++ S1)) rfl rfl (by kernel_rfl) (by kernel_rfl) (by kernel_rfl) (fun _ _ _ h => h) (by kernel_rfl) ?_ (by assumption) ?_; (focus (intro w hSw; (try dsimp only at hSw); go_simp; all_goals first | with_reducible rfl | simp [hl1])); simp only [Act.put, List.setIfInBounds_toArray, List.set_cons_zero, List.set_cons_succ]
      refine take_yes 8 18 ?_ rfl rfl (by kernel_rfl) (by kernel_rfl) (by kernel_rfl) (fun _ _ _ h => h) (by kernel_rfl) ?_ (by assumption) ?_; rotate_left; (focus (intro w hSw; (try dsimp only at hSw); go_simp; all_goals first | with_reducible rfl)); simp only [Act.put, List.setIfInBounds_toArray, List.set_cons_zero, List.set_cons_succ]
      refine take_yes 9 19 (.int .u8 (b : Int)) rfl rfl (by kernel_rfl) (by kernel_rfl) (by kernel_rfl) (fun _ _ _ h => h) (by kernel_rfl) ?_ (by assumption) ?_; (focus (intro w hSw; (try dsimp only at hSw); go_simp; all_goals first | with_reducible rfl | simp [et])); simp only [Act.put, List.setIfInBounds_toArray, List.set_cons_zero, List.set_cons_succ]
      refine take_yes 10 20 ?_ rfl rfl (by kernel_rfl) (by kernel_rfl) (by kernel_rfl) (fun _ _ _ h => h) (by kernel_rfl) ?_ (by assumption) ?_; rotate_left; (focus (intro w hSw; (try dsimp only at hSw); go_simp; all_goals first | with_reducible rfl)); simp only [Act.put, List.setIfInBounds_toArray, List.set_cons_zero, List.set_cons_succ]
      refine take_yes 11 21 (.int .u8 (b : Int)) rfl rfl (by kernel_rfl) (by kernel_rfl) (by kernel_rfl) (fun _ _ _ h => h) (by kernel_rfl) ?_ (by assumption) ?_; (focus (intro w hSw; (try dsimp only at hSw); go_simp; all_goals first | with_reducible rfl | simp [et])); simp only [Act.put, List.setIfInBounds_toArray, List.set_cons_zero, List.set_cons_succ]
      refine take_yes 12 22 (.int .u8 ((b : Int) + 1)) rfl rfl (by kernel_rfl) (by kernel_rfl) (by kernel_rfl) (fun _ _ _ h => h) (by kernel_rfl) ?_ (by assumption) ?_; (focus (intro w hSw; (try dsimp only at hSw); go_simp; all_goals first | with_reducible rfl | simp [w2])); simp only [Act.put, List.setIfInBounds_toArray, List.set_cons_zero, List.set_cons_succ]
      refine take_yes 13 23 (.string S2) rfl rfl (by kernel_rfl) (by kernel_rfl) (by kernel_rfl) (fun _ _ _ h => h) (by kernel_rfl) ?_ (by assumption) ?_; (focus (intro w hSw; (try dsimp only at hSw); go_simp; all_goals first | with_reducible rfl | simp [hi2])); simp only [Act.put, List.setIfInBounds_toArray, List.set_cons_zero, List.set_cons_succ]
      refine take_yes 14 24 (.string (X ++ S1 ++ S2)) rfl rfl (by kernel_rfl) (by kernel_rfl) (by kernel_rfl) (fun _ _ _ h => h) (by kernel_rfl) ?_ (by assumption) ?_; (focus (intro w hSw; (try dsimp only at hSw); go_simp; all_goals first | with_reducible rfl | simp [hl2])); simp only [Act.put, List.setIfInBounds_toArray, List.set_cons_zero, List.set_cons_succ]
      refine take_yes 15 3 ?_ rfl rfl (by kernel_rfl) (by kernel_rfl) (by kernel_rfl) (fun _ _ _ h => h) (by kernel_rfl) ?_ (by assumption) ?_; rotate_left; (focus (intro w hSw; (try dsimp only at hSw); go_simp; all_goals first | with_reducible rfl)); simp only [Act.put, List.setIfInBounds_toArray, List.set_cons_zero, List.set_cons_succ]
      refine wpAnyH_done (by kernel_rfl) ?_ _
      go_wp2
      go_roundw
      case rel =>
        refine ⟨k + 1, _, by omega, rfl, by go_num, Lib.hid ?_, Lib.hid (HW.out.drewN 1)⟩
        rw [HN.out, HX.out, HS1.out, HS2.out, strB_cat, strB_cat, List.append_assoc]
        rfl
      case measure => simp [intOf]; omega
    · have HE : Hid (X = strB (hexF l)) := Lib.hid (by rw [HX.out, List.take_of_length_le (by rw [HL.out]; omega)])
      go_wp2
      go_ret
      exact ⟨by rw [HE.out]; rfl, HW.out⟩
end Go.Proofs.YtpcjmicciccihaaDoor

/- SHA-256's signs: the document's Unhex. -/
namespace Go.Proofs.YtpcjmicciccihaaDoor
set_option maxRecDepth 100000
open Go.RowKit

theorem step_add (x y : UInt8) (v : Int) (hx : x.toNat < 16) (hy : y.toNat < 16) (hv : (y.toNat : Int) = v) : Value.int .u8 ((x.toNat : Int) * 16 + v) = B8 (x * 16 + y) := by
  rw [← hv]
  unfold B8
  congr 1
  rw [UInt8.toNat_add, UInt8.toNat_mul]
  show _ = (((x.toNat * 16 % 256 + y.toNat) % 256 : Nat) : Int)
  omega

set_option maxHeartbeats 4000000 in
theorem r21unhex_any (w : World) (xs : List UInt8) :
    Calls Tryd.prog 14 #[.string (strB xs)] w fun e w' => e = .returned (unhexV xs) ∧ Below w.heap.size w w' := by
  have hsz := strB_sizeH xs
  obtain ⟨n, hn⟩ : ∃ n, n = xs.length := ⟨_, rfl⟩
  rw [← hn] at hsz
  have HN := Lib.hid hn
  have Hix : Hid (∀ (W : World) (k : Nat) (x : UInt8), xs[k]? = some x → (Instr.index 9 (.string (strB xs)) (.int .i64 (k : Int))).run Tryd.prog W = .ok (.int .u8 (x.toNat : Int)) W) := Lib.hid (fun W k x h => str_index W xs k x h)
  obtain ⟨S, hS⟩ : ∃ S, S = strB xs := ⟨_, rfl⟩
  rw [← hS] at hsz Hix ⊢
  have hA1 : ∀ o cs, ((w.alloc o).alloc (.cells cs 24)).heap[w.heap.size + 1]? = some (.cells cs 24 (0, 0)) := fun o cs => by
    have h := Blk.new (w.alloc o) 24 cs
    rw [show (w.alloc o).heap.size = w.heap.size + 1 by simp] at h
    exact h
  have hA0 : ∀ cs o, ((w.alloc (.cells cs 24)).alloc o).heap[w.heap.size]? = some (.cells cs 24 (0, 0)) := fun cs o => (Blk.new w 24 cs).alloc o
  clear hS hn
  by_cases hn64 : n = 64
  · subst hn64
    clear hA0 hA1
    go_enter Tryd.func14, Tryd.ntmps14
    go_wp2
    go_loopw [5] (fun i wr => ∃ k : Nat, k ≤ 64 ∧ i = .int .i64 (k : Int) ∧ Hid (∀ j, j < k → 0 ≤ unI (xs.getD j 0)) ∧ Blk wr w.heap.size 24 (cellsB (List.replicate 32 0)) ∧ Blk wr (w.heap.size + 1) 24 (cellsB (unB xs k)) ∧ Hid (Below w.heap.size w wr)) (fun i _ => 64 - (intOf i).toNat)
    case atStart =>
      refine ⟨0, by omega, rfl, Lib.hid (fun j h => absurd h (by omega)), (Blk.new _ _ _).alloc _, ?_, Lib.hid (((Below.refl _ _).alloc (Nat.le_refl _) _).alloc (by simp) _)⟩
      rw [unB_zero]
      have h := Blk.new (w.alloc (.cells (cellsB (List.replicate 32 0)) 24)) 24 (cellsB (List.replicate 32 0))
      rw [show (w.alloc (.cells (cellsB (List.replicate 32 0)) 24)).heap.size = w.heap.size + 1 by simp] at h
      exact h
    case round =>
      obtain ⟨k, hk, rfl, HA, hb1, hb2, HW⟩ := hrel
      obtain ⟨Z, hZ⟩ : ∃ Z, Z = cellsB (List.replicate 32 0) := ⟨_, rfl⟩
      have HZ := Lib.hid hZ
      have HZs : Hid (Z.size = (cellsB (List.replicate 32 0)).size) := Lib.hid (by rw [hZ])
      rw [← hZ] at hb1
      clear hZ
      have hsW := HW.out.size
      by_cases hlt : k < 64
      · obtain ⟨c, hc⟩ : ∃ c, xs[k]? = some c := ⟨_, List.getElem?_eq_getElem (by rw [← HN.out]; exact hlt)⟩
        have hcd : xs.getD k 0 = c := by rw [List.getD_eq_getElem?_getD, hc]; rfl
        have hix : ∀ W : World, (Instr.index 9 (.string S) (.int .i64 (k : Int))).run Tryd.prog W = .ok (.int .u8 (c.toNat : Int)) W := fun W => Hix.out W k c hc
        have hin := unI_in c
        obtain ⟨v, hv_⟩ : ∃ v, v = unI c := ⟨_, rfl⟩
        rw [← hv_] at hin
        have HV := Lib.hid hv_
        have HCd := Lib.hid hcd
        have Hb1 := Lib.hid hb1
        have Hb2 := Lib.hid hb2
        clear hc hcd hv_ hb1 hb2
        go_wp2_with fail
        rename World => wo
        go_loopw [6, 7] (fun q i ws => ∃ j : Nat, j ≤ 16 ∧ q = .int .i64 (lastI c j) ∧ i = .int .i64 (j : Int) ∧ ∃ d, ws = wo.drewN d) (fun _ i _ => 16 - (intOf i).toNat)
        case atStart => exact ⟨0, by omega, rfl, rfl, 0, rfl⟩
        case round =>
          obtain ⟨j, hj, rfl, rfl, d, rfl⟩ := hrel
          by_cases hj16 : j < 16
          · have hd := dig_index
            have hdi : ∀ W : World, (Instr.index 9 (.string digS) (.int .i64 (j : Int))).run Tryd.prog W = .ok (.int .u8 ((hexD j).toNat : Int)) W := fun W => dig_index W j .i64 (.inr rfl) hj16
            obtain ⟨L, hL⟩ : ∃ L, L = lastI c j := ⟨_, rfl⟩
            have HL : Hid (lastI c (j + 1) = if hexD j == c then (j : Int) else L) := Lib.hid (by rw [hL]; rfl)
            rw [← hL]
            obtain ⟨D, hD⟩ : ∃ D, D = hexD j := ⟨_, rfl⟩
            rw [← hD] at hdi HL
            clear hd hL hD
            unfold digS at hdi
            by_cases he : D = c
            · have HL2 : Hid (lastI c (j + 1) = (j : Int)) := Lib.hid (by rw [HL.out, he]; simp)
              subst he
              go_wp2
              refine wp_region_held_drew (S := fun _ => True) (by kernel_rfl) trivial (fun hHeld0 => ?_)
              refine take_yes 0 20 ?_ rfl rfl (by kernel_rfl) (by kernel_rfl) (by kernel_rfl) (fun _ _ _ h => h) (by kernel_rfl) ?_ (by assumption) ?_; rotate_left; (focus (intro w hSw; (try dsimp only at hSw); go_simp; all_goals first | with_reducible rfl)); simp only [Act.put, List.setIfInBounds_toArray, List.set_cons_zero, List.set_cons_succ]
              refine take_yes 1 21 (.int .u8 (D.toNat : Int)) rfl rfl (by kernel_rfl) (by kernel_rfl) (by kernel_rfl) (fun _ _ _ h => h) (by kernel_rfl) ?_ (by assumption) ?_; (focus (intro w hSw; (try dsimp only at hSw); go_simp; all_goals first | with_reducible rfl | simp [hdi])); simp only [Act.put, List.setIfInBounds_toArray, List.set_cons_zero, List.set_cons_succ]
              refine take_yes 2 22 ?_ rfl rfl (by kernel_rfl) (by kernel_rfl) (by kernel_rfl) (fun _ _ _ h => h) (by kernel_rfl) ?_ (by assumption) ?_; rotate_left; (focus (intro w hSw; (try dsimp only at hSw); go_simp; all_goals first | with_reducible rfl)); simp only [Act.put, List.setIfInBounds_toArray, List.set_cons_zero, List.set_cons_succ]
              refine take_yes 3 23 ?_ rfl rfl (by kernel_rfl) (by kernel_rfl) (by kernel_rfl) (fun _ _ _ h => h) (by kernel_rfl) ?_ (by assumption) ?_; rotate_left; (focus (intro w hSw; (try dsimp only at hSw); go_simp; all_goals first | with_reducible rfl)); simp only [Act.put, List.setIfInBounds_toArray, List.set_cons_zero, List.set_cons_succ]
              refine take_yes 4 24 (.int .u8 (D.toNat : Int)) rfl rfl (by kernel_rfl) (by kernel_rfl) (by kernel_rfl) (fun _ _ _ h => h) (by kernel_rfl) ?_ (by assumption) ?_; (focus (intro w hSw; (try dsimp only at hSw); go_simp; all_goals first | with_reducible rfl | simp [hix])); simp only [Act.put, List.setIfInBounds_toArray, List.set_cons_zero, List.set_cons_succ]
              refine take_yes 5 25 (.bool true) rfl rfl (by kernel_rfl) (by kernel_rfl) (by kernel_rfl) (fun _ _ _ h => h) (by kernel_rfl) ?_ (by assumption) ?_; (focus (intro w hSw; (try dsimp only at hSw); go_simp; all_goals first | with_reducible rfl)); simp only [Act.put, List.setIfInBounds_toArray, List.set_cons_zero, List.set_cons_succ]
              refine wpAnyH_done (by kernel_rfl) ?_ _
              go_wp2
              go_roundw
              case rel => exact ⟨j + 1, by omega, by rw [HL2.out], by go_num, d + 1, rfl⟩
              case measure => simp [intOf]; omega
            · have HL2 : Hid (lastI c (j + 1) = L) := Lib.hid (by rw [HL.out, if_neg (by simpa using he)])
              have hne : ((D.toNat : Int) == (c.toNat : Int)) = false := by
                rw [beq_eq_false_iff_ne]
                intro h
                exact he (UInt8.toNat_inj.1 (by omega))
              clear he
              go_wp2
              refine wp_region_held_drew (S := fun _ => True) (by kernel_rfl) trivial (fun hHeld0 => ?_)
              refine take_yes 0 20 ?_ rfl rfl (by kernel_rfl) (by kernel_rfl) (by kernel_rfl) (fun _ _ _ h => h) (by kernel_rfl) ?_ (by assumption) ?_; rotate_left; (focus (intro w hSw; (try dsimp only at hSw); go_simp; all_goals first | with_reducible rfl)); simp only [Act.put, List.setIfInBounds_toArray, List.set_cons_zero, List.set_cons_succ]
              refine take_yes 1 21 (.int .u8 (D.toNat : Int)) rfl rfl (by kernel_rfl) (by kernel_rfl) (by kernel_rfl) (fun _ _ _ h => h) (by kernel_rfl) ?_ (by assumption) ?_; (focus (intro w hSw; (try dsimp only at hSw); go_simp; all_goals first | with_reducible rfl | simp [hdi])); simp only [Act.put, List.setIfInBounds_toArray, List.set_cons_zero, List.set_cons_succ]
              refine take_yes 2 22 ?_ rfl rfl (by kernel_rfl) (by kernel_rfl) (by kernel_rfl) (fun _ _ _ h => h) (by kernel_rfl) ?_ (by assumption) ?_; rotate_left; (focus (intro w hSw; (try dsimp only at hSw); go_simp; all_goals first | with_reducible rfl)); simp only [Act.put, List.setIfInBounds_toArray, List.set_cons_zero, List.set_cons_succ]
              refine take_yes 3 23 ?_ rfl rfl (by kernel_rfl) (by kernel_rfl) (by kernel_rfl) (fun _ _ _ h => h) (by kernel_rfl) ?_ (by assumption) ?_; rotate_left; (focus (intro w hSw; (try dsimp only at hSw); go_simp; all_goals first | with_reducible rfl)); simp only [Act.put, List.setIfInBounds_toArray, List.set_cons_zero, List.set_cons_succ]
              refine take_yes 4 24 (.int .u8 (c.toNat : Int)) rfl rfl (by kernel_rfl) (by kernel_rfl) (by kernel_rfl) (fun _ _ _ h => h) (by kernel_rfl) ?_ (by assumption) ?_; (focus (intro w hSw; (try dsimp only at hSw); go_simp; all_goals first | with_reducible rfl | simp [hix])); simp only [Act.put, List.setIfInBounds_toArray, List.set_cons_zero, List.set_cons_succ]
              refine take_yes 5 25 (.bool false) rfl rfl (by kernel_rfl) (by kernel_rfl) (by kernel_rfl) (fun _ _ _ h => h) (by kernel_rfl) ?_ (by assumption) ?_; (focus (intro w hSw; (try dsimp only at hSw); go_simp; all_goals first | with_reducible rfl | simp [hne])); simp only [Act.put, List.setIfInBounds_toArray, List.set_cons_zero, List.set_cons_succ]
              refine wpAnyH_done (by kernel_rfl) ?_ _
              go_wp2
              go_roundw
              case rel => exact ⟨j + 1, by omega, by rw [HL2.out], by go_num, d + 1, rfl⟩
              case measure => simp [intOf]; omega
          · have HL : Hid (lastI c j = v) := Lib.hid (by rw [show j = 16 by omega, unI_last, HV.out])
            obtain ⟨wd, hwd⟩ : ∃ W, wo.drewN d = W := ⟨_, rfl⟩
            have HB1 : Hid (Blk wd w.heap.size 24 Z) := Lib.hid (by rw [← hwd]; exact Hb1.out.drewN d)
            have HB2 : Hid (Blk wd (w.heap.size + 1) 24 (cellsB (unB xs k))) := Lib.hid (by rw [← hwd]; exact Hb2.out.drewN d)
            have HWd : Hid (Below w.heap.size w wd) := Lib.hid (by rw [← hwd]; exact HW.out.drewN d)
            rw [hwd, HL.out]
            clear hwd
            by_cases hneg : v < 0
            · have HF : Hid (unhexV xs = .tuple #[.agg (cellsB (List.replicate 32 0)), .int .i64 8]) := Lib.hid (by
                unfold unhexV unhexF
                rw [if_neg (fun h => by have := h.2 k hlt; rw [HCd.out, ← HV.out] at this; omega)])
              have hg1 : wd.heap[w.heap.size]? = some (.cells Z 24 (0, 0)) := HB1.out
              go_wp2_with (with_reducible refine wpList_store_row rfl 24 (.tmp 2) (.tmp 29) rfl w.heap.size (cellsB (List.replicate 32 0)) rfl (by kernel_rfl) 24 Z hg1 zero_info HZs.out zero_one ?_)
              refine bodyPost_ret (v := .tuple #[.agg (cellsB (List.replicate 32 0)), .int .i64 8]) (results_cell_row2 Tryd.results14 _ _ w.heap.size 24 (cellsB (List.replicate 32 0)) (0, 0) _ (.int .i64 8) rfl rfl (setRow_heap _ _ _ _ _ _ hg1) Tryd.underlying24 rfl zero_info) rfl ?_
              exact ⟨by rw [HF.out], below_setRow HWd.out (Nat.le_refl _) _⟩
            · have hneg2 : 0 ≤ v := by omega
              have hx := HB2.out.cell (k / 2)
              rw [cellsB_get, unB_get xs k hlt] at hx
              have hxl := unX_lt xs k
              obtain ⟨x, hxe⟩ : ∃ x, x = unX xs k := ⟨_, rfl⟩
              rw [← hxe] at hx hxl
              have hx2 : wd.cell? ⟨w.heap.size + 1, k / 2, none⟩ = some (.int .u8 (x.toNat : Int)) := hx
              have hf2 := HB2.out.frozen (k / 2)
              have HX := Lib.hid hxe
              clear hx hxe hneg
              go_wp2
              rw [step_add x (hv xs k) v hxl (hv_lt _ _) (by rw [hv_int _ _ (by rw [HCd.out, ← HV.out]; exact hneg2), HCd.out, ← HV.out])]
              refine ⟨⟨k + 1, by omega, by go_num, Lib.hid (fun j hj => ?_), ?_, ?_, Lib.hid (HWd.out.setCell (by show w.heap.size ≤ w.heap.size + 1; omega) _)⟩, by simp only [intOf]; omega⟩
              · by_cases hjk : j = k
                · rw [hjk, HCd.out, ← HV.out]; exact hneg2
                · exact HA.out j (by omega)
              · have h := HB1.out
                rw [HZ.out] at h
                exact h.far (by simp) _
              · have h := HB2.out.set_ (k / 2) (B8 (x * 16 + hv xs k))
                rw [cellsB_set, HX.out, unB_set xs k hlt, ← HX.out] at h
                exact h
      · have HF : Hid (unhexV xs = .tuple #[.agg (cellsB (unB xs 64)), .int .i64 0]) := Lib.hid (by
          unfold unhexV unhexF
          rw [if_pos ⟨HN.out.symm, fun j hj => HA.out j (by omega)⟩])
        obtain ⟨R, hR⟩ : ∃ R, R = cellsB (unB xs 64) := ⟨_, rfl⟩
        have HRs : Hid (R.size = 32) := Lib.hid (by rw [hR, cellsB_len, unB_len])
        have HR1 : Hid (R.all (·.oneCell') = true) := Lib.hid (by rw [hR]; exact cellsB_one _)
        have HRZ : Hid (Z.size = R.size) := Lib.hid (HZs.out.trans (by rw [HRs.out, cellsB_len]; rfl))
        rw [show k = 64 by omega, ← hR] at hb2
        have hg1 : wr.heap[w.heap.size]? = some (.cells Z 24 (0, 0)) := hb1
        have hg2 : wr.heap[w.heap.size + 1]? = some (.cells R 24 (0, 0)) := hb2
        rw [← hR] at HF
        clear hR hb1 hb2
        go_wp2_with (first | with_reducible refine wpList_load_row rfl 24 (.tmp 4) rfl (w.heap.size + 1) rfl 24 R (0, 0) _ hg2 Tryd.underlying24 rfl (by rw [HRs.out]; exact info24) ?_ | with_reducible refine wpList_store_row rfl 24 (.tmp 2) (.tmp 41) rfl w.heap.size R rfl rfl 24 Z hg1 (by rw [HRs.out]; exact info24) HRZ.out HR1.out ?_)
        refine bodyPost_ret (v := _) (results_cell_row2 Tryd.results14 _ _ w.heap.size 24 R (0, 0) _ _ rfl rfl (setRow_heap _ _ _ _ _ _ hg1) Tryd.underlying24 rfl (by rw [HRs.out]; exact info24)) rfl ?_
        exact ⟨by rw [HF.out]; rfl, below_setRow HW.out (Nat.le_refl _) _⟩
  · have HF : Hid (unhexV xs = .tuple #[.agg (cellsB (List.replicate 32 0)), .int .i64 8]) := Lib.hid (by
      unfold unhexV unhexF
      rw [if_neg (fun h => hn64 (by rw [HN.out]; exact h.1))])
    have hne : ((n : Int) == 64) = false := by simp; omega
    clear hn64
    go_enter Tryd.func14, Tryd.ntmps14
    go_wp2_with (first | with_reducible refine wpList_load_row rfl 24 (.tmp 4) rfl (w.heap.size + 1) rfl 24 _ (0, 0) _ (hA1 _ _) Tryd.underlying24 rfl (by kernel_rfl) ?_ | with_reducible refine wpList_store_row rfl 24 (.tmp 2) (.tmp 11) rfl w.heap.size (cellsB (List.replicate 32 0)) rfl (by kernel_rfl) 24 _ (hA0 _ _) zero_info (by kernel_rfl) zero_one ?_)
    refine bodyPost_ret (v := .tuple #[.agg (cellsB (List.replicate 32 0)), .int .i64 8]) (results_cell_row2 Tryd.results14 _ _ w.heap.size 24 (cellsB (List.replicate 32 0)) (0, 0) _ (.int .i64 8) rfl rfl (setRow_heap _ _ _ _ _ _ (hA0 _ _)) Tryd.underlying24 rfl zero_info) rfl ?_
    exact ⟨by rw [HF.out], below_setRow (((Below.refl _ _).alloc (Nat.le_refl _) _).alloc (by simp) _) (Nat.le_refl _) _⟩
end Go.Proofs.YtpcjmicciccihaaDoor
