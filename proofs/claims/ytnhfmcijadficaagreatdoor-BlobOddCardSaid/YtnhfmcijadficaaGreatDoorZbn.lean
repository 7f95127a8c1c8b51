/- The walk over a store's read: what a sector tells is done. -/
import Derived.Test.YtnhfmcijadficaaGreatDoorZbm
import Derived.Test.YtnhfmcijadficaaGreatDoorZbi
import Derived.Test.YtnhfmcijadficaaGreatDoorZbf
namespace Go.Proofs.YtnhfmcijadficaaGreatDoor
set_option maxRecDepth 100000
open Go.RowKit Go.Maps

/-- What a found record that counts does to a map; what a sector does; the head behind it. -/
def applyD (X : AX) (d : FD) (k : Int) : AX := if d.k = 2 then adel X d.key else aput X d.key (k, d.blob)
def readX (X : AX) (L : List FD) (k : Int) : AX := (commitsF L).foldl (fun X d => applyD X d k) X
def readH (Z k : Nat) (L : List FD) (to : Nat) (cl : Bool) : HeadV := if cl then ⟨0, 0, 0, 0⟩ else ⟨(k : Int), ((k * Z + to : Nat) : Int), ((Z - to : Nat) : Int), (maxT L : Int)⟩
/-- How a read ends. -/
def ReadTo (s mb p c e Z k : Nat) (M : Al Sv) (L : List FD) (to : Nat) (cl : Bool) (w w' : World) (e1 : Ending) : Prop :=
  e1 = .returned (.int .i64 0) ∧ (∃ M', StoreAt w' s mb p c e M' (readH Z k L to cl) false ∧ amap Sv.a M' = readX (amap Sv.a M) L (k : Int) ∧ M'.length ≤ M.length + L.length) ∧ Only (fun q => q = s ∨ q = mb) w w'

/-- A found record that counts, as a change. -/
def Fd.ch (f : Fd) : Ch := ⟨decide (f.k = 2), f.s, f.A, f.n, f.cap, f.blob⟩
theorem fold_snoc {α β : Type} (g : β → α → β) (x : β) (l : List α) (a : α) : (l ++ [a]).foldl g x = g (l.foldl g x) a := by rw [List.foldl_append]; rfl

theorem map_cell {w : World} {b n : Nat} {M : Al Sv} (h : StM w b n M) (ad : Addr) (hb : ad.block = b) : w.cell? ad = none := by
  obtain ⟨es, clock, hh, _⟩ := h
  unfold World.cell?
  rw [hb, hh]
theorem bytes_notmap {w : World} {b nM : Nat} {M : Al Sv} (hM : StM w b nM M) {A : Option Addr} {n cap : Nat} {xs : List UInt8} (h : ByteSl w Empty A n cap xs) : ByteSl w (· = b) A n cap xs := by
  refine ⟨h.1, h.2.1, h.2.2.1, fun hn => ?_⟩
  obtain ⟨ad, ha, hl, _, hx⟩ := h.2.2.2 hn
  refine ⟨ad, ha, hl, fun hb => ?_, hx⟩
  obtain ⟨x, hx0⟩ : ∃ x, xs[0]? = some x := ⟨_, List.getElem?_eq_getElem (by rw [h.1]; exact hn)⟩
  have h1 := hx 0 x hx0
  rw [map_cell hM (ad.add 0) (by rw [addr_add_block]; exact hb)] at h1
  cases h1
theorem founds_notmap {w : World} {b nM : Nat} {M : Al Sv} (hM : StM w b nM M) {A : Option Addr} {n cap : Nat} {l : List Fd} (h : Founds w Empty A n cap l) : Founds w (· = b) A n cap l := by
  refine ⟨h.1, h.2.1, h.2.2.1, fun hn => ?_, fun f hf => ⟨bytes_notmap hM (h.2.2.2.2 f hf).1, (h.2.2.2.2 f hf).2⟩⟩
  obtain ⟨b0, o, ha, hl, _, hx⟩ := h.2.2.2.1 hn
  refine ⟨b0, o, ha, hl, fun hb => ?_, hx⟩
  obtain ⟨f, hf⟩ : ∃ f, l[0]? = some f := ⟨_, List.getElem?_eq_getElem (by rw [h.1]; exact hn)⟩
  have h1 := hx 0 f hf 0 (by omega)
  rw [map_cell hM _ hb] at h1
  cases h1

theorem blk_cell {w : World} {g : Nat} {t : TypeId} {cs : Array Value} (hB : Blk w g t cs) (ad : Addr) (hb : ad.block = g) {v : Value} (h : w.cell? ad = some v) : ∃ i : Nat, cs[i]? = some v := by
  have e : w.heap[ad.block]? = some (.cells cs t (0, 0)) := by rw [hb]; exact hB
  simp only [World.cell?, e] at h
  split at h
  · cases h
  · exact ⟨_, h⟩
theorem bytes_apart {w : World} {S : Nat → Prop} {g : Nat} {t : TypeId} {cs : Array Value} (hB : Blk w g t cs) (h8 : ∀ (i : Nat) (x : UInt8), cs[i]? ≠ some (B8 x)) {A : Option Addr} {n cap : Nat} {xs : List UInt8} (h : ByteSl w S A n cap xs) : ByteSl w (fun q => S q ∨ q = g) A n cap xs := by
  refine ⟨h.1, h.2.1, h.2.2.1, fun hn => ?_⟩
  obtain ⟨ad, ha, hl, hs, hx⟩ := h.2.2.2 hn
  refine ⟨ad, ha, hl, fun hb => ?_, hx⟩
  rcases hb with hb | hb
  · exact hs hb
  · obtain ⟨x, hx0⟩ : ∃ x, xs[0]? = some x := ⟨_, List.getElem?_eq_getElem (by rw [h.1]; exact hn)⟩
    obtain ⟨i, hi⟩ := blk_cell hB (ad.add 0) (by rw [addr_add_block]; exact hb) (hx 0 x hx0)
    exact h8 i x hi
theorem founds_apart {w : World} {S : Nat → Prop} {g : Nat} {t : TypeId} {cs : Array Value} (hB : Blk w g t cs) (h8 : ∀ (i : Nat) (x : UInt8), cs[i]? ≠ some (B8 x)) (hstr : ∀ (i : Nat) s, cs[i]? ≠ some (.string s)) {A : Option Addr} {n cap : Nat} {l : List Fd} (h : Founds w S A n cap l) : Founds w (fun q => S q ∨ q = g) A n cap l := by
  refine ⟨h.1, h.2.1, h.2.2.1, fun hn => ?_, fun f hf => ⟨bytes_apart hB h8 (h.2.2.2.2 f hf).1, (h.2.2.2.2 f hf).2⟩⟩
  obtain ⟨b0, o, ha, hl, hs, hx⟩ := h.2.2.2.1 hn
  refine ⟨b0, o, ha, hl, fun hb => ?_, hx⟩
  rcases hb with hb | hb
  · exact hs hb
  · obtain ⟨f, hf⟩ : ∃ f, l[0]? = some f := ⟨_, List.getElem?_eq_getElem (by rw [h.1]; exact hn)⟩
    have h1 := hx 0 f hf 3 (by omega)
    have h2 : f.cells[3]? = some (.string f.s) := rfl
    rw [h2] at h1
    obtain ⟨i, hi⟩ := blk_cell hB _ hb h1
    exact hstr i _ hi
theorem store_cells (p mb : Nat) (h : HeadV) (d : Bool) : (∀ (i : Nat) (x : UInt8), (storeC p mb h d)[i]? ≠ some (B8 x)) ∧ ∀ (i : Nat) s, (storeC p mb h d)[i]? ≠ some (.string s) := by
  unfold storeC B8
  refine ⟨fun i x => ?_, fun i x => ?_⟩
  · rcases i with _ | _ | _ | _ | _ | _ | _ | i <;> simp
  · rcases i with _ | _ | _ | _ | _ | _ | _ | i <;> simp

set_option maxHeartbeats 8000000 in
theorem read_any (s mb p c e Z Lm k m en to : Nat) (cl : Bool) (ss : List (Nat × List UInt8)) (xs : List UInt8) (M : Al Sv) (h : HeadV) (L : List FD) (w : World) (hS : StoreAt w s mb p c e M h false) (hs : FS w p c e Z Lm ss) (hk : ss[k]? = some (m, xs)) (hE : IsEnd xs en) (hR : Runs xs en 12 false L to cl)
    (hM : M.length ≤ 500000) (hT : ∀ q, Three p c e q → q ≠ s ∧ q ≠ mb) :
    Calls Tryz.prog 74 #[.pointer (some ⟨s, 0, none⟩), .int .i64 (k : Int)] w fun e1 w' => ReadTo s mb p c e Z k M L to cl w w' e1 := by
  have hz := hs.bz
  have hxl := hs.len hk
  have hkz := kz_lt (Z := Z) hk
  have hkS := lt_at hk
  have hfew := hR.few (by omega)
  have hoks := hR.oks
  have s0 : w.cell? ⟨s, 0, none⟩ = some (.pointer (some ⟨p, 0, none⟩)) := hS.blk.cell 0
  have hsl := hS.blk.lt
  have hml := hS.map.lt
  have hg := geo_field1 (ss.length : Int) (Z : Int) (Lm : Int)
  have Hgeo := Lib.hid hs.geo
  have Hrd := Lib.hid (fun W (hW : Below w.heap.size w W) => ((hs.below hW).sec hk).read p c e ss.length Z Lm k m xs W)
  have hkm : (k : Int) * (Z : Int) = ((k * Z : Nat) : Int) := by simp
  obtain ⟨q0, hq0⟩ : ∃ q0, q0 = k * Z := ⟨_, rfl⟩
  obtain ⟨nS, hnS⟩ : ∃ nS, nS = ss.length := ⟨_, rfl⟩
  rw [← hq0] at hkm hkz Hrd
  rw [← hnS] at hg Hgeo
  have HS := Lib.hid hS
  have HE := Lib.hid hE
  have HR := Lib.hid hR
  have HT := Lib.hid hT
  have Hlt : Hid (∀ q, w.heap.size ≤ q → ¬ Mut s mb p c e q) := Lib.hid (fun q hq hm => by
    rcases hm with rfl | rfl | hm
    · omega
    · omega
    · have := hs.lt q hm; omega)
  have hq0b : q0 + Z ≤ 4194304 := by omega
  have hto : to ≤ Z := by omega
  have hL16 : L.length ≤ 4096 := by omega
  have hxZ : xs.length = Z := hxl
  have hZb : 64 ≤ Z ∧ Z ≤ 65536 := by omega
  have Hq0 := Lib.hid hq0
  have Hok := Lib.hid hoks
  clear hS hs hk hE hR hT hoks hz hxl hkz hfew hq0 hnS hkS
  go_enter Tryz.func74, Tryz.ntmps74
  go_wp2_with fail
  refine Hgeo.out.mono ?_
  rintro e1 w1 ⟨rfl, hb1⟩
  have Hb1 := Lib.hid hb1
  have s1 : w1.cell? ⟨s, 0, none⟩ = some (.pointer (some ⟨p, 0, none⟩)) := ((HS.out.below hb1).blk.cell 0)
  have hs1 := hb1.size
  clear hb1 Hgeo s0
  go_wp2_with fail
  have hrd := Hrd.out w1 Hb1.out
  refine hrd.mono ?_
  rintro e2 w2 ⟨v2, rfl, hown2, hb2⟩
  obtain ⟨A2, c2, rfl, hB2, -⟩ := ByteSl.of_own (S := Empty) hown2 (fun _ _ _ h => h)
  have Hb2 := Lib.hid (Hb1.out.trans (hb2.mono hs1))
  have Hsc := Lib.hid (scan_any A2 Z c2 xs w2 hB2 (by omega) (by omega) en HE.out L to cl HR.out)
  have hs2 := hb2.size
  clear hrd Hrd hown2 hb2 hB2 s1
  go_wp2_with fail
  refine Hsc.out.mono ?_
  rintro e3 w3 ⟨⟨A3, n3, c3, l3, rfl, hl3, hG3⟩, hb3⟩
  have Hb3 := Lib.hid (Hb2.out.trans (hb3.mono (by omega)))
  have hs3 := hb3.size
  have hn3 : n3 ≤ L.length := by have h1 := hG3.reads.1; have h2 : L.length = l3.length := by (rw [← hl3, List.length_map])
                                 omega
  have HF3 := Lib.hid hG3.reads
  have Hl3 := Lib.hid hl3
  have HokF : Hid (∀ f ∈ l3, f.d.okD) := Lib.hid (fun f hf => Hok.out _ (by rw [← Hl3.out]; exact List.mem_map.2 ⟨f, hf, rfl⟩))
  have hfn : ∀ f ∈ l3, f.n ≤ 16777216 := fun f hf => by
    have h1 := (hG3.reads.2.2.2.2 f hf).1.1
    have h2 := mayB_iff.1 (HokF.out f hf).1
    have h3 : f.d.blob.length = f.n := h1
    omega
  have Hcm := Lib.hid (commits_any A3 n3 c3 l3 w3 HF3.out (fun f hf => (HokF.out f hf).2) (by omega) hfn)
  rw [hl3] at Hcm
  clear Hsc hb3 hl3 hG3 hfn
  go_wp2_with fail
  refine Hcm.out.mono ?_
  rintro e4 w4 ⟨⟨A4, n4, c4, l4, rfl, hl4, hG4⟩, hb4⟩
  have Hb4 := Lib.hid (Hb3.out.trans (hb4.mono (by omega)))
  have hs4 := hb4.size
  have hn4 : n4 ≤ L.length := by
    have h1 := hG4.reads.1
    have h2 : l4.length = (commitsF L).length := by rw [← hl4, List.length_map]
    have h3 : (commitsF L).length ≤ L.length := List.length_filter_le _ _
    omega
  have HF3b := Lib.hid (HF3.out.below hb4)
  have HF4 := Lib.hid (founds_notmap ((HS.out.below Hb4.out).map) hG4.reads)
  have Hl4 := Lib.hid hl4
  have hl4n : l4.length = n4 := hG4.reads.1
  have Hok4 : Hid (∀ f ∈ l4, f.d.okD ∧ f.d.k ≠ 3) := Lib.hid (fun f hf => by
    have h1 : f.d ∈ commitsF L := by rw [← Hl4.out]; exact List.mem_map.2 ⟨f, hf, rfl⟩
    obtain ⟨h2, h3⟩ := List.mem_filter.1 h1
    refine ⟨Hok.out _ h2, fun h4 => ?_⟩
    unfold keepT at h3
    rw [h4] at h3
    simp at h3)
  have hn4c : n4 ≤ c4 := HF4.out.2.1
  have hc4m : c4 ≤ 9223372036854775807 := by have := HF4.out.2.2.1; unfold maxLen at this; omega
  have HS4 := Lib.hid (HS.out.below Hb4.out)
  clear Hcm hb4 hl4 hG4 HS Hb1 Hb2 Hb3
  go_wp2_with fail
  go_loopw [42] (fun v wr => ∃ (i : Nat) (Mi : Al Sv), i ≤ n4 ∧ v = .int .i64 (i : Int) ∧ Mi.length ≤ M.length + i ∧ Hid (StoreAt wr s mb p c e Mi h false) ∧ Hid (amap Sv.a Mi = ((l4.take i).map Fd.d).foldl (fun X d => applyD X d (k : Int)) (amap Sv.a M)) ∧ Hid (Only (· = mb) w4 wr)) (fun v _ => n4 - (intOf v).toNat)
  case atStart => exact ⟨0, M, Nat.zero_le _, rfl, by omega, HS4, Lib.hid rfl, Lib.hid (Only.refl _ _)⟩
  case round =>
    obtain ⟨i, Mi, hi, rfl, hMi, HSi, HXi, HO⟩ := hrel
    have hsr := HO.out.size
    have sr0 : wr.cell? ⟨s, 0, none⟩ = some (.pointer (some ⟨p, 0, none⟩)) := HSi.out.blk.cell 0
    have hsrl := HSi.out.blk.lt
    by_cases hlt : i < n4
    · obtain ⟨b, o, f, hA, hbl, -, hf, hc⟩ := ((HF4.out.only HO.out (fun j hj h => h)).row).at_ hlt
      have hfm := List.mem_of_getElem? hf
      have hokf := Hok4.out f hfm
      have hfair := okD_fair hokf.1 hokf.2
      have htk := take_snoc l4 i f hf
      have HXs : Hid (applyA (amap Sv.a Mi) f.ch (k : Int) = ((l4.take (i + 1)).map Fd.d).foldl (fun X d => applyD X d (k : Int)) (amap Sv.a M)) := Lib.hid (by
        rw [htk, List.map_append, List.map_singleton, fold_snoc, ← HXi.out]
        unfold applyA applyD Fd.ch Fd.d
        by_cases h2 : f.k = 2
        · simp [h2]
        · simp [h2])
      have hbf := (HF4.out.only HO.out (fun j hj h => h)).2.2.2.2 f hfm
      have Hap := Lib.hid (fun W (hW : Below wr.heap.size wr W) => apply0_any s mb p c e Mi h false f.ch (k : Int) W (HSi.out.below hW) ⟨(hbf.1.mono (T := Empty) (fun _ _ h => h.elim)).only (Only.of_below (S := Empty) hW) (fun _ _ h => h), hbf.2⟩ ⟨by have := hfair.1; rw [show f.d.key = f.s.data.toList from rfl, size_data] at this; exact this, by
          unfold Ch.rN
          split
          · omega
          · have h3 : f.d.blob.length = f.n := hbf.1.1
            show f.n ≤ 4096
            omega⟩ (by omega) (fun hm => (HT.out s hm).1 rfl) (fun q hq => Hlt.out q (by have := hW.size; have := Hb4.out.size; omega)))
      have hdl : (f.k == 2) = decide (f.k = 2) := rfl
      obtain ⟨pl, kk, t, sk, A5, n5, cap5, cc, bs⟩ := f
      have c0 : wr.cell? ⟨b, o + i * 6, none⟩ = some (.int .i64 pl) := hc 0 (by omega)
      have c1 : wr.cell? ⟨b, o + i * 6 + 1, none⟩ = some (.int .i64 kk) := hc 1 (by omega)
      have c2 : wr.cell? ⟨b, o + i * 6 + 2, none⟩ = some (.int .u32 (t : Int)) := hc 2 (by omega)
      have c3 : wr.cell? ⟨b, o + i * 6 + 3, none⟩ = some (.string sk) := hc 3 (by omega)
      have c4 : wr.cell? ⟨b, o + i * 6 + 4, none⟩ = some (.slice A5 n5 cap5) := hc 4 (by omega)
      have c5 : wr.cell? ⟨b, o + i * 6 + 5, none⟩ = some (.int .i64 cc) := hc 5 (by omega)
      have hal := (Below.refl wr.heap.size wr).alloc (Nat.le_refl _) (.cells #[.int .i64 pl, .int .i64 kk, .int .u32 (t : Int), .string sk, .slice A5 n5 cap5, .int .i64 cc] 190)
      subst hA
      clear hc hf hfm htk hokf hfair hbf
      go_wp2_with fail
      refine (Hap.out _ hal).mono ?_
      rintro e5 w5 ⟨rfl, ⟨M', hS5, hX5, hM5⟩, hO5⟩
      have HS5 := Lib.hid hS5
      have HX5 := Lib.hid (hX5.trans HXs.out)
      have HO5 := Lib.hid (HO.out.trans ((Only.of_below (S := (· = mb)) hal).trans hO5))
      clear hS5 hX5 hO5 Hap HXs HSi HXi HO c0 c1 c2 c3 c4 c5 sr0 hal
      go_wp2_with fail
      go_roundw
      case rel => exact ⟨i + 1, M', by omega, by simp, by omega, HS5, HX5, HO5⟩
      case measure => simp [intOf]; omega
    · have hin : i = n4 := by omega
      subst hin
      have hte : l4.take i = l4 := List.take_of_length_le (by omega)
      rw [hte, Hl4.out] at HXi
      have q2 : wr.cell? ⟨s, 2, none⟩ = some (.int .i64 h.sec) := HSi.out.blk.cell 2
      have q3 : wr.cell? ⟨s, 3, none⟩ = some (.int .i64 h.next) := HSi.out.blk.cell 3
      have q4 : wr.cell? ⟨s, 4, none⟩ = some (.int .i64 h.left) := HSi.out.blk.cell 4
      have q5 : wr.cell? ⟨s, 5, none⟩ = some (.int .u32 h.txn) := HSi.out.blk.cell 5
      have r2 := HSi.out.blk.frozen 2
      have r3 := HSi.out.blk.frozen 3
      have r4 := HSi.out.blk.frozen 4
      have r5 := HSi.out.blk.frozen 5
      have hsh := HSi.out.set_head ⟨0, 0, 0, 0⟩
      have HO6 := Lib.hid (((Only.of_below (S := fun q => q = s ∨ q = mb) Hb4.out).trans (HO.out.mono (T := fun q => q = s ∨ q = mb) (fun _ _ h => Or.inr h))).trans (hsh.2.mono (T := fun q => q = s ∨ q = mb) (fun _ _ h => Or.inl h)))
      have HS6 := Lib.hid hsh.1
      have HF6 := Lib.hid ((((founds_apart HS4.out.blk (store_cells p mb h false).1 (store_cells p mb h false).2 (founds_notmap HS4.out.map HF3b.out)).only HO.out (fun _ _ h => Or.inl h)).only hsh.2 (fun _ _ h => Or.inr h)).mono (T := Empty) (fun _ _ h => h.elim))
      have hwl := hsh.2.size
      clear hsh HSi HF4 HF3b HF3 HO Hb4 hte HS4
      obtain ⟨w6, hw6⟩ : ∃ w6, w6 = ((((wr.setCell ⟨s, 2, none⟩ (.int .i64 0)).setCell ⟨s, 3, none⟩ (.int .i64 0)).setCell ⟨s, 4, none⟩ (.int .i64 0)).setCell ⟨s, 5, none⟩ (.int .u32 0)) := ⟨_, rfl⟩
      rw [← hw6] at HS6 HO6 HF6 hwl
      have hl3n : l3.length = n3 := HF6.out.1
      have Hgr := Lib.hid (greatest_any A3 n3 c3 l3 w6 HF6.out (fun d hd => by
        obtain ⟨f, hf, rfl⟩ := List.mem_map.1 hd
        exact (HokF.out f hf).2) (by omega))
      rw [Hl3.out] at Hgr
      have q0' : w6.cell? ⟨s, 0, none⟩ = some (.pointer (some ⟨p, 0, none⟩)) := HS6.out.blk.cell 0
      have HX6 : Hid (amap Sv.a Mi = readX (amap Sv.a M) L (k : Int)) := Lib.hid HXi.out
      have hMi2 : Mi.length ≤ M.length + L.length := by omega
      clear HXi
      go_upto_if 12 with (fail)
      · have hclf : cl = false := by simp_all
        rw [← hw6]
        refine Hgr.out.mono ?_
        rintro e7 w7 ⟨rfl, hb7⟩
        have HS7 := Lib.hid (HS6.out.below hb7)
        have HO7 := Lib.hid (HO6.out.trans (Only.of_below (S := fun q => q = s ∨ q = mb) hb7))
        have q2 : w7.cell? ⟨s, 2, none⟩ = some (.int .i64 0) := HS7.out.blk.cell 2
        have q3 : w7.cell? ⟨s, 3, none⟩ = some (.int .i64 0) := HS7.out.blk.cell 3
        have q4 : w7.cell? ⟨s, 4, none⟩ = some (.int .i64 0) := HS7.out.blk.cell 4
        have q5 : w7.cell? ⟨s, 5, none⟩ = some (.int .u32 0) := HS7.out.blk.cell 5
        have r2 := HS7.out.blk.frozen 2
        have r3 := HS7.out.blk.frozen 3
        have r4 := HS7.out.blk.frozen 4
        have r5 := HS7.out.blk.frozen 5
        have hsl7 := HS7.out.blk.lt
        have Hh := Lib.hid (HS7.out.set_head ⟨(k : Int), ((q0 + to : Nat) : Int), ((Z - to : Nat) : Int), (maxT L : Int)⟩)
        have hcz : ((Z - to : Nat) : Int) = (Z : Int) - (to : Int) := by omega
        have hcq : ((q0 + to : Nat) : Int) = (q0 : Int) + (to : Int) := by omega
        rw [hcz, hcq] at Hh
        have HMl := Lib.hid hMi2
        have Hcl := Lib.hid hclf
        have Hcz := Lib.hid hcz
        have Hcq := Lib.hid hcq
        clear hb7 hw6 HS6 HO6 HF6 Hgr HS7 q0' hwl hMi2 hclf hcz hcq hMi
        go_wp2_with fail
        go_ret
        refine ⟨rfl, ⟨Mi, ?_, HX6.out, HMl.out⟩, HO7.out.trans (Hh.out.2.mono (T := fun q => q = s ∨ q = mb) (fun _ _ h => Or.inl h))⟩
        have he : readH Z k L to cl = ⟨(k : Int), (q0 : Int) + (to : Int), (Z : Int) - (to : Int), (maxT L : Int)⟩ := by
          unfold readH
          rw [Hcl.out, ← Hcz.out, ← Hcq.out, Hq0.out]
          rfl
        rw [he]
        exact Hh.out.1
      · have hclt : cl = true := by simp_all
        rw [← hw6]
        go_ret
        refine ⟨rfl, ⟨Mi, ?_, HX6.out, hMi2⟩, HO6.out⟩
        rw [hclt]
        exact HS6.out

end Go.Proofs.YtnhfmcijadficaaGreatDoor

/- The walk over told: what a row of sectors tells. -/
namespace Go.Proofs.YtnhfmcijadficaaGreatDoor
set_option maxRecDepth 100000
open Go.RowKit Go.Maps

/-- What the scan of a flash's sectors finds: records, end, closed. -/
abbrev Scans := Nat → List FD × Nat × Bool
def Tells (ss : List (Nat × List UInt8)) (T : Scans) : Prop := ∀ k m xs, ss[k]? = some (m, xs) → ∃ en, IsEnd xs en ∧ Runs xs en 12 false (T k).1 (T k).2.1 (T k).2.2
theorem tells_ex (ss : List (Nat × List UInt8)) : ∃ T, Tells ss T := by
  have h1 : ∀ k : Nat, ∃ t : List FD × Nat × Bool, ∀ m xs, ss[k]? = some (m, xs) → ∃ en, IsEnd xs en ∧ Runs xs en 12 false t.1 t.2.1 t.2.2 := by
    intro k
    cases hk : ss[k]? with
    | none => exact ⟨([], 0, false), fun m xs h => by cases h⟩
    | some y =>
      obtain ⟨m, xs⟩ := y
      obtain ⟨en, hE⟩ := IsEnd.exists_ xs
      obtain ⟨l, to, c, hR⟩ := Runs.exists_ xs en hE.le xs.length 12 false (by omega)
      refine ⟨(l, to, c), fun m' xs' h => ?_⟩
      cases h
      exact ⟨en, hE, hR⟩
  exact ⟨fun k => Classical.choose (h1 k), fun k m xs h => Classical.choose_spec (h1 k) m xs h⟩
def toldX (T : Scans) (ks : List Nat) : AX := ks.foldl (fun X k => readX X (T k).1 (k : Int)) []
def toldH (Z : Nat) (T : Scans) (ks : List Nat) : HeadV := ks.foldl (fun _ k => readH Z k (T k).1 (T k).2.1 (T k).2.2) ⟨0, 0, 0, 0⟩

/-- How told ends. -/
def ToldTo (p c e Z : Nat) (T : Scans) (ks : List Nat) (w w' : World) (e1 : Ending) : Prop :=
  (∃ s mb M, e1 = .returned (.tuple #[.pointer (some ⟨s, 0, none⟩), .int .i64 0]) ∧ StoreAt w' s mb p c e M (toldH Z T ks) false ∧ amap Sv.a M = toldX T ks ∧ M.length ≤ ks.length * 4096 ∧ w.heap.size ≤ s ∧ w.heap.size ≤ mb) ∧ Below w.heap.size w w'

set_option maxHeartbeats 8000000 in
theorem told_any {m : Nat} (p c e Z Lm n cap : Nat) (A : Option Addr) (l : List (Fin (m + 1))) (T : Scans) (ss : List (Nat × List UInt8)) (w : World) (hs : FS w p c e Z Lm ss) (hA : RowSl finC 1 w Empty A n cap l) (hT : Tells ss T) (hm : m < ss.length) (hn : n ≤ 64) :
    Calls Tryz.prog 37 #[.pointer (some ⟨p, 0, none⟩), .slice A n cap] w fun e1 w' => ToldTo p c e Z T (l.map Fin.val) w w' e1 := by
  have hT3 : ∀ q, Three p c e q → q < w.heap.size := fun q hq => hs.lt q hq
  have HN := Lib.hid (store_new w p c e hT3)
  have Hb := Lib.hid (((Below.refl w.heap.size w).alloc (Nat.le_refl _) (.map #[] 0)).alloc (by simp) (.cells (storeC p w.heap.size ⟨0, 0, 0, 0⟩ false) 106))
  have hmm := @run_makeMap Tryz.prog
  have hncap : n ≤ cap := hA.2.1
  have hcap2 : cap ≤ 9223372036854775807 := by have := hA.2.2.1; unfold maxLen at this; omega
  have hln := hA.1
  have HA := Lib.hid hA
  have HS := Lib.hid hs
  have HT := Lib.hid hT
  have HT3 := Lib.hid hT3
  unfold storeC at HN Hb
  clear hs hA hT hT3
  go_enter Tryz.func37, Tryz.ntmps37
  go_wp2_with fail
  obtain ⟨w1, hw1⟩ : ∃ w1, w1 = (w.alloc (.map #[] 0)).alloc (.cells #[.pointer (some ⟨p, 0, none⟩), .map (some w.heap.size), .int .i64 0, .int .i64 0, .int .i64 0, .int .u32 0, .bool false] 106) := ⟨_, rfl⟩
  rw [← hw1] at HN Hb ⊢
  have Hw1 := Lib.hid hw1
  clear hw1
  have Hrk : Hid (∀ (k : Nat) (M : Al Sv) (h : HeadV) (W : World), k < ss.length → StoreAt W (w.heap.size + 1) w.heap.size p c e M h false → Below w.heap.size w W → M.length ≤ 500000 →
      Calls Tryz.prog 74 #[.pointer (some ⟨w.heap.size + 1, 0, none⟩), .int .i64 (k : Int)] W fun e1 w' => ReadTo (w.heap.size + 1) w.heap.size p c e Z k M (T k).1 (T k).2.1 (T k).2.2 W w' e1 ∧ (T k).1.length ≤ 4096) := Lib.hid (by
    intro k M h W hk hSt hB hM
    obtain ⟨⟨m', xs⟩, hx⟩ : ∃ y, ss[k]? = some y := ⟨_, List.getElem?_eq_getElem hk⟩
    obtain ⟨en, hE, hR⟩ := HT.out k m' xs hx
    have hfs := HS.out.below hB
    have hxl := hfs.len hx
    have hz := hfs.bz
    have hfew := hR.few (by omega)
    refine (read_any (w.heap.size + 1) w.heap.size p c e Z Lm k m' en _ _ ss xs M h _ W hSt hfs hx hE hR hM (fun q hq => ?_)).mono ?_
    · have := HT3.out q hq
      exact ⟨by omega, by omega⟩
    · intro e1 w' h1
      exact ⟨h1, by omega⟩)
  clear Hw1 hmm
  go_loopw [4, 14] (fun sv v wr => ∃ (i : Nat) (Mi : Al Sv), i ≤ n ∧ v = .int .i64 (i : Int) ∧ sv = .pointer (some ⟨w.heap.size + 1, 0, none⟩) ∧ Mi.length ≤ i * 4096 ∧ Hid (StoreAt wr (w.heap.size + 1) w.heap.size p c e Mi (toldH Z T ((l.take i).map Fin.val)) false) ∧ Hid (amap Sv.a Mi = toldX T ((l.take i).map Fin.val)) ∧ Hid (Below w.heap.size w wr)) (fun _ v _ => n - (intOf v).toNat)
  case atStart => exact ⟨0, [], Nat.zero_le _, rfl, rfl, by simp, HN, Lib.hid rfl, Hb⟩
  case round =>
    obtain ⟨i, Mi, hi, rfl, rfl, hMi, HSi, HXi, HB⟩ := hrel
    have hsr := HB.out.size
    by_cases hlt : i < n
    · obtain ⟨b, o, f, rfl, hbl, -, hf, hc⟩ := (HA.out.only (Only.of_below (S := Empty) HB.out) (fun _ _ h => h)).at_ hlt
      have htk := take_snoc l i f hf
      have c0 : wr.cell? ⟨b, o + i, none⟩ = some (.int .i64 (f.val : Int)) := by have := hc 0 (by omega); rw [Nat.mul_one] at this; exact this
      have Hr := Lib.hid (Hrk.out f.val Mi _ wr (by have := f.isLt; omega) HSi.out HB.out (by omega))
      have Hhs : Hid (readH Z f.val (T f.val).1 (T f.val).2.1 (T f.val).2.2 = toldH Z T ((l.take (i + 1)).map Fin.val)) := Lib.hid (by rw [htk, List.map_append, List.map_singleton]; unfold toldH; rw [fold_snoc])
      have Hxs : Hid (readX (toldX T ((l.take i).map Fin.val)) (T f.val).1 (f.val : Int) = toldX T ((l.take (i + 1)).map Fin.val)) := Lib.hid (by rw [htk, List.map_append, List.map_singleton]; unfold toldX; rw [fold_snoc])
      have hbl2 : b < wr.heap.size := hbl
      clear hc hf htk
      obtain ⟨kf, hkf⟩ : ∃ kf : Nat, kf = f.val := ⟨_, rfl⟩
      rw [← hkf] at c0 Hr Hhs Hxs
      clear hkf
      go_wp2_with fail
      refine Hr.out.mono ?_
      rintro e2 w2 ⟨⟨rfl, ⟨M', hS2, hX2, hM2⟩, hO2⟩, hl2⟩
      have HS2 := Lib.hid (Hhs.out ▸ hS2)
      have HX2 : Hid (amap Sv.a M' = toldX T ((l.take (i + 1)).map Fin.val)) := Lib.hid (by rw [hX2, HXi.out, Hxs.out])
      have HB2 := Lib.hid (HB.out.trans (hO2.below hsr (fun k hk h => by omega)))
      have hM3 : M'.length ≤ (i + 1) * 4096 := by omega
      clear Hr hS2 hX2 hO2 HSi HXi c0 Hhs Hxs
      go_wp2_with fail
      go_roundw
      case rel => exact ⟨i + 1, M', by omega, by simp, rfl, hM3, HS2, HX2, HB2⟩
      case measure => simp [intOf]; omega
    · have hin : i = n := by omega
      subst hin
      have hte : l.take i = l := List.take_of_length_le (by omega)
      rw [hte] at HXi HSi
      clear hte
      go_wp2_with fail
      go_ret2
      exact ⟨⟨_, _, Mi, rfl, HSi.out, HXi.out, by rw [List.length_map, hln]; exact hMi, by omega, Nat.le_refl _⟩, HB.out⟩

end Go.Proofs.YtnhfmcijadficaaGreatDoor

/- The walk over Mount of any flash that has a sector to open. -/
namespace Go.Proofs.YtnhfmcijadficaaGreatDoor
set_option maxRecDepth 100000
open Go.RowKit Go.Maps

/-- How a Mount ends that lets no sector go. -/
def MountTo (p c e Z : Nat) (T : Scans) (ks : List Nat) (w w' : World) (e1 : Ending) : Prop :=
  (∃ s mb M, e1 = .returned (.tuple #[.pointer (some ⟨s, 0, none⟩), .int .i64 0]) ∧ StoreAt w' s mb p c e M (toldH Z T ks) false ∧ amap Sv.a M = toldX T ks ∧ M.length ≤ ks.length * 4096 ∧ w.heap.size ≤ s ∧ w.heap.size ≤ mb) ∧ Below w.heap.size w w'
def usedK (m : Nat) (ss : List (Nat × List UInt8)) : List Nat := (usedRow m (secsOf ss)).map Fin.val

set_option maxHeartbeats 4000000 in
theorem mount_any {m : Nat} (p c e Z L : Nat) (T : Scans) (ss : List (Nat × List UInt8)) (w : World) (hs : FS w p c e Z L ss) (hMark : Mark w) (hm : ss.length = m + 1) (hm18 : m ≤ 18) (hT : Tells ss T) (hfree : 0 < (secsOf ss).countP (opensB (L : Int))) :
    Calls Tryz.prog 10 #[.pointer (some ⟨p, 0, none⟩)] w fun e1 w' => MountTo p c e Z T (usedK m ss) w w' e1 := by
  have hz := hs.bz
  have hg := geo_field2 (ss.length : Int) (Z : Int) (L : Int)
  have Hlook := Lib.hid (look_any p c e Z L ss w hs hMark)
  have HS := Lib.hid hs
  have HM := Lib.hid hMark
  have HT := Lib.hid hT
  have hul : (usedRow m (secsOf ss)).length ≤ m + 1 := by unfold usedRow; rw [sorted_len]; exact Nat.le_trans (List.length_filter_le _ _) (by simp)
  obtain ⟨ur, hur⟩ : ∃ ur, ur = usedRow m (secsOf ss) := ⟨_, rfl⟩
  obtain ⟨r, hr⟩ : ∃ r, r = ur.length := ⟨_, rfl⟩
  have hk : usedK m ss = ur.map Fin.val := by rw [hur]; rfl
  rw [hk]
  rw [← hur, ← hr] at hul
  have Hu := Lib.hid hur
  have Hr := Lib.hid hr
  obtain ⟨n, hn⟩ : ∃ n, n = ss.length := ⟨_, rfl⟩
  obtain ⟨fr, hfr⟩ : ∃ fr, fr = (secsOf ss).countP (opensB (L : Int)) := ⟨_, rfl⟩
  rw [← hn] at Hlook hg
  rw [← hfr] at hfree
  have hfrl : fr ≤ 64 := by rw [hfr]; exact Nat.le_trans List.countP_le_length (by rw [secsOf_len]; omega)
  have hnb : n ≤ 64 := by omega
  have Hn := Lib.hid hn
  have Hfr := Lib.hid hfr
  have Hnm : Hid (n = m + 1) := Lib.hid (by omega)
  have hmss : m < ss.length := by omega
  clear hs hMark hT hn hfr hz hm hur hr hk
  go_enter Tryz.func10, Tryz.ntmps10
  go_wp2_with fail
  refine Hlook.out.mono ?_
  rintro e1 w1 ⟨⟨A, cap, rfl, hG⟩, hb1⟩
  have HG := Lib.hid hG
  have Hb1 := Lib.hid hb1
  have Hur := Lib.hid (usedRow_any A n cap (secsOf ss) w1 hG.row Hnm.out hm18)
  rw [← Hu.out, ← Hr.out] at Hur
  clear hG hb1 Hlook
  go_wp2_with fail
  refine Hur.out.mono ?_
  rintro e2 w2 ⟨⟨A2, c2, rfl, hG2⟩, hb2⟩
  have Hb2 := Lib.hid (Hb1.out.trans (hb2.mono Hb1.out.size))
  have HG2 := Lib.hid (HG.out.below Sc.cells_len hb2)
  have Hto := Lib.hid (told_any p c e Z L r c2 A2 ur T ss w2 (HS.out.below Hb2.out) hG2.row HT.out hmss (by omega))
  clear hb2 Hur hG2
  have hr1 : r ≤ 19 := by omega
  clear hul
  go_wp2_with fail
  refine Hto.out.mono ?_
  rintro e3 w3 ⟨⟨s, mb, M, rfl, hSt, hX, hMl, hsw, hmw⟩, hb3⟩
  have Hb3 := Lib.hid (Hb2.out.trans (hb3.mono Hb2.out.size))
  have HG3 := Lib.hid (HG2.out.below Sc.cells_len hb3)
  have HSt := Lib.hid hSt
  have HX := Lib.hid hX
  have HMl := Lib.hid hMl
  have Hgeo := Lib.hid ((HS.out.below Hb3.out).geo)
  rw [← Hn.out] at Hgeo
  have Hfree := Lib.hid (fun W (hW : Below w3.heap.size w3 W) => free_any A n cap (secsOf ss) (L : Int) W ((HG3.out.below Sc.cells_len hW).row) (by omega))
  rw [← Hfr.out] at Hfree
  clear hSt hb3 Hto hX hMl
  go_wp2_with fail
  refine Hgeo.out.mono ?_
  rintro e4 w4 ⟨rfl, hb4⟩
  have HSt4 := Lib.hid (HSt.out.below hb4)
  have Hb4 := Lib.hid (Hb3.out.trans (hb4.mono Hb3.out.size))
  have Hf4 := Lib.hid (Hfree.out w4 hb4)
  clear hb4 Hgeo Hfree
  go_wp2_with fail
  refine Hf4.out.mono ?_
  rintro e5 w5 ⟨rfl, hb5⟩
  have HSt5 := Lib.hid (HSt4.out.below hb5)
  have Hb5 := Lib.hid (Hb4.out.trans (hb5.mono Hb4.out.size))
  have hs2 : w.heap.size ≤ s := by have := Hb2.out.size; omega
  have hm2 : w.heap.size ≤ mb := by have := Hb2.out.size; omega
  clear hb5 Hf4
  go_wp2_with fail
  go_ret2
  exact ⟨⟨s, mb, M, rfl, HSt5.out, HX.out, HMl.out, hs2, hm2⟩, Hb5.out⟩

end Go.Proofs.YtnhfmcijadficaaGreatDoor
