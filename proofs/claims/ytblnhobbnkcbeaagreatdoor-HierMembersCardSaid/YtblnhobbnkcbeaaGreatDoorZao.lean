/- The walk over the document's World (layer 16); printed by gen/gen_rf.py. -/
import Derived.Test.YtblnhobbnkcbeaaGreatDoorZan
import Derived.SizedLaws
namespace Go.Proofs.YtblnhobbnkcbeaaGreatDoor
set_option maxRecDepth 100000
open Go.RowKit

/-- What World answers. -/
def WorldD (l : List UnD) (n : Nat) (w' : World) (e : Ending) : Prop :=
  (okR l = true → ∃ A cp, e = .returned (.tuple #[.slice A (9 + n) cp, .bool true]) ∧ RowS unW w' Empty A (9 + n) cp (builtL ++ l)) ∧ (okR l = false → e = .returned (.tuple #[.slice none 0 0, .bool false]))
theorem WorldD.no {l : List UnD} {n : Nat} {w' : World} (h : okR l = false) : WorldD l n w' (.returned (.tuple #[.slice none 0 0, .bool false])) := ⟨fun h1 => (by rw [h] at h1; cases h1), fun _ => rfl⟩
theorem WorldD.yes {l : List UnD} {n : Nat} {w' : World} {A : Option Addr} {cp : Nat} (h : okR l = true) (hR : RowS unW w' Empty A (9 + n) cp (builtL ++ l)) : WorldD l n w' (.returned (.tuple #[.slice A (9 + n) cp, .bool true])) := ⟨fun _ => ⟨A, cp, rfl, hR⟩, fun h1 => (by rw [h] at h1; cases h1)⟩

set_option maxHeartbeats 8000000 in
theorem rworld_any (l : List UnD) (A0 : Option Addr) (n c0 : Nat) (w : World) (hR : RowS unW w Empty A0 n c0 l) (hn : n ≤ 100000) (hS : ∀ u ∈ l, SmallUn u) :
    Calls Tryz.prog 13 #[.slice A0 n c0] w fun e w' => WorldD l n w' e ∧ Below w.heap.size w w' := by
  obtain ⟨rsl, hrl, hrep⟩ := raw_of_rowS (R := unW) un_one hR
  have HRL := Lib.hid hrl
  have HREP := Lib.hid hrep
  have HNIL := Lib.hid hR.2.2.2.1
  have HL := Lib.hid hR.1
  have HR := Lib.hid hR
  have hnc := hR.2.1
  have hcm := hR.2.2.1
  unfold maxLen at hcm
  have HS := Lib.hid hS
  have C1 := Lib.hid (rbuilt_any w)
  clear hR hrl hrep hS
  go_enter Tryz.func13, Tryz.ntmps13
  go_wp2_with fail
  refine C1.out.mono ?_
  rintro e w1 ⟨⟨wN, A1, c1, rs1, rfl, hb0, hb1, hG, hrep1⟩, hb⟩
  have HG := Lib.hid hG
  have HREP1 := Lib.hid hrep1
  have HB0 := Lib.hid hb0
  have HB1 := Lib.hid hb1
  have hbs := hb1.size
  clear hG hrep1 hb0 hb1 hb C1
  by_cases h32 : 32 < n
  · have HE : Hid (okR l = false) := Lib.hid (by unfold okR; rw [decide_eq_false (show ¬ l.length ≤ 32 by rw [HL.out]; omega)]; rfl)
    go_wp2_with (at_builtin; refine wpList_append_rows rawC_len rawC_one (by decide) 22 85 (Value.agg #[.string ⟨#[]⟩, .string ⟨#[]⟩, .slice none 0 0, .slice none 0 0]) 80 Tryz.underlying22 Tryz.infoGU (by simp [Value.cells]) (by decide) rfl _ _ rfl wN.heap.size A1 9 c1 rs1 rfl HG.out A0 n c0 rsl rfl (HRL.out.below (HB0.out.trans (HB1.out.mono HB0.out.size))) HNIL.out (by omega) hbs ?_; intro A2 c2 w2 hG2 hg2 hr2 _; have HB2N : Hid (Below wN.heap.size wN w2) := Lib.hid (below_gotR HB1.out hbs hg2 hr2 (Nat.le_refl _)); have HG2 := Lib.hid hG2; clear hG2 hg2 hr2)
    have HB2 : Hid (Below w.heap.size w w2) := Lib.hid (HB0.out.trans (HB2N.out.mono HB0.out.size))
    have HR2 : Hid (RowS unW w2 Empty A2 (9 + n) c2 (builtL ++ l)) := Lib.hid (rowS_of_raw HG2.out.row HG2.out.isNil ((HREP1.out.app (HREP.out.below HB0.out)).below HB2N.out))
    go_ret2
    exact ⟨WorldD.no HE.out, HB2.out⟩
  · skip
    go_wp2_with (at_builtin; refine wpList_append_rows rawC_len rawC_one (by decide) 22 85 (Value.agg #[.string ⟨#[]⟩, .string ⟨#[]⟩, .slice none 0 0, .slice none 0 0]) 80 Tryz.underlying22 Tryz.infoGU (by simp [Value.cells]) (by decide) rfl _ _ rfl wN.heap.size A1 9 c1 rs1 rfl HG.out A0 n c0 rsl rfl (HRL.out.below (HB0.out.trans (HB1.out.mono HB0.out.size))) HNIL.out (by omega) hbs ?_; intro A2 c2 w2 hG2 hg2 hr2 _; have HB2N : Hid (Below wN.heap.size wN w2) := Lib.hid (below_gotR HB1.out hbs hg2 hr2 (Nat.le_refl _)); have HG2 := Lib.hid hG2; clear hG2 hg2 hr2)
    have HB2 : Hid (Below w.heap.size w w2) := Lib.hid (HB0.out.trans (HB2N.out.mono HB0.out.size))
    have HR2 : Hid (RowS unW w2 Empty A2 (9 + n) c2 (builtL ++ l)) := Lib.hid (rowS_of_raw HG2.out.row HG2.out.isNil ((HREP1.out.app (HREP.out.below HB0.out)).below HB2N.out))
    have HREL1 := Lib.hid (RelU.start (fun _ : UnD => true) (·.name) (builtL ++ l) (9 + n) w2)
    have hn2 := HR2.out.2.1
    have hc2 := HR2.out.2.2.1
    unfold maxLen at hc2
    go_loopw [19] (fun i wr => RelU (fun _ : UnD => true) (·.name) (builtL ++ l) (9 + n) w2 i wr) (fun i _ => 9 + n - (intOf i).toNat)
    case atStart => exact HREL1.out
    case round =>
      clear HREL1
      obtain ⟨k, hk, rfl, hok, hnd, hbw⟩ := hrel
      have HOK1 := Lib.hid hok
      have HND := Lib.hid hnd
      clear hok hnd
      by_cases hlt : k < 9 + n
      · obtain ⟨b, o, y, cs, rfl, hbl, _, hy, hcl, hcs, hr⟩ := HR2.out.at_ hlt
        obtain ⟨Bf, mBf, dBf, Bm, mBm, dBm, rfl, _, _⟩ := hr
        change ∀ j v, [Value.string (strB y.name), .string (strB y.super), .slice Bf mBf dBf, .slice Bm mBm dBm][j]? = some v → w2.cell? ⟨b, o + k * 4 + j, none⟩ = some v at hcs
        have d0 : wr.cell? ⟨b, o + k * 4, none⟩ = some (.string (strB y.name)) := (hbw.cell (p := ⟨b, o + k * 4, none⟩) hbl).trans (by have := hcs 0 _ rfl; simpa using this)
        have d1 : wr.cell? ⟨b, o + k * 4 + 1, none⟩ = some (.string (strB y.super)) := (hbw.cell (p := ⟨b, o + k * 4 + 1, none⟩) hbl).trans (by have := hcs 1 _ rfl; simpa using this)
        have d2 : wr.cell? ⟨b, o + k * 4 + 2, none⟩ = some (.slice Bf mBf dBf) := (hbw.cell (p := ⟨b, o + k * 4 + 2, none⟩) hbl).trans (by have := hcs 2 _ rfl; simpa using this)
        have d3 : wr.cell? ⟨b, o + k * 4 + 3, none⟩ = some (.slice Bm mBm dBm) := (hbw.cell (p := ⟨b, o + k * 4 + 3, none⟩) hbl).trans (by have := hcs 3 _ rfl; simpa using this)
        have HY := Lib.hid hy
        have HAW := Lib.hid (hbw.alloc hbw.size (.cells #[.string (strB y.name), .string (strB y.super), .slice Bf mBf dBf, .slice Bm mBm dBm] 85))
        have kt0 : Blk (wr.alloc (.cells #[.string (strB y.name), .string (strB y.super), .slice Bf mBf dBf, .slice Bm mBm dBm] 85)) wr.heap.size 85 #[.string (strB y.name), .string (strB y.super), .slice Bf mBf dBf, .slice Bm mBm dBm] := Blk.new _ _ _
        clear hcs hcl hy hbw
        go_wp2
        generalize hWA : wr.alloc (.cells #[.string (strB y.name), .string (strB y.super), .slice Bf mBf dBf, .slice Bm mBm dBm] 85) = WA at *
        generalize wr.heap.size = gm at *
        have HKT := Lib.hid kt0
        clear hWA d0 d1 d2 d3 kt0
        have HREL2 := Lib.hid (RelNe.start (fun u : UnD => u.name) y (builtL ++ l) k WA)
        obtain ⟨wo, rfl⟩ : ∃ wo : World, wo = wr := ⟨_, rfl⟩
        go_loopw [28] (fun i wr => RelNe (fun u : UnD => u.name) y (builtL ++ l) k WA i wr) (fun i _ => k - (intOf i).toNat)
        case atStart => exact HREL2.out
        case round =>
          clear HREL2
          obtain ⟨j, hj, rfl, hne, hbw⟩ := hrel
          have HNE := Lib.hid hne
          clear hne
          by_cases hlt2 : j < k
          · obtain ⟨b2, o2, z, cs, he, hbl2, _, hz, hcl, hcs, hr⟩ := HR2.out.at_ (i := j) (by omega)
            obtain ⟨Cf, mCf, dCf, Cm, mCm, dCm, rfl, _, _⟩ := hr
            cases he
            have hbw0 := hbw
            replace hbw : Below w2.heap.size w2 wr := HAW.out.trans (hbw.mono HAW.out.size)
            change ∀ j' v, [Value.string (strB z.name), .string (strB z.super), .slice Cf mCf dCf, .slice Cm mCm dCm][j']? = some v → w2.cell? ⟨b, o + j * 4 + j', none⟩ = some v at hcs
            have d0 : wr.cell? ⟨b, o + j * 4, none⟩ = some (.string (strB z.name)) := (hbw.cell (p := ⟨b, o + j * 4, none⟩) hbl).trans (by have := hcs 0 _ rfl; simpa using this)
            have d1 : wr.cell? ⟨b, o + j * 4 + 1, none⟩ = some (.string (strB z.super)) := (hbw.cell (p := ⟨b, o + j * 4 + 1, none⟩) hbl).trans (by have := hcs 1 _ rfl; simpa using this)
            have d2 : wr.cell? ⟨b, o + j * 4 + 2, none⟩ = some (.slice Cf mCf dCf) := (hbw.cell (p := ⟨b, o + j * 4 + 2, none⟩) hbl).trans (by have := hcs 2 _ rfl; simpa using this)
            have d3 : wr.cell? ⟨b, o + j * 4 + 3, none⟩ = some (.slice Cm mCm dCm) := (hbw.cell (p := ⟨b, o + j * 4 + 3, none⟩) hbl).trans (by have := hcs 3 _ rfl; simpa using this)
            have HZ := Lib.hid hz
            have HBW5 := Lib.hid (hbw0.alloc hbw0.size (.cells #[.string (strB z.name), .string (strB z.super), .slice Cf mCf dCf, .slice Cm mCm dCm] 85))
            have HB5 := Lib.hid ((HB2.out.trans (hbw.mono HB2.out.size)).alloc (HB2.out.trans (hbw.mono HB2.out.size)).size (.cells #[.string (strB z.name), .string (strB z.super), .slice Cf mCf dCf, .slice Cm mCm dCm] 85))
            have kf := (HKT.out.of (hbw0.block _ HKT.out.lt)).alloc (.cells #[.string (strB z.name), .string (strB z.super), .slice Cf mCf dCf, .slice Cm mCm dCm] 85)
            have f0 : (wr.alloc (.cells #[.string (strB z.name), .string (strB z.super), .slice Cf mCf dCf, .slice Cm mCm dCm] 85)).cell? ⟨gm, 0, none⟩ = some (.string (strB y.name)) := kf.cell 0
            clear hcs hcl hz hbw hbw0 kf
            by_cases e1 : y.name = z.name
            · have q1 : ((strB y.name).toList == (strB z.name).toList) = true := by rw [e1]; simp
              have HE : Hid (okR l = false) := Lib.hid (by
                unfold okR
                rw [show decide (((builtL ++ l).map (·.name)).Nodup) = false from decide_eq_false (nodup_no HY.out HZ.out hlt2 e1.symm)]
                simp)
              clear e1
              go_wp2
              go_ret2
              exact ⟨WorldD.no HE.out, HB5.out⟩
            · have q1 : ((strB y.name).toList == (strB z.name).toList) = false := by rw [strB_toList, strB_toList]; simpa using e1
              have HREL2 := Lib.hid (RelNe.next HNE.out hlt2 HZ.out (show z.name ≠ y.name from fun e => e1 e.symm) HBW5.out)
              clear e1
              go_wp2
              go_roundw
              case rel => exact HREL2.out
              case measure => simp [intOf]; omega
          · have HREL1 := Lib.hid (RelU.next (p := fun _ : UnD => true) (fun _ _ => rfl) HND.out hlt HY.out rfl (by
              have := HNE.out
              rwa [show j = k from by omega] at this) (HAW.out.trans (hbw.mono HAW.out.size)))
            clear hbw
            go_wp2
            go_roundw
            case rel => exact HREL1.out
            case measure => simp [intOf]; omega
      · skip
        have HND2 : Hid (((builtL ++ l).map (·.name)).Nodup) := Lib.hid (by
          have := HND.out
          rwa [List.take_of_length_le (by rw [HR2.out.1]; omega)] at this)
        have HB3 : Hid (Below w.heap.size w wr) := Lib.hid (HB2.out.trans (hbw.mono HB2.out.size))
        have HR3 := Lib.hid (HR2.out.below hbw)
        clear hbw
        go_wp2
        obtain ⟨w3, rfl⟩ : ∃ w3 : World, w3 = wr := ⟨_, rfl⟩
        have HREL3 := Lib.hid (RelAll.start (unitR (builtL ++ l)) l n w3)
        go_loopw [41] (fun i wr => RelAll (unitR (builtL ++ l)) l n w3 i wr) (fun i _ => n - (intOf i).toNat)
        case atStart => exact HREL3.out
        case round =>
          clear HREL3
          obtain ⟨k, hk, rfl, hok, hbw⟩ := hrel
          have HOK := Lib.hid hok
          have hb4 : Below w.heap.size w wr := HB3.out.trans (hbw.mono HB3.out.size)
          clear hok
          by_cases hlt3 : k < n
          · obtain ⟨b, o, y, cs, rfl, hbl, _, hy, hcl, hcs, hr⟩ := (HR.out.below hb4).at_ hlt3
            obtain ⟨Bf, mBf, dBf, Bm, mBm, dBm, rfl, hfl, hml⟩ := hr
            change ∀ j v, [Value.string (strB y.name), .string (strB y.super), .slice Bf mBf dBf, .slice Bm mBm dBm][j]? = some v → wr.cell? ⟨b, o + k * 4 + j, none⟩ = some v at hcs
            have d0 : wr.cell? ⟨b, o + k * 4, none⟩ = some (.string (strB y.name)) := by have := hcs 0 _ rfl; simpa using this
            have d1 : wr.cell? ⟨b, o + k * 4 + 1, none⟩ = some (.string (strB y.super)) := by have := hcs 1 _ rfl; simpa using this
            have d2 : wr.cell? ⟨b, o + k * 4 + 2, none⟩ = some (.slice Bf mBf dBf) := by have := hcs 2 _ rfl; simpa using this
            have d3 : wr.cell? ⟨b, o + k * 4 + 3, none⟩ = some (.slice Bm mBm dBm) := by have := hcs 3 _ rfl; simpa using this
            have hal : Below wr.heap.size wr (wr.alloc (.cells #[.string (strB y.name), .string (strB y.super), .slice Bf mBf dBf, .slice Bm mBm dBm] 85)) := (Below.refl _ wr).alloc (Nat.le_refl _) _
            have HAW := Lib.hid (hbw.trans (hal.mono hbw.size))
            have C := Lib.hid (runit_any (builtL ++ l) A2 (9 + n) c2 y Bf mBf dBf Bm mBm dBm _ ((HR3.out.below hbw).below hal) (by omega) (UnAt4.below ⟨hfl, hml⟩ hal) (HS.out y (List.mem_of_getElem? hy)))
            unfold unV4 at C
            have HA := Lib.hid (hb4.trans (hal.mono hb4.size))
            have HY := Lib.hid hy
            clear hcs hcl hy hfl hml hal hbw hb4
            cases hu : unitR (builtL ++ l) y with
            | false =>
              rw [hu] at C
              have HE : Hid (okR l = false) := Lib.hid (by unfold okR; rw [allB_no HY.out hu]; simp)
              clear hu
              go_wp2_with fail
              refine C.out.mono ?_
              rintro e w4 ⟨rfl, hb⟩
              go_wp2
              go_ret2
              exact ⟨WorldD.no HE.out, HA.out.trans (hb.mono HA.out.size)⟩
            | true =>
              rw [hu] at C
              have HPX := Lib.hid hu
              clear hu
              go_wp2_with fail
              refine C.out.mono ?_
              rintro e w4 ⟨rfl, hb⟩
              have HREL3 := Lib.hid (RelAll.next HOK.out hlt3 HY.out HPX.out (HAW.out.trans (hb.mono HAW.out.size)))
              clear hb d0 d1 d2 d3 C
              go_wp2
              go_roundw
              case rel => exact HREL3.out
              case measure => simp [intOf]; omega
          · have HE : Hid (okR l = true) := Lib.hid (by
              unfold okR
              rw [decide_eq_true (show l.length ≤ 32 by rw [HL.out]; omega), decide_eq_true HND2.out, allB_take HOK.out HL.out hlt3]
              rfl)
            have HRF := Lib.hid (HR3.out.below hbw)
            have HBF := Lib.hid hb4
            clear hbw hb4
            go_wp2
            go_ret2
            exact ⟨WorldD.yes HE.out HRF.out, HBF.out⟩

end Go.Proofs.YtblnhobbnkcbeaaGreatDoor

/- The walks over the document's Field, Method (layer 16); printed by gen/gen_rg.py. -/
namespace Go.Proofs.YtblnhobbnkcbeaaGreatDoor
set_option maxRecDepth 100000
open Go.RowKit

theorem firstG_all {g : UnD → Option Bool} : ∀ {l : List UnD}, (∀ v ∈ l, (g v).isNone = true) → firstG g l = none
  | [], _ => rfl
  | v :: l, h => by
    have h1 := h v List.mem_cons_self
    unfold firstG
    cases hg : g v with
    | none => exact firstG_all (fun x hx => h x (List.mem_cons_of_mem _ hx))
    | some st => rw [hg] at h1; cases h1
theorem firstG_hit {g : UnD → Option Bool} {st : Bool} : ∀ {l : List UnD} {k : Nat} {v : UnD}, (∀ x ∈ l.take k, (g x).isNone = true) → l[k]? = some v → g v = some st → firstG g l = some (v.name, st)
  | [], k, v, _, h, _ => by simp at h
  | x :: l, 0, v, _, h, hg => by
    obtain rfl : x = v := by simpa using h
    unfold firstG
    rw [hg]
  | x :: l, k + 1, v, h0, h, hg => by
    have h1 := h0 x (by simp)
    unfold firstG
    cases hx : g x with
    | none => exact firstG_hit (k := k) (fun y hy => h0 y (by rw [List.take_succ_cons]; exact List.mem_cons_of_mem _ hy)) (by simpa using h) hg
    | some s => rw [hx] at h1; cases h1
/-- The first one that has a name and a description. -/
def fstF (u : UnD) (n d : Bs) : Option Bool := (u.fields.find? (fun m => m.name == n && m.desc == d)).map (·.static)
def fstM (u : UnD) (n d : Bs) : Option Bool := (u.meths.find? (fun m => m.name == n && m.desc == d)).map (·.static)
def refFld (L : List UnD) (c n d : Bs) : Option (Bs × Bool) := firstG (fun v => fstF v n d) (lineR L c)
def refMth (L : List UnD) (c n d : Bs) : Option (Bs × Bool) := firstG (fun v => fstM v n d) (lineR L c)
theorem find_none_take {α : Type} {p : α → Bool} {l : List α} {n k : Nat} (h : ∀ x ∈ l.take k, (!p x) = true) (hl : l.length = n) (hk : ¬ k < n) : l.find? p = none := by
  rw [List.find?_eq_none]
  intro x hx
  have := h x (by rw [List.take_of_length_le (by omega)]; exact hx)
  simpa using this
theorem find_some_take {α : Type} {p : α → Bool} {l : List α} {k : Nat} {x : α} (h : ∀ x ∈ l.take k, (!p x) = true) (hx : l[k]? = some x) (hp : p x = true) : l.find? p = some x := by
  have hk : k < l.length := (List.getElem?_eq_some_iff.1 hx).1
  have e : l.drop k = x :: l.drop (k + 1) := by
    rw [List.drop_eq_getElem_cons hk]
    congr 1
    exact (List.getElem?_eq_some_iff.1 hx).2
  rw [← List.take_append_drop k l, List.find?_append, List.find?_eq_none.2 (fun y hy => by have := h y hy; simpa using this), e]
  simp [hp]

set_option maxHeartbeats 8000000 in
theorem rfield_any (L : List UnD) (c nm d : Bs) (A0 : Option Addr) (n0 c0 : Nat) (w : World) (hR : RowS unW w Empty A0 n0 c0 L) (hn0 : n0 ≤ 1000000) :
    Calls Tryz.prog 15 #[.slice A0 n0 c0, .string (strB c), .string (strB nm), .string (strB d)] w fun e w' => e = .returned (memR (refFld L c nm d)) ∧ Below w.heap.size w w' := by
  obtain ⟨W1, hW1⟩ : ∃ W1, w.alloc (.cells #[.string (strB []), .bool false] 32) = W1 := ⟨_, rfl⟩
  have hbb : Below w.heap.size w W1 := by rw [← hW1]; exact (Below.refl _ _).alloc (Nat.le_refl _) _
  have kb0 : Blk W1 w.heap.size 32 #[.string (strB []), .bool false] := by rw [← hW1]; exact Blk.new w _ _
  have hsz : w.heap.size < W1.heap.size := by rw [← hW1]; simp
  have CL := Lib.hid (rline_any L c A0 n0 c0 W1 (hR.below hbb) hn0)
  have K0 := Lib.hid (fun W (h : Below W1.heap.size W1 W) => kb0.of (h.block _ hsz))
  have HBB := Lib.hid hbb
  have HW1 : Hid (w.alloc (.cells #[.string ⟨#[]⟩, .bool false] 32) = W1) := Lib.hid hW1
  unfold refFld
  clear hR hW1 hbb kb0 hsz
  go_enter Tryz.func15, Tryz.ntmps15
  go_wp2_with fail
  rw [HW1.out]
  refine CL.out.mono ?_
  rintro e w1 ⟨⟨A1, c1, rfl, hr1⟩, hb⟩
  have HB1 : Hid (Below W1.heap.size W1 w1) := Lib.hid hb
  obtain ⟨l1, hl1⟩ : ∃ l1, (lineR L c) = l1 := ⟨_, rfl⟩
  rw [hl1] at hr1
  rw [hl1]
  obtain ⟨n1, hn1⟩ : ∃ n1, l1.length = n1 := ⟨_, rfl⟩
  rw [hn1] at hr1
  rw [hn1]
  have HN1 := Lib.hid hn1
  have HL1 := Lib.hid hl1
  have HR1 := Lib.hid hr1
  have hn1c := hr1.2.1
  have hc1m := hr1.2.2.1
  unfold maxLen at hc1m
  clear hb hl1 hn1 hr1 CL
  go_wp2
  have HREL1 := Lib.hid (RelAll.start (fun v => (fstF v nm d).isNone) l1 n1 w1)
  go_loopw [18] (fun i wr => RelAll (fun v => (fstF v nm d).isNone) l1 n1 w1 i wr) (fun i _ => n1 - (intOf i).toNat)
  case atStart => exact HREL1.out
  case round =>
    clear HREL1
    obtain ⟨k, hk, rfl, hok, hbw⟩ := hrel
    have HOK := Lib.hid hok
    clear hok
    by_cases hlt : k < n1
    · obtain ⟨b, o, y, cs, rfl, hbl, _, hy, hcl, hcs, hr⟩ := HR1.out.at_ hlt
      obtain ⟨Bf, mf, df, Bm, mm, dm, rfl, hfl, hml⟩ := hr
      change ∀ j' v, [Value.string (strB y.name), .string (strB y.super), .slice Bf mf df, .slice Bm mm dm][j']? = some v → w1.cell? ⟨b, o + k * 4 + j', none⟩ = some v at hcs
      have d0 : wr.cell? ⟨b, o + k * 4, none⟩ = some (.string (strB y.name)) := (hbw.cell (p := ⟨b, o + k * 4, none⟩) hbl).trans (by have := hcs 0 _ rfl; simpa using this)
      have d1 : wr.cell? ⟨b, o + k * 4 + 1, none⟩ = some (.string (strB y.super)) := (hbw.cell (p := ⟨b, o + k * 4 + 1, none⟩) hbl).trans (by have := hcs 1 _ rfl; simpa using this)
      have d2 : wr.cell? ⟨b, o + k * 4 + 2, none⟩ = some (.slice Bf mf df) := (hbw.cell (p := ⟨b, o + k * 4 + 2, none⟩) hbl).trans (by have := hcs 2 _ rfl; simpa using this)
      have d3 : wr.cell? ⟨b, o + k * 4 + 3, none⟩ = some (.slice Bm mm dm) := (hbw.cell (p := ⟨b, o + k * 4 + 3, none⟩) hbl).trans (by have := hcs 3 _ rfl; simpa using this)
      have HY := Lib.hid hy
      have HAW := Lib.hid (hbw.alloc hbw.size (.cells #[.string (strB y.name), .string (strB y.super), .slice Bf mf df, .slice Bm mm dm] 85))
      have hRow := hfl
      have HROW := Lib.hid (hRow.below HAW.out)
      have hq1 := hRow.2.1
      have hq2 := hRow.2.2.1
      unfold maxLen at hq2
      have kt0 : Blk (wr.alloc (.cells #[.string (strB y.name), .string (strB y.super), .slice Bf mf df, .slice Bm mm dm] 85)) wr.heap.size 85 #[.string (strB y.name), .string (strB y.super), .slice Bf mf df, .slice Bm mm dm] := Blk.new _ _ _
      clear hcs hcl hy hbw hRow hfl hml
      go_wp2
      generalize hWA : wr.alloc (.cells #[.string (strB y.name), .string (strB y.super), .slice Bf mf df, .slice Bm mm dm] 85) = WA at *
      generalize wr.heap.size = gm at *
      have HKT := Lib.hid kt0
      clear hWA d0 d1 d2 d3 kt0
      have HREL2 := Lib.hid (RelAll.start (fun f => !(f.name == nm && f.desc == d)) y.fields mf WA)
      obtain ⟨wo, rfl⟩ : ∃ wo : World, wo = wr := ⟨_, rfl⟩
      go_loopw [25] (fun i wr => RelAll (fun f => !(f.name == nm && f.desc == d)) y.fields mf WA i wr) (fun i _ => mf - (intOf i).toNat)
      case atStart => exact HREL2.out
      case round =>
        clear HREL2
        obtain ⟨i, hi, rfl, hok2, hbw⟩ := hrel
        have HOK2 := Lib.hid hok2
        clear hok2
        by_cases hlt2 : i < mf
        · obtain ⟨fb, fo, f, fcs, rfl, hfb, _, hfx, hfcl, hcs, hr⟩ := HROW.out.at_ hlt2
          obtain rfl := (show fcs = [.bool f.static, .string (strB f.name), .string (strB f.desc)] from hr)
          change ∀ j' v, [.bool f.static, .string (strB f.name), .string (strB f.desc)][j']? = some v → WA.cell? ⟨fb, fo + i * 3 + j', none⟩ = some v at hcs
          have d0 : wr.cell? ⟨fb, fo + i * 3, none⟩ = some (.bool f.static) := (hbw.cell (p := ⟨fb, fo + i * 3, none⟩) hfb).trans (by have := hcs 0 _ rfl; simpa using this)
          have d1 : wr.cell? ⟨fb, fo + i * 3 + 1, none⟩ = some (.string (strB f.name)) := (hbw.cell (p := ⟨fb, fo + i * 3 + 1, none⟩) hfb).trans (by have := hcs 1 _ rfl; simpa using this)
          have d2 : wr.cell? ⟨fb, fo + i * 3 + 2, none⟩ = some (.string (strB f.desc)) := (hbw.cell (p := ⟨fb, fo + i * 3 + 2, none⟩) hfb).trans (by have := hcs 2 _ rfl; simpa using this)
          have HFX := Lib.hid hfx
          have hb7 := hbw.alloc hbw.size (.cells #[.bool f.static, .string (strB f.name), .string (strB f.desc)] 103)
          have kX := (HKT.out.of (hbw.block _ HKT.out.lt)).alloc (.cells #[.bool f.static, .string (strB f.name), .string (strB f.desc)] 103)
          have HBX : Hid (Below W1.heap.size W1 (wr.alloc (.cells #[.bool f.static, .string (strB f.name), .string (strB f.desc)] 103))) := Lib.hid ((HB1.out.trans (HAW.out.mono HB1.out.size)).trans (hb7.mono (HB1.out.trans (HAW.out.mono HB1.out.size)).size))
          have kb := K0.out _ HBX.out
          clear hcs hfcl hfx hbw
          by_cases e1 : f.name = nm
          · have q1 : ((strB f.name).toList == (strB nm).toList) = true := by rw [e1]; simp
            by_cases e2 : f.desc = d
            · have q2 : ((strB f.desc).toList == (strB d).toList) = true := by rw [e2]; simp
              have HE : Hid (firstG (fun v => fstF v nm d) l1 = some (y.name, f.static)) := Lib.hid (firstG_hit HOK.out HY.out (by
                show (y.fields.find? (fun m => m.name == nm && m.desc == d)).map (·.static) = some f.static
                rw [find_some_take HOK2.out HFX.out (by simp [e1, e2])]
                rfl))
              obtain ⟨WX, hWX⟩ : ∃ WX, wr.alloc (.cells #[.bool f.static, .string (strB f.name), .string (strB f.desc)] 103) = WX := ⟨_, rfl⟩
              have HWX := Lib.hid hWX
              clear hWX
              have y0 : (wr.alloc (.cells #[.bool f.static, .string (strB f.name), .string (strB f.desc)] 103)).cell? ⟨gm, 0, none⟩ = some (.string (strB y.name)) := kX.cell 0
              have b0 : (wr.alloc (.cells #[.bool f.static, .string (strB f.name), .string (strB f.desc)] 103)).cell? ⟨w.heap.size, 0, none⟩ = some (.string (strB [])) := kb.cell 0
              have b1 : (wr.alloc (.cells #[.bool f.static, .string (strB f.name), .string (strB f.desc)] 103)).cell? ⟨w.heap.size, 1, none⟩ = some (.bool false) := kb.cell 1
              have p0 : (wr.alloc (.cells #[.bool f.static, .string (strB f.name), .string (strB f.desc)] 103)).frozen? ⟨w.heap.size, 0, none⟩ = false := kb.frozen 0
              have p1 : (wr.alloc (.cells #[.bool f.static, .string (strB f.name), .string (strB f.desc)] 103)).frozen? ⟨w.heap.size, 1, none⟩ = false := kb.frozen 1
              clear e1 e2 kX hb7
              go_wp2
              rw [HWX.out] at kb HBX ⊢
              obtain ⟨W2, hW2⟩ : ∃ W2, (WX.setCell ⟨w.heap.size, 0, none⟩ (.string (strB y.name))).setCell ⟨w.heap.size, 1, none⟩ (.bool f.static) = W2 := ⟨_, rfl⟩
              have kb2 : Blk W2 w.heap.size 32 #[.string (strB y.name), .bool f.static] := by rw [← hW2]; exact (kb.set_ 0 _).set_ 1 _
              have hBX := HBB.out.trans (HBX.out.mono HBB.out.size)
              have hB2 : Below w.heap.size w W2 := by rw [← hW2]; exact (hBX.setCell (p := ⟨w.heap.size, 0, none⟩) (Nat.le_refl _) _).setCell (p := ⟨w.heap.size, 1, none⟩) (Nat.le_refl _) _
              rw [hW2]
              have r0 : W2.cell? ⟨w.heap.size, 0, none⟩ = some (.string (strB y.name)) := kb2.cell 0
              have r1 : W2.cell? ⟨w.heap.size, 1, none⟩ = some (.bool f.static) := kb2.cell 1
              exact bodyPost_ret (v := .tuple #[.agg #[.string (strB y.name), .bool f.static], .bool true]) (by simp [results, Tryz.f15, go_sem, r0, r1]) rfl ⟨by rw [HL1.out, HE.out]; rfl, hB2⟩
            · have q2 : ((strB f.desc).toList == (strB d).toList) = false := by rw [strB_toList, strB_toList]; simpa using e2
              have HREL2 := Lib.hid (RelAll.next HOK2.out hlt2 HFX.out (by simp [e2]) hb7)
              clear e1 e2 hb7 kX kb
              go_wp2
              go_roundw
              case rel => exact HREL2.out
              case measure => simp [intOf]; omega
          · have q1 : ((strB f.name).toList == (strB nm).toList) = false := by rw [strB_toList, strB_toList]; simpa using e1
            have HREL2 := Lib.hid (RelAll.next HOK2.out hlt2 HFX.out (by simp [e1]) hb7)
            clear e1 hb7 kX kb
            go_wp2
            go_roundw
            case rel => exact HREL2.out
            case measure => simp [intOf]; omega
        · have HREL1 := Lib.hid (RelAll.next HOK.out hlt HY.out (by
            show ((y.fields.find? (fun m => m.name == nm && m.desc == d)).map (·.static)).isNone = true
            rw [find_none_take HOK2.out HROW.out.1 hlt2]
            rfl) (HAW.out.trans (hbw.mono HAW.out.size)))
          clear hbw
          go_wp2
          go_roundw
          case rel => exact HREL1.out
          case measure => simp [intOf]; omega
    · have HE : Hid (firstG (fun v => fstF v nm d) l1 = none) := Lib.hid (firstG_all (fun v hv => HOK.out v (by rw [List.take_of_length_le (show l1.length ≤ k by rw [HN1.out]; omega)]; exact hv)))
      have HBX : Hid (Below W1.heap.size W1 wr) := Lib.hid (HB1.out.trans (hbw.mono HB1.out.size))
      have kb := K0.out _ HBX.out
      have b0 : wr.cell? ⟨w.heap.size, 0, none⟩ = some (.string (strB [])) := kb.cell 0
      have b1 : wr.cell? ⟨w.heap.size, 1, none⟩ = some (.bool false) := kb.cell 1
      have p0 : wr.frozen? ⟨w.heap.size, 0, none⟩ = false := kb.frozen 0
      have p1 : wr.frozen? ⟨w.heap.size, 1, none⟩ = false := kb.frozen 1
      clear hbw
      go_wp2
      obtain ⟨W2, hW2⟩ : ∃ W2, (wr.setCell ⟨w.heap.size, 0, none⟩ (.string (strB []))).setCell ⟨w.heap.size, 1, none⟩ (.bool false) = W2 := ⟨_, rfl⟩
      have hWW2 : (wr.setCell ⟨w.heap.size, 0, none⟩ (.string ⟨#[]⟩)).setCell ⟨w.heap.size, 1, none⟩ (.bool false) = W2 := hW2
      have kb2 : Blk W2 w.heap.size 32 #[.string (strB []), .bool false] := by rw [← hW2]; exact (kb.set_ 0 _).set_ 1 _
      have hBX := HBB.out.trans (HBX.out.mono HBB.out.size)
      have hB2 : Below w.heap.size w W2 := by rw [← hW2]; exact (hBX.setCell (p := ⟨w.heap.size, 0, none⟩) (Nat.le_refl _) _).setCell (p := ⟨w.heap.size, 1, none⟩) (Nat.le_refl _) _
      rw [hWW2]
      have r0 : W2.cell? ⟨w.heap.size, 0, none⟩ = some (.string (strB [])) := kb2.cell 0
      have r1 : W2.cell? ⟨w.heap.size, 1, none⟩ = some (.bool false) := kb2.cell 1
      exact bodyPost_ret (v := .tuple #[.agg #[.string (strB []), .bool false], .bool false]) (by simp [results, Tryz.f15, go_sem, r0, r1]) rfl ⟨by rw [HL1.out, HE.out]; rfl, hB2⟩

set_option maxHeartbeats 8000000 in
theorem rmeth_any (L : List UnD) (c nm d : Bs) (A0 : Option Addr) (n0 c0 : Nat) (w : World) (hR : RowS unW w Empty A0 n0 c0 L) (hn0 : n0 ≤ 1000000) :
    Calls Tryz.prog 17 #[.slice A0 n0 c0, .string (strB c), .string (strB nm), .string (strB d)] w fun e w' => e = .returned (memR (refMth L c nm d)) ∧ Below w.heap.size w w' := by
  obtain ⟨W1, hW1⟩ : ∃ W1, w.alloc (.cells #[.string (strB []), .bool false] 32) = W1 := ⟨_, rfl⟩
  have hbb : Below w.heap.size w W1 := by rw [← hW1]; exact (Below.refl _ _).alloc (Nat.le_refl _) _
  have kb0 : Blk W1 w.heap.size 32 #[.string (strB []), .bool false] := by rw [← hW1]; exact Blk.new w _ _
  have hsz : w.heap.size < W1.heap.size := by rw [← hW1]; simp
  have CL := Lib.hid (rline_any L c A0 n0 c0 W1 (hR.below hbb) hn0)
  have K0 := Lib.hid (fun W (h : Below W1.heap.size W1 W) => kb0.of (h.block _ hsz))
  have HBB := Lib.hid hbb
  have HW1 : Hid (w.alloc (.cells #[.string ⟨#[]⟩, .bool false] 32) = W1) := Lib.hid hW1
  unfold refMth
  clear hR hW1 hbb kb0 hsz
  go_enter Tryz.func17, Tryz.ntmps17
  go_wp2_with fail
  rw [HW1.out]
  refine CL.out.mono ?_
  rintro e w1 ⟨⟨A1, c1, rfl, hr1⟩, hb⟩
  have HB1 : Hid (Below W1.heap.size W1 w1) := Lib.hid hb
  obtain ⟨l1, hl1⟩ : ∃ l1, (lineR L c) = l1 := ⟨_, rfl⟩
  rw [hl1] at hr1
  rw [hl1]
  obtain ⟨n1, hn1⟩ : ∃ n1, l1.length = n1 := ⟨_, rfl⟩
  rw [hn1] at hr1
  rw [hn1]
  have HN1 := Lib.hid hn1
  have HL1 := Lib.hid hl1
  have HR1 := Lib.hid hr1
  have hn1c := hr1.2.1
  have hc1m := hr1.2.2.1
  unfold maxLen at hc1m
  clear hb hl1 hn1 hr1 CL
  go_wp2
  have HREL1 := Lib.hid (RelAll.start (fun v => (fstM v nm d).isNone) l1 n1 w1)
  go_loopw [18] (fun i wr => RelAll (fun v => (fstM v nm d).isNone) l1 n1 w1 i wr) (fun i _ => n1 - (intOf i).toNat)
  case atStart => exact HREL1.out
  case round =>
    clear HREL1
    obtain ⟨k, hk, rfl, hok, hbw⟩ := hrel
    have HOK := Lib.hid hok
    clear hok
    by_cases hlt : k < n1
    · obtain ⟨b, o, y, cs, rfl, hbl, _, hy, hcl, hcs, hr⟩ := HR1.out.at_ hlt
      obtain ⟨Bf, mf, df, Bm, mm, dm, rfl, hfl, hml⟩ := hr
      change ∀ j' v, [Value.string (strB y.name), .string (strB y.super), .slice Bf mf df, .slice Bm mm dm][j']? = some v → w1.cell? ⟨b, o + k * 4 + j', none⟩ = some v at hcs
      have d0 : wr.cell? ⟨b, o + k * 4, none⟩ = some (.string (strB y.name)) := (hbw.cell (p := ⟨b, o + k * 4, none⟩) hbl).trans (by have := hcs 0 _ rfl; simpa using this)
      have d1 : wr.cell? ⟨b, o + k * 4 + 1, none⟩ = some (.string (strB y.super)) := (hbw.cell (p := ⟨b, o + k * 4 + 1, none⟩) hbl).trans (by have := hcs 1 _ rfl; simpa using this)
      have d2 : wr.cell? ⟨b, o + k * 4 + 2, none⟩ = some (.slice Bf mf df) := (hbw.cell (p := ⟨b, o + k * 4 + 2, none⟩) hbl).trans (by have := hcs 2 _ rfl; simpa using this)
      have d3 : wr.cell? ⟨b, o + k * 4 + 3, none⟩ = some (.slice Bm mm dm) := (hbw.cell (p := ⟨b, o + k * 4 + 3, none⟩) hbl).trans (by have := hcs 3 _ rfl; simpa using this)
      have HY := Lib.hid hy
      have HAW := Lib.hid (hbw.alloc hbw.size (.cells #[.string (strB y.name), .string (strB y.super), .slice Bf mf df, .slice Bm mm dm] 85))
      have hRow := hml
      have HROW := Lib.hid (hRow.below HAW.out)
      have hq1 := hRow.2.1
      have hq2 := hRow.2.2.1
      unfold maxLen at hq2
      have kt0 : Blk (wr.alloc (.cells #[.string (strB y.name), .string (strB y.super), .slice Bf mf df, .slice Bm mm dm] 85)) wr.heap.size 85 #[.string (strB y.name), .string (strB y.super), .slice Bf mf df, .slice Bm mm dm] := Blk.new _ _ _
      clear hcs hcl hy hbw hRow hfl hml
      go_wp2
      generalize hWA : wr.alloc (.cells #[.string (strB y.name), .string (strB y.super), .slice Bf mf df, .slice Bm mm dm] 85) = WA at *
      generalize wr.heap.size = gm at *
      have HKT := Lib.hid kt0
      clear hWA d0 d1 d2 d3 kt0
      have HREL2 := Lib.hid (RelAll.start (fun f => !(f.name == nm && f.desc == d)) y.meths mm WA)
      obtain ⟨wo, rfl⟩ : ∃ wo : World, wo = wr := ⟨_, rfl⟩
      go_loopw [25] (fun i wr => RelAll (fun f => !(f.name == nm && f.desc == d)) y.meths mm WA i wr) (fun i _ => mm - (intOf i).toNat)
      case atStart => exact HREL2.out
      case round =>
        clear HREL2
        obtain ⟨i, hi, rfl, hok2, hbw⟩ := hrel
        have HOK2 := Lib.hid hok2
        clear hok2
        by_cases hlt2 : i < mm
        · obtain ⟨fb, fo, f, fcs, rfl, hfb, _, hfx, hfcl, hcs, hr⟩ := HROW.out.at_ hlt2
          obtain ⟨Dc, kc, ec, Dt, kt, et, Dp, kp, ep, rfl, _⟩ := hr
          change ∀ j' v, [.bool f.static, .string (strB f.name), .string (strB f.desc), .int .i64 f.stack, .int .i64 f.locals, .slice Dc kc ec, .slice Dt kt et, .slice Dp kp ep][j']? = some v → WA.cell? ⟨fb, fo + i * 8 + j', none⟩ = some v at hcs
          have d0 : wr.cell? ⟨fb, fo + i * 8, none⟩ = some (.bool f.static) := (hbw.cell (p := ⟨fb, fo + i * 8, none⟩) hfb).trans (by have := hcs 0 _ rfl; simpa using this)
          have d1 : wr.cell? ⟨fb, fo + i * 8 + 1, none⟩ = some (.string (strB f.name)) := (hbw.cell (p := ⟨fb, fo + i * 8 + 1, none⟩) hfb).trans (by have := hcs 1 _ rfl; simpa using this)
          have d2 : wr.cell? ⟨fb, fo + i * 8 + 2, none⟩ = some (.string (strB f.desc)) := (hbw.cell (p := ⟨fb, fo + i * 8 + 2, none⟩) hfb).trans (by have := hcs 2 _ rfl; simpa using this)
          have d3 : wr.cell? ⟨fb, fo + i * 8 + 3, none⟩ = some (.int .i64 f.stack) := (hbw.cell (p := ⟨fb, fo + i * 8 + 3, none⟩) hfb).trans (by have := hcs 3 _ rfl; simpa using this)
          have d4 : wr.cell? ⟨fb, fo + i * 8 + 4, none⟩ = some (.int .i64 f.locals) := (hbw.cell (p := ⟨fb, fo + i * 8 + 4, none⟩) hfb).trans (by have := hcs 4 _ rfl; simpa using this)
          have d5 : wr.cell? ⟨fb, fo + i * 8 + 5, none⟩ = some (.slice Dc kc ec) := (hbw.cell (p := ⟨fb, fo + i * 8 + 5, none⟩) hfb).trans (by have := hcs 5 _ rfl; simpa using this)
          have d6 : wr.cell? ⟨fb, fo + i * 8 + 6, none⟩ = some (.slice Dt kt et) := (hbw.cell (p := ⟨fb, fo + i * 8 + 6, none⟩) hfb).trans (by have := hcs 6 _ rfl; simpa using this)
          have d7 : wr.cell? ⟨fb, fo + i * 8 + 7, none⟩ = some (.slice Dp kp ep) := (hbw.cell (p := ⟨fb, fo + i * 8 + 7, none⟩) hfb).trans (by have := hcs 7 _ rfl; simpa using this)
          have HFX := Lib.hid hfx
          have hb7 := hbw.alloc hbw.size (.cells #[.bool f.static, .string (strB f.name), .string (strB f.desc), .int .i64 f.stack, .int .i64 f.locals, .slice Dc kc ec, .slice Dt kt et, .slice Dp kp ep] 52)
          have kX := (HKT.out.of (hbw.block _ HKT.out.lt)).alloc (.cells #[.bool f.static, .string (strB f.name), .string (strB f.desc), .int .i64 f.stack, .int .i64 f.locals, .slice Dc kc ec, .slice Dt kt et, .slice Dp kp ep] 52)
          have HBX : Hid (Below W1.heap.size W1 (wr.alloc (.cells #[.bool f.static, .string (strB f.name), .string (strB f.desc), .int .i64 f.stack, .int .i64 f.locals, .slice Dc kc ec, .slice Dt kt et, .slice Dp kp ep] 52))) := Lib.hid ((HB1.out.trans (HAW.out.mono HB1.out.size)).trans (hb7.mono (HB1.out.trans (HAW.out.mono HB1.out.size)).size))
          have kb := K0.out _ HBX.out
          clear hcs hfcl hfx hbw
          by_cases e1 : f.name = nm
          · have q1 : ((strB f.name).toList == (strB nm).toList) = true := by rw [e1]; simp
            by_cases e2 : f.desc = d
            · have q2 : ((strB f.desc).toList == (strB d).toList) = true := by rw [e2]; simp
              have HE : Hid (firstG (fun v => fstM v nm d) l1 = some (y.name, f.static)) := Lib.hid (firstG_hit HOK.out HY.out (by
                show (y.meths.find? (fun m => m.name == nm && m.desc == d)).map (·.static) = some f.static
                rw [find_some_take HOK2.out HFX.out (by simp [e1, e2])]
                rfl))
              obtain ⟨WX, hWX⟩ : ∃ WX, wr.alloc (.cells #[.bool f.static, .string (strB f.name), .string (strB f.desc), .int .i64 f.stack, .int .i64 f.locals, .slice Dc kc ec, .slice Dt kt et, .slice Dp kp ep] 52) = WX := ⟨_, rfl⟩
              have HWX := Lib.hid hWX
              clear hWX
              have y0 : (wr.alloc (.cells #[.bool f.static, .string (strB f.name), .string (strB f.desc), .int .i64 f.stack, .int .i64 f.locals, .slice Dc kc ec, .slice Dt kt et, .slice Dp kp ep] 52)).cell? ⟨gm, 0, none⟩ = some (.string (strB y.name)) := kX.cell 0
              have b0 : (wr.alloc (.cells #[.bool f.static, .string (strB f.name), .string (strB f.desc), .int .i64 f.stack, .int .i64 f.locals, .slice Dc kc ec, .slice Dt kt et, .slice Dp kp ep] 52)).cell? ⟨w.heap.size, 0, none⟩ = some (.string (strB [])) := kb.cell 0
              have b1 : (wr.alloc (.cells #[.bool f.static, .string (strB f.name), .string (strB f.desc), .int .i64 f.stack, .int .i64 f.locals, .slice Dc kc ec, .slice Dt kt et, .slice Dp kp ep] 52)).cell? ⟨w.heap.size, 1, none⟩ = some (.bool false) := kb.cell 1
              have p0 : (wr.alloc (.cells #[.bool f.static, .string (strB f.name), .string (strB f.desc), .int .i64 f.stack, .int .i64 f.locals, .slice Dc kc ec, .slice Dt kt et, .slice Dp kp ep] 52)).frozen? ⟨w.heap.size, 0, none⟩ = false := kb.frozen 0
              have p1 : (wr.alloc (.cells #[.bool f.static, .string (strB f.name), .string (strB f.desc), .int .i64 f.stack, .int .i64 f.locals, .slice Dc kc ec, .slice Dt kt et, .slice Dp kp ep] 52)).frozen? ⟨w.heap.size, 1, none⟩ = false := kb.frozen 1
              clear e1 e2 kX hb7
              go_wp2
              rw [HWX.out] at kb HBX ⊢
              obtain ⟨W2, hW2⟩ : ∃ W2, (WX.setCell ⟨w.heap.size, 0, none⟩ (.string (strB y.name))).setCell ⟨w.heap.size, 1, none⟩ (.bool f.static) = W2 := ⟨_, rfl⟩
              have kb2 : Blk W2 w.heap.size 32 #[.string (strB y.name), .bool f.static] := by rw [← hW2]; exact (kb.set_ 0 _).set_ 1 _
              have hBX := HBB.out.trans (HBX.out.mono HBB.out.size)
              have hB2 : Below w.heap.size w W2 := by rw [← hW2]; exact (hBX.setCell (p := ⟨w.heap.size, 0, none⟩) (Nat.le_refl _) _).setCell (p := ⟨w.heap.size, 1, none⟩) (Nat.le_refl _) _
              rw [hW2]
              have r0 : W2.cell? ⟨w.heap.size, 0, none⟩ = some (.string (strB y.name)) := kb2.cell 0
              have r1 : W2.cell? ⟨w.heap.size, 1, none⟩ = some (.bool f.static) := kb2.cell 1
              exact bodyPost_ret (v := .tuple #[.agg #[.string (strB y.name), .bool f.static], .bool true]) (by simp [results, Tryz.f17, go_sem, r0, r1]) rfl ⟨by rw [HL1.out, HE.out]; rfl, hB2⟩
            · have q2 : ((strB f.desc).toList == (strB d).toList) = false := by rw [strB_toList, strB_toList]; simpa using e2
              have HREL2 := Lib.hid (RelAll.next HOK2.out hlt2 HFX.out (by simp [e2]) hb7)
              clear e1 e2 hb7 kX kb
              go_wp2
              go_roundw
              case rel => exact HREL2.out
              case measure => simp [intOf]; omega
          · have q1 : ((strB f.name).toList == (strB nm).toList) = false := by rw [strB_toList, strB_toList]; simpa using e1
            have HREL2 := Lib.hid (RelAll.next HOK2.out hlt2 HFX.out (by simp [e1]) hb7)
            clear e1 hb7 kX kb
            go_wp2
            go_roundw
            case rel => exact HREL2.out
            case measure => simp [intOf]; omega
        · have HREL1 := Lib.hid (RelAll.next HOK.out hlt HY.out (by
            show ((y.meths.find? (fun m => m.name == nm && m.desc == d)).map (·.static)).isNone = true
            rw [find_none_take HOK2.out HROW.out.1 hlt2]
            rfl) (HAW.out.trans (hbw.mono HAW.out.size)))
          clear hbw
          go_wp2
          go_roundw
          case rel => exact HREL1.out
          case measure => simp [intOf]; omega
    · have HE : Hid (firstG (fun v => fstM v nm d) l1 = none) := Lib.hid (firstG_all (fun v hv => HOK.out v (by rw [List.take_of_length_le (show l1.length ≤ k by rw [HN1.out]; omega)]; exact hv)))
      have HBX : Hid (Below W1.heap.size W1 wr) := Lib.hid (HB1.out.trans (hbw.mono HB1.out.size))
      have kb := K0.out _ HBX.out
      have b0 : wr.cell? ⟨w.heap.size, 0, none⟩ = some (.string (strB [])) := kb.cell 0
      have b1 : wr.cell? ⟨w.heap.size, 1, none⟩ = some (.bool false) := kb.cell 1
      have p0 : wr.frozen? ⟨w.heap.size, 0, none⟩ = false := kb.frozen 0
      have p1 : wr.frozen? ⟨w.heap.size, 1, none⟩ = false := kb.frozen 1
      clear hbw
      go_wp2
      obtain ⟨W2, hW2⟩ : ∃ W2, (wr.setCell ⟨w.heap.size, 0, none⟩ (.string (strB []))).setCell ⟨w.heap.size, 1, none⟩ (.bool false) = W2 := ⟨_, rfl⟩
      have hWW2 : (wr.setCell ⟨w.heap.size, 0, none⟩ (.string ⟨#[]⟩)).setCell ⟨w.heap.size, 1, none⟩ (.bool false) = W2 := hW2
      have kb2 : Blk W2 w.heap.size 32 #[.string (strB []), .bool false] := by rw [← hW2]; exact (kb.set_ 0 _).set_ 1 _
      have hBX := HBB.out.trans (HBX.out.mono HBB.out.size)
      have hB2 : Below w.heap.size w W2 := by rw [← hW2]; exact (hBX.setCell (p := ⟨w.heap.size, 0, none⟩) (Nat.le_refl _) _).setCell (p := ⟨w.heap.size, 1, none⟩) (Nat.le_refl _) _
      rw [hWW2]
      have r0 : W2.cell? ⟨w.heap.size, 0, none⟩ = some (.string (strB [])) := kb2.cell 0
      have r1 : W2.cell? ⟨w.heap.size, 1, none⟩ = some (.bool false) := kb2.cell 1
      exact bodyPost_ret (v := .tuple #[.agg #[.string (strB []), .bool false], .bool false]) (by simp [results, Tryz.f17, go_sem, r0, r1]) rfl ⟨by rw [HL1.out, HE.out]; rfl, hB2⟩

end Go.Proofs.YtblnhobbnkcbeaaGreatDoor

/- The walk over the law's fixed calls (layer 16). -/
namespace Go.Proofs.YtblnhobbnkcbeaaGreatDoor
set_option maxRecDepth 100000
open Go.RowKit

theorem ok_nil : okP [] = true := by decide +kernel
theorem ok_bad : okP [⟨cObject, cObject, [], []⟩] = false := by decide +kernel
theorem fix_super : findU (builtL ++ []) cThrowable = some ⟨cThrowable, cObject, [], []⟩ := by rfl
theorem fix_is : isB (builtL ++ []) cThrowable cObject = true := by decide +kernel
theorem fix_goes1 : goesP (builtL ++ []) [78] [91, 73] = true := by decide +kernel
theorem fix_goes2 : goesP (builtL ++ []) [91, 73] [91, 66] = false := by decide +kernel
theorem fix_native : nativeB (builtL ++ []) cSys [112, 114, 105, 110, 116] [40, 73, 41, 86] = true := by decide +kernel

theorem new_bad (W : World) : Calls Tryz.prog 12 #[.slice (some ⟨W.heap.size, 0, none⟩) 1 1] (W.alloc (.cells #[.string (strB cObject), .string (strB cObject), .slice none 0 0, .slice none 0 0] 85)) fun e w' => e = .returned (.tuple #[.pointer none, .int .i64 15]) ∧ Below W.heap.size W w' := by
  have hal : Below W.heap.size W (W.alloc (.cells #[.string (strB cObject), .string (strB cObject), .slice none 0 0, .slice none 0 0] 85)) := (Below.refl _ _).alloc (Nat.le_refl _) _
  have hR : RowS unW (W.alloc (.cells #[.string (strB cObject), .string (strB cObject), .slice none 0 0, .slice none 0 0] 85)) Empty (some ⟨W.heap.size, 0, none⟩) 1 1 [⟨cObject, cObject, [], []⟩] :=
    rowS_of_raw (RowSl.lit rawC_len W Empty 85 [rawU ⟨cObject, cObject, [], []⟩ none 0 0 none 0 0] 1 [.string (strB cObject), .string (strB cObject), .slice none 0 0, .slice none 0 0] rfl rfl (by decide) (fun h => h)) (fun h => by cases h) (rawU_rep (unAt_nil _ _ _))
  refine (new_any _ _ _ _ _ hR (by decide) (fun u hu => ?_)).mono (fun e w' h => ⟨h.2.1 ok_bad, hal.trans (h.2.2.mono hal.size)⟩)
  obtain rfl : u = ⟨cObject, cObject, [], []⟩ := by simpa using hu
  exact SmallUn.mk (by decide) (by decide) (by decide) (by decide) (fun f hf => absurd hf List.not_mem_nil) (fun f hf => absurd hf List.not_mem_nil) (fun f hf => absurd hf List.not_mem_nil)

set_option maxHeartbeats 4000000 in
theorem fixed16_any (w : World) : Calls Tryz.prog 10 #[] w fun e w' => e = .returned (.bool true) ∧ Below w.heap.size w w' := by
  have C1 := Lib.hid (new_any w [] none 0 0 (rowS_nil _ _ _) (by decide) (fun u h => by cases h))
  have C2 := Lib.hid (fun W => new_bad W)
  have q1 : (strB cObject).toList = [79, 98, 106, 101, 99, 116] := by rw [strB_toList]; rfl
  have q2 : ((strB cObject).toList == [79, 98, 106, 101, 99, 116]) = true := by rw [q1]; rfl
  go_enter Tryz.func10, Tryz.ntmps10
  go_wp2_with fail
  refine C1.out.mono ?_
  rintro e w1 ⟨hy, _, hb⟩
  obtain ⟨p, rfl, hW⟩ := hy ok_nil
  have HB1 := Lib.hid hb
  have HW1 := Lib.hid hW
  clear hy hb hW C1
  go_wp2_with fail
  refine (C2.out _).mono ?_
  rintro e w2 ⟨rfl, hb⟩
  have HB2 := Lib.hid (HB1.out.trans (hb.mono HB1.out.size))
  have HW2 := Lib.hid (HW1.out.below hb)
  clear hb HB1 HW1 C2
  have C3 := Lib.hid (super_any p (builtL ++ []) cThrowable w2 HW2.out (by decide))
  rw [fix_super] at C3
  unfold supV at C3
  go_wp2_with fail
  refine C3.out.mono ?_
  rintro e w3 ⟨rfl, hb⟩
  have HB3 := Lib.hid (HB2.out.trans (hb.mono HB2.out.size))
  have C4 := Lib.hid (is_any p (builtL ++ []) cThrowable cObject w3 (HW2.out.below hb) (by decide))
  rw [fix_is] at C4
  have HW3 := Lib.hid (HW2.out.below hb)
  clear hb
  go_wp2_with fail
  refine C4.out.mono ?_
  rintro e w4 ⟨rfl, hb⟩
  have HB4 := Lib.hid (HB3.out.trans (hb.mono HB3.out.size))
  have HW4 := Lib.hid (HW3.out.below hb)
  clear hb
  have C5 := Lib.hid (goes_any p (builtL ++ []) [78] [91, 73] w4 HW4.out (by decide) (by decide))
  rw [fix_goes1] at C5
  go_wp2_with fail
  refine C5.out.mono ?_
  rintro e w5 ⟨rfl, hb⟩
  have HB5 := Lib.hid (HB4.out.trans (hb.mono HB4.out.size))
  have HW5 := Lib.hid (HW4.out.below hb)
  clear hb
  have C6 := Lib.hid (goes_any p (builtL ++ []) [91, 73] [91, 66] w5 HW5.out (by decide) (by decide))
  rw [fix_goes2] at C6
  go_wp2_with fail
  refine C6.out.mono ?_
  rintro e w6 ⟨rfl, hb⟩
  have HB6 := Lib.hid (HB5.out.trans (hb.mono HB5.out.size))
  have HW6 := Lib.hid (HW5.out.below hb)
  clear hb
  have C7 := Lib.hid (native_any p (builtL ++ []) cSys [112, 114, 105, 110, 116] [40, 73, 41, 86] w6 HW6.out (by decide) (by decide) (by decide))
  rw [fix_native] at C7
  go_wp2_with fail
  refine C7.out.mono ?_
  rintro e w7 ⟨rfl, hb⟩
  have HB7 := Lib.hid (HB6.out.trans (hb.mono HB6.out.size))
  clear hb
  go_wp2
  go_ret
  exact ⟨rfl, HB7.out⟩

end Go.Proofs.YtblnhobbnkcbeaaGreatDoor

/- Units that come in as an argument, opened, with the reach of what is read. -/
namespace Go.Proofs.YtblnhobbnkcbeaaGreatDoor
set_option maxRecDepth 100000
open Go.ChangeShapes Go.WideShapes Go.ChangeAt Go.RowKit Go.Joins

/-- How much is read at most. -/
def M47 : Nat := 140737488351232
/-- What lies so, and is so. -/
def andT {α : Type} (R : RepT α) (P : α → Prop) : RepT α where
  k := R.k
  rep w Z cs v := R.rep w Z cs v ∧ P v
  len h := R.len h.1
  next h k hZ := ⟨R.next h.1 k hZ, h.2⟩
theorem RowS.all {α : Type} {R : RepT α} {P : α → Prop} {w : World} {Z : Nat → Prop} {A : Option Addr} {n cap : Nat} {l : List α} (h : RowS (andT R P) w Z A n cap l) : RowS R w Z A n cap l ∧ ∀ x ∈ l, P x := by
  refine ⟨h.weak (R' := R) rfl (fun cs x hx => hx.1), fun x hx => ?_⟩
  obtain ⟨i, hi, he⟩ := List.mem_iff_getElem.1 hx
  obtain ⟨b, o, y, cs, _, _, _, hy, _, _, hr⟩ := h.at_ (i := i) (by rw [← h.1]; exact hi)
  rw [List.getElem?_eq_getElem hi, he] at hy
  cases hy
  exact hr.2

section
variable {H : Type} {enc : TypeId × Value → H} {W : World} {base : Nat} {P : Program}
theorem mem_weightsAll {e : TypeId} : ∀ {l : List (DataW H)} {d : DataW H}, d ∈ l → ∀ n ∈ d.weights P e, n ∈ DataW.weightsAll P e l
  | [], _, h, _, _ => by cases h
  | a :: l, d, h, n, hn => by
    unfold DataW.weightsAll
    rcases List.mem_cons.1 h with rfl | h
    · exact List.mem_append_left _ hn
    · exact List.mem_append_right _ (mem_weightsAll h n hn)
/-- What is read of it takes no more. -/
def Wt (t : TypeId) (d : DataW H) : Prop := ∀ n ∈ d.weights Tryz.prog t, n ≤ M47
theorem Wt.str {t : TypeId} {s : ByteArray} (h : Wt t (.lit (.string s.data.toList) : DataW H)) : s.data.toList.length ≤ M47 := h _ (by simp [DataW.weights])
theorem Wt.field {t : TypeId} {fs : Array Field} {parts : List (DataW H)} (ht : Tryz.prog.underlying t = some (.struct fs)) (h : Wt t (.agg parts)) {j : Nat} {f : Field} {d : DataW H} (hf : fs[j]? = some f) (hd : parts[j]? = some d) : Wt f.type d := by
  intro n hn
  refine h n ?_
  unfold DataW.weights
  rw [ht]
  exact DataW.weights_mem_each (by simp [hf]) hd n hn

/-- A slice in a cell, with its reach. -/
theorem rowsS_cellW {α : Type} (R : RepT α) (a0 : α) (t e : TypeId) (ht : Tryz.prog.underlying t = some (.slice e)) (hK : Tryz.prog.cellsOf e = R.k) (h0K : 0 < R.k) (hby : 0 < Tryz.prog.bytesOf e)
    (one : ∀ (fuel : Nat) (cs : List Value) (x : DataW H × List MemPlace), cs.length = R.k → DataW.trod enc Tryz.prog W 0 (fun _ => true) true fuel e cs = some x → Wt e x.1 → ∃ y, R.rep W (fun q => W.heap.size ≤ q) cs y)
    {fuel : Nat} {v : Value} {x : DataW H × List MemPlace} (h : DataW.trod enc Tryz.prog W 0 (fun _ => true) true fuel t [v] = some x) (hw : Wt t x.1) :
    ∃ (A : Option Addr) (n cap : Nat) (l : List α), v = .slice A n cap ∧ RowS R W (fun q => W.heap.size ≤ q) A n cap l ∧ n ≤ M47 := by
  rcases Go.Deep.open_slice ht h with ⟨hcs, _⟩ | ⟨ad, n, cap, m, n', D, Pl, hcs, _, hl, hm, hmm, hx, hi⟩
  · simp at hcs
    subst hcs
    exact ⟨none, 0, 0, [], rfl, rowS_nil _ _ _, Nat.zero_le _⟩
  · simp at hcs
    subst hcs
    simp at hmm
    subst hmm
    rw [hK] at hi
    subst hx
    have hwS : Wt t (.slice ((List.range n).map D) ((List.range (m - n)).map fun j => D (n + j)) : DataW H) := hw
    have hwn : n ≤ M47 := by
      have := hwS ((((List.range n).map D).length + ((List.range (m - n)).map fun j => D (n + j)).length) * Tryz.prog.bytesOf e) (by unfold DataW.weights; rw [ht]; exact List.mem_cons_self)
      simp only [List.length_map, List.length_range] at this
      have h2 : n * 1 ≤ (n + (m - n)) * Tryz.prog.bytesOf e := Nat.mul_le_mul (by omega) hby
      omega
    have hwi : ∀ i, i < n → Wt e (D i) := fun i hin k hk => hwS k (by
      unfold DataW.weights
      rw [ht]
      exact List.mem_cons_of_mem _ (List.mem_append_left _ (mem_weightsAll (d := D i) (List.mem_map.2 ⟨i, List.mem_range.2 hin, rfl⟩) k hk)))
    rcases Nat.eq_zero_or_pos n with h0 | h0
    · subst h0
      exact ⟨_, 0, _, [], rfl, ⟨rfl, hl, hm, (fun h => by cases h), fun h => absurd h (by omega)⟩, Nat.zero_le _⟩
    obtain ⟨b, o, sp⟩ := ad
    have hs : sp = none ∧ b < W.heap.size := by
      obtain ⟨cs', hc, _⟩ := hi 0 (by omega)
      obtain ⟨_, hl6, hat⟩ := World.cells?_some hc
      have h1 := hat 0 (by omega)
      rw [List.getElem?_eq_getElem (by omega)] at h1
      simp only [Nat.zero_mul, Addr.add, if_true] at h1
      refine ⟨?_, cell_lt h1⟩
      rcases sp with _ | x
      · rfl
      · exfalso
        unfold World.cell? at h1
        split at h1 <;> simp at h1
    obtain ⟨rfl, hb⟩ := hs
    have hall : ∀ i, ∃ y, i < n → ∃ cs, (∀ j v, cs[j]? = some v → W.cell? ⟨b, o + i * R.k + j, none⟩ = some v) ∧ R.rep W (fun q => W.heap.size ≤ q) cs y := fun i => by
      by_cases hin : i < n
      · obtain ⟨cs', hc, ht2⟩ := hi i (by omega)
        rw [add_off] at hc
        obtain ⟨_, hcl, hat⟩ := World.cells?_some hc
        obtain ⟨y, hy⟩ := one _ _ _ hcl ht2 (hwi i hin)
        refine ⟨y, fun _ => ⟨cs', fun j v hv => ?_, hy⟩⟩
        have hj := (List.getElem?_eq_some_iff.1 hv).1
        have h1 := hat j (by omega)
        rw [add_off] at h1
        rw [h1]
        exact hv
      · exact ⟨a0, fun h => absurd h hin⟩
    refine ⟨_, n, _, (List.range n).map fun i => (hall i).choose, rfl, ⟨by simp, hl, hm, (fun h => by cases h), fun _ => ⟨b, o, rfl, hb, by omega, fun i y hy => ?_⟩⟩, hwn⟩
    rw [List.getElem?_map] at hy
    have hin : i < n := by
      rcases Nat.lt_or_ge i n with h1 | h1
      · exact h1
      · rw [List.getElem?_eq_none (by simpa using h1)] at hy
        cases hy
    rw [List.getElem?_range hin] at hy
    simp only [Option.map_some, Option.some.injEq] at hy
    rw [← hy]
    exact (hall i).choose_spec hin

abbrev SB (s : Bs) : Prop := s.length ≤ M47
def fdB (f : FdD) : Prop := SB f.name ∧ SB f.desc
def trB (t : TrD) : Prop := SB t.cls
def inB (i : InD) : Prop := SB i.cls ∧ SB i.name ∧ SB i.desc ∧ SB i.text
def mpB (m : MpD) : Prop := m.locals.length ≤ M47 ∧ m.stack.length ≤ M47 ∧ (∀ s ∈ m.locals, SB s) ∧ (∀ s ∈ m.stack, SB s)
def meB (m : MeD) : Prop := SB m.name ∧ SB m.desc ∧ m.code.length ≤ M47 ∧ m.traps.length ≤ M47 ∧ m.maps.length ≤ M47 ∧ (∀ i ∈ m.code, inB i) ∧ (∀ t ∈ m.traps, trB t) ∧ (∀ p ∈ m.maps, mpB p)
def unB (u : UnD) : Prop := SB u.name ∧ SB u.super ∧ u.fields.length ≤ M47 ∧ u.meths.length ≤ M47 ∧ (∀ f ∈ u.fields, fdB f) ∧ (∀ m ∈ u.meths, meB m)

theorem strB_of' (s : ByteArray) : s = strB s.data.toList := by obtain ⟨⟨l⟩⟩ := s; rfl
theorem oneW_str {fuel : Nat} {c : Value} {x : DataW H × List MemPlace} (h : TC enc W 9 fuel [c] x) (hw : Wt 9 x.1) : ∃ s : Bs, c = .string (strB s) ∧ SB s := by
  obtain ⟨s, e, he, _⟩ := DataW.trod_string Tryz.underlying9 h
  simp at e
  subst he
  exact ⟨s.data.toList, by rw [e, ← strB_of'], hw.str⟩
theorem oneW_int {fuel : Nat} {c : Value} {x : DataW H × List MemPlace} (h : TC enc W 3 fuel [c] x) : ∃ k : Int, c = .int .i64 k := one_int h
theorem oneW_bool {fuel : Nat} {c : Value} {x : DataW H × List MemPlace} (h : TC enc W 4 fuel [c] x) : ∃ k : Bool, c = .bool k := by
  obtain ⟨b, e, _⟩ := DataW.trod_bool Tryz.underlying4 h
  simp at e
  exact ⟨b, e⟩
theorem oneW_fd {fuel : Nat} {cs : List Value} {x : DataW H × List MemPlace} (hl : cs.length = 3) (ht : TC enc W 103 fuel cs x) (hw : Wt 103 x.1) : ∃ y, (andT fdT fdB).rep W (fun q => W.heap.size ≤ q) cs y := by
  obtain ⟨ys, m, _, hx, _, hyl, hg⟩ := DataW.trod_struct Tryz.underlying103 ht
  subst hx
  match cs, hl with
  | [c0, c1, c2], _ =>
    match ys, hyl with
    | [y0, y1, y2], _ =>
      obtain ⟨t, rfl⟩ := oneW_bool (hg 0 _ rfl : TC enc W 4 m [c0] y0)
      obtain ⟨a, rfl, ha⟩ := oneW_str (hg 1 _ rfl : TC enc W 9 m [c1] y1) (Wt.field Tryz.underlying103 hw (j := 1) rfl rfl)
      obtain ⟨b, rfl, hb⟩ := oneW_str (hg 2 _ rfl : TC enc W 9 m [c2] y2) (Wt.field Tryz.underlying103 hw (j := 2) rfl rfl)
      exact ⟨⟨t, a, b⟩, rfl, ha, hb⟩
end

end Go.Proofs.YtblnhobbnkcbeaaGreatDoor

/- Units that come in as an argument, opened, with the reach of what is read: methods, units. -/
namespace Go.Proofs.YtblnhobbnkcbeaaGreatDoor
set_option maxRecDepth 100000
open Go.ChangeShapes Go.WideShapes Go.ChangeAt Go.RowKit Go.Joins

section
variable {H : Type} {enc : TypeId × Value → H} {W : World} {base : Nat}
theorem oneW_sT {fuel : Nat} {cs : List Value} {x : DataW H × List MemPlace} (hl : cs.length = 1) (ht : TC enc W 9 fuel cs x) (hw : Wt 9 x.1) : ∃ y, (andT strT SB).rep W (fun q => W.heap.size ≤ q) cs y := by
  match cs, hl with
  | [c0], _ =>
    obtain ⟨s, rfl, hs⟩ := oneW_str ht hw
    exact ⟨s, rfl, hs⟩
theorem oneW_tr {fuel : Nat} {cs : List Value} {x : DataW H × List MemPlace} (hl : cs.length = 4) (ht : TC enc W 134 fuel cs x) (hw : Wt 134 x.1) : ∃ y, (andT trT trB).rep W (fun q => W.heap.size ≤ q) cs y := by
  obtain ⟨ys, m, _, hx, _, hyl, hg⟩ := DataW.trod_struct Tryz.underlying134 ht
  subst hx
  match cs, hl with
  | [c0, c1, c2, c3], _ =>
    match ys, hyl with
    | [y0, y1, y2, y3], _ =>
      obtain ⟨a, rfl⟩ := oneW_int (hg 0 _ rfl : TC enc W 3 m [c0] y0)
      obtain ⟨b, rfl⟩ := oneW_int (hg 1 _ rfl : TC enc W 3 m [c1] y1)
      obtain ⟨c, rfl⟩ := oneW_int (hg 2 _ rfl : TC enc W 3 m [c2] y2)
      obtain ⟨d, rfl, hd⟩ := oneW_str (hg 3 _ rfl : TC enc W 9 m [c3] y3) (Wt.field Tryz.underlying134 hw (j := 3) rfl rfl)
      exact ⟨⟨a, b, c, d⟩, rfl, hd⟩
theorem oneW_in {fuel : Nat} {cs : List Value} {x : DataW H × List MemPlace} (hl : cs.length = 7) (ht : TC enc W 107 fuel cs x) (hw : Wt 107 x.1) : ∃ y, (andT inT inB).rep W (fun q => W.heap.size ≤ q) cs y := by
  obtain ⟨ys, m, _, hx, _, hyl, hg⟩ := DataW.trod_struct Tryz.underlying107 ht
  subst hx
  match cs, hl with
  | [c0, c1, c2, c3, c4, c5, c6], _ =>
    match ys, hyl with
    | [y0, y1, y2, y3, y4, y5, y6], _ =>
      have g0 : TC enc W 5 m [c0] y0 := hg 0 _ rfl
      have g1 : TC enc W 2 m [c1] y1 := hg 1 _ rfl
      obtain ⟨a, e0, _, w0⟩ := DataW.trod_int Tryz.underlying5 g0
      obtain ⟨b, e1, _, _⟩ := DataW.trod_int Tryz.underlying2 g1
      simp at e0 e1
      subst e0 e1
      obtain ⟨o, ho⟩ := bd_u8 w0
      obtain ⟨c, rfl⟩ := oneW_int (hg 2 _ rfl : TC enc W 3 m [c2] y2)
      obtain ⟨s3, rfl, h3⟩ := oneW_str (hg 3 _ rfl : TC enc W 9 m [c3] y3) (Wt.field Tryz.underlying107 hw (j := 3) rfl rfl)
      obtain ⟨s4, rfl, h4⟩ := oneW_str (hg 4 _ rfl : TC enc W 9 m [c4] y4) (Wt.field Tryz.underlying107 hw (j := 4) rfl rfl)
      obtain ⟨s5, rfl, h5⟩ := oneW_str (hg 5 _ rfl : TC enc W 9 m [c5] y5) (Wt.field Tryz.underlying107 hw (j := 5) rfl rfl)
      obtain ⟨s6, rfl, h6⟩ := oneW_str (hg 6 _ rfl : TC enc W 9 m [c6] y6) (Wt.field Tryz.underlying107 hw (j := 6) rfl rfl)
      rw [ho]
      exact ⟨⟨o, b, c, s3, s4, s5, s6⟩, rfl, h3, h4, h5, h6⟩
theorem strsW_cell {fuel : Nat} {v : Value} {x : DataW H × List MemPlace} (h : TC enc W 53 fuel [v] x) (hw : Wt 53 x.1) : ∃ A n cap l, v = .slice A n cap ∧ RowS strT W (fun q => W.heap.size ≤ q) A n cap l ∧ l.length ≤ M47 ∧ ∀ s ∈ l, SB s := by
  obtain ⟨A, n, cap, l, rfl, hR, hn⟩ := rowsS_cellW (andT strT SB) [] 53 9 Tryz.underlying53 (by kernel_rfl) (by decide) (by decide +kernel) (fun _ _ _ hl ht hw => oneW_sT hl ht hw) h hw
  obtain ⟨h1, h2⟩ := hR.all
  exact ⟨A, n, cap, l, rfl, h1, by rw [h1.1]; exact hn, h2⟩
theorem oneW_mp {fuel : Nat} {cs : List Value} {x : DataW H × List MemPlace} (hl : cs.length = 3) (ht : TC enc W 55 fuel cs x) (hw : Wt 55 x.1) : ∃ y, (andT mpT mpB).rep W (fun q => W.heap.size ≤ q) cs y := by
  obtain ⟨ys, m, _, hx, _, hyl, hg⟩ := DataW.trod_struct Tryz.underlying55 ht
  subst hx
  match cs, hl with
  | [c0, c1, c2], _ =>
    match ys, hyl with
    | [y0, y1, y2], _ =>
      obtain ⟨a, rfl⟩ := oneW_int (hg 0 _ rfl : TC enc W 3 m [c0] y0)
      obtain ⟨A1, n1, p1, l1, rfl, h1, b1, s1⟩ := strsW_cell (hg 1 _ rfl : TC enc W 53 m [c1] y1) (Wt.field Tryz.underlying55 hw (j := 1) rfl rfl)
      obtain ⟨A2, n2, p2, l2, rfl, h2, b2, s2⟩ := strsW_cell (hg 2 _ rfl : TC enc W 53 m [c2] y2) (Wt.field Tryz.underlying55 hw (j := 2) rfl rfl)
      exact ⟨⟨a, l1, l2⟩, ⟨_, _, rfl, ⟨_, _, _, rfl, h1⟩, ⟨_, _, _, rfl, h2⟩⟩, b1, b2, s1, s2⟩
theorem oneW_me {fuel : Nat} {cs : List Value} {x : DataW H × List MemPlace} (hl : cs.length = 8) (ht : TC enc W 52 fuel cs x) (hw : Wt 52 x.1) : ∃ y, (andT meF meB).rep W (fun q => W.heap.size ≤ q) cs y := by
  obtain ⟨ys, m, _, hx, _, hyl, hg⟩ := DataW.trod_struct Tryz.underlying52 ht
  subst hx
  match cs, hl with
  | [c0, c1, c2, c3, c4, c5, c6, c7], _ =>
    match ys, hyl with
    | [y0, y1, y2, y3, y4, y5, y6, y7], _ =>
      obtain ⟨t, rfl⟩ := oneW_bool (hg 0 _ rfl : TC enc W 4 m [c0] y0)
      obtain ⟨s1, rfl, b1⟩ := oneW_str (hg 1 _ rfl : TC enc W 9 m [c1] y1) (Wt.field Tryz.underlying52 hw (j := 1) rfl rfl)
      obtain ⟨s2, rfl, b2⟩ := oneW_str (hg 2 _ rfl : TC enc W 9 m [c2] y2) (Wt.field Tryz.underlying52 hw (j := 2) rfl rfl)
      obtain ⟨i3, rfl⟩ := oneW_int (hg 3 _ rfl : TC enc W 3 m [c3] y3)
      obtain ⟨i4, rfl⟩ := oneW_int (hg 4 _ rfl : TC enc W 3 m [c4] y4)
      obtain ⟨A5, n5, p5, l5, rfl, h5, b5⟩ := rowsS_cellW (andT inT inB) ⟨0, 0, 0, [], [], [], []⟩ 48 107 Tryz.underlying48 (by kernel_rfl) (by decide) (by decide +kernel) (fun _ _ _ hl ht hw => oneW_in hl ht hw) (hg 5 _ rfl : TC enc W 48 m [c5] y5) (Wt.field Tryz.underlying52 hw (j := 5) rfl rfl)
      obtain ⟨A6, n6, p6, l6, rfl, h6, b6⟩ := rowsS_cellW (andT trT trB) ⟨0, 0, 0, []⟩ 49 134 Tryz.underlying49 (by kernel_rfl) (by decide) (by decide +kernel) (fun _ _ _ hl ht hw => oneW_tr hl ht hw) (hg 6 _ rfl : TC enc W 49 m [c6] y6) (Wt.field Tryz.underlying52 hw (j := 6) rfl rfl)
      obtain ⟨A7, n7, p7, l7, rfl, h7, b7⟩ := rowsS_cellW (andT mpT mpB) ⟨0, [], []⟩ 50 55 Tryz.underlying50 (by kernel_rfl) (by decide) (by decide +kernel) (fun _ _ _ hl ht hw => oneW_mp hl ht hw) (hg 7 _ rfl : TC enc W 50 m [c7] y7) (Wt.field Tryz.underlying52 hw (j := 7) rfl rfl)
      obtain ⟨r5, a5⟩ := h5.all
      obtain ⟨r6, a6⟩ := h6.all
      obtain ⟨r7, a7⟩ := h7.all
      exact ⟨⟨t, s1, s2, i3, i4, l5, l6, l7⟩, ⟨_, _, _, _, _, _, _, _, _, rfl, r6, fun _ => ⟨r5, r7⟩⟩, b1, b2, by rw [r5.1]; exact b5, by rw [r6.1]; exact b6, by rw [r7.1]; exact b7, a5, a6, a7⟩
theorem oneW_un {fuel : Nat} {cs : List Value} {x : DataW H × List MemPlace} (hl : cs.length = 4) (ht : TC enc W 85 fuel cs x) (hw : Wt 85 x.1) : ∃ y, (andT unF unB).rep W (fun q => W.heap.size ≤ q) cs y := by
  obtain ⟨ys, m, _, hx, _, hyl, hg⟩ := DataW.trod_struct Tryz.underlying85 ht
  subst hx
  match cs, hl with
  | [c0, c1, c2, c3], _ =>
    match ys, hyl with
    | [y0, y1, y2, y3], _ =>
      obtain ⟨s0, rfl, b0⟩ := oneW_str (hg 0 _ rfl : TC enc W 9 m [c0] y0) (Wt.field Tryz.underlying85 hw (j := 0) rfl rfl)
      obtain ⟨s1, rfl, b1⟩ := oneW_str (hg 1 _ rfl : TC enc W 9 m [c1] y1) (Wt.field Tryz.underlying85 hw (j := 1) rfl rfl)
      obtain ⟨A2, n2, p2, l2, rfl, h2, b2⟩ := rowsS_cellW (andT fdT fdB) ⟨false, [], []⟩ 82 103 Tryz.underlying82 (by kernel_rfl) (by decide) (by decide +kernel) (fun _ _ _ hl ht hw => oneW_fd hl ht hw) (hg 2 _ rfl : TC enc W 82 m [c2] y2) (Wt.field Tryz.underlying85 hw (j := 2) rfl rfl)
      obtain ⟨A3, n3, p3, l3, rfl, h3, b3⟩ := rowsS_cellW (andT meF meB) ⟨false, [], [], 0, 0, [], [], []⟩ 83 52 Tryz.underlying83 (by kernel_rfl) (by decide) (by decide +kernel) (fun _ _ _ hl ht hw => oneW_me hl ht hw) (hg 3 _ rfl : TC enc W 83 m [c3] y3) (Wt.field Tryz.underlying85 hw (j := 3) rfl rfl)
      obtain ⟨r2, a2⟩ := h2.all
      obtain ⟨r3, a3⟩ := h3.all
      exact ⟨⟨s0, s1, l2, l3⟩, ⟨_, _, _, _, _, _, rfl, r2, r3⟩, b0, b1, by rw [r2.1]; exact b2, by rw [r3.1]; exact b3, a2, a3⟩
/-- A law's argument: units. -/
theorem open_units {v : Value} {d : DataW H} {p : List MemPlace} (hv : Value.okWide Tryz.prog W .any base 22 v) (h : DataW.Trod enc Tryz.prog W 0 (fun _ => true) true 22 v d p) (hw : Wt 22 d) :
    ∃ A n cap l, v = .slice A n cap ∧ RowS unF W Empty A n cap l ∧ n ≤ M47 ∧ ∀ u ∈ l, unB u := by
  obtain ⟨A, n, cap, rfl⟩ := okWide_slice Tryz.underlying22 hv
  obtain ⟨fuel, hf⟩ := h
  obtain ⟨A2, n2, cap2, l, e, hR, hn⟩ := rowsS_cellW (andT unF unB) ⟨[], [], [], []⟩ 22 85 Tryz.underlying22 (by kernel_rfl) (by decide) (by decide +kernel) (fun _ _ _ hl ht hw => oneW_un hl ht hw) (hf : TC enc W 22 fuel [.slice A n cap] (d, p)) hw
  obtain ⟨r, a⟩ := hR.all
  exact ⟨A2, n2, cap2, l, e, r.mono (fun _ _ h => h.elim), hn, a⟩
end

end Go.Proofs.YtblnhobbnkcbeaaGreatDoor
