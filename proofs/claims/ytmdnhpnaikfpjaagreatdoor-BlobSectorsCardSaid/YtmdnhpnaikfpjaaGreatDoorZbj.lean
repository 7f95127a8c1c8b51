/- The walks over a nil store's calls; over Sectors. -/
import Derived.Test.YtmdnhpnaikfpjaaGreatDoorZbi
import Derived.Deep.QuietTactic
import Derived.BigQuiet
import Derived.Test.YtmdnhpnaikfpjaaGreatDoorZaf
import Derived.Test.YtmdnhpnaikfpjaaGreatDoorCards
import Derived.Test.YtmdnhpnaikfpjaaGreatDoorTie
import Derived.ProofKit
import Derived.LaidMore
import Derived.OpenShut
import Derived.Stop.Joined
import Derived.SevenTiedAt
namespace Go.Proofs.YtmdnhpnaikfpjaaGreatDoor
set_option maxRecDepth 100000
open Go.RowKit Go.Maps

theorem get_nil (k : ByteArray) (w : World) : Calls Tryz.prog 24 #[.pointer none, .string k] w fun e1 w' => e1 = .returned (.tuple #[.slice none 0 0, .bool false]) ∧ Below w.heap.size w w' := by
  go_enter Tryz.func24, Tryz.ntmps24
  go_wp2_with fail
  go_ret2
  exact ⟨rfl, Below.refl _ _⟩
theorem keys_nil (k : ByteArray) (w : World) : Calls Tryz.prog 26 #[.pointer none, .string k] w fun e1 w' => e1 = .returned (.slice none 0 0) ∧ Below w.heap.size w w' := by
  go_enter Tryz.func26, Tryz.ntmps26
  go_wp2_with fail
  go_ret
  exact ⟨rfl, Below.refl _ _⟩
theorem live_nil (w : World) : Calls Tryz.prog 27 #[.pointer none] w fun e1 w' => e1 = .returned (.int .i64 0) ∧ Below w.heap.size w w' := by
  go_enter Tryz.func27, Tryz.ntmps27
  go_wp2_with fail
  go_ret
  exact ⟨rfl, Below.refl _ _⟩
theorem room_nil (w : World) : Calls Tryz.prog 28 #[.pointer none] w fun e1 w' => e1 = .returned (.int .i64 0) ∧ Below w.heap.size w w' := by
  go_enter Tryz.func28, Tryz.ntmps28
  go_wp2_with fail
  go_ret
  exact ⟨rfl, Below.refl _ _⟩
theorem sectors_nil (w : World) : Calls Tryz.prog 22 #[.pointer none] w fun e1 w' => e1 = .returned (.slice none 0 0) ∧ Below w.heap.size w w' := by
  go_enter Tryz.func22, Tryz.ntmps22
  go_wp2_with fail
  refine (down_nil w).mono ?_
  rintro e1 w1 ⟨rfl, rfl⟩
  go_wp2_with fail
  go_ret
  exact ⟨rfl, Below.refl _ _⟩
theorem commit_nil (A : Option Addr) (n cap : Nat) (w : World) : Calls Tryz.prog 16 #[.pointer none, .slice A n cap] w fun e1 w' => e1 = .returned (.int .i64 5) ∧ Below w.heap.size w w' := by
  go_enter Tryz.func16, Tryz.ntmps16
  go_wp2_with fail
  refine (down_nil w).mono ?_
  rintro e1 w1 ⟨rfl, rfl⟩
  go_wp2_with fail
  go_ret
  exact ⟨rfl, Below.refl _ _⟩

theorem sectors_any (s mb p c e Z L : Nat) (ss : List (Nat × List UInt8)) (M : Al Sv) (h : HeadV) (w : World) (hG : GoodX w s mb p c e Z L M h ss) :
    Calls Tryz.prog 22 #[.pointer (some ⟨s, 0, none⟩)] w fun e1 w' => (∃ A cap, e1 = .returned (.slice A ss.length cap) ∧ GotR Sc.cells 3 56 w.heap.size w' A ss.length cap (secsOf ss)) ∧ Below w.heap.size w w' := by
  have Hd := Lib.hid (down_any s p mb h false w hG.st.blk)
  have s0 : w.cell? ⟨s, 0, none⟩ = some (.pointer (some ⟨p, 0, none⟩)) := hG.st.blk.cell 0
  have hsl := hG.st.blk.lt
  have Hl := Lib.hid (look_any p c e Z L ss w hG.fs hG.mark)
  clear hG
  go_enter Tryz.func22, Tryz.ntmps22
  go_wp2_with fail
  refine Hd.out.mono ?_
  rintro e1 w1 ⟨rfl, rfl⟩
  clear Hd
  go_wp2_with fail
  refine Hl.out.mono ?_
  rintro e2 w2 ⟨⟨A, cap, rfl, hg⟩, hb⟩
  clear Hl
  go_wp2_with fail
  go_ret
  exact ⟨⟨A, cap, rfl, hg⟩, hb⟩

/-- A store's blobs lie in no block whose first cell is no byte. -/
theorem BlobsAt.apart {w : World} {S : Nat → Prop} {M : Al Sv} (h : BlobsAt w S M) {g : Nat} {t : TypeId} {cs : Array Value} (hB : Blk w g t cs) (hc : ∀ x : UInt8, cs[0]? ≠ some (B8 x)) : BlobsAt w (fun q => S q ∨ q = g) M := by
  intro q hq
  obtain ⟨h1, h2⟩ := h q hq
  refine ⟨⟨h1.1, h1.2.1, h1.2.2.1, fun hn => ?_⟩, h2⟩
  obtain ⟨ad, ha, hl, hs, hx⟩ := h1.2.2.2 hn
  refine ⟨ad, ha, hl, fun hor => ?_, hx⟩
  rcases hor with h3 | h3
  · exact hs h3
  · obtain ⟨b, hb⟩ : ∃ b, ad = ⟨b, 0, none⟩ := by
      cases hg : q.2.g with
      | none => rw [hg] at ha; cases ha
      | some b => rw [hg] at ha; exact ⟨b, (Option.some.inj ha).symm⟩
    subst hb
    have hb2 : b = g := h3
    subst hb2
    obtain ⟨x, hx0⟩ : ∃ x, q.2.xs[0]? = some x := ⟨_, List.getElem?_eq_getElem (by rw [h1.1]; exact hn)⟩
    have h4 := hx 0 x hx0
    have h5 : w.cell? ⟨b, 0, none⟩ = some (B8 x) := h4
    rw [hB.cell] at h5
    exact hc x h5
/-- A block that is none of the store's turns. -/
theorem GoodX.turn {w w' : World} {s mb p c e Z L : Nat} {M : Al Sv} {h : HeadV} {ss : List (Nat × List UInt8)} (G : GoodX w s mb p c e Z L M h ss) {g : Nat} {t : TypeId} {cs : Array Value} (hB : Blk w g t cs) (hc : ∀ x : UInt8, cs[0]? ≠ some (B8 x)) (hO : Only (· = g) w w') (hg : ¬ Mut s mb p c e g) (h0 : g ≠ 0) : GoodX w' s mb p c e Z L M h ss := by
  have n1 : ¬ s = g := fun h => hg (Or.inl h.symm)
  have n2 : ¬ mb = g := fun h => hg (Or.inr (Or.inl h.symm))
  have n3 : ∀ q, Three p c e q → ¬ q = g := fun q hq h => hg (Or.inr (Or.inr (by rw [← h]; exact hq)))
  refine ⟨⟨hO.blk G.st.blk n1, G.st.map.only hO n2, fun q hq => ?_⟩, G.fs.of hO (n3 p (Or.inl rfl)) (n3 c (Or.inr (Or.inl rfl))) (n3 e (Or.inr (Or.inr rfl))), G.mark.only hO (fun h => h0 h.symm), G.ok, G.hd⟩
  obtain ⟨h1, h2⟩ := (G.st.bl.apart hB hc).only hO (fun i _ hi => Or.inr hi) q hq
  exact ⟨h1.mono (fun _ _ h => Or.inl h), h2⟩
theorem Outcome.good {w w' : World} {s mb p c e Z L : Nat} {M : Al Sv} {h : HeadV} {ss : List (Nat × List UInt8)} {l : List Ch} {e1 : Ending} (hO : Outcome s mb p c e Z L M h ss l w w' e1) (G : GoodX w s mb p c e Z L M h ss) :
    (∃ E : Int, e1 = .returned (.int .i64 E)) ∧ ∃ M' h' ss', GoodX w' s mb p c e Z L M' h' ss' ∧ ss'.length = ss.length ∧ M'.length ≤ M.length + 16 ∧ Only (Mut s mb p c e) w w' := by
  rcases hO with ⟨_, h2, h3⟩ | ⟨_, h2, h3, _⟩ | ⟨_, h2, PF, KF, M', h', ss', k, o, hpl, hG', hss, hX', hM', hl, hor, hh', hs', hkey, hkl, hon, _⟩
  · exact ⟨⟨_, h2⟩, M, h, ss, G.below h3, rfl, by omega, Only.of_below h3⟩
  · exact ⟨⟨_, h2⟩, M, h, ss, G.below h3, rfl, by omega, Only.of_below h3⟩
  · exact ⟨⟨_, h2⟩, M', h', ss', hG', hss, hM', hon⟩

end Go.Proofs.YtmdnhpnaikfpjaaGreatDoor

/- The walk over BlobSectors. -/
namespace Go.Proofs.YtmdnhpnaikfpjaaGreatDoor
set_option maxRecDepth 100000
open Go.RowKit Go.Maps

set_option maxHeartbeats 8000000 in
theorem blobSectors_any (A : Option Addr) (n cap : Nat) (xs : List UInt8) (w : World) (hB : ByteSl w (fun k => w.heap.size ≤ k) A n cap xs) (hM : Mark w) :
    Calls Tryz.prog 5 #[.slice A n cap] w fun e w' => e = .returned (.bool true) ∧ Below w.heap.size w w' := by
  have HM := Lib.hid hM
  have HB := Lib.hid hB
  have Hfx := Lib.hid (fixed8_any w hM)
  have h0w : 0 < w.heap.size := hM.pos
  clear hM hB
  go_enter Tryz.func5, Tryz.ntmps5
  go_wp2_with fail
  refine Hfx.out.mono ?_
  rintro e0 w0 ⟨rfl, hb0⟩
  have Hb0 := Lib.hid hb0
  have Hnew := Lib.hid (new_yes 5 200 100 w0 ⟨by decide, by decide, by decide, by decide, by decide, by decide⟩)
  have hs0 := hb0.size
  clear Hfx hb0
  by_cases hlong : 200 < n
  · go_wp2_with fail
    go_ret
    exact ⟨rfl, Hb0.out⟩
  · go_wp2_with fail
    refine Hnew.out.mono ?_
    rintro e1 w1 ⟨p, c, er, rfl, hfl, hb1, hp, hc, he⟩
    have Hfs := Lib.hid (FS.fresh hfl)
    have Hb1 := Lib.hid (Hb0.out.trans (hb1.mono hs0))
    have Hmo := Lib.hid (mount_none p c er 200 100 (freshS 5 200) w1 (FS.fresh hfl) (HM.out.below Hb1.out) (fresh_no 5 200 (by decide)) (by rw [fresh_count 5 200 100 (by decide)]; decide))
    have hs1 := hb1.size
    clear Hnew hfl hb1
    go_wp2_with fail
    refine Hmo.out.mono ?_
    rintro e2 w2 ⟨⟨s, mb, rfl, hG, hs, hm⟩, hb2⟩
    have HG2 := Lib.hid hG
    have Hb2 := Lib.hid (Hb1.out.trans (hb2.mono Hb1.out.size))
    have hs2 := hb2.size
    have Hmut : Hid (∀ q, Mut s mb p c er q → w.heap.size ≤ q ∧ q < w2.heap.size) := Lib.hid (by
      intro q hq
      have hS := hG.st
      rcases hq with rfl | rfl | hq
      · exact ⟨by omega, hS.blk.lt⟩
      · exact ⟨by omega, hS.map.lt⟩
      · refine ⟨?_, hG.fs.lt q hq⟩
        rcases hq with rfl | rfl | rfl <;> omega)
    have Hthr : Hid (∀ q, Three p c er q → q ≠ s ∧ q ≠ mb) := Lib.hid (fun q hq => by have := Hfs.out.lt q hq; omega)
    clear hG hb2 Hmo
    go_wp2_with fail
    have hg2 : w2.heap.size < (w2.alloc (.cells #[.slice A n cap, .int .i64 0] 50)).heap.size := by simp
    have hal := (Below.refl w2.heap.size w2).alloc (Nat.le_refl _) (.cells #[.slice A n cap, .int .i64 0] 50)
    have hT0 : TapeAt (w2.alloc (.cells #[.slice A n cap, .int .i64 0] 50)) w.heap.size w2.heap.size A n cap xs 0 :=
      ⟨Blk.new w2 50 _, HB.out.only (Only.of_below (S := Empty) (Hb2.out.trans (hal.mono Hb2.out.size))) (fun _ _ h => h.elim), Nat.zero_le _, Hb2.out.size, by omega⟩
    have HG3 := Lib.hid (HG2.out.below hal)
    have HT3 := Lib.hid hT0
    have Hb3 := Lib.hid (Hb2.out.trans (hal.mono Hb2.out.size))
    obtain ⟨g, hg⟩ : ∃ g, g = w2.heap.size := ⟨_, rfl⟩
    obtain ⟨w3, hw3⟩ : ∃ w3, w3 = w2.alloc (.cells #[.slice A n cap, .int .i64 0] 50) := ⟨_, rfl⟩
    rw [← hw3] at HG3 HT3 Hb3 hg2 ⊢
    rw [← hg] at HT3 hg2 Hmut hs2 ⊢
    have hwg : w.heap.size ≤ g := by omega
    clear hT0 hal hw3 HG2 Hb2 hg
    go_loopw [8] (fun v wr => ∃ (i at2 : Nat) (M : Al Sv) (h : HeadV) (ss : List (Nat × List UInt8)), i ≤ 20 ∧ M.length ≤ 16 * i ∧ ss.length = 5 ∧ v = .int .i64 (i : Int) ∧ Hid (GoodX wr s mb p c er 200 100 M h ss) ∧ Hid (TapeAt wr w.heap.size g A n cap xs at2) ∧ Hid (Below w.heap.size w wr)) (fun v _ => 20 - (intOf v).toNat)
    case atStart => exact ⟨0, 0, [], ⟨0, 0, 0, 0⟩, freshS 5 200, by omega, by simp, freshS_len _ _, rfl, HG3, HT3, Hb3⟩
    case round =>
      clear HG3 HT3 Hb3
      obtain ⟨i, at2, M, h, ss, hi, hMl, hss, rfl, HG, HT, HB1⟩ := hrel
      have hgr := HT.out.blk.lt
      have c0 := HT.out.blk.cell 0
      have c1 := HT.out.blk.cell 1
      have hle := HT.out.le
      simp only [List.getElem?_toArray, List.getElem?_cons_zero, List.getElem?_cons_succ] at c0 c1
      by_cases hgo : i < 20 ∧ at2 < n
      · obtain ⟨hi20, hat⟩ := hgo
        · have Hch := Lib.hid (fun W (hW : TapeAt W w.heap.size g A n cap xs at2) => changes_tape w.heap.size g A n cap xs at2 W hW)
          have q1 : decide ((i : Int) < 20) = true := decide_eq_true (by omega)
          have q2 : decide ((at2 : Int) < (n : Int)) = true := decide_eq_true (by omega)
          go_wp2_with fail
          go_quiet (fail)
          go_wp2_with fail
          have hbq := (Below.refl wr.heap.size wr).drewN nq
          refine (Hch.out _ (HT.out.below hbq)).mono ?_
          rintro e4 w4 ⟨⟨A', m, cap', l, hm2, rfl, hC4⟩, ⟨at3, hT4⟩, hO4⟩
          have hgM : ¬ Mut s mb p c er g := fun h => by have := (Hmut.out _ h).2; omega
          have HG4 := Lib.hid (GoodX.turn (HG.out.below hbq) (HT.out.below hbq).blk (fun x h => by cases h) hO4 hgM (by omega))
          have HC4 : Hid (Chs w4 (Mut s mb p c er) A' m cap' l) := Lib.hid (hC4.mono (fun q _ hq => by have := (Hmut.out _ hq).2; have := hbq.size; show q < (wr.drewN nq).heap.size; omega))
          have HT4 := Lib.hid hT4
          have HB4 := Lib.hid ((HB1.out.trans (hbq.mono HB1.out.size)).trans (hO4.below (Below.size (HB1.out.trans (hbq.mono HB1.out.size))) (fun k hk h => by omega)))
          have Hco := Lib.hid (commit_any s mb p c er 200 100 M h ss A' m cap' l w4 HG4.out (by omega) HC4.out (by omega) Hthr.out (fun h => by have := (Hmut.out _ h).1; omega) (by rw [hss]; omega))
          clear hC4 hT4 hO4 Hch
          go_wp2_with fail
          refine Hco.out.mono ?_
          intro e5 w5 hO5
          obtain ⟨⟨E, rfl⟩, M', h', ss', hG5, hss5, hM5, hon5⟩ := hO5.good HG4.out
          have HG5 := Lib.hid hG5
          have HT5 := Lib.hid (HT4.out.only hon5 hgM (fun q hq => (Hmut.out _ hq).1))
          have HB5 := Lib.hid (HB4.out.trans (hon5.below HB4.out.size (fun k hk hq => by have := (Hmut.out _ hq).1; omega)))
          clear hG5 hon5 hO5 Hco
          go_wp2_with fail
          go_roundw
          case rel => exact ⟨i + 1, at3, M', h', ss', by omega, by omega, by omega, by simp, HG5, HT5, HB5⟩
          case measure => simp [intOf]; omega
      · have hex : decide ((i : Int) < 20) = false ∨ (i < 20 ∧ ¬ at2 < n) := by
          by_cases hi2 : i < 20
          · exact Or.inr ⟨hi2, by omega⟩
          · exact Or.inl (decide_eq_false (by omega))
        rcases hex with q1 | ⟨hi20, hat⟩
        · go_wp2_with fail
          go_quiet (fail)
          go_wp2_with fail
          have hbq := (Below.refl wr.heap.size wr).drewN nq
          have HGq := Lib.hid (HG.out.below hbq)
          have Hbq := Lib.hid (HB1.out.trans (hbq.mono HB1.out.size))
          have Hse := Lib.hid (fun W (hW : GoodX W s mb p c er 200 100 M h ss) => sectors_any s mb p c er 200 100 ss M h W hW)
          rw [hss] at Hse
          refine (Hse.out _ HGq.out).mono ?_
          rintro e4 w4 ⟨⟨A4, c4, rfl, hg4⟩, hb4⟩
          obtain ⟨b4, o4, hA4, hl4, _, hx4⟩ := hg4.row.2.2.2 (by decide)
          have HX4 : Hid (∀ i f, (secsOf ss)[i]? = some f → ∀ j, j < 3 → w4.cell? ⟨b4, o4 + i * 3 + j, none⟩ = f.cells[j]?) := Lib.hid hx4
          have HG4 := Lib.hid (HGq.out.below hb4)
          have HB4 := Lib.hid (Hbq.out.trans (hb4.mono Hbq.out.size))
          have hs4 : g < w4.heap.size := by have := hb4.size; have := hbq.size; omega
          subst hA4
          clear hg4 hb4 hx4 HGq Hbq hbq HT HG HB1
          go_wp2_with fail
          go_loopw [63] (fun v W => ∃ j : Nat, j ≤ 5 ∧ v = .int .i64 (j : Int) ∧ Hid (Below w4.heap.size w4 W)) (fun v _ => 5 - (intOf v).toNat)
          case atStart => exact ⟨0, by omega, rfl, Lib.hid (Below.refl _ _)⟩
          case round =>
            obtain ⟨j, hj5, rfl, HBj⟩ := hrel
            have hsj := HBj.out.size
            by_cases hjl : j < 5
            · obtain ⟨m, ys, hx⟩ := sec_at (ss := ss) (k := j) (by omega)
              have hsx : (secsOf ss)[j]? = some ⟨stS ys, stQ ys, (m : Int)⟩ := by
                unfold secsOf
                rw [List.getElem?_map, hx]
                rfl
              have hc := fun t (ht : t < 3) => ((Only.of_below (S := Empty) HBj.out).cell (p := ⟨b4, o4 + j * 3 + t, none⟩) hl4 (fun h => h)).trans (HX4.out j _ hsx t ht)
              have Hl := Lib.hid (fun W (hW : Below w4.heap.size w4 W) => look_sec p c er ss.length 200 100 j m ys W ((HG4.out.fs.below hW).sec hx) (HG4.out.mark.below hW))
              obtain ⟨st, hst⟩ : ∃ st, st = stS ys := ⟨_, rfl⟩
              obtain ⟨q, hq⟩ : ∃ q, q = stQ ys := ⟨_, rfl⟩
              rw [← hst, ← hq] at Hl hc
              have t0 : wr.cell? ⟨b4, o4 + j * 3, none⟩ = some (.int .i64 st) := hc 0 (by omega)
              have t1 : wr.cell? ⟨b4, o4 + j * 3 + 1, none⟩ = some (.int .u32 q) := hc 1 (by omega)
              have t2 : wr.cell? ⟨b4, o4 + j * 3 + 2, none⟩ = some (.int .i64 (m : Int)) := hc 2 (by omega)
              have hb4 : b4 < wr.heap.size := by omega
              clear hc hx hsx hst hq
              go_wp2_with fail
              have hB1x := Blk.new wr 56 #[.int .i64 st, .int .u32 q, .int .i64 (m : Int)]
              have hal := (Below.refl wr.heap.size wr).alloc (Nat.le_refl _) (.cells #[.int .i64 st, .int .u32 q, .int .i64 (m : Int)] 56)
              refine (Hl.out _ (HBj.out.trans (hal.mono hsj))).mono ?_
              rintro e5 w5 ⟨rfl, hb5⟩
              have hB5x := (Only.of_below (S := Empty) hb5).blk hB1x (fun h => h)
              have x0 := hB5x.cell 0
              have x1 := hB5x.cell 1
              have x2 := hB5x.cell 2
              simp only [List.getElem?_toArray, List.getElem?_cons_zero, List.getElem?_cons_succ] at x0 x1 x2
              have hxl := hB5x.lt
              have HB5 := Lib.hid (HBj.out.trans ((hal.trans (hb5.mono hal.size)).mono hsj))
              have HB6 := Lib.hid (HB5.out.alloc HB5.out.size (.cells #[.int .i64 st, .int .u32 q, .int .i64 (m : Int)] 56))
              clear hB1x hal hb5 hB5x Hl t0 t1 t2 hb4
              go_wp2_with fail
              go_roundw
              case rel => exact ⟨j + 1, by omega, by simp, HB6⟩
              case measure => simp [intOf]; omega
            · have Hg := Lib.hid (get_nil ⟨#[97]⟩ wr)
              go_wp2_with fail
              refine Hg.out.mono ?_
              rintro e5 w5 ⟨rfl, hb5⟩
              have HB5 := Lib.hid (HBj.out.trans (hb5.mono hsj))
              clear hb5 Hg
              have H1 := Lib.hid (sectors_any s mb p c er 200 100 ss M h w5 (HG4.out.below HB5.out))
              rw [hss] at H1
              go_wp2_with fail
              refine H1.out.mono ?_
              rintro e6 w6 ⟨⟨A6, c6, rfl, _⟩, hb6⟩
              have HB6 := Lib.hid (HB5.out.trans (hb6.mono HB5.out.size))
              clear hb6 H1
              have H2 := Lib.hid (down_nil w6)
              go_wp2_with fail
              refine H2.out.mono ?_
              rintro e7 w7 ⟨rfl, rfl⟩
              have H3 := Lib.hid (keys_nil ⟨#[]⟩ w6)
              clear H2
              go_wp2_with fail
              refine H3.out.mono ?_
              rintro e8 w8 ⟨rfl, hb8⟩
              have HB8 := Lib.hid (HB6.out.trans (hb8.mono HB6.out.size))
              clear hb8 H3
              have H4 := Lib.hid (commit_nil none 0 0 w8)
              go_wp2_with fail
              refine H4.out.mono ?_
              rintro e9 w9 ⟨rfl, hb9⟩
              have HB9 := Lib.hid (HB8.out.trans (hb9.mono HB8.out.size))
              clear hb9 H4
              have H5 := Lib.hid (live_nil w9)
              go_wp2_with fail
              refine H5.out.mono ?_
              rintro e10 w10 ⟨rfl, hb10⟩
              have HB10 := Lib.hid (HB9.out.trans (hb10.mono HB9.out.size))
              clear hb10 H5
              have H6 := Lib.hid (room_nil w10)
              go_wp2_with fail
              refine H6.out.mono ?_
              rintro e11 w11 ⟨rfl, hb11⟩
              have HB11 := Lib.hid (HB10.out.trans (hb11.mono HB10.out.size))
              clear hb11 H6
              have H7 := Lib.hid (sectors_nil w11)
              go_wp2_with fail
              refine H7.out.mono ?_
              rintro e12 w12 ⟨rfl, hb12⟩
              have HB12 := Lib.hid (HB11.out.trans (hb12.mono HB11.out.size))
              clear hb12 H7
              go_wp2_with fail
              go_ret
              exact ⟨rfl, HB4.out.trans (HB12.out.mono HB4.out.size)⟩
        · have q1 : decide ((i : Int) < 20) = true := decide_eq_true (by omega)
          have q2 : decide ((at2 : Int) < (n : Int)) = false := decide_eq_false (by omega)
          go_wp2_with fail
          go_quiet (fail)
          go_wp2_with fail
          have hbq := (Below.refl wr.heap.size wr).drewN nq
          have HGq := Lib.hid (HG.out.below hbq)
          have Hbq := Lib.hid (HB1.out.trans (hbq.mono HB1.out.size))
          have Hse := Lib.hid (fun W (hW : GoodX W s mb p c er 200 100 M h ss) => sectors_any s mb p c er 200 100 ss M h W hW)
          rw [hss] at Hse
          refine (Hse.out _ HGq.out).mono ?_
          rintro e4 w4 ⟨⟨A4, c4, rfl, hg4⟩, hb4⟩
          obtain ⟨b4, o4, hA4, hl4, _, hx4⟩ := hg4.row.2.2.2 (by decide)
          have HX4 : Hid (∀ i f, (secsOf ss)[i]? = some f → ∀ j, j < 3 → w4.cell? ⟨b4, o4 + i * 3 + j, none⟩ = f.cells[j]?) := Lib.hid hx4
          have HG4 := Lib.hid (HGq.out.below hb4)
          have HB4 := Lib.hid (Hbq.out.trans (hb4.mono Hbq.out.size))
          have hs4 : g < w4.heap.size := by have := hb4.size; have := hbq.size; omega
          subst hA4
          clear hg4 hb4 hx4 HGq Hbq hbq HT HG HB1
          go_wp2_with fail
          go_loopw [63] (fun v W => ∃ j : Nat, j ≤ 5 ∧ v = .int .i64 (j : Int) ∧ Hid (Below w4.heap.size w4 W)) (fun v _ => 5 - (intOf v).toNat)
          case atStart => exact ⟨0, by omega, rfl, Lib.hid (Below.refl _ _)⟩
          case round =>
            obtain ⟨j, hj5, rfl, HBj⟩ := hrel
            have hsj := HBj.out.size
            by_cases hjl : j < 5
            · obtain ⟨m, ys, hx⟩ := sec_at (ss := ss) (k := j) (by omega)
              have hsx : (secsOf ss)[j]? = some ⟨stS ys, stQ ys, (m : Int)⟩ := by
                unfold secsOf
                rw [List.getElem?_map, hx]
                rfl
              have hc := fun t (ht : t < 3) => ((Only.of_below (S := Empty) HBj.out).cell (p := ⟨b4, o4 + j * 3 + t, none⟩) hl4 (fun h => h)).trans (HX4.out j _ hsx t ht)
              have Hl := Lib.hid (fun W (hW : Below w4.heap.size w4 W) => look_sec p c er ss.length 200 100 j m ys W ((HG4.out.fs.below hW).sec hx) (HG4.out.mark.below hW))
              obtain ⟨st, hst⟩ : ∃ st, st = stS ys := ⟨_, rfl⟩
              obtain ⟨q, hq⟩ : ∃ q, q = stQ ys := ⟨_, rfl⟩
              rw [← hst, ← hq] at Hl hc
              have t0 : wr.cell? ⟨b4, o4 + j * 3, none⟩ = some (.int .i64 st) := hc 0 (by omega)
              have t1 : wr.cell? ⟨b4, o4 + j * 3 + 1, none⟩ = some (.int .u32 q) := hc 1 (by omega)
              have t2 : wr.cell? ⟨b4, o4 + j * 3 + 2, none⟩ = some (.int .i64 (m : Int)) := hc 2 (by omega)
              have hb4 : b4 < wr.heap.size := by omega
              clear hc hx hsx hst hq
              go_wp2_with fail
              have hB1x := Blk.new wr 56 #[.int .i64 st, .int .u32 q, .int .i64 (m : Int)]
              have hal := (Below.refl wr.heap.size wr).alloc (Nat.le_refl _) (.cells #[.int .i64 st, .int .u32 q, .int .i64 (m : Int)] 56)
              refine (Hl.out _ (HBj.out.trans (hal.mono hsj))).mono ?_
              rintro e5 w5 ⟨rfl, hb5⟩
              have hB5x := (Only.of_below (S := Empty) hb5).blk hB1x (fun h => h)
              have x0 := hB5x.cell 0
              have x1 := hB5x.cell 1
              have x2 := hB5x.cell 2
              simp only [List.getElem?_toArray, List.getElem?_cons_zero, List.getElem?_cons_succ] at x0 x1 x2
              have hxl := hB5x.lt
              have HB5 := Lib.hid (HBj.out.trans ((hal.trans (hb5.mono hal.size)).mono hsj))
              have HB6 := Lib.hid (HB5.out.alloc HB5.out.size (.cells #[.int .i64 st, .int .u32 q, .int .i64 (m : Int)] 56))
              clear hB1x hal hb5 hB5x Hl t0 t1 t2 hb4
              go_wp2_with fail
              go_roundw
              case rel => exact ⟨j + 1, by omega, by simp, HB6⟩
              case measure => simp [intOf]; omega
            · have Hg := Lib.hid (get_nil ⟨#[97]⟩ wr)
              go_wp2_with fail
              refine Hg.out.mono ?_
              rintro e5 w5 ⟨rfl, hb5⟩
              have HB5 := Lib.hid (HBj.out.trans (hb5.mono hsj))
              clear hb5 Hg
              have H1 := Lib.hid (sectors_any s mb p c er 200 100 ss M h w5 (HG4.out.below HB5.out))
              rw [hss] at H1
              go_wp2_with fail
              refine H1.out.mono ?_
              rintro e6 w6 ⟨⟨A6, c6, rfl, _⟩, hb6⟩
              have HB6 := Lib.hid (HB5.out.trans (hb6.mono HB5.out.size))
              clear hb6 H1
              have H2 := Lib.hid (down_nil w6)
              go_wp2_with fail
              refine H2.out.mono ?_
              rintro e7 w7 ⟨rfl, rfl⟩
              have H3 := Lib.hid (keys_nil ⟨#[]⟩ w6)
              clear H2
              go_wp2_with fail
              refine H3.out.mono ?_
              rintro e8 w8 ⟨rfl, hb8⟩
              have HB8 := Lib.hid (HB6.out.trans (hb8.mono HB6.out.size))
              clear hb8 H3
              have H4 := Lib.hid (commit_nil none 0 0 w8)
              go_wp2_with fail
              refine H4.out.mono ?_
              rintro e9 w9 ⟨rfl, hb9⟩
              have HB9 := Lib.hid (HB8.out.trans (hb9.mono HB8.out.size))
              clear hb9 H4
              have H5 := Lib.hid (live_nil w9)
              go_wp2_with fail
              refine H5.out.mono ?_
              rintro e10 w10 ⟨rfl, hb10⟩
              have HB10 := Lib.hid (HB9.out.trans (hb10.mono HB9.out.size))
              clear hb10 H5
              have H6 := Lib.hid (room_nil w10)
              go_wp2_with fail
              refine H6.out.mono ?_
              rintro e11 w11 ⟨rfl, hb11⟩
              have HB11 := Lib.hid (HB10.out.trans (hb11.mono HB10.out.size))
              clear hb11 H6
              have H7 := Lib.hid (sectors_nil w11)
              go_wp2_with fail
              refine H7.out.mono ?_
              rintro e12 w12 ⟨rfl, hb12⟩
              have HB12 := Lib.hid (HB11.out.trans (hb12.mono HB11.out.size))
              clear hb12 H7
              go_wp2_with fail
              go_ret
              exact ⟨rfl, HB4.out.trans (HB12.out.mono HB4.out.size)⟩

end Go.Proofs.YtmdnhpnaikfpjaaGreatDoor

/- The condition on the program's mark: what the list of variables says, that the start-up code lays it, and what the walks take of it. -/
namespace Go.Proofs.YtmdnhpnaikfpjaaGreatDoor
set_option maxRecDepth 100000
open Go.ChangeShapes Go.WideShapes Go.ChangeAt Go.RowKit Go.Joins

/-- The one variable that the rows list. -/
def laidD {H : Type} : List (String × DataW H) := [("carpetbag/page.mark", Rows.laid_carpetbag_page_mark)]
theorem gMark : Tryz.prog.globalNamed "carpetbag/page.mark" = some 0 := by kernel_rfl
theorem tMark : (Tryz.prog.globals[0]?).map (·.type) = some 216 := by kernel_rfl
theorem cMark : Tryz.prog.cellsOf 216 = 2 := by kernel_rfl
theorem cU8 : Tryz.prog.cellsOf 5 = 1 := by kernel_rfl

/-- The start-up code's own heap meets the condition. -/
theorem door_met (os : Os) (args : Array Value) : laidMetH Tryz.prog laidD ((World.doorLaid Tryz.prog 14 os).forCall (fun _ _ => 0) ⟨#[], args, []⟩).memory :=
  laidMetH_of_parts3 (fuel := 8) (laidMet_of_run' 8 (by kernel_rfl) (by kernel_rfl)) (by kernel_rfl) (by kernel_rfl)

/-- What the condition gives the walks: the mark's two bytes. -/
theorem mark_of_laid {W : World} (h : laidMetH Tryz.prog laidD W) : Mark W := by
  rw [MakeChecks.laidMetH_plain _ _ _ (by kernel_rfl)] at h
  obtain ⟨ps, ⟨g0, t0, cs0, f0, p0, q0, hg0, ht0, hv0, hd0, _, _⟩, _⟩ := h
  obtain rfl := Option.some.inj (gMark.symm.trans hg0)
  obtain rfl := Option.some.inj (tMark.symm.trans ht0)
  obtain ⟨xs, m1, rfl, hx1, hlen, hn3, hel⟩ := DataW.trod_array Tryz.underlying216 hd0
  have h0 := hel 0 (by decide)
  have h1 := hel 1 (by decide)
  simp only [Rows.laid_carpetbag_page_mark, Prod.mk.injEq, DataW.agg.injEq] at hx1
  match xs, hn3, hx1, h0, h1 with
  | [x0, x1], _, hx1, h0, h1 =>
    simp only [List.map_cons, List.map_nil, List.cons.injEq] at hx1
    obtain ⟨k0, e0, d0, _⟩ := DataW.trod_int Tryz.underlying5 (show DataW.trod _ Tryz.prog W 0 _ false m1 5 _ = some x0 from h0)
    obtain ⟨k1, e1, d1, _⟩ := DataW.trod_int Tryz.underlying5 (show DataW.trod _ Tryz.prog W 0 _ false m1 5 _ = some x1 from h1)
    have hk0 : k0 = 67 := by rw [d0] at hx1; simpa using hx1.1.1.symm
    have hk1 : k1 = 66 := by rw [d1] at hx1; simpa using hx1.1.2.1.symm
    subst hk0 hk1
    have w0 := World.var?_cell hg0 hv0 0
    have w1 := World.var?_cell hg0 hv0 1
    obtain ⟨l⟩ := cs0
    rw [cU8] at e0 e1
    rw [cMark] at hlen
    match l, hlen, e0, e1 with
    | [c0, c1], _, e0, e1 =>
      simp at e0 e1
      subst e0 e1
      exact ⟨by simpa using w0, by simpa using w1⟩

end Go.Proofs.YtmdnhpnaikfpjaaGreatDoor
