/- The walk over law 08's fixed. -/
import Derived.Test.YtnhfmcijadficaaGreatDoorZbi
import Derived.Lib.SlBytesConst
import Derived.Test.YtnhfmcijadficaaGreatDoorZag
import Derived.Test.YtnhfmcijadficaaGreatDoorCards
import Derived.Test.YtnhfmcijadficaaGreatDoorTie
import Derived.ProofKit
import Derived.LaidMore
import Derived.OpenShut
import Derived.Stop.Joined
import Derived.SevenTiedAt
namespace Go.Proofs.YtnhfmcijadficaaGreatDoor
set_option maxRecDepth 100000
open Go.RowKit Go.Maps

set_option maxHeartbeats 1000000 in
theorem mount_nil (w : World) : Calls Tryz.prog 10 #[.pointer none] w fun e1 w' => e1 = .returned (.tuple #[.pointer none, .int .i64 1]) ∧ Below w.heap.size w w' := by
  go_enter Tryz.func10, Tryz.ntmps10
  go_wp2_with fail
  go_ret2
  exact ⟨rfl, Below.refl _ _⟩

/-- The change of the law's fixed. -/
def fixCh (g : Nat) : Ch := ⟨false, ⟨#[97]⟩, some ⟨g, 0, none⟩, 2, 2, [120, 121]⟩
theorem fix_refu (g : Nat) : refuC [fixCh g] 116 = 0 := by rfl
theorem fix_room (g : Nat) : roomL [fixCh g] = 35 := by rfl

set_option maxHeartbeats 8000000 in
theorem fixed8_any (w : World) (hM : Mark w) :
    Calls Tryz.prog 7 #[] w fun e w' => e = .returned (.bool true) ∧ Below w.heap.size w w' := by
  have HM := Lib.hid hM
  have Hnew := Lib.hid (new_yes 4 128 9 w ⟨by decide, by decide, by decide, by decide, by decide, by decide⟩)
  have h0w : 0 < w.heap.size := hM.pos
  clear hM
  go_enter Tryz.func7, Tryz.ntmps7
  go_wp2_with fail
  refine Hnew.out.mono ?_
  rintro e1 w1 ⟨p, c, er, rfl, hfl, hb1, hp, hc, he⟩
  have Hfs := Lib.hid (FS.fresh hfl)
  have Hb1 := Lib.hid hb1
  have Hmo := Lib.hid (mount_none p c er 128 9 (freshS 4 128) w1 (FS.fresh hfl) (HM.out.below hb1) (fresh_no 4 128 (by decide)) (by rw [fresh_count 4 128 9 (by decide)]; decide))
  clear Hnew hfl hb1
  go_wp2_with fail
  refine Hmo.out.mono ?_
  rintro e2 w2 ⟨⟨s, mb, rfl, hG, hs, hm⟩, hb2⟩
  have hG2 := Lib.hid hG
  have Hb2 := Lib.hid (Hb1.out.trans (hb2.mono Hb1.out.size))
  have kc := fun (w : World) (C : Array Value) (n c : Nat) => Lib.run_convert_bytes_const (P := Tryz.prog) w 22 5 C n c Tryz.underlying22 Tryz.underlying5
  have h1w := Hb1.out.size
  have hmut : ∀ q, Mut s mb p c er q → w.heap.size ≤ q ∧ q < w2.heap.size := by
    intro q hq
    have hS := hG.st
    rcases hq with rfl | rfl | hq
    · exact ⟨by omega, hS.blk.lt⟩
    · exact ⟨by omega, hS.map.lt⟩
    · refine ⟨?_, hG.fs.lt q hq⟩
      rcases hq with rfl | rfl | rfl <;> assumption
  clear hG hb2 Hmo
  go_wp2_with fail
  have hal : Below w2.heap.size w2 ((w2.alloc (.cells #[.int .u8 120, .int .u8 121] 5 (2, 3))).alloc (.cells #[.bool false, .string ⟨#[97]⟩, .slice (some ⟨w2.heap.size, 0, none⟩) 2 2] 37)) := ((Below.refl w2.heap.size w2).alloc (Nat.le_refl _) _).alloc (by simp) _
  have hbs : ByteSl (w2.alloc (.cells #[.int .u8 120, .int .u8 121] 5 (2, 3))) (Mut s mb p c er) (some ⟨w2.heap.size, 0, none⟩) 2 2 [120, 121] := ByteSl.marked w2 _ [120, 121] 2 (2, 3) rfl (fun h => by have := (hmut _ h).2; omega) (by decide)
  have hsz : (w2.alloc (.cells #[.int .u8 120, .int .u8 121] 5 (2, 3))).heap.size = w2.heap.size + 1 := by simp
  have hch := chs_lit (S := Mut s mb p c er) (fixCh w2.heap.size) ⟨hbs, fun h => by cases h⟩ (fun h => by have := (hmut _ h).2; omega)
  rw [hsz] at hch
  have hch2 : Chs ((w2.alloc (.cells #[.int .u8 120, .int .u8 121] 5 (2, 3))).alloc (.cells #[.bool false, .string ⟨#[97]⟩, .slice (some ⟨w2.heap.size, 0, none⟩) 2 2] 37)) (Mut s mb p c er) (some ⟨w2.heap.size + 1, 0, none⟩) 1 1 [fixCh w2.heap.size] := hch
  obtain ⟨w3, hw3⟩ : ∃ w3, w3 = (w2.alloc (.cells #[.int .u8 120, .int .u8 121] 5 (2, 3))).alloc (.cells #[.bool false, .string ⟨#[97]⟩, .slice (some ⟨w2.heap.size, 0, none⟩) 2 2] 37) := ⟨_, rfl⟩
  rw [← hw3] at hal hch2 ⊢
  have HG3 := Lib.hid (hG2.out.below hal)
  have Hb3 := Lib.hid (Hb2.out.trans (hal.mono Hb2.out.size))
  have Hco := Lib.hid (commit_any s mb p c er 128 9 [] ⟨0, 0, 0, 0⟩ (freshS 4 128) (some ⟨w2.heap.size + 1, 0, none⟩) 1 1 [fixCh w2.heap.size] w3 HG3.out (by decide) hch2 (by decide)
    (fun q hq => by have := Hfs.out.lt q hq; omega)
    (fun h => by have := (hmut _ h).1; omega) (by decide))
  have Hmut := Lib.hid hmut
  have hs3 : w2.heap.size ≤ w3.heap.size := hal.size
  clear hw3 hal hbs hsz hch hch2 hG2 Hb2 hmut kc
  refine Hco.out.mono ?_
  rintro e4 w4 hO
  obtain ⟨rfl, M', h', ss', hG4, hss, hbl, _, hon⟩ := hO.easy HG3.out (fix_refu _) (fun _ => opens_fresh (by decide) (by decide))
  obtain ⟨f, rfl, hfx⟩ := one_blob (k := [97]) (b := [120, 121]) hbl
  have hfn : f.n = 2 := by
    have := hG4.lenM ([97], f) (List.mem_singleton.2 rfl)
    rw [hfx] at this
    exact this.symm
  have hb4 := Hb3.out.trans (hon.below Hb3.out.size (fun k hk h => by have := (Hmut.out _ h).1; omega))
  have Hb4 := Lib.hid hb4
  have Ga := Lib.hid (fun W (hW : Below w4.heap.size w4 W) => get_any s mb p c er [([97], f)] h' false ⟨#[97]⟩ Empty W (hG4.st.below hW) (by decide) (by show f.n ≤ _; omega))
  have Gb := Lib.hid (fun W (hW : Below w4.heap.size w4 W) => get_any s mb p c er [([97], f)] h' false ⟨#[98]⟩ Empty W (hG4.st.below hW) (by decide) (by show (0 : Nat) ≤ _; omega))
  have hlive : liveL [([97], f)] = 35 := by
    show keyRoom [97] f.n + 0 = 35
    rw [hfn]
    rfl
  have Hli := Lib.hid (fun W (hW : Below w4.heap.size w4 W) => live_any s mb p c er [([97], f)] h' false W (hG4.st.below hW) (by show 1 ≤ 65536; omega) hG4.fair)
  have Hro := Lib.hid (fun W (hW : Below w4.heap.size w4 W) => room_any s mb p c er 128 9 ss' [([97], f)] h' false W (hG4.st.below hW) (hG4.fs.below hW))
  rw [hss, freshS_len] at Hro
  have hroom : roomMax 4 128 = 58 := by decide
  rw [hroom] at Hro
  rw [hlive] at Hli
  have hsv : svAt [([97], f)] (⟨#[97]⟩ : ByteArray).data.toList = f := rfl
  have haf : (afind [([97], f)] (⟨#[97]⟩ : ByteArray).data.toList).isSome = true := rfl
  have haf2 : (afind [([97], f)] (⟨#[98]⟩ : ByteArray).data.toList).isSome = false := rfl
  rw [hsv, haf, hfn, hfx] at Ga
  rw [haf2] at Gb
  clear hon hb4 hO Hco HG3 hG4 hbl hsv haf haf2 hlive hroom
  go_wp2_with fail
  refine (Ga.out w4 (Below.refl _ _)).mono ?_
  rintro e5 w5 ⟨⟨A5, c5, rfl, hgot⟩, hb5⟩
  have Hb5 := Lib.hid hb5
  have HGot := Lib.hid hgot
  clear Ga hb5 hgot
  go_wp2_with fail
  refine (Gb.out w5 Hb5.out).mono ?_
  rintro e6 w6 ⟨⟨A6, c6, rfl, _⟩, hb6⟩
  have Hb6 := Lib.hid (Hb5.out.trans (hb6.mono Hb5.out.size))
  have HGot6 := Lib.hid (HGot.out.next hb6)
  have Hmn := Lib.hid (mount_nil w6)
  clear Gb hb6
  go_wp2_with fail
  refine Hmn.out.mono ?_
  rintro e7 w7 ⟨rfl, hb7⟩
  have Hb7 := Lib.hid (Hb6.out.trans (hb7.mono Hb6.out.size))
  have hB7 := (HGot6.out.next hb7).bytes
  have hcv := conv_bytes hB7
  have heq : (strB [120, 121]).toList = [120, 121] := strB_toList _
  clear Hmn hb7 HGot6 HGot
  go_wp2_with fail
  refine (Hli.out w7 Hb7.out).mono ?_
  rintro e8 w8 ⟨rfl, hb8⟩
  have Hb8 := Lib.hid (Hb7.out.trans (hb8.mono Hb7.out.size))
  clear Hli hb8
  go_wp2_with fail
  refine (Hro.out w8 Hb8.out).mono ?_
  rintro e9 w9 ⟨rfl, hb9⟩
  have Hb9 := Lib.hid (Hb8.out.trans (hb9.mono Hb8.out.size))
  clear Hro hb9
  go_wp2
  go_ret
  exact ⟨rfl, Hb4.out.trans (Hb9.out.mono Hb4.out.size)⟩

end Go.Proofs.YtnhfmcijadficaaGreatDoor

/- The walks over a nil store's calls; over Sectors. -/
namespace Go.Proofs.YtnhfmcijadficaaGreatDoor
set_option maxRecDepth 100000
open Go.RowKit Go.Maps

theorem get_nil (k : ByteArray) (w : World) : Calls Tryz.prog 28 #[.pointer none, .string k] w fun e1 w' => e1 = .returned (.tuple #[.slice none 0 0, .bool false]) ∧ Below w.heap.size w w' := by
  go_enter Tryz.func28, Tryz.ntmps28
  go_wp2_with fail
  go_ret2
  exact ⟨rfl, Below.refl _ _⟩
theorem keys_nil (k : ByteArray) (w : World) : Calls Tryz.prog 43 #[.pointer none, .string k] w fun e1 w' => e1 = .returned (.slice none 0 0) ∧ Below w.heap.size w w' := by
  go_enter Tryz.func43, Tryz.ntmps43
  go_wp2_with fail
  go_ret
  exact ⟨rfl, Below.refl _ _⟩
theorem live_nil (w : World) : Calls Tryz.prog 29 #[.pointer none] w fun e1 w' => e1 = .returned (.int .i64 0) ∧ Below w.heap.size w w' := by
  go_enter Tryz.func29, Tryz.ntmps29
  go_wp2_with fail
  go_ret
  exact ⟨rfl, Below.refl _ _⟩
theorem room_nil (w : World) : Calls Tryz.prog 30 #[.pointer none] w fun e1 w' => e1 = .returned (.int .i64 0) ∧ Below w.heap.size w w' := by
  go_enter Tryz.func30, Tryz.ntmps30
  go_wp2_with fail
  go_ret
  exact ⟨rfl, Below.refl _ _⟩
theorem commit_nil (A : Option Addr) (n cap : Nat) (w : World) : Calls Tryz.prog 12 #[.pointer none, .slice A n cap] w fun e1 w' => e1 = .returned (.int .i64 5) ∧ Below w.heap.size w w' := by
  go_enter Tryz.func12, Tryz.ntmps12
  go_wp2_with fail
  refine (down_nil w).mono ?_
  rintro e1 w1 ⟨rfl, rfl⟩
  go_wp2_with fail
  go_ret
  exact ⟨rfl, Below.refl _ _⟩


/-- A store's blobs lie in no block whose first cell is no byte. -/
theorem BlobsAt.apart {w : World} {S : Nat → Prop} {M : Al Sv} (h : BlobsAt w S M) {g : Nat} {t : TypeId} {cs : Array Value} (hB : Blk w g t cs) (hc : ∀ x : UInt8, cs[0]? ≠ some (B8 x)) : BlobsAt w (fun q => S q ∨ q = g) M := by
  intro q hq
  obtain ⟨h1, h2⟩ := h q hq
  refine ⟨⟨h1.1, h1.2.1, h1.2.2.1, fun hn => ?_⟩, h2⟩
  obtain ⟨ad, ha, hl, hs, hx⟩ := h1.2.2.2 hn
  refine ⟨ad, ha, hl, fun hor => ?_, hx⟩
  rcases hor with h3 | h3
  · exact hs h3
  · obtain ⟨b, hb⟩ : ∃ b, ad = ⟨b, 0, none⟩ := by
      cases hg : q.2.g with
      | none => rw [hg] at ha; cases ha
      | some b => rw [hg] at ha; exact ⟨b, (Option.some.inj ha).symm⟩
    subst hb
    have hb2 : b = g := h3
    subst hb2
    obtain ⟨x, hx0⟩ : ∃ x, q.2.xs[0]? = some x := ⟨_, List.getElem?_eq_getElem (by rw [h1.1]; exact hn)⟩
    have h4 := hx 0 x hx0
    have h5 : w.cell? ⟨b, 0, none⟩ = some (B8 x) := h4
    rw [hB.cell] at h5
    exact hc x h5
/-- A block that is none of the store's turns. -/
theorem GoodX.turn {w w' : World} {s mb p c e Z L : Nat} {M : Al Sv} {h : HeadV} {ss : List (Nat × List UInt8)} (G : GoodX w s mb p c e Z L M h ss) {g : Nat} {t : TypeId} {cs : Array Value} (hB : Blk w g t cs) (hc : ∀ x : UInt8, cs[0]? ≠ some (B8 x)) (hO : Only (· = g) w w') (hg : ¬ Mut s mb p c e g) (h0 : g ≠ 0) : GoodX w' s mb p c e Z L M h ss := by
  have n1 : ¬ s = g := fun h => hg (Or.inl h.symm)
  have n2 : ¬ mb = g := fun h => hg (Or.inr (Or.inl h.symm))
  have n3 : ∀ q, Three p c e q → ¬ q = g := fun q hq h => hg (Or.inr (Or.inr (by rw [← h]; exact hq)))
  refine ⟨⟨hO.blk G.st.blk n1, G.st.map.only hO n2, fun q hq => ?_⟩, G.fs.of hO (n3 p (Or.inl rfl)) (n3 c (Or.inr (Or.inl rfl))) (n3 e (Or.inr (Or.inr rfl))), G.mark.only hO (fun h => h0 h.symm), G.ok, G.hd⟩
  obtain ⟨h1, h2⟩ := (G.st.bl.apart hB hc).only hO (fun i _ hi => Or.inr hi) q hq
  exact ⟨h1.mono (fun _ _ h => Or.inl h), h2⟩
theorem Outcome.good {w w' : World} {s mb p c e Z L : Nat} {M : Al Sv} {h : HeadV} {ss : List (Nat × List UInt8)} {l : List Ch} {e1 : Ending} (hO : Outcome s mb p c e Z L M h ss l w w' e1) (G : GoodX w s mb p c e Z L M h ss) :
    (∃ E : Int, e1 = .returned (.int .i64 E)) ∧ ∃ M' h' ss', GoodX w' s mb p c e Z L M' h' ss' ∧ ss'.length = ss.length ∧ M'.length ≤ M.length + 16 ∧ Only (Mut s mb p c e) w w' := by
  rcases hO with ⟨_, h2, h3⟩ | ⟨_, h2, h3, _⟩ | ⟨_, h2, PF, KF, M', h', ss', k, o, hpl, hG', hss, hX', hM', hl, hor, hh', hs', hkey, hkl, hon, _⟩
  · exact ⟨⟨_, h2⟩, M, h, ss, G.below h3, rfl, by omega, Only.of_below h3⟩
  · exact ⟨⟨_, h2⟩, M, h, ss, G.below h3, rfl, by omega, Only.of_below h3⟩
  · exact ⟨⟨_, h2⟩, M', h', ss', hG', hss, hM', hon⟩

end Go.Proofs.YtnhfmcijadficaaGreatDoor

/- The condition on the program's mark: what the list of variables says, that the start-up code lays it, and what the walks take of it. -/
namespace Go.Proofs.YtnhfmcijadficaaGreatDoor
set_option maxRecDepth 100000
open Go.ChangeShapes Go.WideShapes Go.ChangeAt Go.RowKit Go.Joins

/-- The one variable that the rows list. -/
def laidD {H : Type} : List (String × DataW H) := [("carpetbag/page.mark", Rows.laid_carpetbag_page_mark)]
theorem gMark : Tryz.prog.globalNamed "carpetbag/page.mark" = some 0 := by kernel_rfl
theorem tMark : (Tryz.prog.globals[0]?).map (·.type) = some 245 := by kernel_rfl
theorem cMark : Tryz.prog.cellsOf 245 = 2 := by kernel_rfl
theorem cU8 : Tryz.prog.cellsOf 5 = 1 := by kernel_rfl

/-- The start-up code's own heap meets the condition. -/
theorem door_met (os : Os) (args : Array Value) : laidMetH Tryz.prog laidD ((World.doorLaid Tryz.prog 14 os).forCall (fun _ _ => 0) ⟨#[], args, []⟩).memory :=
  laidMetH_of_parts3 (fuel := 8) (laidMet_of_run' 8 (by kernel_rfl) (by kernel_rfl)) (by kernel_rfl) (by kernel_rfl)

/-- What the condition gives the walks: the mark's two bytes. -/
theorem mark_of_laid {W : World} (h : laidMetH Tryz.prog laidD W) : Mark W := by
  rw [MakeChecks.laidMetH_plain _ _ _ (by kernel_rfl)] at h
  obtain ⟨ps, ⟨g0, t0, cs0, f0, p0, q0, hg0, ht0, hv0, hd0, _, _⟩, _⟩ := h
  obtain rfl := Option.some.inj (gMark.symm.trans hg0)
  obtain rfl := Option.some.inj (tMark.symm.trans ht0)
  obtain ⟨xs, m1, rfl, hx1, hlen, hn3, hel⟩ := DataW.trod_array Tryz.underlying245 hd0
  have h0 := hel 0 (by decide)
  have h1 := hel 1 (by decide)
  simp only [Rows.laid_carpetbag_page_mark, Prod.mk.injEq, DataW.agg.injEq] at hx1
  match xs, hn3, hx1, h0, h1 with
  | [x0, x1], _, hx1, h0, h1 =>
    simp only [List.map_cons, List.map_nil, List.cons.injEq] at hx1
    obtain ⟨k0, e0, d0, _⟩ := DataW.trod_int Tryz.underlying5 (show DataW.trod _ Tryz.prog W 0 _ false m1 5 _ = some x0 from h0)
    obtain ⟨k1, e1, d1, _⟩ := DataW.trod_int Tryz.underlying5 (show DataW.trod _ Tryz.prog W 0 _ false m1 5 _ = some x1 from h1)
    have hk0 : k0 = 67 := by rw [d0] at hx1; simpa using hx1.1.1.symm
    have hk1 : k1 = 66 := by rw [d1] at hx1; simpa using hx1.1.2.1.symm
    subst hk0 hk1
    have w0 := World.var?_cell hg0 hv0 0
    have w1 := World.var?_cell hg0 hv0 1
    obtain ⟨l⟩ := cs0
    rw [cU8] at e0 e1
    rw [cMark] at hlen
    match l, hlen, e0, e1 with
    | [c0, c1], _, e0, e1 =>
      simp at e0 e1
      subst e0 e1
      exact ⟨by simpa using w0, by simpa using w1⟩

end Go.Proofs.YtnhfmcijadficaaGreatDoor
