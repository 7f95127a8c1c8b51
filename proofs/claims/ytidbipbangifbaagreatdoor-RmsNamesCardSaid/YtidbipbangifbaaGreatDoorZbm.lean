/- The walk over rms.begin, where there is room. -/
import Derived.Test.YtidbipbangifbaaGreatDoorZbl
namespace Go.Proofs.YtidbipbangifbaaGreatDoor
set_option maxRecDepth 100000
open Go.RowKit

section
variable {w w' : World} {s mb p c e Z L : Nat} {M : Al Sv} {h : HeadV} {ss : List (Nat × List UInt8)} {B : Int}
theorem GoodX.mut_lt (G : GoodX w s mb p c e Z L M h ss) {q : Nat} (hq : Mut s mb p c e q) : q < w.heap.size := by
  rcases hq with rfl | rfl | h
  · exact G.st.blk.lt
  · exact G.st.map.lt
  · exact G.fs.lt q h
theorem GoodR.turn (G : GoodR w s mb p c e Z L M h ss B) {g : Nat} {t : TypeId} {cs : Array Value} (hB : Blk w g t cs) (hc : ∀ x : UInt8, cs[0]? ≠ some (B8 x)) (hO : Only (· = g) w w') (hg : ¬ Mut s mb p c e g) (h0 : g ≠ 0) : GoodR w' s mb p c e Z L M h ss B := ⟨G.g.turn hB hc hO hg h0, G.r, G.free⟩
end
/-- A key is put, and the store is as ever. -/
def PutR (s mb p c e Z L : Nat) (M : Al Sv) (ss : List (Nat × List UInt8)) (B : Int) (k b : List UInt8) (w w' : World) : Prop :=
  ∃ M' h' ss', GoodR w' s mb p c e Z L M' h' ss' (B + 8 * (ss.length : Int)) ∧ ss'.length = ss.length ∧ blobsOf (amap Sv.a M') = aput (blobsOf (amap Sv.a M)) k b ∧ M'.length ≤ M.length + 16 ∧ Only (Mut s mb p c e) w w'
/-- Is there room for a key's blob? -/
structure RoomC (p c e s mb Z L : Nat) (M : Al Sv) (ss : List (Nat × List UInt8)) (B : Int) (k b : List UInt8) : Prop where
  len : M.length ≤ 3000
  three : ∀ q, Three p c e q → q ≠ s ∧ q ≠ mb
  zero : ¬ Mut s mb p c e 0
  small : 4 * ss.length * (66 + M.length) ≤ 990000
  secs : 3 ≤ ss.length
  refu : ∀ A c2, refuC [putC k A c2 b] (Z - 12) = 0
  room : ∀ A c2, 4 * (liveX (amap Sv.a M) + roomL [putC k A c2 b]) ≤ (ss.length - 2) * (Z - 12)
  b0 : B + 8 * (ss.length : Int) < 4294967295
  bL : B + 8 * (ss.length : Int) < (L : Int)

/-- A record store is kept where there is room. -/
theorem rmKeep_room (s mb p c e Z L : Nat) (M : Al Sv) (h : HeadV) (ss : List (Nat × List UInt8)) (B : Int) (suite name : List UInt8) (next version : Nat) (A : Option Addr) (n cap : Nat) (l : List EntM) (w : World) (G : GoodR w s mb p c e Z L M h ss B)
    (hR : RoomC p c e s mb Z L M ss B (keyL suite name) (rcB ⟨next, version, l.map EntM.p⟩)) (hn : next ≤ 4294967295) (hv : version ≤ 4294967295) (hL : EntsAt w Empty A n cap l) (hm : mayP ⟨next, version, l.map EntM.p⟩ = true) (h1 : suite.length ≤ 1048576) (h2 : name.length ≤ 1048576) :
    Calls Tryz.prog 55 #[.pointer (some ⟨s, 0, none⟩), .string (strB suite), .string (strB name), Rec_ next version A n cap] w fun e1 w' => e1 = .returned (.int .i64 0) ∧ PutR s mb p c e Z L M ss B (keyL suite name) (rcB ⟨next, version, l.map EntM.p⟩) w w' := by
  refine (rmKeep_yes s (Mut s mb p c e) (fun W e1 w' => ∃ A2 c2, DoneR s mb p c e Z L M ss B [putC (keyL suite name) A2 c2 (rcB ⟨next, version, l.map EntM.p⟩)] W w' e1) suite name next version A n cap l w hn hv hL hm (fun q hq hM => by have := G.g.mut_lt hM; omega) h1 h2 ?_ ?_).mono ?_
  · rintro W e1 w' ⟨A2, c2, hd, _⟩
    exact ⟨0, hd⟩
  · intro W A1 A2 c2 hb hC
    exact (commit_room s mb p c e Z L M h ss B A1 1 1 _ W (G.below hb) hR.len hC (by omega) hR.three hR.zero hR.small hR.secs (hR.refu A2 c2) (hR.room A2 c2) hR.b0 hR.bL).mono fun e1 w' hd => ⟨A2, c2, hd⟩
  · rintro e1 w' ⟨W, hb, A2, c2, rfl, M', h', ss', hG, hss, hX, hM, hO⟩
    exact ⟨rfl, M', h', ss', hG, hss, hX, hM, (Only.of_below hb).trans' hO (fun i _ hi => hi)⟩

set_option maxHeartbeats 1000000 in
theorem rmBegin_any (s mb p c e Z L : Nat) (M : Al Sv) (h : HeadV) (ss : List (Nat × List UInt8)) (B : Int) (suite name : List UInt8) (w : World) (G : GoodR w s mb p c e Z L M h ss B)
    (hR : (namesR suite M).length < 8 → RoomC p c e s mb Z L M ss B (keyL suite name) (rcB ⟨1, 0, []⟩)) (h0 : w.heap.size ≠ 0) (hM : M.length ≤ 3000) (h1 : suite.length ≤ 1048576) (h2 : name.length ≤ 1048576) :
    Calls Tryz.prog 25 #[.pointer (some ⟨s, 0, none⟩), .string (strB suite), .string (strB name)] w fun e1 w' =>
      (8 ≤ (namesR suite M).length ∧ e1 = .returned (.tuple #[Rec_ 0 0 none 0 0, .int .i64 9]) ∧ Below w.heap.size w w') ∨
      ((namesR suite M).length < 8 ∧ e1 = .returned (.tuple #[Rec_ 1 0 none 0 0, .int .i64 0]) ∧ PutR s mb p c e Z L M ss B (keyL suite name) (rcB ⟨1, 0, []⟩) w w') := by
  have hal : Below w.heap.size w (w.alloc (.cells #[.int .u32 0, .int .u32 0, .slice none 0 0] 31)) := (Below.refl w.heap.size w).alloc (Nat.le_refl _) _
  have CN := Lib.hid (names_any s mb p c e M h false suite _ (G.below hal).g.st (by omega) (by omega) (fun q hq => (G.g.at_ hq).1))
  obtain ⟨N, hN⟩ : ∃ N, (namesR suite M).length = N := ⟨_, rfl⟩
  rw [hN] at hR ⊢
  have HN := Lib.hid hN
  have hmt : ∀ q, w.heap.size ≤ q → ¬ Mut s mb p c e q := fun q hq hM => by have := G.g.mut_lt hM; omega
  have HMt := Lib.hid hmt
  have HG := Lib.hid G
  have HR := Lib.hid hR
  have Hal := Lib.hid hal
  have HBl : Hid (Blk (w.alloc (.cells #[.int .u32 0, .int .u32 0, .slice none 0 0] 31)) w.heap.size 31 #[.int .u32 0, .int .u32 0, .slice none 0 0]) := Lib.hid (Blk.new w _ _)
  clear hal hN hmt G hR
  go_enter Tryz.func25, Tryz.ntmps25
  go_wp2_with fail
  refine CN.out.mono ?_
  rintro e1 w1 ⟨⟨A1, n1, c1_, rfl, hS1⟩, hb1⟩
  obtain rfl : n1 = N := by have := hS1.row.1; have := HN.out; omega
  have hnc : n1 ≤ c1_ := hS1.row.2.1
  have hcm := hS1.row.2.2.1
  unfold maxLen at hcm
  have Hb1 := Lib.hid (Hal.out.trans (hb1.mono Hal.out.size))
  have hbl := HBl.out.of (hb1.block w.heap.size HBl.out.lt)
  have HB1 := Lib.hid hbl
  have r0 := hbl.cell 0
  have r1 := hbl.cell 1
  have r2 := hbl.cell 2
  have g0 := hbl.frozen 0
  have g1 := hbl.frozen 1
  have g2 := hbl.frozen 2
  have hltS := hbl.lt
  simp at r0 r1 r2
  clear hb1 hbl hS1
  by_cases h8 : 8 ≤ n1
  · have hd : decide ((8 : Int) ≤ (n1 : Int)) = true := decide_eq_true (by omega)
    have H8 := Lib.hid h8
    clear h8
    go_wp2
    refine bodyPost_ret (v := .tuple #[Rec_ 0 0 none 0 0, .int .i64 9]) (by simp [results, Tryz.results25, go_sem, r0, r1, r2, Rec_]) rfl ?_
    exact Or.inl ⟨H8.out, rfl, Hb1.out.setCell (Nat.le_refl _) _ |>.setCell (Nat.le_refl _) _ |>.setCell (Nat.le_refl _) _⟩
  · have hd : decide ((8 : Int) ≤ (n1 : Int)) = false := decide_eq_false (by omega)
    have H8 := Lib.hid h8
    have hal2 : Below w1.heap.size w1 (w1.alloc (.cells #[.int .u32 1, .int .u32 0, .slice none 0 0] 31)) := (Below.refl w1.heap.size w1).alloc (Nat.le_refl _) _
    have Hb2 := Lib.hid (Hb1.out.trans (hal2.mono Hb1.out.size))
    have CK := Lib.hid (rmKeep_room s mb p c e Z L M h ss B suite name 1 0 none 0 0 [] _ (HG.out.below Hb2.out) (HR.out (by omega)) (by omega) (by omega) (EntsAt.nil_ _ _) (by decide) h1 h2)
    unfold Rec_ at CK
    rw [show ((1 : Nat) : Int) = 1 from rfl, show ((0 : Nat) : Int) = 0 from rfl] at CK
    clear h8 hal2
    go_wp2_with fail
    refine CK.out.mono ?_
    rintro e2 w2 ⟨rfl, M', h', ss', hG, hss, hX, hM', hO⟩
    have hbl := hO.blk (HB1.out.alloc (.cells #[.int .u32 1, .int .u32 0, .slice none 0 0] 31)) (HMt.out _ (Nat.le_refl _))
    have hbx := hO.blk (Blk.new w1 31 #[.int .u32 1, .int .u32 0, .slice none 0 0]) (HMt.out _ Hb1.out.size)
    have hno : ¬ Mut s mb p c e w.heap.size := HMt.out _ (Nat.le_refl _)
    have hO4 : Only (· = w.heap.size) w2 (((w2.setCell ⟨w.heap.size, 0, none⟩ (.int .u32 1)).setCell ⟨w.heap.size, 1, none⟩ (.int .u32 0)).setCell ⟨w.heap.size, 2, none⟩ (.slice none 0 0)) := (((Only.refl (· = w.heap.size) w2).setCell (p := ⟨w.heap.size, 0, none⟩) (Or.inl rfl) _).setCell (p := ⟨w.heap.size, 1, none⟩) (Or.inl rfl) _).setCell (p := ⟨w.heap.size, 2, none⟩) (Or.inl rfl) _
    have HPut : Hid (PutR s mb p c e Z L M ss B (keyL suite name) (rcB ⟨1, 0, []⟩) w (((w2.setCell ⟨w.heap.size, 0, none⟩ (.int .u32 1)).setCell ⟨w.heap.size, 1, none⟩ (.int .u32 0)).setCell ⟨w.heap.size, 2, none⟩ (.slice none 0 0))) :=
      Lib.hid ⟨M', h', ss', hG.turn hbl (fun x => by simp [B8]) hO4 hno h0, hss, hX, hM', ((Only.of_below Hb2.out).trans' hO (fun i _ hi => hi)).trans' hO4 (fun i hi hs => by have hs : i = w.heap.size := hs; omega)⟩
    clear r0 r1 r2 g0 g1 g2 hltS
    have r0 := hbl.cell 0
    have r1 := hbl.cell 1
    have r2 := hbl.cell 2
    have g0 := hbl.frozen 0
    have g1 := hbl.frozen 1
    have g2 := hbl.frozen 2
    have hltS := hbl.lt
    have b0 := hbx.cell 0
    have b1 := hbx.cell 1
    have b2 := hbx.cell 2
    have hltB := hbx.lt
    simp at r0 r1 r2 b0 b1 b2
    clear hG hss hX hM' hO hbl hbx hO4
    go_wp2
    refine bodyPost_ret (v := .tuple #[Rec_ 1 0 none 0 0, .int .i64 0]) (by simp [results, Tryz.results25, go_sem, r0, r1, r2, Rec_]) rfl ?_
    exact Or.inr ⟨by have := H8.out; omega, rfl, HPut.out⟩

end Go.Proofs.YtidbipbangifbaaGreatDoor

/- The walk over rms.Open, where there is room. -/
namespace Go.Proofs.YtidbipbangifbaaGreatDoor
set_option maxRecDepth 100000
open Go.RowKit

/-- What Open answers. -/
def OpenOut (s mb p c e Z L : Nat) (M : Al Sv) (ss : List (Nat × List UInt8)) (B : Int) (suite name : List UInt8) (create : Bool) (q : Option RcP × Int) (w : World) (e1 : Ending) (w' : World) : Prop :=
  (¬ (q = (none, 11) ∧ create = true) ∧ RecOut w.heap.size q.1 q.2 e1 w' ∧ Below w.heap.size w w') ∨
  (q = (none, 11) ∧ create = true ∧ 8 ≤ (namesR suite M).length ∧ e1 = .returned (.tuple #[Rec_ 0 0 none 0 0, .int .i64 9]) ∧ Below w.heap.size w w') ∨
  (q = (none, 11) ∧ create = true ∧ (namesR suite M).length < 8 ∧ e1 = .returned (.tuple #[Rec_ 1 0 none 0 0, .int .i64 0]) ∧ PutR s mb p c e Z L M ss B (keyL suite name) (rcB ⟨1, 0, []⟩) w w')

set_option maxHeartbeats 2000000 in
theorem rmOpen_any (s mb p c e Z L : Nat) (M : Al Sv) (h : HeadV) (ss : List (Nat × List UInt8)) (B : Int) (suite name : List UInt8) (create : Bool) (w : World) (G : GoodR w s mb p c e Z L M h ss B)
    (hR : (namesR suite M).length < 8 → storedQ suite name M = (none, 11) → RoomC p c e s mb Z L M ss B (keyL suite name) (rcB ⟨1, 0, []⟩)) (h0 : w.heap.size ≠ 0) (hM : M.length ≤ 3000) (hn : ∀ k, (svAt M k).n ≤ 1048576) (hx : ∀ k, (svAt M k).xs.length ≤ 1048576) (h1 : suite.length ≤ 1048576) (h2 : name.length ≤ 1048576) :
    Calls Tryz.prog 8 #[.pointer (some ⟨s, 0, none⟩), .string (strB suite), .string (strB name), .bool create] w fun e1 w' => OpenOut s mb p c e Z L M ss B suite name create (storedQ suite name M) w e1 w' := by
  have hal : Below w.heap.size w (w.alloc (.cells #[.int .u32 0, .int .u32 0, .slice none 0 0] 31)) := (Below.refl w.heap.size w).alloc (Nat.le_refl _) _
  have CS := Lib.hid (rmStored_any s mb p c e M h false suite name _ (G.below hal).g.st hn hx h1 h2)
  have hmt : ∀ q, w.heap.size ≤ q → ¬ Mut s mb p c e q := fun q hq hM => by have := G.g.mut_lt hM; omega
  have HMay : Hid (∀ r er, storedQ suite name M = (some r, er) → mayP r = true) := Lib.hid (fun r er h => (storedQ_may h).1)
  obtain ⟨o, er, hq⟩ : ∃ o er, storedQ suite name M = (o, er) := ⟨_, _, rfl⟩
  rw [hq] at CS hR HMay ⊢
  simp only at CS ⊢
  have HMt := Lib.hid hmt
  have HG := Lib.hid G
  have HR := Lib.hid hR
  have Hal := Lib.hid hal
  have HBl : Hid (Blk (w.alloc (.cells #[.int .u32 0, .int .u32 0, .slice none 0 0] 31)) w.heap.size 31 #[.int .u32 0, .int .u32 0, .slice none 0 0]) := Lib.hid (Blk.new w _ _)
  clear hal hmt G hR hn hx hq HMay
  go_enter Tryz.func8, Tryz.ntmps8
  go_wp2_with fail
  refine CS.out.mono ?_
  rintro e1 w1 ⟨hR1, hb1⟩
  have Hb1 := Lib.hid (Hal.out.trans (hb1.mono Hal.out.size))
  have hbl := HBl.out.of (hb1.block w.heap.size HBl.out.lt)
  have HB1 := Lib.hid hbl
  have r0 := hbl.cell 0
  have r1 := hbl.cell 1
  have r2 := hbl.cell 2
  have g0 := hbl.frozen 0
  have g1 := hbl.frozen 1
  have g2 := hbl.frozen 2
  have hltS := hbl.lt
  simp at r0 r1 r2
  clear hb1 hbl
  cases o with
  | some r =>
    obtain ⟨A2, n2, c2, l, rfl, hG2, hl2⟩ := hR1
    have hO4 : Only (· = w.heap.size) w1 (((w1.setCell ⟨w.heap.size, 0, none⟩ (.int .u32 (r.next : Int))).setCell ⟨w.heap.size, 1, none⟩ (.int .u32 (r.version : Int))).setCell ⟨w.heap.size, 2, none⟩ (.slice A2 n2 c2)) := (((Only.refl (· = w.heap.size) w1).setCell (p := ⟨w.heap.size, 0, none⟩) (Or.inl rfl) _).setCell (p := ⟨w.heap.size, 1, none⟩) (Or.inl rfl) _).setCell (p := ⟨w.heap.size, 2, none⟩) (Or.inl rfl) _
    have HG2 := Lib.hid ((((hG2.only hO4 (fun q hq _ e => by have e : q = w.heap.size := e; simp at hq; omega)).below ((Below.refl _ _).alloc (Nat.le_refl _) (.cells #[.int .u32 (r.next : Int), .int .u32 (r.version : Int), .slice A2 n2 c2] 31))).lower (base' := w.heap.size) (by simp)))
    have Hl2 := Lib.hid hl2
    clear hG2 hl2 hO4
    simp only [Rec_]
    go_wp2
    refine bodyPost_ret (v := .tuple #[Rec_ r.next r.version A2 n2 c2, .int .i64 0]) (by simp [results, Tryz.results8, go_sem, r0, r1, r2, Rec_, hltS, Nat.ne_of_lt hltS]) rfl ?_
    exact Or.inl ⟨(fun hh => by cases hh.1), ⟨A2, n2, c2, l, rfl, HG2.out, Hl2.out⟩, (((Hb1.out.setCell (Nat.le_refl _) _).setCell (Nat.le_refl _) _).setCell (Nat.le_refl _) _).alloc (by have := Hb1.out.size; simp; omega) _⟩
  | none =>
    obtain rfl : e1 = _ := hR1
    by_cases he : er = 11
    · subst he
      cases create with
      | false =>
        simp only [Rec_]
        go_wp2
        refine bodyPost_ret (v := .tuple #[Rec_ 0 0 none 0 0, .int .i64 11]) (by simp [results, Tryz.results8, go_sem, r0, r1, r2, Rec_, hltS, Nat.ne_of_lt hltS]) rfl ?_
        exact Or.inl ⟨(fun hh => by cases hh.2), rfl, (((Hb1.out.setCell (Nat.le_refl _) _).setCell (Nat.le_refl _) _).setCell (Nat.le_refl _) _).alloc (by have := Hb1.out.size; simp; omega) _⟩
      | true =>
        have CB := Lib.hid (rmBegin_any s mb p c e Z L M h ss B suite name _ (HG.out.below (Hb1.out.trans ((Below.refl _ _).alloc Hb1.out.size (.cells #[.int .u32 0, .int .u32 0, .slice none 0 0] 31)))) (fun h8 => HR.out h8 rfl) (by simp) hM h1 h2)
        simp only [Rec_]
        go_wp2_with fail
        refine CB.out.mono ?_
        rintro e2 w2 h2
        have hB1a := HB1.out.alloc (.cells #[.int .u32 0, .int .u32 0, .slice none 0 0] 31)
        have hbW : Below w.heap.size w (w1.alloc (.cells #[.int .u32 0, .int .u32 0, .slice none 0 0] 31)) := Hb1.out.trans ((Below.refl _ _).alloc Hb1.out.size _)
        have HbW := Lib.hid hbW
        rcases h2 with ⟨h8, rfl, hb2⟩ | ⟨h8, rfl, M', h', ss', hG, hss, hX, hM', hO⟩
        · have Hb2 := Lib.hid (hbW.trans (hb2.mono hbW.size))
          have hbl := hB1a.of (hb2.block w.heap.size hB1a.lt)
          have H8 := Lib.hid h8
          clear r0 r1 r2 g0 g1 g2 hltS
          have r0 := hbl.cell 0
          have r1 := hbl.cell 1
          have r2 := hbl.cell 2
          have g0 := hbl.frozen 0
          have g1 := hbl.frozen 1
          have g2 := hbl.frozen 2
          have hltS := hbl.lt
          simp at r0 r1 r2
          clear hB1a hbW hb2 h8 hbl
          simp only [Rec_]
          go_wp2
          refine bodyPost_ret (v := .tuple #[Rec_ 0 0 none 0 0, .int .i64 9]) (by simp [results, Tryz.results8, go_sem, r0, r1, r2, Rec_]) rfl ?_
          exact Or.inr (Or.inl ⟨rfl, rfl, H8.out, rfl, ((Hb2.out.setCell (Nat.le_refl _) _).setCell (Nat.le_refl _) _).setCell (Nat.le_refl _) _⟩)
        · have H8 := Lib.hid h8
          have hno : ¬ Mut s mb p c e w.heap.size := HMt.out _ (Nat.le_refl _)
          have hbl := hO.blk hB1a hno
          have hO4 : Only (· = w.heap.size) w2 (((w2.setCell ⟨w.heap.size, 0, none⟩ (.int .u32 1)).setCell ⟨w.heap.size, 1, none⟩ (.int .u32 0)).setCell ⟨w.heap.size, 2, none⟩ (.slice none 0 0)) := (((Only.refl (· = w.heap.size) w2).setCell (p := ⟨w.heap.size, 0, none⟩) (Or.inl rfl) _).setCell (p := ⟨w.heap.size, 1, none⟩) (Or.inl rfl) _).setCell (p := ⟨w.heap.size, 2, none⟩) (Or.inl rfl) _
          have HPut : Hid (PutR s mb p c e Z L M ss B (keyL suite name) (rcB ⟨1, 0, []⟩) w (((w2.setCell ⟨w.heap.size, 0, none⟩ (.int .u32 1)).setCell ⟨w.heap.size, 1, none⟩ (.int .u32 0)).setCell ⟨w.heap.size, 2, none⟩ (.slice none 0 0))) :=
            Lib.hid ⟨M', h', ss', hG.turn hbl (fun x => by simp [B8]) hO4 hno h0, hss, hX, hM', ((Only.of_below hbW).trans' hO (fun i _ hi => hi)).trans' hO4 (fun i hi hs => by have hs : i = w.heap.size := hs; omega)⟩
          clear r0 r1 r2 g0 g1 g2 hltS
          have r0 := hbl.cell 0
          have r1 := hbl.cell 1
          have r2 := hbl.cell 2
          have g0 := hbl.frozen 0
          have g1 := hbl.frozen 1
          have g2 := hbl.frozen 2
          have hltS := hbl.lt
          simp at r0 r1 r2
          clear hG hss hX hM' hO hbl hO4 hB1a hbW h8 hno
          simp only [Rec_]
          go_wp2
          refine bodyPost_ret (v := .tuple #[Rec_ 1 0 none 0 0, .int .i64 0]) (by simp [results, Tryz.results8, go_sem, r0, r1, r2, Rec_]) rfl ?_
          exact Or.inr (Or.inr ⟨rfl, rfl, H8.out, rfl, HPut.out⟩)
    · have hq : (er == 11) = false := by simpa using he
      have He := Lib.hid he
      clear he
      simp only [Rec_]
      go_wp2
      refine bodyPost_ret (v := .tuple #[Rec_ 0 0 none 0 0, .int .i64 er]) (by simp [results, Tryz.results8, go_sem, r0, r1, r2, Rec_, hltS, Nat.ne_of_lt hltS]) rfl ?_
      exact Or.inl ⟨fun hh => He.out (congrArg Prod.snd hh.1), rfl, (((Hb1.out.setCell (Nat.le_refl _) _).setCell (Nat.le_refl _) _).setCell (Nat.le_refl _) _).alloc (by have := Hb1.out.size; simp; omega) _⟩

end Go.Proofs.YtidbipbangifbaaGreatDoor

/- What was written is parsed as it was: plain lists. -/
namespace Go.Proofs.YtidbipbangifbaaGreatDoor
set_option maxRecDepth 100000
open Go.RowKit

theorem numQ_put (v k : Nat) (t : List UInt8) (sh : Bool) (hv : v < 256 ^ k) : numQ ⟨putL v k ++ t, sh⟩ k = (v, ⟨t, sh⟩) := by
  have hl := putL_len v k
  unfold numQ
  rw [if_pos (by simp [hl])]
  simp only
  rw [List.take_left' hl, List.drop_left' hl, getV_putL, Nat.mod_eq_of_lt (by rw [Nat.pow_mul]; exact hv)]
theorem dataQ_put (xs t : List UInt8) (sh : Bool) : dataQ ⟨xs ++ t, sh⟩ xs.length = (xs, ⟨t, sh⟩) := by
  unfold dataQ
  rw [if_neg (by simp)]
  simp only
  rw [List.take_left' rfl, List.drop_left' rfl]
theorem entQ_put (e : Ent) (t : List UInt8) (sh : Bool) (h1 : e.1 < 4294967296) (h2 : e.2.length < 65536) : entQ ⟨entB e ++ t, sh⟩ = (e, ⟨t, sh⟩) := by
  unfold entQ entB
  rw [List.append_assoc, List.append_assoc, numQ_put e.1 4 _ sh h1]
  simp only
  rw [numQ_put e.2.length 2 _ sh h2]
  simp only
  rw [dataQ_put]
theorem recL_put : ∀ (l acc : List Ent) (t : List UInt8), (∀ e ∈ l, e.1 < 4294967296 ∧ e.2.length < 65536) → recL l.length ⟨entsB l ++ t, false⟩ acc = (acc ++ l, ⟨t, false⟩)
  | [], acc, t, _ => by simp [recL, entsB]
  | e :: l, acc, t, h => by
    have he := h e (List.mem_cons_self ..)
    have hq : entQ ⟨entsB (e :: l) ++ t, false⟩ = (e, ⟨entsB l ++ t, false⟩) := by
      unfold entsB
      rw [List.flatMap_cons, List.append_assoc]
      exact entQ_put e _ false he.1 he.2
    rw [List.length_cons]
    unfold recL
    rw [if_neg (by simp), hq]
    simp only
    rw [recL_put l (acc ++ [e]) t (fun x hx => h x (List.mem_cons_of_mem _ hx)), List.append_assoc]
    rfl
theorem recsQ_put (r : RcP) (h1 : r.next ≤ 4294967295) (h2 : r.version ≤ 4294967295) (h3 : r.list.length ≤ 65535) (h : ∀ e ∈ r.list, e.1 < 4294967296 ∧ e.2.length < 65536) : recsQ ⟨rcB r, false⟩ = (r, ⟨[], false⟩) := by
  have h4 := recL_put r.list [] [] h
  rw [List.append_nil, List.nil_append] at h4
  unfold recsQ rcB
  simp only
  rw [List.append_assoc, List.append_assoc, numQ_put r.next 4 _ false (by show _ < 4294967296; omega)]
  simp only
  rw [numQ_put r.version 4 _ false (by show _ < 4294967296; omega)]
  simp only
  rw [numQ_put r.list.length 2 _ false (by show _ < 65536; omega)]
  simp only
  rw [h4]
/-- A record store that may be: its bytes tell it. -/
theorem parse_put (r : RcP) (hm : mayP r = true) (h1 : r.next ≤ 4294967295) (h2 : r.version ≤ 4294967295) : parseQ (rcB r) = some r := by
  have hm2 := hm
  unfold mayP at hm2
  rw [Bool.and_eq_true] at hm2
  have h3 := (of_decide_eq_true hm2.1).2
  have h4 := recsQ_put r h1 h2 (by omega) (fun e he => by have := mayL_len hm2.2 e he; omega)
  unfold parseQ
  rw [h4]
  simp only
  rw [if_pos ⟨trivial, trivial, hm⟩]

/-- What stands under a key that was put. -/
theorem rawQ_blobs {suite name : List UInt8} {M : Al Sv} (h1 : nameB suite = true) (h2 : nameB name = true) :
    rawQ suite name M = (match afind (blobsOf (amap Sv.a M)) (keyL suite name) with | some b => (b, 0) | none => ([], 11)) := by
  unfold rawQ blobsOf
  rw [if_pos ⟨h1, h2⟩, afind_map, afind_map]
  cases afind M (keyL suite name) <;> rfl
/-- A store's blobs are short. -/
theorem GoodX.sizes {w : World} {s mb p c e Z L : Nat} {M : Al Sv} {h : HeadV} {ss : List (Nat × List UInt8)} (G : GoodX w s mb p c e Z L M h ss) : (∀ k, (svAt M k).n ≤ 1048576) ∧ ∀ k, (svAt M k).xs.length ≤ 1048576 := by
  have h1 : ∀ k, (svAt M k).n ≤ 1048576 := by
    intro k
    cases hf : afind M k with
    | none =>
      have : svAt M k = Sv.zero := by unfold svAt; rw [hf]; rfl
      rw [this]
      decide
    | some f =>
      rw [svAt_v hf]
      have h2 := (G.at_ (afind_mem hf)).2.1
      rw [mayB_iff] at h2
      have : ((f.n : Nat) : Int) ≤ 4096 := by
        rcases h2.2 with h3 | h3 | h3
        · exact h3.2.2.2.2
        · omega
        · omega
      omega
  exact ⟨h1, fun k => by have := (G.st.bl.at_ k).1.1; have := h1 k; omega⟩

end Go.Proofs.YtidbipbangifbaaGreatDoor

/- The walk over rms.Drop, where there is room. -/
namespace Go.Proofs.YtidbipbangifbaaGreatDoor
set_option maxRecDepth 100000
open Go.RowKit

/-- A key is taken away. -/
def delC (k : List UInt8) : Ch := ⟨true, strB k, none, 0, 0, []⟩
/-- A key is taken away, and the store is as ever. -/
def DelR (s mb p c e Z L : Nat) (M : Al Sv) (ss : List (Nat × List UInt8)) (B : Int) (k : List UInt8) (w w' : World) : Prop :=
  ∃ M' h' ss', GoodR w' s mb p c e Z L M' h' ss' (B + 8 * (ss.length : Int)) ∧ ss'.length = ss.length ∧ blobsOf (amap Sv.a M') = adel (blobsOf (amap Sv.a M)) k ∧ M'.length ≤ M.length + 16 ∧ Only (Mut s mb p c e) w w'
structure RoomD (p c e s mb Z L : Nat) (M : Al Sv) (ss : List (Nat × List UInt8)) (B : Int) (k : List UInt8) : Prop where
  len : M.length ≤ 3000
  three : ∀ q, Three p c e q → q ≠ s ∧ q ≠ mb
  zero : ¬ Mut s mb p c e 0
  small : 4 * ss.length * (66 + M.length) ≤ 990000
  secs : 3 ≤ ss.length
  refu : refuC [delC k] (Z - 12) = 0
  room : 4 * (liveX (amap Sv.a M) + roomL [delC k]) ≤ (ss.length - 2) * (Z - 12)
  b0 : B + 8 * (ss.length : Int) < 4294967295
  bL : B + 8 * (ss.length : Int) < (L : Int)

set_option maxHeartbeats 1000000 in
theorem rmDrop_room (s mb p c e Z L : Nat) (M : Al Sv) (h : HeadV) (ss : List (Nat × List UInt8)) (B : Int) (suite name : List UInt8) (w : World) (G : GoodR w s mb p c e Z L M h ss B)
    (hR : (rawQ suite name M).2 = 0 → RoomD p c e s mb Z L M ss B (keyL suite name)) (h1 : suite.length ≤ 1048576) (h2 : name.length ≤ 1048576) :
    Calls Tryz.prog 18 #[.pointer (some ⟨s, 0, none⟩), .string (strB suite), .string (strB name)] w fun e1 w' =>
      e1 = .returned (.int .i64 (rawQ suite name M).2) ∧ (((rawQ suite name M).2 ≠ 0 ∧ Below w.heap.size w w') ∨ ((rawQ suite name M).2 = 0 ∧ DelR s mb p c e Z L M ss B (keyL suite name) w w')) := by
  have CR := Lib.hid (rmRaw_any s mb p c e M h false suite name w G.g.st G.g.sizes.1 h1 h2)
  have hmt : ∀ q, w.heap.size ≤ q → ¬ Mut s mb p c e q := fun q hq hM => by have := G.g.mut_lt hM; omega
  obtain ⟨xs, er, hq⟩ : ∃ xs er, rawQ suite name M = (xs, er) := ⟨_, _, rfl⟩
  rw [hq] at CR hR ⊢
  simp only at hR ⊢
  have CK : Hid (∀ W, Calls Tryz.prog 43 #[.string (strB suite), .string (strB name)] W fun e w' => e = .returned (.string (strB (keyL suite name))) ∧ W = w') := Lib.hid (fun W => key_any suite name W h1 h2)
  have HMt := Lib.hid hmt
  have HG := Lib.hid G
  have HR := Lib.hid hR
  clear hmt G hR hq h1 h2
  go_enter Tryz.func18, Tryz.ntmps18
  go_wp2_with fail
  refine CR.out.mono ?_
  rintro e1 w1 ⟨⟨A1, c1_, rfl, hG⟩, hb1⟩
  have Hb1 := Lib.hid hb1
  clear hG hb1
  by_cases hz : er = 0
  · subst hz
    have hal : Below w1.heap.size w1 (w1.alloc (.cells #[.bool true, .string (strB (keyL suite name)), .slice none 0 0] 103)) := (Below.refl w1.heap.size w1).alloc (Nat.le_refl _) _
    have Hb2 := Lib.hid (Hb1.out.trans (hal.mono Hb1.out.size))
    have hCh := chs_lit (w := w1) (S := Mut s mb p c e) (delC (keyL suite name)) ⟨ByteSl.nil_ _ _ _ _ (by unfold maxLen; simp [delC]), fun _ => ⟨rfl, rfl⟩⟩ (HMt.out _ Hb1.out.size)
    have hRm := HR.out rfl
    have CC := Lib.hid (commit_room s mb p c e Z L M h ss B _ 1 1 _ _ (HG.out.below Hb2.out) hRm.len hCh (by omega) hRm.three hRm.zero hRm.small hRm.secs hRm.refu hRm.room hRm.b0 hRm.bL)
    clear hal hCh hRm
    go_wp2_with fail
    refine (CK.out _).mono ?_
    rintro e3 w3 ⟨rfl, rfl⟩
    go_wp2_with fail
    refine CC.out.mono ?_
    rintro e4 w4 ⟨rfl, M', h', ss', hG, hss, hX, hM', hO⟩
    have HD : Hid (DelR s mb p c e Z L M ss B (keyL suite name) w w4) := Lib.hid ⟨M', h', ss', hG, hss, hX, hM', (Only.of_below Hb2.out).trans' hO (fun i _ hi => hi)⟩
    clear hG hss hX hM' hO
    go_wp2
    go_ret
    exact ⟨rfl, HD.out⟩
  · have hq2 : (er != 0) = true := by simpa using hz
    have Hz := Lib.hid hz
    clear hz
    go_wp2
    go_ret
    exact ⟨rfl, Or.inl ⟨Hz.out, Hb1.out⟩⟩

end Go.Proofs.YtidbipbangifbaaGreatDoor

/- What stands in a store whose record stores were opened and dropped, plainly (layer 9). Nothing of the program. -/
namespace Go.Proofs.YtidbipbangifbaaGreatDoor
set_option maxRecDepth 100000
open Go.RowKit

def appB : List UInt8 := [97, 112, 112]
/-- An empty record store's bytes. -/
def rc0 : List UInt8 := rcB ⟨1, 0, []⟩
theorem rc0_len : rc0.length = 10 := by decide
theorem rc0_parse : parseQ rc0 = some ⟨1, 0, []⟩ := parse_put ⟨1, 0, []⟩ (by decide) (by decide) (by decide)

section
variable {α : Type}
theorem aput_perm (M : Al α) (k : List UInt8) (v : α) : (aput M k v).Perm ((k, v) :: adel M k) := ains_perm _ _
end
theorem keyL_inj {a n m : List UInt8} (h : keyL a n = keyL a m) : n = m := by
  unfold keyL at h
  exact List.append_cancel_left h
theorem keyL_app (n : List UInt8) : keyL appB n = [114, 47, 97, 112, 112, 47] ++ n := rfl
theorem name_no {s : List UInt8} (h : nameB s = true) : (47 : UInt8) ∉ s := by
  unfold nameB at h
  rw [Bool.and_eq_true] at h
  intro hm
  have := List.all_eq_true.1 h.2 _ hm
  revert this
  decide
/-- Whose keys look like the suite's. -/
theorem pre_app {s : List UInt8} (h : nameB s = true) (n : List UInt8) (hp : preB (keyL appB []) (keyL s n) = true) : s = appB := by
  have hno := name_no h
  unfold preB keyL at hp
  have hp := of_decide_eq_true hp
  simp only [appB, List.append_assoc, List.cons_append, List.nil_append, List.length_cons, List.length_nil, List.take_succ_cons, List.append_nil] at hp
  match s, hno with
  | [], _ => simp at hp
  | [a], _ => simp at hp
  | [a, b], _ => simp at hp
  | [a, b, c], _ =>
    simp at hp
    obtain ⟨rfl, rfl, rfl⟩ := hp
    rfl
  | a :: b :: c :: d :: t, hno =>
    simp at hp
    obtain ⟨-, -, -, rfl⟩ := hp
    exact absurd (by simp) hno

/-- The suite's stores, and what stands in the store. -/
structure NSt (H : List (List UInt8)) (Y : AB) : Prop where
  perm : (Y.map (·.1)).Perm (H.map (keyL appB))
  blob : ∀ q ∈ Y, q.2 = rc0
  nodup : H.Nodup
  name : ∀ n ∈ H, nameB n = true
  le : H.length ≤ 8
section
variable {H : List (List UInt8)} {Y : AB} {n : List UInt8}
theorem NSt.nil : NSt [] [] := ⟨.refl _, fun _ h => (by cases h), List.nodup_nil, fun _ h => (by cases h), by decide⟩
theorem NSt.mem (h : NSt H Y) : (∃ b, (keyL appB n, b) ∈ Y) ↔ n ∈ H := by
  have hm : keyL appB n ∈ Y.map (·.1) ↔ keyL appB n ∈ H.map (keyL appB) := h.perm.mem_iff
  constructor
  · rintro ⟨b, hb⟩
    obtain ⟨m, hm1, hm2⟩ := List.mem_map.1 (hm.1 (List.mem_map.2 ⟨_, hb, rfl⟩))
    rw [← keyL_inj hm2]
    exact hm1
  · intro hn
    obtain ⟨q, hq, he⟩ := List.mem_map.1 (hm.2 (List.mem_map.2 ⟨n, hn, rfl⟩))
    exact ⟨q.2, by rw [← he]; exact hq⟩
theorem afind_here {α : Type} {M : Al α} {k : List UInt8} {v : α} (h : (k, v) ∈ M) : ∃ u, afind M k = some u ∧ (k, u) ∈ M := by
  unfold afind
  cases hf : M.find? (fun p => p.1 == k) with
  | none => exact absurd (List.find?_eq_none.1 hf _ h) (by simp)
  | some p =>
    have h1 := List.find?_some hf
    have h2 : p.1 = k := by simpa using h1
    exact ⟨p.2, rfl, by rw [← h2]; exact List.mem_of_find?_eq_some hf⟩
theorem NSt.find (h : NSt H Y) : afind Y (keyL appB n) = if n ∈ H then some rc0 else none := by
  by_cases hn : n ∈ H
  · rw [if_pos hn]
    obtain ⟨b, hb⟩ := h.mem.2 hn
    obtain ⟨u, h1, h2⟩ := afind_here hb
    rw [h1, show u = rc0 from h.blob _ h2]
  · rw [if_neg hn]
    cases hf : afind Y (keyL appB n) with
    | none => rfl
    | some u => exact absurd (h.mem.1 ⟨u, afind_mem hf⟩) hn
theorem NSt.del (h : NSt H Y) : NSt (H.filter (fun m => decide (m ≠ n))) (adel Y (keyL appB n)) := by
  refine ⟨?_, fun q hq => h.blob q ((adel_mem _ _ _).1 hq).1, h.nodup.filter _, fun m hm => h.name m ((List.mem_filter.1 hm).1), Nat.le_trans (List.length_filter_le _ _) h.le⟩
  have h1 : (adel Y (keyL appB n)).map (·.1) = (Y.map (·.1)).filter (fun k => !(k == keyL appB n)) := by
    unfold adel
    rw [List.filter_map]
    rfl
  have h2 : (H.filter (fun m => decide (m ≠ n))).map (keyL appB) = (H.map (keyL appB)).filter (fun k => !(k == keyL appB n)) := by
    rw [List.filter_map]
    congr 1
    apply List.filter_congr
    intro m _
    simp only [Function.comp]
    by_cases hm : m = n
    · subst hm; simp
    · have : keyL appB m ≠ keyL appB n := fun e => hm (keyL_inj e)
      simp [hm, this]
  rw [h1, h2]
  exact h.perm.filter _
theorem adel_fresh (h : NSt H Y) (hn : n ∉ H) : adel Y (keyL appB n) = Y := adel_none (fun q hq e => hn (h.mem.1 ⟨q.2, by rw [← e]; exact hq⟩))
theorem NSt.put (h : NSt H Y) (hn : n ∉ H) (hb : nameB n = true) (hl : H.length < 8) : NSt (H ++ [n]) (aput Y (keyL appB n) rc0) := by
  have hp := aput_perm Y (keyL appB n) rc0
  rw [adel_fresh h hn] at hp
  refine ⟨?_, fun q hq => ?_, ?_, fun m hm => ?_, by rw [List.length_append]; exact hl⟩
  · refine (hp.map (·.1)).trans ?_
    rw [List.map_append, List.map_cons, List.map_cons, List.map_nil]
    exact (h.perm.cons _).trans (List.perm_append_singleton _ _).symm
  · rcases List.mem_cons.1 (hp.mem_iff.1 hq) with e | e
    · rw [e]
    · exact h.blob q e
  · rw [List.nodup_append]
    exact ⟨h.nodup, by simp, fun a ha b hb e => by rw [List.mem_singleton] at hb; rw [e, hb] at ha; exact hn ha⟩
  · rcases List.mem_append.1 hm with hm | hm
    · exact h.name m hm
    · rw [List.mem_singleton] at hm
      rw [hm]
      exact hb
end

/-! ### How much it is -/
def liveY (Y : AB) : Nat := (Y.map (fun q => q.1.length + q.2.length + 32)).sum
theorem live_blobs (X : AX) : liveX X = liveY (blobsOf X) := by
  unfold liveX liveY blobsOf amap sumX
  rw [List.map_map]
  induction X with
  | nil => rfl
  | cons q X ih =>
    simp only [List.map_cons, List.sum_cons, List.length_cons, Function.comp] at ih ⊢
    have : szX q = q.1.length + q.2.2.length + 16 := rfl
    omega
theorem live_perm {Y Y' : AB} (h : Y.Perm Y') : liveY Y = liveY Y' := by unfold liveY; induction h with | nil => rfl | cons x _ ih => simp only [List.map_cons, List.sum_cons]; omega | swap x y l => simp only [List.map_cons, List.sum_cons]; omega | trans _ _ ih1 ih2 => omega
theorem live_le (Y : AB) (k b : Nat) (h : ∀ q ∈ Y, q.1.length ≤ k ∧ q.2.length ≤ b) : liveY Y ≤ (k + b + 32) * Y.length := by
  induction Y with
  | nil => simp [liveY]
  | cons q Y ih =>
    have h1 := h q (List.mem_cons_self ..)
    have h2 := ih (fun q hq => h q (List.mem_cons_of_mem _ hq))
    unfold liveY at *
    rw [List.map_cons, List.sum_cons, List.length_cons, Nat.mul_add]
    omega
theorem name_len {s : List UInt8} (h : nameB s = true) : s.length ≤ 16 := by
  unfold nameB at h
  rw [Bool.and_eq_true] at h
  exact (of_decide_eq_true h.1).2
theorem NSt.len {H : List (List UInt8)} {Y : AB} (h : NSt H Y) : Y.length = H.length := by
  have := h.perm.length_eq
  simpa using this
theorem NSt.live {H : List (List UInt8)} {Y : AB} (h : NSt H Y) : liveY Y ≤ 64 * H.length := by
  have h1 := live_le Y 22 10 (fun q hq => by
    have h2 : q.1 ∈ H.map (keyL appB) := h.perm.mem_iff.1 (List.mem_map.2 ⟨q, hq, rfl⟩)
    obtain ⟨m, hm, he⟩ := List.mem_map.1 h2
    have h3 := name_len (h.name m hm)
    have h4 : (keyL appB m).length = 6 + m.length := by rw [keyL_len]; rfl
    rw [← he, h.blob q hq, rc0_len, h4]
    omega)
  rw [h.len] at h1
  exact h1

/-! ### Which names a store tells -/
def namesK (suite : List UInt8) (K : List (List UInt8)) : List (List UInt8) := namesL (keyL suite []) (K.filter (preB (keyL suite [])))
theorem namesR_K {suite : List UInt8} (hs : nameB suite = true) (M : Al Sv) : namesR suite M = namesK suite ((blobsOf (amap Sv.a M)).map (·.1)) := by
  unfold namesR namesK keysOf
  rw [if_pos hs]
  congr 2
  unfold blobsOf amap
  rw [List.map_map, List.map_map]
  rfl
theorem namesK_perm (suite : List UInt8) {K K' : List (List UInt8)} (h : K.Perm K') : (namesK suite K).length = (namesK suite K').length := by
  unfold namesK namesL
  exact (((h.filter _).map _).filter _).length_eq
theorem namesK_app : ∀ (H : List (List UInt8)), (∀ n ∈ H, nameB n = true) → (namesK appB (H.map (keyL appB))).length = H.length := by
  intro H hn
  induction H with
  | nil => rfl
  | cons m H ih =>
    have h1 : preB (keyL appB []) (keyL appB m) = true := by
      unfold preB
      rw [keyL_app, keyL_app]
      simp
    have h2 : trimL (keyL appB []) (keyL appB m) = m := by
      unfold trimL
      rw [if_pos h1, keyL_app, keyL_app]
      simp
    have ih := ih (fun n h => hn n (List.mem_cons_of_mem _ h))
    unfold namesK namesL at *
    rw [List.map_cons, List.filter_cons_of_pos h1, List.map_cons, h2, List.filter_cons_of_pos (hn m (List.mem_cons_self ..)), List.length_cons, List.length_cons, ih]
theorem namesK_other {suite : List UInt8} (hs : nameB suite = true) (hne : suite ≠ appB) (n : List UInt8) (K : List (List UInt8)) : namesK appB (keyL suite n :: K) = namesK appB K := by
  unfold namesK
  rw [List.filter_cons_of_neg (fun h => hne (pre_app hs n h))]
theorem NSt.names {H : List (List UInt8)} {M : Al Sv} (h : NSt H (blobsOf (amap Sv.a M))) : (namesR appB M).length = H.length := by
  rw [namesR_K (by decide), namesK_perm appB h.perm, namesK_app H h.name]
theorem NSt.raw {H : List (List UInt8)} {M : Al Sv} (h : NSt H (blobsOf (amap Sv.a M))) (n : List UInt8) : rawQ appB n M = if nameB n = true then (if n ∈ H then (rc0, 0) else ([], 11)) else ([], 13) := by
  by_cases hn : nameB n = true
  · rw [if_pos hn, rawQ_blobs (by decide) hn, h.find]
    by_cases hm : n ∈ H
    · rw [if_pos hm, if_pos hm]
    · rw [if_neg hm, if_neg hm]
  · rw [if_neg hn]
    unfold rawQ
    rw [if_neg (fun h => hn h.2)]
theorem NSt.stored {H : List (List UInt8)} {M : Al Sv} (h : NSt H (blobsOf (amap Sv.a M))) (n : List UInt8) : storedQ appB n M = if nameB n = true then (if n ∈ H then (some ⟨1, 0, []⟩, 8) else (none, 11)) else (none, 13) := by
  unfold storedQ
  rw [h.raw n]
  by_cases hn : nameB n = true
  · rw [if_pos hn, if_pos hn]
    by_cases hm : n ∈ H
    · rw [if_pos hm, if_pos hm, if_pos rfl, rc0_parse]
    · rw [if_neg hm, if_neg hm]
      rfl
  · rw [if_neg hn, if_neg hn]
    rfl
/-- A change of one short key is none that is refused. -/
theorem refu_put (k b : List UInt8) (A : Option Addr) (c2 Z : Nat) (h1 : 1 ≤ k.length) (h2 : k.length ≤ 64) (hb : b.length ≤ 60) (hZ : 380 ≤ Z) : refuC [putC k A c2 b] Z = 0 := by
  have hs : (strB k).size = k.length := aa_size k
  have hm : (putC k A c2 b).may = true := by
    unfold Ch.may
    rw [mayB_iff]
    show _
    simp only [putC, Ch.rk, Ch.rN, hs]
    simp
    omega
  unfold refuC
  rw [if_neg (by simp [hm]), if_neg (by simp [dupB]), if_neg]
  unfold roomL
  have : (putC k A c2 b).sz = k.length + b.length + 16 := by simp [Ch.sz, putC, Ch.rN, hs]
  simp only [List.map_cons, List.map_nil, List.sum_cons, List.sum_nil, this]
  omega
theorem refu_del (k : List UInt8) (Z : Nat) (h1 : 1 ≤ k.length) (h2 : k.length ≤ 64) (hZ : 380 ≤ Z) : refuC [delC k] Z = 0 := by
  have hs : (strB k).size = k.length := aa_size k
  have hm : (delC k).may = true := by
    unfold Ch.may
    rw [mayB_iff]
    show _
    simp only [delC, Ch.rk, Ch.rN, hs]
    simp
    omega
  unfold refuC
  rw [if_neg (by simp [hm]), if_neg (by simp [dupB]), if_neg]
  unfold roomL
  have : (delC k).sz = k.length + 16 := by simp [Ch.sz, delC, Ch.rN, hs]
  simp only [List.map_cons, List.map_nil, List.sum_cons, List.sum_nil, this]
  omega

/-- There is room. -/
theorem room_of {p c er s mb Z L : Nat} {M : Al Sv} {ss : List (Nat × List UInt8)} {B : Int} {k b : List UInt8} (hlen : M.length ≤ 100) (three : ∀ q, Three p c er q → q ≠ s ∧ q ≠ mb) (zero : ¬ Mut s mb p c er 0) (h3 : 3 ≤ ss.length) (h8 : ss.length ≤ 8)
    (hk : 1 ≤ k.length ∧ k.length ≤ 64) (hb : b.length ≤ 60) (hZ : 392 ≤ Z) (hY : 4 * (liveY (blobsOf (amap Sv.a M)) + (k.length + b.length + 32)) ≤ (ss.length - 2) * (Z - 12)) (hB : B ≤ 50000) (hL : L = 100000) : RoomC p c er s mb Z L M ss B k b := by
  refine ⟨by omega, three, zero, ?_, h3, fun A c2 => refu_put k b A c2 _ hk.1 hk.2 hb (by omega), fun A c2 => ?_, by omega, by omega⟩
  · have h1 : 4 * ss.length * (66 + M.length) ≤ 32 * 166 := Nat.mul_le_mul (by omega) (by omega)
    omega
  · rw [live_blobs]
    have h1 : (putC k A c2 b).sz = k.length + b.length + 16 := by simp [Ch.sz, putC, Ch.rN, aa_size k]
    unfold roomL
    simp only [List.map_cons, List.map_nil, List.sum_cons, List.sum_nil, h1]
    omega
theorem roomD_of {p c er s mb Z L : Nat} {M : Al Sv} {ss : List (Nat × List UInt8)} {B : Int} {k : List UInt8} (hlen : M.length ≤ 100) (three : ∀ q, Three p c er q → q ≠ s ∧ q ≠ mb) (zero : ¬ Mut s mb p c er 0) (h3 : 3 ≤ ss.length) (h8 : ss.length ≤ 8)
    (hk : 1 ≤ k.length ∧ k.length ≤ 64) (hZ : 392 ≤ Z) (hY : 4 * (liveY (blobsOf (amap Sv.a M)) + (k.length + 32)) ≤ (ss.length - 2) * (Z - 12)) (hB : B ≤ 50000) (hL : L = 100000) : RoomD p c er s mb Z L M ss B k := by
  refine ⟨by omega, three, zero, ?_, h3, refu_del k _ hk.1 hk.2 (by omega), ?_, by omega, by omega⟩
  · have h1 : 4 * ss.length * (66 + M.length) ≤ 32 * 166 := Nat.mul_le_mul (by omega) (by omega)
    omega
  · rw [live_blobs]
    have h1 : (delC k).sz = k.length + 16 := by simp [Ch.sz, delC, Ch.rN, aa_size k]
    unfold roomL
    simp only [List.map_cons, List.map_nil, List.sum_cons, List.sum_nil, h1]
    omega
theorem len_blobs (M : Al Sv) : (blobsOf (amap Sv.a M)).length = M.length := by unfold blobsOf amap; simp

end Go.Proofs.YtidbipbangifbaaGreatDoor
