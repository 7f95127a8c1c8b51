/- Where there is room: a commit is done, and the store is as ever. -/
import Derived.Test.YtidbipbangifbaaGreatDoorZbk
import Derived.Test.YtidbipbangifbaaGreatDoorZbc
import Derived.Lib.SlBytesConst
namespace Go.Proofs.YtidbipbangifbaaGreatDoor
set_option maxRecDepth 100000
open Go.RowKit Go.Maps

abbrev AB := Al (List UInt8)
/-- Keys and their blobs alone. -/
def blobsOf (X : AX) : AB := amap (·.2) X
def applyB (Y : AB) (f : Ch) : AB := if f.del then adel Y f.s.data.toList else aput Y f.s.data.toList f.blob
def applyBL (Y : AB) (l : List Ch) : AB := l.foldl applyB Y
def Srt {α : Type} (X : Al α) : Prop := X.Pairwise (fun p q => bytesBefore p.1 q.1 = true)
theorem Srt.amap {α β : Type} {X : Al α} (h : Srt X) (f : α → β) : Srt (amap f X) := List.pairwise_map.2 h
theorem srt_amap {α β : Type} {X : Al α} (f : α → β) (h : Srt (amap f X)) : Srt X := List.pairwise_map.1 h
theorem blobs_applyL (k : Int) : ∀ (l : List Ch) (X : AX), blobsOf (applyL X l k) = applyBL (blobsOf X) l
  | [], _ => rfl
  | f :: l, X => by
    show blobsOf (applyL (applyA X f k) l k) = applyBL (applyB (blobsOf X) f) l
    rw [blobs_applyL k l (applyA X f k)]
    congr 1
    unfold applyA applyB blobsOf
    split
    · exact adel_map _ _ _
    · exact aput_map _ _ _ _
theorem adel_none {α : Type} {X : Al α} {k : List UInt8} (h : ∀ q ∈ X, q.1 ≠ k) : adel X k = X := by
  unfold adel
  rw [List.filter_eq_self]
  intro q hq
  have := h q hq
  simpa using this
theorem ains_first {α : Type} {X : Al α} (p : List UInt8 × α) (h : ∀ q ∈ X, bytesBefore p.1 q.1 = true) : ains p X = p :: X := by
  cases X with
  | nil => rfl
  | cons q r =>
    unfold ains
    rw [if_pos (h q (List.mem_cons_self ..))]
theorem before_irr (a : List UInt8) : ¬ bytesBefore a a = true := fun h => List.lt_irrefl _ (before_lt _ _ h)
theorem before_anti {a b : List UInt8} (h : bytesBefore a b = true) : ¬ bytesBefore b a = true := fun h2 => List.lt_irrefl _ (List.lt_trans (before_lt _ _ h) (before_lt _ _ h2))
theorem before_ne {a b : List UInt8} (h : bytesBefore a b = true) : a ≠ b := fun he => before_irr b (by rw [he] at h; exact h)
/-- A key is put whose blob is the same. -/
theorem aput_same {α : Type} : ∀ {X : Al α} {k : List UInt8} {v : α}, Srt X → afind X k = some v → aput X k v = X
  | [], _, _, _, h => by cases h
  | q :: X, k, v, hs, h => by
    have hs' := List.pairwise_cons.1 hs
    by_cases hk : q.1 = k
    · have hqv : q = (k, v) := by
        unfold afind at h
        rw [List.find?_cons_of_pos (by simpa using hk)] at h
        simp only [Option.map_some, Option.some.injEq] at h
        exact Prod.ext hk h
      have hno : ∀ r ∈ X, r.1 ≠ k := fun r hr he => before_ne (hs'.1 r hr) (by rw [hk, he])
      unfold aput
      have h1 : adel (q :: X) k = X := by
        have h2 : adel (q :: X) k = adel X k := by
          unfold adel
          rw [List.filter_cons_of_neg (by simpa using hk)]
        rw [h2, adel_none hno]
      rw [h1, ains_first _ (fun r hr => by have := hs'.1 r hr; rw [hk] at this; exact this), hqv]
    · have h1 : afind X k = some v := by
        unfold afind at h ⊢
        rw [List.find?_cons_of_neg (by simpa using hk)] at h
        exact h
      have ih := aput_same hs'.2 h1
      have hb : bytesBefore q.1 k = true := hs'.1 (k, v) (afind_mem h1)
      unfold aput at ih ⊢
      have h2 : adel (q :: X) k = q :: adel X k := by
        unfold adel
        rw [List.filter_cons_of_pos (by simpa using hk)]
      rw [h2]
      unfold ains
      rw [if_neg (before_anti hb), ih]
theorem blobs_reSec1 {j : Int} {X : AX} {k : List UInt8} (hs : Srt (blobsOf X)) (hk : (afind X k).isSome = true) : blobsOf (reSec1 j X k) = blobsOf X := by
  unfold reSec1 blobsOf
  rw [aput_map]
  obtain ⟨v, hv, _⟩ := mem_of_isSome hk
  refine aput_same hs ?_
  rw [afind_map, hv]
  rfl
theorem blobs_reSecL {j : Int} : ∀ (ks : List (List UInt8)) {X : AX}, Srt (blobsOf X) → (∀ k ∈ ks, (afind X k).isSome = true) → blobsOf (reSecL j X ks) = blobsOf X
  | [], _, _, _ => rfl
  | k :: ks, X, hs, hk => by
    have h1 := blobs_reSec1 (j := j) hs (hk k (List.mem_cons_self ..))
    have h2 := blobs_reSecL (j := j) ks (X := reSec1 j X k) (by rw [h1]; exact hs) (fun x hx => keep_reSec1 (hk x (List.mem_cons_of_mem _ hx)))
    exact h2.trans h1
theorem blobs_reSecK : ∀ (K : List (List (List UInt8))) (j : Nat) {X : AX}, Srt (blobsOf X) → (∀ ks ∈ K, ∀ k ∈ ks, (afind X k).isSome = true) → blobsOf (reSecK j X K) = blobsOf X
  | [], _, _, _, _ => rfl
  | ks :: K, j, X, hs, hk => by
    have h1 := blobs_reSecL (j := (j : Int)) ks hs (hk ks (List.mem_cons_self ..))
    have h2 := blobs_reSecK K (j + 1) (X := reSecL (j : Int) X ks) (by rw [h1]; exact hs) (fun x hx y hy => keep_reSecL ks (hk x (List.mem_cons_of_mem _ hx) y hy))
    exact h2.trans h1

/-- A store that commits have made none of whose sectors is worn. -/
structure GoodR (w : World) (s mb p c e Z L : Nat) (M : Al Sv) (h : HeadV) (ss : List (Nat × List UInt8)) (B : Int) : Prop where
  g : GoodX w s mb p c e Z L M h ss
  r : RX Z B (amap Sv.a M) h (secsOf ss)
  free : 1 ≤ (secsOf ss).countP (opensB (L : Int))
/-- A commit that is done. -/
def DoneR (s mb p c e Z L : Nat) (M : Al Sv) (ss : List (Nat × List UInt8)) (B : Int) (l : List Ch) (w w' : World) (e1 : Ending) : Prop :=
  e1 = .returned (.int .i64 0) ∧ ∃ M' h' ss', GoodR w' s mb p c e Z L M' h' ss' (B + 8 * (ss.length : Int)) ∧ ss'.length = ss.length ∧ blobsOf (amap Sv.a M') = applyBL (blobsOf (amap Sv.a M)) l ∧ M'.length ≤ M.length + 16 ∧ Only (Mut s mb p c e) w w'

section
variable {w w' : World} {s mb p c e Z L : Nat} {M : Al Sv} {h : HeadV} {ss : List (Nat × List UInt8)} {B : Int}
theorem GoodR.below (g : GoodR w s mb p c e Z L M h ss B) (b : Below w.heap.size w w') : GoodR w' s mb p c e Z L M h ss B := ⟨g.g.below b, g.r, g.free⟩
theorem Outcome.room {l : List Ch} {e1 : Ending} (hO : Outcome s mb p c e Z L M h ss l w w' e1) (G : GoodR w s mb p c e Z L M h ss B) (h3 : 3 ≤ ss.length) (href : refuC l (Z - 12) = 0) (hroom : 4 * (liveX (amap Sv.a M) + roomL l) ≤ (ss.length - 2) * (Z - 12))
    (hB : B + 8 * (ss.length : Int) < 4294967295) (hL : B + 8 * (ss.length : Int) < (L : Int)) (hb : ∀ f ∈ l, f.blob.length = f.n) : DoneR s mb p c e Z L M ss B l w w' e1 := by
  have hgeo := G.g.geo
  have hz0 := hgeo.z0
  have hr0 := refuC_zero href
  have hr2 : 2 * roomL l ≤ Z - 12 := by have := hr0.2.2.2.2; omega
  have hr1 : 0 < roomL l := by unfold roomL; omega
  have hsl : (secsOf ss).length = ss.length := secsOf_len ss
  have hRB := G.r.start G.g
  have hRS : RS Z M B (lastQ (secsOf ss)) ⟨secsOf ss, h, []⟩ (kbsL M ss.length (M.map (·.1))) := ⟨hRB, Int.le_refl _, fun j x ks hj hx hq _ => by
    have h9 : x.q ≤ lastQ (secsOf ss) := lastQ_ge (List.mem_of_getElem? hj) hx
    exact absurd h9 (Int.not_le.2 hq)⟩
  have hcnt : (secsOf ss).countP (oldB (lastQ (secsOf ss))) ≤ ss.length := by rw [← hsl]; exact List.countP_le_length
  have hrounds := fun (b : Bool) (PF : PV) (KF : List (List (List UInt8))) => rounds_room (L := L) (lastQ (secsOf ss)) (room := (roomL l : Int)) (4 * ss.length) B ⟨secsOf ss, h, []⟩ (kbsL M ss.length (M.map (·.1))) b PF KF hRS (by show (secsOf ss).countP _ + 1 ≤ _; omega) G.free (by show 3 ≤ (secsOf ss).length; omega) (by omega)
    (by rw [totW_start G.g]; show _ ≤ ((secsOf ss).length - 2) * _; rw [hsl]; omega) (by omega) (by omega) (by omega)
  have hX : Srt (blobsOf (amap Sv.a M)) := Srt.amap (Srt.amap G.g.st.map.sorted _) _
  rcases hO with ⟨h9, _⟩ | ⟨_, _, _, _, PF, KF, h9⟩ | ⟨_, rfl, PF, KF, M', h', ss', k, o, hpl, hG', hss, hX', hM', hl, hor, hh', hs', hkey, hkl, hon, _, hsec, hpl2⟩
  · exact absurd href h9
  · obtain ⟨h8, _⟩ := hrounds _ _ _ h9
    cases h8
  · refine ⟨rfl, M', h', ss', ?_, hss, ?_, hM', hon⟩
    · have hsome : ∀ ks ∈ KF, ∀ k ∈ ks, (afind (amap Sv.a M) k).isSome = true := fun ks hks k hk => by
        rw [afind_map, Option.isSome_map]
        exact (hkey ks hks k hk).2.2
      have hrx : RX Z (B + 8 * (ss.length : Int)) (reSecK 0 (amap Sv.a M) KF) PF.h (secsOf ss') ∧ 1 ≤ (secsOf ss').countP (opensB (L : Int)) := by
        rcases hpl with ⟨_, rfl, rfl⟩ | ⟨htk, hR⟩
        · have e1 : secsOf ss' = secsOf ss := hsec
          rw [e1]
          refine ⟨?_, G.free⟩
          exact ⟨G.r.z, G.r.clean, fun x hx => by have := G.r.er x hx; omega, by have := G.r.lq; omega, G.r.blank, G.r.fit, G.r.small, G.r.hd⟩
        · obtain ⟨_, h6, h7, _, h8⟩ := hrounds _ _ _ hR
          have e1 : PF.l = secsOf ss' := (hpl2 htk).trans hsec.symm
          have h5 := RB.told G.g h6 hkey (fun x hx => h8 x (cov_start G.g hx))
          rw [e1] at h5 h7
          refine ⟨?_, h7⟩
          have e2 : B + 2 * ((4 * ss.length : Nat) : Int) = B + 8 * (ss.length : Int) := by omega
          rw [e2] at h5
          exact h5
      have hc := hrx.1.commit (h' := h') (k := k) (o := o) (l := l) hl.sec hl.left hl.le hr1 hor hr0.2.1 hb hr2 (by rw [hh']; exact hl.sec) (by rw [hh']; show _ - (roomL _ : Int) = _; rw [nm_sz]) (by rw [hh']; rfl)
      rw [← hX'] at hc
      exact ⟨hG', hc, hrx.2⟩
    · rw [hX', blobs_applyL, blobs_reSecK KF 0 hX (fun ks hks k hk => by rw [afind_map, Option.isSome_map]; exact (hkey ks hks k hk).2.2)]
end

/-- A commit that there is room for is done. -/
theorem commit_room (s mb p c e Z L : Nat) (M : Al Sv) (h : HeadV) (ss : List (Nat × List UInt8)) (B : Int) (A : Option Addr) (n cap : Nat) (l : List Ch) (w : World) (G : GoodR w s mb p c e Z L M h ss B) (hM : M.length ≤ 3000)
    (hC : Chs w (Mut s mb p c e) A n cap l) (hn : n ≤ 1048576) (hT : ∀ q, Three p c e q → q ≠ s ∧ q ≠ mb) (h0 : ¬ Mut s mb p c e 0) (hS : 4 * ss.length * (66 + M.length) ≤ 990000) (h3 : 3 ≤ ss.length) (href : refuC l (Z - 12) = 0)
    (hroom : 4 * (liveX (amap Sv.a M) + roomL l) ≤ (ss.length - 2) * (Z - 12)) (hB : B + 8 * (ss.length : Int) < 4294967295) (hL : B + 8 * (ss.length : Int) < (L : Int)) :
    Calls Tryz.prog 42 #[.pointer (some ⟨s, 0, none⟩), .slice A n cap] w fun e1 w' => DoneR s mb p c e Z L M ss B l w w' e1 :=
  (commit_any s mb p c e Z L M h ss A n cap l w G.g hM hC hn hT h0 hS).mono fun _ _ hO => hO.room G h3 href hroom hB hL (fun f hf => (hC.2.2.2.2 f hf).1.1)

end Go.Proofs.YtidbipbangifbaaGreatDoor

/- A commit for which no sector has to be cleaned is done. -/
namespace Go.Proofs.YtidbipbangifbaaGreatDoor
set_option maxRecDepth 100000
open Go.RowKit Go.Maps

section
variable {w w' : World} {s mb p c e Z L : Nat} {M : Al Sv} {h : HeadV} {ss : List (Nat × List UInt8)}
theorem Outcome.easy {l : List Ch} {e1 : Ending} (hO : Outcome s mb p c e Z L M h ss l w w' e1) (G : GoodX w s mb p c e Z L M h ss) (href : refuC l (Z - 12) = 0) (h2 : takesB h (roomL l : Int) = false → 2 ≤ (secsOf ss).countP (opensB (L : Int)) ∧ lastQ (secsOf ss) ≠ 4294967295) :
    e1 = .returned (.int .i64 0) ∧ ∃ M' h' ss', GoodX w' s mb p c e Z L M' h' ss' ∧ ss'.length = ss.length ∧ blobsOf (amap Sv.a M') = applyBL (blobsOf (amap Sv.a M)) l ∧ M'.length ≤ M.length + 16 ∧ Only (Mut s mb p c e) w w' := by
  have hr0 := refuC_zero href
  have hX : Srt (blobsOf (amap Sv.a M)) := Srt.amap (Srt.amap G.st.map.sorted _) _
  have hbz := G.fs.bz
  rcases hO with ⟨h9, _⟩ | ⟨_, _, _, htk, PF, KF, h9⟩ | ⟨_, rfl, PF, KF, M', h', ss', k, o, hpl, hG', hss, hX', hM', hl, hor, hh', hs', hkey, hkl, hon, _⟩
  · exact absurd href h9
  · obtain ⟨h3, h4⟩ := h2 htk
    obtain ⟨n, hn⟩ : ∃ n, 4 * ss.length = n + 1 := ⟨4 * ss.length - 1, by omega⟩
    rw [hn] at h9
    obtain ⟨h5, _⟩ := one_round (P := ⟨secsOf ss, h, []⟩) h3 h4 (by have := hr0.2.2.2.2; omega) h9
    cases h5
  · refine ⟨rfl, M', h', ss', hG', hss, ?_, hM', hon⟩
    rw [hX', blobs_applyL, blobs_reSecK KF 0 hX (fun ks hks k hk => by rw [afind_map, Option.isSome_map]; exact (hkey ks hks k hk).2.2)]
end
theorem opens_fresh {S Z L : Nat} (hz : 12 ≤ Z) (hS : 2 ≤ S) : 2 ≤ (secsOf (freshS S Z)).countP (opensB (L : Int)) ∧ lastQ (secsOf (freshS S Z)) ≠ 4294967295 := by
  rw [fresh_count S Z L hz, fresh_last S Z hz]
  exact ⟨hS, by decide⟩
theorem freshS_len (S Z : Nat) : (freshS S Z).length = S := List.length_replicate

/-- A store with one blob. -/
theorem one_blob {M : Al Sv} {k b : List UInt8} (h : blobsOf (amap Sv.a M) = [(k, b)]) : ∃ f : Sv, M = [(k, f)] ∧ f.xs = b := by
  unfold blobsOf amap at h
  rw [List.map_map] at h
  obtain ⟨q, M', rfl, h1, h2⟩ := List.map_eq_cons_iff.1 h
  rw [List.map_eq_nil_iff] at h2
  subst h2
  obtain ⟨k', f⟩ := q
  have h3 : k' = k := congrArg (·.1) h1
  have h4 : f.xs = b := congrArg (·.2) h1
  exact ⟨f, by rw [h3], h4⟩

/-- A change that was just laid. -/
theorem chs_lit {w : World} {S : Nat → Prop} (f : Ch) (hb : ByteSl w S f.A f.n f.cap f.blob ∧ (f.A = none → f.n = 0 ∧ f.cap = 0)) (hS : ¬ S w.heap.size) :
    Chs (w.alloc (.cells #[.bool f.del, .string f.s, .slice f.A f.n f.cap] 103)) S (some ⟨w.heap.size, 0, none⟩) 1 1 [f] := by
  have hB := Blk.new w 103 #[.bool f.del, .string f.s, .slice f.A f.n f.cap]
  refine ⟨rfl, by decide, by decide, fun _ => ⟨_, _, rfl, hB.lt, hS, fun i g hi j hj => ?_⟩, fun g hg => ?_⟩
  · cases i with
    | succ i => simp at hi
    | zero =>
      simp at hi
      subst hi
      have hc := hB.cell j
      simp only [Nat.zero_mul, Nat.zero_add]
      rw [hc]
      have hj3 : j = 0 ∨ j = 1 ∨ j = 2 := by omega
      rcases hj3 with rfl | rfl | rfl <;> rfl
  · rw [List.mem_singleton.1 hg]
    exact ⟨hb.1.only (Only.of_below (S := Empty) ((Below.refl w.heap.size w).alloc (Nat.le_refl _) _)) (fun _ _ h => h.elim), hb.2⟩

end Go.Proofs.YtidbipbangifbaaGreatDoor

/- The walk over rms.keep. -/
namespace Go.Proofs.YtidbipbangifbaaGreatDoor
set_option maxRecDepth 100000
open Go.RowKit

/-- A key is put. -/
def putC (k : List UInt8) (A : Option Addr) (c : Nat) (b : List UInt8) : Ch := ⟨false, strB k, A, b.length, c, b⟩

set_option maxHeartbeats 1000000 in
/-- A record store that may be is kept: what its commit does is done. -/
theorem rmKeep_yes (s : Nat) (S : Nat → Prop) (P : World → Ending → World → Prop) (suite name : List UInt8) (next version : Nat) (A : Option Addr) (n cap : Nat) (l : List EntM) (w : World) (hn : next ≤ 4294967295) (hv : version ≤ 4294967295) (hL : EntsAt w Empty A n cap l) (hm : mayP ⟨next, version, l.map EntM.p⟩ = true)
    (hS : ∀ q, w.heap.size ≤ q → ¬ S q) (h1 : suite.length ≤ 1048576) (h2 : name.length ≤ 1048576) (hP : ∀ W e w', P W e w' → ∃ E : Int, e = .returned (.int .i64 E))
    (CC : ∀ W A1 A2 c2, Below w.heap.size w W → Chs W S A1 1 1 [putC (keyL suite name) A2 c2 (rcB ⟨next, version, l.map EntM.p⟩)] → Calls Tryz.prog 42 #[.pointer (some ⟨s, 0, none⟩), .slice A1 1 1] W (P W)) :
    Calls Tryz.prog 55 #[.pointer (some ⟨s, 0, none⟩), .string (strB suite), .string (strB name), Rec_ next version A n cap] w fun e w' => ∃ W, Below w.heap.size w W ∧ P W e w' := by
  obtain ⟨b, hb⟩ : ∃ b, rcB ⟨next, version, l.map EntM.p⟩ = b := ⟨_, rfl⟩
  have hal : Below w.heap.size w (w.alloc (.cells #[.int .u32 (next : Int), .int .u32 (version : Int), .slice A n cap] 31)) := (Below.refl w.heap.size w).alloc (Nat.le_refl _) _
  have CB := Lib.hid (rmBytes_yes next version A n cap l _ hn hv (hL.below hal) hm)
  rw [hb] at CB CC
  have CK : Hid (∀ W, Calls Tryz.prog 43 #[.string (strB suite), .string (strB name)] W fun e w' => e = .returned (.string (strB (keyL suite name))) ∧ W = w') := Lib.hid (fun W => key_any suite name W h1 h2)
  have CC := Lib.hid CC
  have HS := Lib.hid hS
  have HP := Lib.hid hP
  have Hal := Lib.hid hal
  clear hL hm hS hP hb hal h1 h2
  unfold Rec_
  go_enter Tryz.func55, Tryz.ntmps55
  go_wp2_with fail
  refine CB.out.mono ?_
  rintro e1 w1 ⟨⟨u, rfl, ho⟩, hb1⟩
  have Hb1 := Lib.hid (Hal.out.trans (hb1.mono Hal.out.size))
  obtain ⟨A2, c2, rfl, hB2, hg⟩ := ByteSl.of_own (S := S) ho (fun q hq _ => HS.out q (Nat.le_trans Hal.out.size hq))
  have hN : A2 = none → b.length = 0 ∧ c2 = 0 := by
    intro e
    subst e
    rcases ho.2 with ⟨e, h0⟩ | ⟨g, c3, cur, e, _⟩
    · simp only [Value.slice.injEq] at e
      exact ⟨e.2.1, e.2.2⟩
    · simp at e
  have hCh := Lib.hid (chs_lit (w := w1) (S := S) (putC (keyL suite name) A2 c2 b) ⟨hB2, hN⟩ (HS.out _ (Nat.le_trans Hal.out.size hb1.size)))
  have hal2 : Below w1.heap.size w1 (w1.alloc (.cells #[.bool false, .string (strB (keyL suite name)), .slice A2 b.length c2] 103)) := (Below.refl w1.heap.size w1).alloc (Nat.le_refl _) _
  have Hb2 := Lib.hid (Hb1.out.trans (hal2.mono Hb1.out.size))
  have C3 := Lib.hid (CC.out _ _ A2 c2 Hb2.out hCh.out)
  clear ho hb1 hB2 hg hN hal2
  go_wp2_with fail
  refine (CK.out _).mono ?_
  rintro e3 w3 ⟨rfl, rfl⟩
  go_wp2_with fail
  refine C3.out.mono ?_
  intro e4 w4 h4
  obtain ⟨E, rfl⟩ := HP.out _ _ _ h4
  have H4 := Lib.hid h4
  clear h4
  go_wp2
  go_ret
  exact ⟨_, Hb2.out, H4.out⟩

end Go.Proofs.YtidbipbangifbaaGreatDoor

/- The walk over law 08's fixed. -/
namespace Go.Proofs.YtidbipbangifbaaGreatDoor
set_option maxRecDepth 100000
open Go.RowKit Go.Maps

set_option maxHeartbeats 1000000 in
theorem mount_nil (w : World) : Calls Tryz.prog 10 #[.pointer none] w fun e1 w' => e1 = .returned (.tuple #[.pointer none, .int .i64 1]) ∧ Below w.heap.size w w' := by
  go_enter Tryz.func10, Tryz.ntmps10
  go_wp2_with fail
  go_ret2
  exact ⟨rfl, Below.refl _ _⟩

/-- The change of the law's fixed. -/
def fixCh (g : Nat) : Ch := ⟨false, ⟨#[97]⟩, some ⟨g, 0, none⟩, 2, 2, [120, 121]⟩
theorem fix_refu (g : Nat) : refuC [fixCh g] 116 = 0 := by rfl
theorem fix_room (g : Nat) : roomL [fixCh g] = 35 := by rfl


end Go.Proofs.YtidbipbangifbaaGreatDoor

/- The walks over a nil store's calls; over Sectors. -/
namespace Go.Proofs.YtidbipbangifbaaGreatDoor
set_option maxRecDepth 100000
open Go.RowKit Go.Maps

theorem get_nil (k : ByteArray) (w : World) : Calls Tryz.prog 73 #[.pointer none, .string k] w fun e1 w' => e1 = .returned (.tuple #[.slice none 0 0, .bool false]) ∧ Below w.heap.size w w' := by
  go_enter Tryz.func73, Tryz.ntmps73
  go_wp2_with fail
  go_ret2
  exact ⟨rfl, Below.refl _ _⟩
theorem keys_nil (k : ByteArray) (w : World) : Calls Tryz.prog 45 #[.pointer none, .string k] w fun e1 w' => e1 = .returned (.slice none 0 0) ∧ Below w.heap.size w w' := by
  go_enter Tryz.func45, Tryz.ntmps45
  go_wp2_with fail
  go_ret
  exact ⟨rfl, Below.refl _ _⟩
theorem commit_nil (A : Option Addr) (n cap : Nat) (w : World) : Calls Tryz.prog 42 #[.pointer none, .slice A n cap] w fun e1 w' => e1 = .returned (.int .i64 5) ∧ Below w.heap.size w w' := by
  go_enter Tryz.func42, Tryz.ntmps42
  go_wp2_with fail
  refine (down_nil w).mono ?_
  rintro e1 w1 ⟨rfl, rfl⟩
  go_wp2_with fail
  go_ret
  exact ⟨rfl, Below.refl _ _⟩


/-- A store's blobs lie in no block whose first cell is no byte. -/
theorem BlobsAt.apart {w : World} {S : Nat → Prop} {M : Al Sv} (h : BlobsAt w S M) {g : Nat} {t : TypeId} {cs : Array Value} (hB : Blk w g t cs) (hc : ∀ x : UInt8, cs[0]? ≠ some (B8 x)) : BlobsAt w (fun q => S q ∨ q = g) M := by
  intro q hq
  obtain ⟨h1, h2⟩ := h q hq
  refine ⟨⟨h1.1, h1.2.1, h1.2.2.1, fun hn => ?_⟩, h2⟩
  obtain ⟨ad, ha, hl, hs, hx⟩ := h1.2.2.2 hn
  refine ⟨ad, ha, hl, fun hor => ?_, hx⟩
  rcases hor with h3 | h3
  · exact hs h3
  · obtain ⟨b, hb⟩ : ∃ b, ad = ⟨b, 0, none⟩ := by
      cases hg : q.2.g with
      | none => rw [hg] at ha; cases ha
      | some b => rw [hg] at ha; exact ⟨b, (Option.some.inj ha).symm⟩
    subst hb
    have hb2 : b = g := h3
    subst hb2
    obtain ⟨x, hx0⟩ : ∃ x, q.2.xs[0]? = some x := ⟨_, List.getElem?_eq_getElem (by rw [h1.1]; exact hn)⟩
    have h4 := hx 0 x hx0
    have h5 : w.cell? ⟨b, 0, none⟩ = some (B8 x) := h4
    rw [hB.cell] at h5
    exact hc x h5
/-- A block that is none of the store's turns. -/
theorem GoodX.turn {w w' : World} {s mb p c e Z L : Nat} {M : Al Sv} {h : HeadV} {ss : List (Nat × List UInt8)} (G : GoodX w s mb p c e Z L M h ss) {g : Nat} {t : TypeId} {cs : Array Value} (hB : Blk w g t cs) (hc : ∀ x : UInt8, cs[0]? ≠ some (B8 x)) (hO : Only (· = g) w w') (hg : ¬ Mut s mb p c e g) (h0 : g ≠ 0) : GoodX w' s mb p c e Z L M h ss := by
  have n1 : ¬ s = g := fun h => hg (Or.inl h.symm)
  have n2 : ¬ mb = g := fun h => hg (Or.inr (Or.inl h.symm))
  have n3 : ∀ q, Three p c e q → ¬ q = g := fun q hq h => hg (Or.inr (Or.inr (by rw [← h]; exact hq)))
  refine ⟨⟨hO.blk G.st.blk n1, G.st.map.only hO n2, fun q hq => ?_⟩, G.fs.of hO (n3 p (Or.inl rfl)) (n3 c (Or.inr (Or.inl rfl))) (n3 e (Or.inr (Or.inr rfl))), G.mark.only hO (fun h => h0 h.symm), G.ok, G.hd⟩
  obtain ⟨h1, h2⟩ := (G.st.bl.apart hB hc).only hO (fun i _ hi => Or.inr hi) q hq
  exact ⟨h1.mono (fun _ _ h => Or.inl h), h2⟩
theorem Outcome.good {w w' : World} {s mb p c e Z L : Nat} {M : Al Sv} {h : HeadV} {ss : List (Nat × List UInt8)} {l : List Ch} {e1 : Ending} (hO : Outcome s mb p c e Z L M h ss l w w' e1) (G : GoodX w s mb p c e Z L M h ss) :
    (∃ E : Int, e1 = .returned (.int .i64 E)) ∧ ∃ M' h' ss', GoodX w' s mb p c e Z L M' h' ss' ∧ ss'.length = ss.length ∧ M'.length ≤ M.length + 16 ∧ Only (Mut s mb p c e) w w' := by
  rcases hO with ⟨_, h2, h3⟩ | ⟨_, h2, h3, _⟩ | ⟨_, h2, PF, KF, M', h', ss', k, o, hpl, hG', hss, hX', hM', hl, hor, hh', hs', hkey, hkl, hon, _⟩
  · exact ⟨⟨_, h2⟩, M, h, ss, G.below h3, rfl, by omega, Only.of_below h3⟩
  · exact ⟨⟨_, h2⟩, M, h, ss, G.below h3, rfl, by omega, Only.of_below h3⟩
  · exact ⟨⟨_, h2⟩, M', h', ss', hG', hss, hM', hon⟩

end Go.Proofs.YtidbipbangifbaaGreatDoor
