/- Where there is room: a commit is done, and the store is as ever. -/
import Derived.Test.YtmdnhpnaikfpjaaGreatDoorZbh
import Derived.Deep.QuietTactic
import Derived.BigQuiet
namespace Go.Proofs.YtmdnhpnaikfpjaaGreatDoor
set_option maxRecDepth 100000
open Go.RowKit Go.Maps

abbrev AB := Al (List UInt8)
/-- Keys and their blobs alone. -/
def blobsOf (X : AX) : AB := amap (·.2) X
def applyB (Y : AB) (f : Ch) : AB := if f.del then adel Y f.s.data.toList else aput Y f.s.data.toList f.blob
def applyBL (Y : AB) (l : List Ch) : AB := l.foldl applyB Y
def Srt {α : Type} (X : Al α) : Prop := X.Pairwise (fun p q => bytesBefore p.1 q.1 = true)
theorem Srt.amap {α β : Type} {X : Al α} (h : Srt X) (f : α → β) : Srt (amap f X) := List.pairwise_map.2 h
theorem srt_amap {α β : Type} {X : Al α} (f : α → β) (h : Srt (amap f X)) : Srt X := List.pairwise_map.1 h
theorem blobs_applyL (k : Int) : ∀ (l : List Ch) (X : AX), blobsOf (applyL X l k) = applyBL (blobsOf X) l
  | [], _ => rfl
  | f :: l, X => by
    show blobsOf (applyL (applyA X f k) l k) = applyBL (applyB (blobsOf X) f) l
    rw [blobs_applyL k l (applyA X f k)]
    congr 1
    unfold applyA applyB blobsOf
    split
    · exact adel_map _ _ _
    · exact aput_map _ _ _ _
theorem adel_none {α : Type} {X : Al α} {k : List UInt8} (h : ∀ q ∈ X, q.1 ≠ k) : adel X k = X := by
  unfold adel
  rw [List.filter_eq_self]
  intro q hq
  have := h q hq
  simpa using this
theorem ains_first {α : Type} {X : Al α} (p : List UInt8 × α) (h : ∀ q ∈ X, bytesBefore p.1 q.1 = true) : ains p X = p :: X := by
  cases X with
  | nil => rfl
  | cons q r =>
    unfold ains
    rw [if_pos (h q (List.mem_cons_self ..))]
theorem before_irr (a : List UInt8) : ¬ bytesBefore a a = true := fun h => List.lt_irrefl _ (before_lt _ _ h)
theorem before_anti {a b : List UInt8} (h : bytesBefore a b = true) : ¬ bytesBefore b a = true := fun h2 => List.lt_irrefl _ (List.lt_trans (before_lt _ _ h) (before_lt _ _ h2))
theorem before_ne {a b : List UInt8} (h : bytesBefore a b = true) : a ≠ b := fun he => before_irr b (by rw [he] at h; exact h)
/-- A key is put whose blob is the same. -/
theorem aput_same {α : Type} : ∀ {X : Al α} {k : List UInt8} {v : α}, Srt X → afind X k = some v → aput X k v = X
  | [], _, _, _, h => by cases h
  | q :: X, k, v, hs, h => by
    have hs' := List.pairwise_cons.1 hs
    by_cases hk : q.1 = k
    · have hqv : q = (k, v) := by
        unfold afind at h
        rw [List.find?_cons_of_pos (by simpa using hk)] at h
        simp only [Option.map_some, Option.some.injEq] at h
        exact Prod.ext hk h
      have hno : ∀ r ∈ X, r.1 ≠ k := fun r hr he => before_ne (hs'.1 r hr) (by rw [hk, he])
      unfold aput
      have h1 : adel (q :: X) k = X := by
        have h2 : adel (q :: X) k = adel X k := by
          unfold adel
          rw [List.filter_cons_of_neg (by simpa using hk)]
        rw [h2, adel_none hno]
      rw [h1, ains_first _ (fun r hr => by have := hs'.1 r hr; rw [hk] at this; exact this), hqv]
    · have h1 : afind X k = some v := by
        unfold afind at h ⊢
        rw [List.find?_cons_of_neg (by simpa using hk)] at h
        exact h
      have ih := aput_same hs'.2 h1
      have hb : bytesBefore q.1 k = true := hs'.1 (k, v) (afind_mem h1)
      unfold aput at ih ⊢
      have h2 : adel (q :: X) k = q :: adel X k := by
        unfold adel
        rw [List.filter_cons_of_pos (by simpa using hk)]
      rw [h2]
      unfold ains
      rw [if_neg (before_anti hb), ih]
theorem blobs_reSec1 {j : Int} {X : AX} {k : List UInt8} (hs : Srt (blobsOf X)) (hk : (afind X k).isSome = true) : blobsOf (reSec1 j X k) = blobsOf X := by
  unfold reSec1 blobsOf
  rw [aput_map]
  obtain ⟨v, hv, _⟩ := mem_of_isSome hk
  refine aput_same hs ?_
  rw [afind_map, hv]
  rfl
theorem blobs_reSecL {j : Int} : ∀ (ks : List (List UInt8)) {X : AX}, Srt (blobsOf X) → (∀ k ∈ ks, (afind X k).isSome = true) → blobsOf (reSecL j X ks) = blobsOf X
  | [], _, _, _ => rfl
  | k :: ks, X, hs, hk => by
    have h1 := blobs_reSec1 (j := j) hs (hk k (List.mem_cons_self ..))
    have h2 := blobs_reSecL (j := j) ks (X := reSec1 j X k) (by rw [h1]; exact hs) (fun x hx => keep_reSec1 (hk x (List.mem_cons_of_mem _ hx)))
    exact h2.trans h1
theorem blobs_reSecK : ∀ (K : List (List (List UInt8))) (j : Nat) {X : AX}, Srt (blobsOf X) → (∀ ks ∈ K, ∀ k ∈ ks, (afind X k).isSome = true) → blobsOf (reSecK j X K) = blobsOf X
  | [], _, _, _, _ => rfl
  | ks :: K, j, X, hs, hk => by
    have h1 := blobs_reSecL (j := (j : Int)) ks hs (hk ks (List.mem_cons_self ..))
    have h2 := blobs_reSecK K (j + 1) (X := reSecL (j : Int) X ks) (by rw [h1]; exact hs) (fun x hx y hy => keep_reSecL ks (hk x (List.mem_cons_of_mem _ hx) y hy))
    exact h2.trans h1

/-- A store that commits have made none of whose sectors is worn. -/
structure GoodR (w : World) (s mb p c e Z L : Nat) (M : Al Sv) (h : HeadV) (ss : List (Nat × List UInt8)) (B : Int) : Prop where
  g : GoodX w s mb p c e Z L M h ss
  r : RX Z B (amap Sv.a M) h (secsOf ss)
  free : 1 ≤ (secsOf ss).countP (opensB (L : Int))
/-- A commit that is done. -/
def DoneR (s mb p c e Z L : Nat) (M : Al Sv) (ss : List (Nat × List UInt8)) (B : Int) (l : List Ch) (w w' : World) (e1 : Ending) : Prop :=
  e1 = .returned (.int .i64 0) ∧ ∃ M' h' ss', GoodR w' s mb p c e Z L M' h' ss' (B + 8 * (ss.length : Int)) ∧ ss'.length = ss.length ∧ blobsOf (amap Sv.a M') = applyBL (blobsOf (amap Sv.a M)) l ∧ M'.length ≤ M.length + 16 ∧ Only (Mut s mb p c e) w w'

section
variable {w w' : World} {s mb p c e Z L : Nat} {M : Al Sv} {h : HeadV} {ss : List (Nat × List UInt8)} {B : Int}
theorem GoodR.below (g : GoodR w s mb p c e Z L M h ss B) (b : Below w.heap.size w w') : GoodR w' s mb p c e Z L M h ss B := ⟨g.g.below b, g.r, g.free⟩
theorem Outcome.room {l : List Ch} {e1 : Ending} (hO : Outcome s mb p c e Z L M h ss l w w' e1) (G : GoodR w s mb p c e Z L M h ss B) (h3 : 3 ≤ ss.length) (href : refuC l (Z - 12) = 0) (hroom : 4 * (liveX (amap Sv.a M) + roomL l) ≤ (ss.length - 2) * (Z - 12))
    (hB : B + 8 * (ss.length : Int) < 4294967295) (hL : B + 8 * (ss.length : Int) < (L : Int)) (hb : ∀ f ∈ l, f.blob.length = f.n) : DoneR s mb p c e Z L M ss B l w w' e1 := by
  have hgeo := G.g.geo
  have hz0 := hgeo.z0
  have hr0 := refuC_zero href
  have hr2 : 2 * roomL l ≤ Z - 12 := by have := hr0.2.2.2.2; omega
  have hr1 : 0 < roomL l := by unfold roomL; omega
  have hsl : (secsOf ss).length = ss.length := secsOf_len ss
  have hRB := G.r.start G.g
  have hRS : RS Z M B (lastQ (secsOf ss)) ⟨secsOf ss, h, []⟩ (kbsL M ss.length (M.map (·.1))) := ⟨hRB, Int.le_refl _, fun j x ks hj hx hq _ => by
    have h9 : x.q ≤ lastQ (secsOf ss) := lastQ_ge (List.mem_of_getElem? hj) hx
    exact absurd h9 (Int.not_le.2 hq)⟩
  have hcnt : (secsOf ss).countP (oldB (lastQ (secsOf ss))) ≤ ss.length := by rw [← hsl]; exact List.countP_le_length
  have hrounds := fun (b : Bool) (PF : PV) (KF : List (List (List UInt8))) => rounds_room (L := L) (lastQ (secsOf ss)) (room := (roomL l : Int)) (4 * ss.length) B ⟨secsOf ss, h, []⟩ (kbsL M ss.length (M.map (·.1))) b PF KF hRS (by show (secsOf ss).countP _ + 1 ≤ _; omega) G.free (by show 3 ≤ (secsOf ss).length; omega) (by omega)
    (by rw [totW_start G.g]; show _ ≤ ((secsOf ss).length - 2) * _; rw [hsl]; omega) (by omega) (by omega) (by omega)
  have hX : Srt (blobsOf (amap Sv.a M)) := Srt.amap (Srt.amap G.g.st.map.sorted _) _
  rcases hO with ⟨h9, _⟩ | ⟨_, _, _, _, PF, KF, h9⟩ | ⟨_, rfl, PF, KF, M', h', ss', k, o, hpl, hG', hss, hX', hM', hl, hor, hh', hs', hkey, hkl, hon, _, hsec, hpl2⟩
  · exact absurd href h9
  · obtain ⟨h8, _⟩ := hrounds _ _ _ h9
    cases h8
  · refine ⟨rfl, M', h', ss', ?_, hss, ?_, hM', hon⟩
    · have hsome : ∀ ks ∈ KF, ∀ k ∈ ks, (afind (amap Sv.a M) k).isSome = true := fun ks hks k hk => by
        rw [afind_map, Option.isSome_map]
        exact (hkey ks hks k hk).2.2
      have hrx : RX Z (B + 8 * (ss.length : Int)) (reSecK 0 (amap Sv.a M) KF) PF.h (secsOf ss') ∧ 1 ≤ (secsOf ss').countP (opensB (L : Int)) := by
        rcases hpl with ⟨_, rfl, rfl⟩ | ⟨htk, hR⟩
        · have e1 : secsOf ss' = secsOf ss := hsec
          rw [e1]
          refine ⟨?_, G.free⟩
          exact ⟨G.r.z, G.r.clean, fun x hx => by have := G.r.er x hx; omega, by have := G.r.lq; omega, G.r.blank, G.r.fit, G.r.small, G.r.hd⟩
        · obtain ⟨_, h6, h7, _, h8⟩ := hrounds _ _ _ hR
          have e1 : PF.l = secsOf ss' := (hpl2 htk).trans hsec.symm
          have h5 := RB.told G.g h6 hkey (fun x hx => h8 x (cov_start G.g hx))
          rw [e1] at h5 h7
          refine ⟨?_, h7⟩
          have e2 : B + 2 * ((4 * ss.length : Nat) : Int) = B + 8 * (ss.length : Int) := by omega
          rw [e2] at h5
          exact h5
      have hc := hrx.1.commit (h' := h') (k := k) (o := o) (l := l) hl.sec hl.left hl.le hr1 hor hr0.2.1 hb hr2 (by rw [hh']; exact hl.sec) (by rw [hh']; show _ - (roomL _ : Int) = _; rw [nm_sz]) (by rw [hh']; rfl)
      rw [← hX'] at hc
      exact ⟨hG', hc, hrx.2⟩
    · rw [hX', blobs_applyL, blobs_reSecK KF 0 hX (fun ks hks k hk => by rw [afind_map, Option.isSome_map]; exact (hkey ks hks k hk).2.2)]
end

/-- A commit that there is room for is done. -/
theorem commit_room (s mb p c e Z L : Nat) (M : Al Sv) (h : HeadV) (ss : List (Nat × List UInt8)) (B : Int) (A : Option Addr) (n cap : Nat) (l : List Ch) (w : World) (G : GoodR w s mb p c e Z L M h ss B) (hM : M.length ≤ 3000)
    (hC : Chs w (Mut s mb p c e) A n cap l) (hn : n ≤ 1048576) (hT : ∀ q, Three p c e q → q ≠ s ∧ q ≠ mb) (h0 : ¬ Mut s mb p c e 0) (hS : 4 * ss.length * (66 + M.length) ≤ 990000) (h3 : 3 ≤ ss.length) (href : refuC l (Z - 12) = 0)
    (hroom : 4 * (liveX (amap Sv.a M) + roomL l) ≤ (ss.length - 2) * (Z - 12)) (hB : B + 8 * (ss.length : Int) < 4294967295) (hL : B + 8 * (ss.length : Int) < (L : Int)) :
    Calls Tryz.prog 16 #[.pointer (some ⟨s, 0, none⟩), .slice A n cap] w fun e1 w' => DoneR s mb p c e Z L M ss B l w w' e1 :=
  (commit_any s mb p c e Z L M h ss A n cap l w G.g hM hC hn hT h0 hS).mono fun _ _ hO => hO.room G h3 href hroom hB hL (fun f hf => (hC.2.2.2.2 f hf).1.1)

end Go.Proofs.YtmdnhpnaikfpjaaGreatDoor

/- A commit for which no sector has to be cleaned is done. -/
namespace Go.Proofs.YtmdnhpnaikfpjaaGreatDoor
set_option maxRecDepth 100000
open Go.RowKit Go.Maps

section
variable {w w' : World} {s mb p c e Z L : Nat} {M : Al Sv} {h : HeadV} {ss : List (Nat × List UInt8)}
theorem Outcome.easy {l : List Ch} {e1 : Ending} (hO : Outcome s mb p c e Z L M h ss l w w' e1) (G : GoodX w s mb p c e Z L M h ss) (href : refuC l (Z - 12) = 0) (h2 : takesB h (roomL l : Int) = false → 2 ≤ (secsOf ss).countP (opensB (L : Int)) ∧ lastQ (secsOf ss) ≠ 4294967295) :
    e1 = .returned (.int .i64 0) ∧ ∃ M' h' ss', GoodX w' s mb p c e Z L M' h' ss' ∧ ss'.length = ss.length ∧ blobsOf (amap Sv.a M') = applyBL (blobsOf (amap Sv.a M)) l ∧ M'.length ≤ M.length + 16 ∧ Only (Mut s mb p c e) w w' := by
  have hr0 := refuC_zero href
  have hX : Srt (blobsOf (amap Sv.a M)) := Srt.amap (Srt.amap G.st.map.sorted _) _
  have hbz := G.fs.bz
  rcases hO with ⟨h9, _⟩ | ⟨_, _, _, htk, PF, KF, h9⟩ | ⟨_, rfl, PF, KF, M', h', ss', k, o, hpl, hG', hss, hX', hM', hl, hor, hh', hs', hkey, hkl, hon, _⟩
  · exact absurd href h9
  · obtain ⟨h3, h4⟩ := h2 htk
    obtain ⟨n, hn⟩ : ∃ n, 4 * ss.length = n + 1 := ⟨4 * ss.length - 1, by omega⟩
    rw [hn] at h9
    obtain ⟨h5, _⟩ := one_round (P := ⟨secsOf ss, h, []⟩) h3 h4 (by have := hr0.2.2.2.2; omega) h9
    cases h5
  · refine ⟨rfl, M', h', ss', hG', hss, ?_, hM', hon⟩
    rw [hX', blobs_applyL, blobs_reSecK KF 0 hX (fun ks hks k hk => by rw [afind_map, Option.isSome_map]; exact (hkey ks hks k hk).2.2)]
end
theorem opens_fresh {S Z L : Nat} (hz : 12 ≤ Z) (hS : 2 ≤ S) : 2 ≤ (secsOf (freshS S Z)).countP (opensB (L : Int)) ∧ lastQ (secsOf (freshS S Z)) ≠ 4294967295 := by
  rw [fresh_count S Z L hz, fresh_last S Z hz]
  exact ⟨hS, by decide⟩
theorem freshS_len (S Z : Nat) : (freshS S Z).length = S := List.length_replicate

/-- A store with one blob. -/
theorem one_blob {M : Al Sv} {k b : List UInt8} (h : blobsOf (amap Sv.a M) = [(k, b)]) : ∃ f : Sv, M = [(k, f)] ∧ f.xs = b := by
  unfold blobsOf amap at h
  rw [List.map_map] at h
  obtain ⟨q, M', rfl, h1, h2⟩ := List.map_eq_cons_iff.1 h
  rw [List.map_eq_nil_iff] at h2
  subst h2
  obtain ⟨k', f⟩ := q
  have h3 : k' = k := congrArg (·.1) h1
  have h4 : f.xs = b := congrArg (·.2) h1
  exact ⟨f, by rw [h3], h4⟩

/-- A change that was just laid. -/
theorem chs_lit {w : World} {S : Nat → Prop} (f : Ch) (hb : ByteSl w S f.A f.n f.cap f.blob ∧ (f.A = none → f.n = 0 ∧ f.cap = 0)) (hS : ¬ S w.heap.size) :
    Chs (w.alloc (.cells #[.bool f.del, .string f.s, .slice f.A f.n f.cap] 35)) S (some ⟨w.heap.size, 0, none⟩) 1 1 [f] := by
  have hB := Blk.new w 35 #[.bool f.del, .string f.s, .slice f.A f.n f.cap]
  refine ⟨rfl, by decide, by decide, fun _ => ⟨_, _, rfl, hB.lt, hS, fun i g hi j hj => ?_⟩, fun g hg => ?_⟩
  · cases i with
    | succ i => simp at hi
    | zero =>
      simp at hi
      subst hi
      have hc := hB.cell j
      simp only [Nat.zero_mul, Nat.zero_add]
      rw [hc]
      have hj3 : j = 0 ∨ j = 1 ∨ j = 2 := by omega
      rcases hj3 with rfl | rfl | rfl <;> rfl
  · rw [List.mem_singleton.1 hg]
    exact ⟨hb.1.only (Only.of_below (S := Empty) ((Below.refl w.heap.size w).alloc (Nat.le_refl _) _)) (fun _ _ h => h.elim), hb.2⟩

end Go.Proofs.YtmdnhpnaikfpjaaGreatDoor

/- The document's pairs: rows of keys and blobs; the walks over law 08's pairs, over the document's Live and Same. -/
namespace Go.Proofs.YtmdnhpnaikfpjaaGreatDoor
set_option maxRecDepth 100000
open Go.RowKit Go.Maps

abbrev Pr := List UInt8 × List UInt8
def pairC (q : Pr) : List Value := [encStr q.1, encStr q.2]
theorem pair_len (q : Pr) : (pairC q).length = 2 := rfl
theorem pair_one (q : Pr) : ∀ v ∈ pairC q, v.oneCell' = true := by
  intro v hv
  simp only [pairC, List.mem_cons, List.not_mem_nil, or_false] at hv
  rcases hv with rfl | rfl <;> rfl
theorem Tryz.infoPair : (Tryz.prog.info? 108).map (fun i => (i.zero, i.size, i.bytes)) = some (some (.agg #[.string ⟨#[]⟩, .string ⟨#[]⟩]), 2, 32) := by kernel_rfl
abbrev Prs := GotR pairC 2 108
theorem wpList_append_prs {ops : Array Oper} {rest : List Oper} {q : Oper} {u : Act} {w : World} {S : Nat → Prop} {Q : Exit → Act → World → Prop} (hgd : q.guard = none) (s x : Operand) (hq : q.op = .call { callee := .builtin .append, args := #[s, x], argTypes := #[33, 33] })
    (base : Nat) (B : Option Addr) (m0 c0 : Nat) (zs : List Pr) (hs : u.eval s = .slice B m0 c0) (hown : Prs base w B m0 c0 zs) (A : Option Addr) (m c : Nat) (l : List Pr)
    (hx : u.eval x = .slice A m c) (hB : RowSl pairC 2 w S A m c l) (hn : A = none → m = 0 ∧ c = 0) (hm : m0 + m ≤ 16777216) (hbase : base ≤ w.heap.size)
    (h : ∀ A' c' w', Prs base w' A' (m0 + m) c' (zs ++ l) → w.grownBy w' (Value.slice B m0 c0).ownBlock → (∀ g, (Value.slice B m0 c0).ownBlock = some g → base ≤ g) → wpList Tryz.prog ops Q rest (u.put q.dst (.slice A' (m0 + m) c')) w') : wpList Tryz.prog ops Q (q :: rest) u w :=
  wpList_append_rows pair_len pair_one (by decide) 33 108 _ 32 Tryz.underlying33 Tryz.infoPair (by simp [Value.cells]) (by decide) hgd s x hq base B m0 c0 zs hs hown A m c l hx hB hn hm hbase (fun A' c' w' h1 h2 h3 _ => h A' c' w' h1 h2 h3)
theorem pair_lit (q : Pr) (w : World) : RowSl pairC 2 (w.alloc (.cells #[encStr q.1, encStr q.2] 108)) Empty (some ⟨w.heap.size, 0, none⟩) 1 1 [q] :=
  RowSl.lit pair_len w Empty 108 [q] 1 [encStr q.1, encStr q.2] (by simp [pairC]) rfl (by decide) (fun h => h)

theorem get_enc (s mb p c e : Nat) (M : Al Sv) (h : HeadV) (d : Bool) (k : List UInt8) (w : World) (hS : StoreAt w s mb p c e M h d) (hk : k.length ≤ maxLen) (hn : (svAt M k).n ≤ 16777216) :
    Calls Tryz.prog 24 #[.pointer (some ⟨s, 0, none⟩), encStr k] w fun e1 w' => (∃ A' cap', e1 = .returned (.tuple #[.slice A' (svAt M k).n cap', .bool (afind M k).isSome]) ∧ Got w.heap.size w' A' (svAt M k).n cap' (svAt M k).xs) ∧ Below w.heap.size w w' :=
  get_any s mb p c e M h d ⟨k.toArray⟩ Empty w hS (by simpa [ByteArray.size] using hk) (by simpa using hn)
theorem blobs_at {M : Al Sv} (h : M.Pairwise (fun p q => bytesBefore p.1 q.1 = true)) {q : List UInt8 × Sv} (hq : q ∈ M) : (svAt M q.1).xs = q.2.xs ∧ (svAt M q.1).n = q.2.n := by rw [svAt_v (afind_of_mem h hq)]; exact ⟨rfl, rfl⟩

set_option maxHeartbeats 4000000 in
theorem pairs_any (s mb p c e Z L : Nat) (ss : List (Nat × List UInt8)) (M : Al Sv) (h : HeadV) (w : World) (hG : GoodX w s mb p c e Z L M h ss) (hM : M.length ≤ 1048576) :
    Calls Tryz.prog 19 #[.pointer (some ⟨s, 0, none⟩)] w fun e1 w' => (∃ A n cap, e1 = .returned (.slice A n cap) ∧ Prs w.heap.size w' A n cap (blobsOf (amap Sv.a M))) ∧ Below w.heap.size w w' := by
  have Hkeys := Lib.hid (keys_any s mb p c e M h false ⟨#[]⟩ w hG.st hM)
  have HG := Lib.hid hG
  have hbl : blobsOf (amap Sv.a M) = M.map fun q => (q.1, q.2.xs) := by unfold blobsOf amap; rw [List.map_map]; rfl
  have Hbl := Lib.hid hbl
  have Hat : Hid (∀ (i : Nat) (q : List UInt8 × Sv), M[i]? = some q → q.1.length ≤ 64 ∧ (svAt M q.1).n ≤ 4096 ∧ (svAt M q.1).xs = q.2.xs) := Lib.hid (fun i q hq => by
    have h1 := hG.fair q (List.mem_of_getElem? hq)
    have h2 := blobs_at hG.st.map.sorted (List.mem_of_getElem? hq)
    exact ⟨h1.1, by rw [h2.2]; exact h1.2, h2.1⟩)
  clear hG hbl
  go_enter Tryz.func19, Tryz.ntmps19
  go_wp2_with fail
  refine Hkeys.out.mono ?_
  rintro e1 w1 ⟨⟨A, n, cap, rfl, hg1⟩, hb1⟩
  rw [show keysOf (⟨#[]⟩ : ByteArray).data.toList M = M.map (·.1) from keysOf_nil M] at hg1
  have hln : M.length = n := by have := hg1.row.1; rwa [List.length_map] at this
  have HR := Lib.hid hg1.row
  have Hb1 := Lib.hid hb1
  have hncap : n ≤ cap := hg1.row.2.1
  have hcap2 : cap ≤ 9223372036854775807 := by have := hg1.row.2.2.1; unfold maxLen at this; omega
  have Hs1 := Lib.hid hb1.size
  have hn1 : n ≤ 1048576 := by omega
  clear hg1 hb1 Hkeys
  go_wp2_with fail
  go_loopw [3, 11] (fun r v wr => ∃ (i : Nat) (A3 : Option Addr) (c3 : Nat), i ≤ n ∧ v = .int .i64 (i : Int) ∧ r = .slice A3 i c3 ∧ Hid (Prs w1.heap.size wr A3 i c3 ((M.take i).map fun q => (q.1, q.2.xs))) ∧ Hid (Below w1.heap.size w1 wr)) (fun _ v _ => n - (intOf v).toNat)
  case atStart => exact ⟨0, none, 0, Nat.zero_le _, rfl, rfl, Lib.hid (GotR.nil_ _ _ _ _ _), Lib.hid (Below.refl _ _)⟩
  case round =>
    obtain ⟨i, A3, c3, hi, rfl, rfl, HP, HB⟩ := hrel
    by_cases hlt : i < n
    · obtain ⟨q, hq⟩ : ∃ q, M[i]? = some q := ⟨_, List.getElem?_eq_getElem (by omega)⟩
      obtain ⟨b, o, k, hA, hbl, -, hk, hc⟩ := (HR.out.below HB.out).at_ hlt
      have hkq : k = q.1 := by
        rw [List.getElem?_map, hq] at hk
        exact (Option.some.inj hk).symm
      subst hkq
      have c0 := hc 0 (by omega)
      simp only [strC, Nat.mul_one, Nat.add_zero, List.getElem?_cons_zero] at c0
      have htk := take_snoc M i q hq
      have Htk : Hid ((M.take (i + 1)).map (fun q => (q.1, q.2.xs)) = (M.take i).map (fun q => (q.1, q.2.xs)) ++ [(q.1, q.2.xs)]) := Lib.hid (by rw [htk, List.map_append]; rfl)
      have hat := Hat.out i q hq
      have Hg := Lib.hid (fun W (hW : Below w.heap.size w W) => get_enc s mb p c e M h false q.1 W (HG.out.st.below hW) (by unfold maxLen; omega) (by omega))
      obtain ⟨xs, hxs⟩ : ∃ xs, xs = q.2.xs := ⟨_, rfl⟩
      obtain ⟨kq, hkq⟩ : ∃ kq, kq = q.1 := ⟨_, rfl⟩
      rw [hat.2.2] at Hg
      rw [← hxs, ← hkq] at Hg
      rw [← hxs, ← hkq] at Htk
      rw [← hkq] at c0
      have hHB := HB.out.size
      have HBw := Lib.hid (Hb1.out.trans (HB.out.mono Hb1.out.size))
      subst hA
      clear hc hk hq htk hat hxs hkq
      go_wp2_with fail
      with_reducible refine (Hg.out wr HBw.out).mono ?_
      rintro e2 w2 ⟨⟨A2, c2, rfl, hgot⟩, hb2⟩
      have hcv := conv_bytes hgot.bytes
      have HP2 := Lib.hid (HP.out.below pair_len hb2)
      have HB2 := Lib.hid (HB.out.trans (hb2.mono hHB))
      have hs2 : w1.heap.size ≤ w2.heap.size := HB2.out.size
      have hrow : RowSl pairC 2 (w2.alloc (.cells #[encStr kq, .string (strB xs)] 108)) Empty (some ⟨w2.heap.size, 0, none⟩) 1 1 [(kq, xs)] := pair_lit (kq, xs) w2
      have Hrow := Lib.hid hrow
      have HP3 := Lib.hid (HP2.out.alloc pair_len (.cells #[encStr kq, .string (strB xs)] 108))
      have HB3 := Lib.hid (HB2.out.alloc hs2 (.cells #[encStr kq, .string (strB xs)] 108))
      clear hgot hb2 Hg hrow
      go_wp2_with (at_builtin; refine wpList_append_prs rfl _ _ rfl w1.heap.size A3 i c3 ((M.take i).map fun q => (q.1, q.2.xs)) rfl HP3.out _ 1 1 _ rfl Hrow.out (fun h => by cases h) (by omega) (by simp; omega) ?_; intro A4 c4 w4 hg4 hgr4 hr4)
      have HB4 := Lib.hid (below_gotR HB3.out (by simp; omega) hgr4 hr4 (Nat.le_refl _))
      have HP4 := Lib.hid hg4
      clear hg4 hgr4 hr4
      go_roundw
      case rel => exact ⟨i + 1, A4, c4, by omega, by simp, rfl, by rw [Htk.out]; exact HP4, HB4⟩
      case measure => simp [intOf]; omega
    · have hin : i = n := by omega
      subst hin
      have ht : M.take i = M := List.take_of_length_le (by omega)
      rw [ht, ← Hbl.out] at HP
      go_wp2_with fail
      go_ret
      exact ⟨⟨A3, i, c3, rfl, HP.out.lower Hs1.out⟩, Hb1.out.trans (HB.out.mono Hs1.out)⟩

/-- What pairs count for. -/
def liveB (Y : AB) : Nat := (Y.map fun q => q.1.length + q.2.length + 32).sum
theorem liveB_snoc (Y : AB) (q : Pr) : liveB (Y ++ [q]) = liveB Y + (q.1.length + q.2.length + 32) := by simp [liveB]
set_option maxHeartbeats 4000000 in
theorem refLive_any (A : Option Addr) (n cap : Nat) (Y : AB) (w : World) (hR : RowSl pairC 2 w Empty A n cap Y) (hn : n ≤ 65536) (hq : ∀ q ∈ Y, q.1.length ≤ 4096 ∧ q.2.length ≤ 4096) :
    Calls Tryz.prog 13 #[.slice A n cap] w fun e1 w' => e1 = .returned (.int .i64 (liveB Y : Int)) ∧ Below w.heap.size w w' := by
  have HR := Lib.hid hR
  have hln := hR.1
  have hncap : n ≤ cap := hR.2.1
  have hcap2 : cap ≤ 9223372036854775807 := by have := hR.2.2.1; unfold maxLen at this; omega
  have hle : ∀ i, liveB (Y.take i) ≤ i * 8224 := by
    intro i
    induction i with
    | zero => simp [liveB]
    | succ i ih =>
      by_cases hi : i < Y.length
      · rw [take_snoc Y i Y[i] (List.getElem?_eq_getElem hi), liveB_snoc]
        have := hq Y[i] (List.getElem_mem hi)
        omega
      · rw [List.take_of_length_le (by omega)] at ih ⊢
        omega
  have Hle := Lib.hid hle
  have Hq := Lib.hid hq
  clear hR hle hq
  go_enter Tryz.func13, Tryz.ntmps13
  go_wp2_with fail
  go_loopw [3, 8] (fun r v wr => ∃ i : Nat, i ≤ n ∧ v = .int .i64 (i : Int) ∧ r = .int .i64 (liveB (Y.take i) : Int) ∧ Hid (Below w.heap.size w wr)) (fun _ v _ => n - (intOf v).toNat)
  case atStart => exact ⟨0, Nat.zero_le _, rfl, rfl, Lib.hid (Below.refl _ _)⟩
  case round =>
    obtain ⟨i, hi, rfl, rfl, HB⟩ := hrel
    have hlv := Hle.out i
    by_cases hlt : i < n
    · obtain ⟨b, o, q, hA, hbl, -, hk, hc⟩ := (HR.out.below HB.out).at_ hlt
      have hqq := Hq.out q (List.mem_of_getElem? hk)
      have htk := take_snoc Y i q hk
      have hsn := liveB_snoc (Y.take i) q
      rw [← htk] at hsn
      have c0 := hc 0 (by omega)
      have c1 := hc 1 (by omega)
      obtain ⟨k, xs⟩ := q
      simp only [pairC, List.getElem?_cons_zero, List.getElem?_cons_succ, Nat.add_zero, encStr] at c0 c1
      simp only at hqq hsn
      have hsk : (⟨k.toArray⟩ : ByteArray).size = k.length := by simp [ByteArray.size]
      have hsx : (⟨xs.toArray⟩ : ByteArray).size = xs.length := by simp [ByteArray.size]
      obtain ⟨sk, hsk2⟩ : ∃ sk : ByteArray, sk = ⟨k.toArray⟩ := ⟨_, rfl⟩
      obtain ⟨sx, hsx2⟩ : ∃ sx : ByteArray, sx = ⟨xs.toArray⟩ := ⟨_, rfl⟩
      rw [← hsk2] at c0 hsk
      rw [← hsx2] at c1 hsx
      have HB2 := Lib.hid (HB.out.alloc HB.out.size (.cells #[.string sk, .string sx] 108))
      obtain ⟨lv, hlv2⟩ : ∃ lv, lv = liveB (Y.take i) := ⟨_, rfl⟩
      rw [← hlv2] at hlv hsn ⊢
      subst hA
      clear hc hk htk hsk2 hsx2 hlv2
      go_wp2_with fail
      go_roundw
      case rel => exact ⟨i + 1, by omega, by simp, by rw [hsn]; congr 1; omega, HB2⟩
      case measure => simp [intOf]; omega
    · have hin : i = n := by omega
      subst hin
      have ht : Y.take i = Y := List.take_of_length_le (by omega)
      rw [ht]
      go_wp2_with fail
      go_ret
      exact ⟨rfl, HB.out⟩

set_option maxHeartbeats 4000000 in
/-- Rows that read the same are the same. -/
theorem refSame_yes (A A2 : Option Addr) (n m cap cap2 : Nat) (Y : AB) (w : World) (hR : RowSl pairC 2 w Empty A n cap Y) (hR2 : RowSl pairC 2 w Empty A2 m cap2 Y) (hn : n ≤ 1048576) :
    Calls Tryz.prog 18 #[.slice A n cap, .slice A2 m cap2] w fun e1 w' => e1 = .returned (.bool true) ∧ Below w.heap.size w w' := by
  have hln := hR.1
  have hlm := hR2.1
  have hmn : m = n := by omega
  subst hmn
  have HR := Lib.hid hR
  have HR2 := Lib.hid hR2
  have hncap : m ≤ cap := hR.2.1
  have hncap2 : m ≤ cap2 := hR2.2.1
  have hcap3 : cap ≤ 9223372036854775807 := by have := hR.2.2.1; unfold maxLen at this; omega
  have hcap4 : cap2 ≤ 9223372036854775807 := by have := hR2.2.2.1; unfold maxLen at this; omega
  clear hR hR2
  go_enter Tryz.func18, Tryz.ntmps18
  go_wp2_with fail
  go_loopw [13] (fun v wr => ∃ i : Nat, i ≤ m ∧ v = .int .i64 (i : Int) ∧ Hid (Below w.heap.size w wr)) (fun v _ => m - (intOf v).toNat)
  case atStart => exact ⟨0, Nat.zero_le _, rfl, Lib.hid (Below.refl _ _)⟩
  case round =>
    obtain ⟨i, hi, rfl, HB⟩ := hrel
    by_cases hlt : i < m
    · obtain ⟨b, o, q, hA, hbl, -, hk, hc⟩ := (HR.out.below HB.out).at_ hlt
      obtain ⟨b2, o2, q2, hA2, hbl2, -, hk2, hc2⟩ := (HR2.out.below HB.out).at_ hlt
      have hqq : q2 = q := by rw [hk] at hk2; exact (Option.some.inj hk2).symm
      subst hqq
      have c0 := hc 0 (by omega)
      have c1 := hc 1 (by omega)
      have d0 := hc2 0 (by omega)
      have d1 := hc2 1 (by omega)
      obtain ⟨k, xs⟩ := q2
      simp only [pairC, List.getElem?_cons_zero, List.getElem?_cons_succ, Nat.add_zero, encStr] at c0 c1 d0 d1
      obtain ⟨sk, hsk2⟩ : ∃ sk : ByteArray, sk = ⟨k.toArray⟩ := ⟨_, rfl⟩
      obtain ⟨sx, hsx2⟩ : ∃ sx : ByteArray, sx = ⟨xs.toArray⟩ := ⟨_, rfl⟩
      rw [← hsk2] at c0 d0
      rw [← hsx2] at c1 d1
      have hiI : (i : Int) < (m : Int) := by omega
      subst hA
      subst hA2
      clear hc hk hc2 hk2 hsk2 hsx2
      go_wp2_with fail
      go_quiet (fail)
      have HBq := Lib.hid (HB.out.drewN nq)
      go_wp2_with fail
      go_roundw
      case rel => exact ⟨i + 1, by omega, by simp, HBq⟩
      case measure => simp [intOf]; omega
    · have hin : i = m := by omega
      subst hin
      go_wp2_with fail
      go_ret
      exact ⟨rfl, HB.out⟩

end Go.Proofs.YtmdnhpnaikfpjaaGreatDoor
