/- Where there is room: a commit is done, and the store is as ever. -/
import Derived.Test.YtnhfmcijadficaaGreatDoorZbj
import Derived.Test.YtnhfmcijadficaaGreatDoorZbh
import Derived.Test.YtnhfmcijadficaaGreatDoorZbg
namespace Go.Proofs.YtnhfmcijadficaaGreatDoor
set_option maxRecDepth 100000
open Go.RowKit Go.Maps

abbrev AB := Al (List UInt8)
/-- Keys and their blobs alone. -/
def blobsOf (X : AX) : AB := amap (·.2) X
def applyB (Y : AB) (f : Ch) : AB := if f.del then adel Y f.s.data.toList else aput Y f.s.data.toList f.blob
def applyBL (Y : AB) (l : List Ch) : AB := l.foldl applyB Y
def Srt {α : Type} (X : Al α) : Prop := X.Pairwise (fun p q => bytesBefore p.1 q.1 = true)
theorem Srt.amap {α β : Type} {X : Al α} (h : Srt X) (f : α → β) : Srt (amap f X) := List.pairwise_map.2 h
theorem srt_amap {α β : Type} {X : Al α} (f : α → β) (h : Srt (amap f X)) : Srt X := List.pairwise_map.1 h
theorem blobs_applyL (k : Int) : ∀ (l : List Ch) (X : AX), blobsOf (applyL X l k) = applyBL (blobsOf X) l
  | [], _ => rfl
  | f :: l, X => by
    show blobsOf (applyL (applyA X f k) l k) = applyBL (applyB (blobsOf X) f) l
    rw [blobs_applyL k l (applyA X f k)]
    congr 1
    unfold applyA applyB blobsOf
    split
    · exact adel_map _ _ _
    · exact aput_map _ _ _ _
theorem adel_none {α : Type} {X : Al α} {k : List UInt8} (h : ∀ q ∈ X, q.1 ≠ k) : adel X k = X := by
  unfold adel
  rw [List.filter_eq_self]
  intro q hq
  have := h q hq
  simpa using this
theorem ains_first {α : Type} {X : Al α} (p : List UInt8 × α) (h : ∀ q ∈ X, bytesBefore p.1 q.1 = true) : ains p X = p :: X := by
  cases X with
  | nil => rfl
  | cons q r =>
    unfold ains
    rw [if_pos (h q (List.mem_cons_self ..))]
theorem before_irr (a : List UInt8) : ¬ bytesBefore a a = true := fun h => List.lt_irrefl _ (before_lt _ _ h)
theorem before_anti {a b : List UInt8} (h : bytesBefore a b = true) : ¬ bytesBefore b a = true := fun h2 => List.lt_irrefl _ (List.lt_trans (before_lt _ _ h) (before_lt _ _ h2))
theorem before_ne {a b : List UInt8} (h : bytesBefore a b = true) : a ≠ b := fun he => before_irr b (by rw [he] at h; exact h)
/-- A key is put whose blob is the same. -/
theorem aput_same {α : Type} : ∀ {X : Al α} {k : List UInt8} {v : α}, Srt X → afind X k = some v → aput X k v = X
  | [], _, _, _, h => by cases h
  | q :: X, k, v, hs, h => by
    have hs' := List.pairwise_cons.1 hs
    by_cases hk : q.1 = k
    · have hqv : q = (k, v) := by
        unfold afind at h
        rw [List.find?_cons_of_pos (by simpa using hk)] at h
        simp only [Option.map_some, Option.some.injEq] at h
        exact Prod.ext hk h
      have hno : ∀ r ∈ X, r.1 ≠ k := fun r hr he => before_ne (hs'.1 r hr) (by rw [hk, he])
      unfold aput
      have h1 : adel (q :: X) k = X := by
        have h2 : adel (q :: X) k = adel X k := by
          unfold adel
          rw [List.filter_cons_of_neg (by simpa using hk)]
        rw [h2, adel_none hno]
      rw [h1, ains_first _ (fun r hr => by have := hs'.1 r hr; rw [hk] at this; exact this), hqv]
    · have h1 : afind X k = some v := by
        unfold afind at h ⊢
        rw [List.find?_cons_of_neg (by simpa using hk)] at h
        exact h
      have ih := aput_same hs'.2 h1
      have hb : bytesBefore q.1 k = true := hs'.1 (k, v) (afind_mem h1)
      unfold aput at ih ⊢
      have h2 : adel (q :: X) k = q :: adel X k := by
        unfold adel
        rw [List.filter_cons_of_pos (by simpa using hk)]
      rw [h2]
      unfold ains
      rw [if_neg (before_anti hb), ih]
theorem blobs_reSec1 {j : Int} {X : AX} {k : List UInt8} (hs : Srt (blobsOf X)) (hk : (afind X k).isSome = true) : blobsOf (reSec1 j X k) = blobsOf X := by
  unfold reSec1 blobsOf
  rw [aput_map]
  obtain ⟨v, hv, _⟩ := mem_of_isSome hk
  refine aput_same hs ?_
  rw [afind_map, hv]
  rfl
theorem blobs_reSecL {j : Int} : ∀ (ks : List (List UInt8)) {X : AX}, Srt (blobsOf X) → (∀ k ∈ ks, (afind X k).isSome = true) → blobsOf (reSecL j X ks) = blobsOf X
  | [], _, _, _ => rfl
  | k :: ks, X, hs, hk => by
    have h1 := blobs_reSec1 (j := j) hs (hk k (List.mem_cons_self ..))
    have h2 := blobs_reSecL (j := j) ks (X := reSec1 j X k) (by rw [h1]; exact hs) (fun x hx => keep_reSec1 (hk x (List.mem_cons_of_mem _ hx)))
    exact h2.trans h1
theorem blobs_reSecK : ∀ (K : List (List (List UInt8))) (j : Nat) {X : AX}, Srt (blobsOf X) → (∀ ks ∈ K, ∀ k ∈ ks, (afind X k).isSome = true) → blobsOf (reSecK j X K) = blobsOf X
  | [], _, _, _, _ => rfl
  | ks :: K, j, X, hs, hk => by
    have h1 := blobs_reSecL (j := (j : Int)) ks hs (hk ks (List.mem_cons_self ..))
    have h2 := blobs_reSecK K (j + 1) (X := reSecL (j : Int) X ks) (by rw [h1]; exact hs) (fun x hx y hy => keep_reSecL ks (hk x (List.mem_cons_of_mem _ hx) y hy))
    exact h2.trans h1

/-- A store that commits have made none of whose sectors is worn. -/
structure GoodR (w : World) (s mb p c e Z L : Nat) (M : Al Sv) (h : HeadV) (ss : List (Nat × List UInt8)) (B : Int) : Prop where
  g : GoodX w s mb p c e Z L M h ss
  r : RX Z B (amap Sv.a M) h (secsOf ss)
  free : 1 ≤ (secsOf ss).countP (opensB (L : Int))
/-- A commit that is done. -/
def DoneR (s mb p c e Z L : Nat) (M : Al Sv) (ss : List (Nat × List UInt8)) (B : Int) (l : List Ch) (w w' : World) (e1 : Ending) : Prop :=
  e1 = .returned (.int .i64 0) ∧ ∃ M' h' ss', GoodR w' s mb p c e Z L M' h' ss' (B + 8 * (ss.length : Int)) ∧ ss'.length = ss.length ∧ blobsOf (amap Sv.a M') = applyBL (blobsOf (amap Sv.a M)) l ∧ M'.length ≤ M.length + 16 ∧ Only (Mut s mb p c e) w w'

section
variable {w w' : World} {s mb p c e Z L : Nat} {M : Al Sv} {h : HeadV} {ss : List (Nat × List UInt8)} {B : Int}
theorem GoodR.below (g : GoodR w s mb p c e Z L M h ss B) (b : Below w.heap.size w w') : GoodR w' s mb p c e Z L M h ss B := ⟨g.g.below b, g.r, g.free⟩
theorem Outcome.room {l : List Ch} {e1 : Ending} (hO : Outcome s mb p c e Z L M h ss l w w' e1) (G : GoodR w s mb p c e Z L M h ss B) (h3 : 3 ≤ ss.length) (href : refuC l (Z - 12) = 0) (hroom : 4 * (liveX (amap Sv.a M) + roomL l) ≤ (ss.length - 2) * (Z - 12))
    (hB : B + 8 * (ss.length : Int) < 4294967295) (hL : B + 8 * (ss.length : Int) < (L : Int)) (hb : ∀ f ∈ l, f.blob.length = f.n) : DoneR s mb p c e Z L M ss B l w w' e1 := by
  have hgeo := G.g.geo
  have hz0 := hgeo.z0
  have hr0 := refuC_zero href
  have hr2 : 2 * roomL l ≤ Z - 12 := by have := hr0.2.2.2.2; omega
  have hr1 : 0 < roomL l := by unfold roomL; omega
  have hsl : (secsOf ss).length = ss.length := secsOf_len ss
  have hRB := G.r.start G.g
  have hRS : RS Z M B (lastQ (secsOf ss)) ⟨secsOf ss, h, []⟩ (kbsL M ss.length (M.map (·.1))) := ⟨hRB, Int.le_refl _, fun j x ks hj hx hq _ => by
    have h9 : x.q ≤ lastQ (secsOf ss) := lastQ_ge (List.mem_of_getElem? hj) hx
    exact absurd h9 (Int.not_le.2 hq)⟩
  have hcnt : (secsOf ss).countP (oldB (lastQ (secsOf ss))) ≤ ss.length := by rw [← hsl]; exact List.countP_le_length
  have hrounds := fun (b : Bool) (PF : PV) (KF : List (List (List UInt8))) => rounds_room (L := L) (lastQ (secsOf ss)) (room := (roomL l : Int)) (4 * ss.length) B ⟨secsOf ss, h, []⟩ (kbsL M ss.length (M.map (·.1))) b PF KF hRS (by show (secsOf ss).countP _ + 1 ≤ _; omega) G.free (by show 3 ≤ (secsOf ss).length; omega) (by omega)
    (by rw [totW_start G.g]; show _ ≤ ((secsOf ss).length - 2) * _; rw [hsl]; omega) (by omega) (by omega) (by omega)
  have hX : Srt (blobsOf (amap Sv.a M)) := Srt.amap (Srt.amap G.g.st.map.sorted _) _
  rcases hO with ⟨h9, _⟩ | ⟨_, _, _, _, PF, KF, h9⟩ | ⟨_, rfl, PF, KF, M', h', ss', k, o, hpl, hG', hss, hX', hM', hl, hor, hh', hs', hkey, hkl, hon, _, hsec, hpl2⟩
  · exact absurd href h9
  · obtain ⟨h8, _⟩ := hrounds _ _ _ h9
    cases h8
  · refine ⟨rfl, M', h', ss', ?_, hss, ?_, hM', hon⟩
    · have hsome : ∀ ks ∈ KF, ∀ k ∈ ks, (afind (amap Sv.a M) k).isSome = true := fun ks hks k hk => by
        rw [afind_map, Option.isSome_map]
        exact (hkey ks hks k hk).2.2
      have hrx : RX Z (B + 8 * (ss.length : Int)) (reSecK 0 (amap Sv.a M) KF) PF.h (secsOf ss') ∧ 1 ≤ (secsOf ss').countP (opensB (L : Int)) := by
        rcases hpl with ⟨_, rfl, rfl⟩ | ⟨htk, hR⟩
        · have e1 : secsOf ss' = secsOf ss := hsec
          rw [e1]
          refine ⟨?_, G.free⟩
          exact ⟨G.r.z, G.r.clean, fun x hx => by have := G.r.er x hx; omega, by have := G.r.lq; omega, G.r.blank, G.r.fit, G.r.small, G.r.hd⟩
        · obtain ⟨_, h6, h7, _, h8⟩ := hrounds _ _ _ hR
          have e1 : PF.l = secsOf ss' := (hpl2 htk).trans hsec.symm
          have h5 := RB.told G.g h6 hkey (fun x hx => h8 x (cov_start G.g hx))
          rw [e1] at h5 h7
          refine ⟨?_, h7⟩
          have e2 : B + 2 * ((4 * ss.length : Nat) : Int) = B + 8 * (ss.length : Int) := by omega
          rw [e2] at h5
          exact h5
      have hc := hrx.1.commit (h' := h') (k := k) (o := o) (l := l) hl.sec hl.left hl.le hr1 hor hr0.2.1 hb hr2 (by rw [hh']; exact hl.sec) (by rw [hh']; show _ - (roomL _ : Int) = _; rw [nm_sz]) (by rw [hh']; rfl)
      rw [← hX'] at hc
      exact ⟨hG', hc, hrx.2⟩
    · rw [hX', blobs_applyL, blobs_reSecK KF 0 hX (fun ks hks k hk => by rw [afind_map, Option.isSome_map]; exact (hkey ks hks k hk).2.2)]
end

/-- A commit that there is room for is done. -/
theorem commit_room (s mb p c e Z L : Nat) (M : Al Sv) (h : HeadV) (ss : List (Nat × List UInt8)) (B : Int) (A : Option Addr) (n cap : Nat) (l : List Ch) (w : World) (G : GoodR w s mb p c e Z L M h ss B) (hM : M.length ≤ 3000)
    (hC : Chs w (Mut s mb p c e) A n cap l) (hn : n ≤ 1048576) (hT : ∀ q, Three p c e q → q ≠ s ∧ q ≠ mb) (h0 : ¬ Mut s mb p c e 0) (hS : 4 * ss.length * (66 + M.length) ≤ 990000) (h3 : 3 ≤ ss.length) (href : refuC l (Z - 12) = 0)
    (hroom : 4 * (liveX (amap Sv.a M) + roomL l) ≤ (ss.length - 2) * (Z - 12)) (hB : B + 8 * (ss.length : Int) < 4294967295) (hL : B + 8 * (ss.length : Int) < (L : Int)) :
    Calls Tryz.prog 12 #[.pointer (some ⟨s, 0, none⟩), .slice A n cap] w fun e1 w' => DoneR s mb p c e Z L M ss B l w w' e1 :=
  (commit_any s mb p c e Z L M h ss A n cap l w G.g hM hC hn hT h0 hS).mono fun _ _ hO => hO.room G h3 href hroom hB hL (fun f hf => (hC.2.2.2.2 f hf).1.1)

end Go.Proofs.YtnhfmcijadficaaGreatDoor

/- The walk over a store's read: what a sector tells is done. -/
namespace Go.Proofs.YtnhfmcijadficaaGreatDoor
set_option maxRecDepth 100000
open Go.RowKit Go.Maps

/-- What a found record that counts does to a map; what a sector does; the head behind it. -/
def applyD (X : AX) (d : FD) (k : Int) : AX := if d.k = 2 then adel X d.key else aput X d.key (k, d.blob)
def readX (X : AX) (L : List FD) (k : Int) : AX := (commitsF L).foldl (fun X d => applyD X d k) X
def readH (Z k : Nat) (L : List FD) (to : Nat) (cl : Bool) : HeadV := if cl then ⟨0, 0, 0, 0⟩ else ⟨(k : Int), ((k * Z + to : Nat) : Int), ((Z - to : Nat) : Int), (maxT L : Int)⟩
/-- How a read ends. -/
def ReadTo (s mb p c e Z k : Nat) (M : Al Sv) (L : List FD) (to : Nat) (cl : Bool) (w w' : World) (e1 : Ending) : Prop :=
  e1 = .returned (.int .i64 0) ∧ (∃ M', StoreAt w' s mb p c e M' (readH Z k L to cl) false ∧ amap Sv.a M' = readX (amap Sv.a M) L (k : Int) ∧ M'.length ≤ M.length + L.length) ∧ Only (fun q => q = s ∨ q = mb) w w'

/-- A found record that counts, as a change. -/
def Fd.ch (f : Fd) : Ch := ⟨decide (f.k = 2), f.s, f.A, f.n, f.cap, f.blob⟩
theorem fold_snoc {α β : Type} (g : β → α → β) (x : β) (l : List α) (a : α) : (l ++ [a]).foldl g x = g (l.foldl g x) a := by rw [List.foldl_append]; rfl

theorem map_cell {w : World} {b n : Nat} {M : Al Sv} (h : StM w b n M) (ad : Addr) (hb : ad.block = b) : w.cell? ad = none := by
  obtain ⟨es, clock, hh, _⟩ := h
  unfold World.cell?
  rw [hb, hh]
theorem bytes_notmap {w : World} {b nM : Nat} {M : Al Sv} (hM : StM w b nM M) {A : Option Addr} {n cap : Nat} {xs : List UInt8} (h : ByteSl w Empty A n cap xs) : ByteSl w (· = b) A n cap xs := by
  refine ⟨h.1, h.2.1, h.2.2.1, fun hn => ?_⟩
  obtain ⟨ad, ha, hl, _, hx⟩ := h.2.2.2 hn
  refine ⟨ad, ha, hl, fun hb => ?_, hx⟩
  obtain ⟨x, hx0⟩ : ∃ x, xs[0]? = some x := ⟨_, List.getElem?_eq_getElem (by rw [h.1]; exact hn)⟩
  have h1 := hx 0 x hx0
  rw [map_cell hM (ad.add 0) (by rw [addr_add_block]; exact hb)] at h1
  cases h1
theorem founds_notmap {w : World} {b nM : Nat} {M : Al Sv} (hM : StM w b nM M) {A : Option Addr} {n cap : Nat} {l : List Fd} (h : Founds w Empty A n cap l) : Founds w (· = b) A n cap l := by
  refine ⟨h.1, h.2.1, h.2.2.1, fun hn => ?_, fun f hf => ⟨bytes_notmap hM (h.2.2.2.2 f hf).1, (h.2.2.2.2 f hf).2⟩⟩
  obtain ⟨b0, o, ha, hl, _, hx⟩ := h.2.2.2.1 hn
  refine ⟨b0, o, ha, hl, fun hb => ?_, hx⟩
  obtain ⟨f, hf⟩ : ∃ f, l[0]? = some f := ⟨_, List.getElem?_eq_getElem (by rw [h.1]; exact hn)⟩
  have h1 := hx 0 f hf 0 (by omega)
  rw [map_cell hM _ hb] at h1
  cases h1

theorem blk_cell {w : World} {g : Nat} {t : TypeId} {cs : Array Value} (hB : Blk w g t cs) (ad : Addr) (hb : ad.block = g) {v : Value} (h : w.cell? ad = some v) : ∃ i : Nat, cs[i]? = some v := by
  have e : w.heap[ad.block]? = some (.cells cs t (0, 0)) := by rw [hb]; exact hB
  simp only [World.cell?, e] at h
  split at h
  · cases h
  · exact ⟨_, h⟩
theorem bytes_apart {w : World} {S : Nat → Prop} {g : Nat} {t : TypeId} {cs : Array Value} (hB : Blk w g t cs) (h8 : ∀ (i : Nat) (x : UInt8), cs[i]? ≠ some (B8 x)) {A : Option Addr} {n cap : Nat} {xs : List UInt8} (h : ByteSl w S A n cap xs) : ByteSl w (fun q => S q ∨ q = g) A n cap xs := by
  refine ⟨h.1, h.2.1, h.2.2.1, fun hn => ?_⟩
  obtain ⟨ad, ha, hl, hs, hx⟩ := h.2.2.2 hn
  refine ⟨ad, ha, hl, fun hb => ?_, hx⟩
  rcases hb with hb | hb
  · exact hs hb
  · obtain ⟨x, hx0⟩ : ∃ x, xs[0]? = some x := ⟨_, List.getElem?_eq_getElem (by rw [h.1]; exact hn)⟩
    obtain ⟨i, hi⟩ := blk_cell hB (ad.add 0) (by rw [addr_add_block]; exact hb) (hx 0 x hx0)
    exact h8 i x hi
theorem founds_apart {w : World} {S : Nat → Prop} {g : Nat} {t : TypeId} {cs : Array Value} (hB : Blk w g t cs) (h8 : ∀ (i : Nat) (x : UInt8), cs[i]? ≠ some (B8 x)) (hstr : ∀ (i : Nat) s, cs[i]? ≠ some (.string s)) {A : Option Addr} {n cap : Nat} {l : List Fd} (h : Founds w S A n cap l) : Founds w (fun q => S q ∨ q = g) A n cap l := by
  refine ⟨h.1, h.2.1, h.2.2.1, fun hn => ?_, fun f hf => ⟨bytes_apart hB h8 (h.2.2.2.2 f hf).1, (h.2.2.2.2 f hf).2⟩⟩
  obtain ⟨b0, o, ha, hl, hs, hx⟩ := h.2.2.2.1 hn
  refine ⟨b0, o, ha, hl, fun hb => ?_, hx⟩
  rcases hb with hb | hb
  · exact hs hb
  · obtain ⟨f, hf⟩ : ∃ f, l[0]? = some f := ⟨_, List.getElem?_eq_getElem (by rw [h.1]; exact hn)⟩
    have h1 := hx 0 f hf 3 (by omega)
    have h2 : f.cells[3]? = some (.string f.s) := rfl
    rw [h2] at h1
    obtain ⟨i, hi⟩ := blk_cell hB _ hb h1
    exact hstr i _ hi
theorem store_cells (p mb : Nat) (h : HeadV) (d : Bool) : (∀ (i : Nat) (x : UInt8), (storeC p mb h d)[i]? ≠ some (B8 x)) ∧ ∀ (i : Nat) s, (storeC p mb h d)[i]? ≠ some (.string s) := by
  unfold storeC B8
  refine ⟨fun i x => ?_, fun i x => ?_⟩
  · rcases i with _ | _ | _ | _ | _ | _ | _ | i <;> simp
  · rcases i with _ | _ | _ | _ | _ | _ | _ | i <;> simp

set_option maxHeartbeats 8000000 in
theorem read_any (s mb p c e Z Lm k m en to : Nat) (cl : Bool) (ss : List (Nat × List UInt8)) (xs : List UInt8) (M : Al Sv) (h : HeadV) (L : List FD) (w : World) (hS : StoreAt w s mb p c e M h false) (hs : FS w p c e Z Lm ss) (hk : ss[k]? = some (m, xs)) (hE : IsEnd xs en) (hR : Runs xs en 12 false L to cl)
    (hM : M.length ≤ 500000) (hT : ∀ q, Three p c e q → q ≠ s ∧ q ≠ mb) :
    Calls Tryz.prog 74 #[.pointer (some ⟨s, 0, none⟩), .int .i64 (k : Int)] w fun e1 w' => ReadTo s mb p c e Z k M L to cl w w' e1 := by
  have hz := hs.bz
  have hxl := hs.len hk
  have hkz := kz_lt (Z := Z) hk
  have hkS := lt_at hk
  have hfew := hR.few (by omega)
  have hoks := hR.oks
  have s0 : w.cell? ⟨s, 0, none⟩ = some (.pointer (some ⟨p, 0, none⟩)) := hS.blk.cell 0
  have hsl := hS.blk.lt
  have hml := hS.map.lt
  have hg := geo_field1 (ss.length : Int) (Z : Int) (Lm : Int)
  have Hgeo := Lib.hid hs.geo
  have Hrd := Lib.hid (fun W (hW : Below w.heap.size w W) => ((hs.below hW).sec hk).read p c e ss.length Z Lm k m xs W)
  have hkm : (k : Int) * (Z : Int) = ((k * Z : Nat) : Int) := by simp
  obtain ⟨q0, hq0⟩ : ∃ q0, q0 = k * Z := ⟨_, rfl⟩
  obtain ⟨nS, hnS⟩ : ∃ nS, nS = ss.length := ⟨_, rfl⟩
  rw [← hq0] at hkm hkz Hrd
  rw [← hnS] at hg Hgeo
  have HS := Lib.hid hS
  have HE := Lib.hid hE
  have HR := Lib.hid hR
  have HT := Lib.hid hT
  have Hlt : Hid (∀ q, w.heap.size ≤ q → ¬ Mut s mb p c e q) := Lib.hid (fun q hq hm => by
    rcases hm with rfl | rfl | hm
    · omega
    · omega
    · have := hs.lt q hm; omega)
  have hq0b : q0 + Z ≤ 4194304 := by omega
  have hto : to ≤ Z := by omega
  have hL16 : L.length ≤ 4096 := by omega
  have hxZ : xs.length = Z := hxl
  have hZb : 64 ≤ Z ∧ Z ≤ 65536 := by omega
  have Hq0 := Lib.hid hq0
  have Hok := Lib.hid hoks
  clear hS hs hk hE hR hT hoks hz hxl hkz hfew hq0 hnS hkS
  go_enter Tryz.func74, Tryz.ntmps74
  go_wp2_with fail
  refine Hgeo.out.mono ?_
  rintro e1 w1 ⟨rfl, hb1⟩
  have Hb1 := Lib.hid hb1
  have s1 : w1.cell? ⟨s, 0, none⟩ = some (.pointer (some ⟨p, 0, none⟩)) := ((HS.out.below hb1).blk.cell 0)
  have hs1 := hb1.size
  clear hb1 Hgeo s0
  go_wp2_with fail
  have hrd := Hrd.out w1 Hb1.out
  refine hrd.mono ?_
  rintro e2 w2 ⟨v2, rfl, hown2, hb2⟩
  obtain ⟨A2, c2, rfl, hB2, -⟩ := ByteSl.of_own (S := Empty) hown2 (fun _ _ _ h => h)
  have Hb2 := Lib.hid (Hb1.out.trans (hb2.mono hs1))
  have Hsc := Lib.hid (scan_any A2 Z c2 xs w2 hB2 (by omega) (by omega) en HE.out L to cl HR.out)
  have hs2 := hb2.size
  clear hrd Hrd hown2 hb2 hB2 s1
  go_wp2_with fail
  refine Hsc.out.mono ?_
  rintro e3 w3 ⟨⟨A3, n3, c3, l3, rfl, hl3, hG3⟩, hb3⟩
  have Hb3 := Lib.hid (Hb2.out.trans (hb3.mono (by omega)))
  have hs3 := hb3.size
  have hn3 : n3 ≤ L.length := by have h1 := hG3.reads.1; have h2 : L.length = l3.length := by (rw [← hl3, List.length_map])
                                 omega
  have HF3 := Lib.hid hG3.reads
  have Hl3 := Lib.hid hl3
  have HokF : Hid (∀ f ∈ l3, f.d.okD) := Lib.hid (fun f hf => Hok.out _ (by rw [← Hl3.out]; exact List.mem_map.2 ⟨f, hf, rfl⟩))
  have hfn : ∀ f ∈ l3, f.n ≤ 16777216 := fun f hf => by
    have h1 := (hG3.reads.2.2.2.2 f hf).1.1
    have h2 := mayB_iff.1 (HokF.out f hf).1
    have h3 : f.d.blob.length = f.n := h1
    omega
  have Hcm := Lib.hid (commits_any A3 n3 c3 l3 w3 HF3.out (fun f hf => (HokF.out f hf).2) (by omega) hfn)
  rw [hl3] at Hcm
  clear Hsc hb3 hl3 hG3 hfn
  go_wp2_with fail
  refine Hcm.out.mono ?_
  rintro e4 w4 ⟨⟨A4, n4, c4, l4, rfl, hl4, hG4⟩, hb4⟩
  have Hb4 := Lib.hid (Hb3.out.trans (hb4.mono (by omega)))
  have hs4 := hb4.size
  have hn4 : n4 ≤ L.length := by
    have h1 := hG4.reads.1
    have h2 : l4.length = (commitsF L).length := by rw [← hl4, List.length_map]
    have h3 : (commitsF L).length ≤ L.length := List.length_filter_le _ _
    omega
  have HF3b := Lib.hid (HF3.out.below hb4)
  have HF4 := Lib.hid (founds_notmap ((HS.out.below Hb4.out).map) hG4.reads)
  have Hl4 := Lib.hid hl4
  have hl4n : l4.length = n4 := hG4.reads.1
  have Hok4 : Hid (∀ f ∈ l4, f.d.okD ∧ f.d.k ≠ 3) := Lib.hid (fun f hf => by
    have h1 : f.d ∈ commitsF L := by rw [← Hl4.out]; exact List.mem_map.2 ⟨f, hf, rfl⟩
    obtain ⟨h2, h3⟩ := List.mem_filter.1 h1
    refine ⟨Hok.out _ h2, fun h4 => ?_⟩
    unfold keepT at h3
    rw [h4] at h3
    simp at h3)
  have hn4c : n4 ≤ c4 := HF4.out.2.1
  have hc4m : c4 ≤ 9223372036854775807 := by have := HF4.out.2.2.1; unfold maxLen at this; omega
  have HS4 := Lib.hid (HS.out.below Hb4.out)
  clear Hcm hb4 hl4 hG4 HS Hb1 Hb2 Hb3
  go_wp2_with fail
  go_loopw [42] (fun v wr => ∃ (i : Nat) (Mi : Al Sv), i ≤ n4 ∧ v = .int .i64 (i : Int) ∧ Mi.length ≤ M.length + i ∧ Hid (StoreAt wr s mb p c e Mi h false) ∧ Hid (amap Sv.a Mi = ((l4.take i).map Fd.d).foldl (fun X d => applyD X d (k : Int)) (amap Sv.a M)) ∧ Hid (Only (· = mb) w4 wr)) (fun v _ => n4 - (intOf v).toNat)
  case atStart => exact ⟨0, M, Nat.zero_le _, rfl, by omega, HS4, Lib.hid rfl, Lib.hid (Only.refl _ _)⟩
  case round =>
    obtain ⟨i, Mi, hi, rfl, hMi, HSi, HXi, HO⟩ := hrel
    have hsr := HO.out.size
    have sr0 : wr.cell? ⟨s, 0, none⟩ = some (.pointer (some ⟨p, 0, none⟩)) := HSi.out.blk.cell 0
    have hsrl := HSi.out.blk.lt
    by_cases hlt : i < n4
    · obtain ⟨b, o, f, hA, hbl, -, hf, hc⟩ := ((HF4.out.only HO.out (fun j hj h => h)).row).at_ hlt
      have hfm := List.mem_of_getElem? hf
      have hokf := Hok4.out f hfm
      have hfair := okD_fair hokf.1 hokf.2
      have htk := take_snoc l4 i f hf
      have HXs : Hid (applyA (amap Sv.a Mi) f.ch (k : Int) = ((l4.take (i + 1)).map Fd.d).foldl (fun X d => applyD X d (k : Int)) (amap Sv.a M)) := Lib.hid (by
        rw [htk, List.map_append, List.map_singleton, fold_snoc, ← HXi.out]
        unfold applyA applyD Fd.ch Fd.d
        by_cases h2 : f.k = 2
        · simp [h2]
        · simp [h2])
      have hbf := (HF4.out.only HO.out (fun j hj h => h)).2.2.2.2 f hfm
      have Hap := Lib.hid (fun W (hW : Below wr.heap.size wr W) => apply0_any s mb p c e Mi h false f.ch (k : Int) W (HSi.out.below hW) ⟨(hbf.1.mono (T := Empty) (fun _ _ h => h.elim)).only (Only.of_below (S := Empty) hW) (fun _ _ h => h), hbf.2⟩ ⟨by have := hfair.1; rw [show f.d.key = f.s.data.toList from rfl, size_data] at this; exact this, by
          unfold Ch.rN
          split
          · omega
          · have h3 : f.d.blob.length = f.n := hbf.1.1
            show f.n ≤ 4096
            omega⟩ (by omega) (fun hm => (HT.out s hm).1 rfl) (fun q hq => Hlt.out q (by have := hW.size; have := Hb4.out.size; omega)))
      have hdl : (f.k == 2) = decide (f.k = 2) := rfl
      obtain ⟨pl, kk, t, sk, A5, n5, cap5, cc, bs⟩ := f
      have c0 : wr.cell? ⟨b, o + i * 6, none⟩ = some (.int .i64 pl) := hc 0 (by omega)
      have c1 : wr.cell? ⟨b, o + i * 6 + 1, none⟩ = some (.int .i64 kk) := hc 1 (by omega)
      have c2 : wr.cell? ⟨b, o + i * 6 + 2, none⟩ = some (.int .u32 (t : Int)) := hc 2 (by omega)
      have c3 : wr.cell? ⟨b, o + i * 6 + 3, none⟩ = some (.string sk) := hc 3 (by omega)
      have c4 : wr.cell? ⟨b, o + i * 6 + 4, none⟩ = some (.slice A5 n5 cap5) := hc 4 (by omega)
      have c5 : wr.cell? ⟨b, o + i * 6 + 5, none⟩ = some (.int .i64 cc) := hc 5 (by omega)
      have hal := (Below.refl wr.heap.size wr).alloc (Nat.le_refl _) (.cells #[.int .i64 pl, .int .i64 kk, .int .u32 (t : Int), .string sk, .slice A5 n5 cap5, .int .i64 cc] 190)
      subst hA
      clear hc hf hfm htk hokf hfair hbf
      go_wp2_with fail
      refine (Hap.out _ hal).mono ?_
      rintro e5 w5 ⟨rfl, ⟨M', hS5, hX5, hM5⟩, hO5⟩
      have HS5 := Lib.hid hS5
      have HX5 := Lib.hid (hX5.trans HXs.out)
      have HO5 := Lib.hid (HO.out.trans ((Only.of_below (S := (· = mb)) hal).trans hO5))
      clear hS5 hX5 hO5 Hap HXs HSi HXi HO c0 c1 c2 c3 c4 c5 sr0 hal
      go_wp2_with fail
      go_roundw
      case rel => exact ⟨i + 1, M', by omega, by simp, by omega, HS5, HX5, HO5⟩
      case measure => simp [intOf]; omega
    · have hin : i = n4 := by omega
      subst hin
      have hte : l4.take i = l4 := List.take_of_length_le (by omega)
      rw [hte, Hl4.out] at HXi
      have q2 : wr.cell? ⟨s, 2, none⟩ = some (.int .i64 h.sec) := HSi.out.blk.cell 2
      have q3 : wr.cell? ⟨s, 3, none⟩ = some (.int .i64 h.next) := HSi.out.blk.cell 3
      have q4 : wr.cell? ⟨s, 4, none⟩ = some (.int .i64 h.left) := HSi.out.blk.cell 4
      have q5 : wr.cell? ⟨s, 5, none⟩ = some (.int .u32 h.txn) := HSi.out.blk.cell 5
      have r2 := HSi.out.blk.frozen 2
      have r3 := HSi.out.blk.frozen 3
      have r4 := HSi.out.blk.frozen 4
      have r5 := HSi.out.blk.frozen 5
      have hsh := HSi.out.set_head ⟨0, 0, 0, 0⟩
      have HO6 := Lib.hid (((Only.of_below (S := fun q => q = s ∨ q = mb) Hb4.out).trans (HO.out.mono (T := fun q => q = s ∨ q = mb) (fun _ _ h => Or.inr h))).trans (hsh.2.mono (T := fun q => q = s ∨ q = mb) (fun _ _ h => Or.inl h)))
      have HS6 := Lib.hid hsh.1
      have HF6 := Lib.hid ((((founds_apart HS4.out.blk (store_cells p mb h false).1 (store_cells p mb h false).2 (founds_notmap HS4.out.map HF3b.out)).only HO.out (fun _ _ h => Or.inl h)).only hsh.2 (fun _ _ h => Or.inr h)).mono (T := Empty) (fun _ _ h => h.elim))
      have hwl := hsh.2.size
      clear hsh HSi HF4 HF3b HF3 HO Hb4 hte HS4
      obtain ⟨w6, hw6⟩ : ∃ w6, w6 = ((((wr.setCell ⟨s, 2, none⟩ (.int .i64 0)).setCell ⟨s, 3, none⟩ (.int .i64 0)).setCell ⟨s, 4, none⟩ (.int .i64 0)).setCell ⟨s, 5, none⟩ (.int .u32 0)) := ⟨_, rfl⟩
      rw [← hw6] at HS6 HO6 HF6 hwl
      have hl3n : l3.length = n3 := HF6.out.1
      have Hgr := Lib.hid (greatest_any A3 n3 c3 l3 w6 HF6.out (fun d hd => by
        obtain ⟨f, hf, rfl⟩ := List.mem_map.1 hd
        exact (HokF.out f hf).2) (by omega))
      rw [Hl3.out] at Hgr
      have q0' : w6.cell? ⟨s, 0, none⟩ = some (.pointer (some ⟨p, 0, none⟩)) := HS6.out.blk.cell 0
      have HX6 : Hid (amap Sv.a Mi = readX (amap Sv.a M) L (k : Int)) := Lib.hid HXi.out
      have hMi2 : Mi.length ≤ M.length + L.length := by omega
      clear HXi
      go_upto_if 12 with (fail)
      · have hclf : cl = false := by simp_all
        rw [← hw6]
        refine Hgr.out.mono ?_
        rintro e7 w7 ⟨rfl, hb7⟩
        have HS7 := Lib.hid (HS6.out.below hb7)
        have HO7 := Lib.hid (HO6.out.trans (Only.of_below (S := fun q => q = s ∨ q = mb) hb7))
        have q2 : w7.cell? ⟨s, 2, none⟩ = some (.int .i64 0) := HS7.out.blk.cell 2
        have q3 : w7.cell? ⟨s, 3, none⟩ = some (.int .i64 0) := HS7.out.blk.cell 3
        have q4 : w7.cell? ⟨s, 4, none⟩ = some (.int .i64 0) := HS7.out.blk.cell 4
        have q5 : w7.cell? ⟨s, 5, none⟩ = some (.int .u32 0) := HS7.out.blk.cell 5
        have r2 := HS7.out.blk.frozen 2
        have r3 := HS7.out.blk.frozen 3
        have r4 := HS7.out.blk.frozen 4
        have r5 := HS7.out.blk.frozen 5
        have hsl7 := HS7.out.blk.lt
        have Hh := Lib.hid (HS7.out.set_head ⟨(k : Int), ((q0 + to : Nat) : Int), ((Z - to : Nat) : Int), (maxT L : Int)⟩)
        have hcz : ((Z - to : Nat) : Int) = (Z : Int) - (to : Int) := by omega
        have hcq : ((q0 + to : Nat) : Int) = (q0 : Int) + (to : Int) := by omega
        rw [hcz, hcq] at Hh
        have HMl := Lib.hid hMi2
        have Hcl := Lib.hid hclf
        have Hcz := Lib.hid hcz
        have Hcq := Lib.hid hcq
        clear hb7 hw6 HS6 HO6 HF6 Hgr HS7 q0' hwl hMi2 hclf hcz hcq hMi
        go_wp2_with fail
        go_ret
        refine ⟨rfl, ⟨Mi, ?_, HX6.out, HMl.out⟩, HO7.out.trans (Hh.out.2.mono (T := fun q => q = s ∨ q = mb) (fun _ _ h => Or.inl h))⟩
        have he : readH Z k L to cl = ⟨(k : Int), (q0 : Int) + (to : Int), (Z : Int) - (to : Int), (maxT L : Int)⟩ := by
          unfold readH
          rw [Hcl.out, ← Hcz.out, ← Hcq.out, Hq0.out]
          rfl
        rw [he]
        exact Hh.out.1
      · have hclt : cl = true := by simp_all
        rw [← hw6]
        go_ret
        refine ⟨rfl, ⟨Mi, ?_, HX6.out, hMi2⟩, HO6.out⟩
        rw [hclt]
        exact HS6.out

end Go.Proofs.YtnhfmcijadficaaGreatDoor

/- The walk over told: what a row of sectors tells. -/
namespace Go.Proofs.YtnhfmcijadficaaGreatDoor
set_option maxRecDepth 100000
open Go.RowKit Go.Maps

/-- What the scan of a flash's sectors finds: records, end, closed. -/
abbrev Scans := Nat → List FD × Nat × Bool
def Tells (ss : List (Nat × List UInt8)) (T : Scans) : Prop := ∀ k m xs, ss[k]? = some (m, xs) → ∃ en, IsEnd xs en ∧ Runs xs en 12 false (T k).1 (T k).2.1 (T k).2.2
theorem tells_ex (ss : List (Nat × List UInt8)) : ∃ T, Tells ss T := by
  have h1 : ∀ k : Nat, ∃ t : List FD × Nat × Bool, ∀ m xs, ss[k]? = some (m, xs) → ∃ en, IsEnd xs en ∧ Runs xs en 12 false t.1 t.2.1 t.2.2 := by
    intro k
    cases hk : ss[k]? with
    | none => exact ⟨([], 0, false), fun m xs h => by cases h⟩
    | some y =>
      obtain ⟨m, xs⟩ := y
      obtain ⟨en, hE⟩ := IsEnd.exists_ xs
      obtain ⟨l, to, c, hR⟩ := Runs.exists_ xs en hE.le xs.length 12 false (by omega)
      refine ⟨(l, to, c), fun m' xs' h => ?_⟩
      cases h
      exact ⟨en, hE, hR⟩
  exact ⟨fun k => Classical.choose (h1 k), fun k m xs h => Classical.choose_spec (h1 k) m xs h⟩
def toldX (T : Scans) (ks : List Nat) : AX := ks.foldl (fun X k => readX X (T k).1 (k : Int)) []
def toldH (Z : Nat) (T : Scans) (ks : List Nat) : HeadV := ks.foldl (fun _ k => readH Z k (T k).1 (T k).2.1 (T k).2.2) ⟨0, 0, 0, 0⟩

/-- How told ends. -/
def ToldTo (p c e Z : Nat) (T : Scans) (ks : List Nat) (w w' : World) (e1 : Ending) : Prop :=
  (∃ s mb M, e1 = .returned (.tuple #[.pointer (some ⟨s, 0, none⟩), .int .i64 0]) ∧ StoreAt w' s mb p c e M (toldH Z T ks) false ∧ amap Sv.a M = toldX T ks ∧ M.length ≤ ks.length * 4096 ∧ w.heap.size ≤ s ∧ w.heap.size ≤ mb) ∧ Below w.heap.size w w'

set_option maxHeartbeats 8000000 in
theorem told_any {m : Nat} (p c e Z Lm n cap : Nat) (A : Option Addr) (l : List (Fin (m + 1))) (T : Scans) (ss : List (Nat × List UInt8)) (w : World) (hs : FS w p c e Z Lm ss) (hA : RowSl finC 1 w Empty A n cap l) (hT : Tells ss T) (hm : m < ss.length) (hn : n ≤ 64) :
    Calls Tryz.prog 37 #[.pointer (some ⟨p, 0, none⟩), .slice A n cap] w fun e1 w' => ToldTo p c e Z T (l.map Fin.val) w w' e1 := by
  have hT3 : ∀ q, Three p c e q → q < w.heap.size := fun q hq => hs.lt q hq
  have HN := Lib.hid (store_new w p c e hT3)
  have Hb := Lib.hid (((Below.refl w.heap.size w).alloc (Nat.le_refl _) (.map #[] 0)).alloc (by simp) (.cells (storeC p w.heap.size ⟨0, 0, 0, 0⟩ false) 106))
  have hmm := @run_makeMap Tryz.prog
  have hncap : n ≤ cap := hA.2.1
  have hcap2 : cap ≤ 9223372036854775807 := by have := hA.2.2.1; unfold maxLen at this; omega
  have hln := hA.1
  have HA := Lib.hid hA
  have HS := Lib.hid hs
  have HT := Lib.hid hT
  have HT3 := Lib.hid hT3
  unfold storeC at HN Hb
  clear hs hA hT hT3
  go_enter Tryz.func37, Tryz.ntmps37
  go_wp2_with fail
  obtain ⟨w1, hw1⟩ : ∃ w1, w1 = (w.alloc (.map #[] 0)).alloc (.cells #[.pointer (some ⟨p, 0, none⟩), .map (some w.heap.size), .int .i64 0, .int .i64 0, .int .i64 0, .int .u32 0, .bool false] 106) := ⟨_, rfl⟩
  rw [← hw1] at HN Hb ⊢
  have Hw1 := Lib.hid hw1
  clear hw1
  have Hrk : Hid (∀ (k : Nat) (M : Al Sv) (h : HeadV) (W : World), k < ss.length → StoreAt W (w.heap.size + 1) w.heap.size p c e M h false → Below w.heap.size w W → M.length ≤ 500000 →
      Calls Tryz.prog 74 #[.pointer (some ⟨w.heap.size + 1, 0, none⟩), .int .i64 (k : Int)] W fun e1 w' => ReadTo (w.heap.size + 1) w.heap.size p c e Z k M (T k).1 (T k).2.1 (T k).2.2 W w' e1 ∧ (T k).1.length ≤ 4096) := Lib.hid (by
    intro k M h W hk hSt hB hM
    obtain ⟨⟨m', xs⟩, hx⟩ : ∃ y, ss[k]? = some y := ⟨_, List.getElem?_eq_getElem hk⟩
    obtain ⟨en, hE, hR⟩ := HT.out k m' xs hx
    have hfs := HS.out.below hB
    have hxl := hfs.len hx
    have hz := hfs.bz
    have hfew := hR.few (by omega)
    refine (read_any (w.heap.size + 1) w.heap.size p c e Z Lm k m' en _ _ ss xs M h _ W hSt hfs hx hE hR hM (fun q hq => ?_)).mono ?_
    · have := HT3.out q hq
      exact ⟨by omega, by omega⟩
    · intro e1 w' h1
      exact ⟨h1, by omega⟩)
  clear Hw1 hmm
  go_loopw [4, 14] (fun sv v wr => ∃ (i : Nat) (Mi : Al Sv), i ≤ n ∧ v = .int .i64 (i : Int) ∧ sv = .pointer (some ⟨w.heap.size + 1, 0, none⟩) ∧ Mi.length ≤ i * 4096 ∧ Hid (StoreAt wr (w.heap.size + 1) w.heap.size p c e Mi (toldH Z T ((l.take i).map Fin.val)) false) ∧ Hid (amap Sv.a Mi = toldX T ((l.take i).map Fin.val)) ∧ Hid (Below w.heap.size w wr)) (fun _ v _ => n - (intOf v).toNat)
  case atStart => exact ⟨0, [], Nat.zero_le _, rfl, rfl, by simp, HN, Lib.hid rfl, Hb⟩
  case round =>
    obtain ⟨i, Mi, hi, rfl, rfl, hMi, HSi, HXi, HB⟩ := hrel
    have hsr := HB.out.size
    by_cases hlt : i < n
    · obtain ⟨b, o, f, rfl, hbl, -, hf, hc⟩ := (HA.out.only (Only.of_below (S := Empty) HB.out) (fun _ _ h => h)).at_ hlt
      have htk := take_snoc l i f hf
      have c0 : wr.cell? ⟨b, o + i, none⟩ = some (.int .i64 (f.val : Int)) := by have := hc 0 (by omega); rw [Nat.mul_one] at this; exact this
      have Hr := Lib.hid (Hrk.out f.val Mi _ wr (by have := f.isLt; omega) HSi.out HB.out (by omega))
      have Hhs : Hid (readH Z f.val (T f.val).1 (T f.val).2.1 (T f.val).2.2 = toldH Z T ((l.take (i + 1)).map Fin.val)) := Lib.hid (by rw [htk, List.map_append, List.map_singleton]; unfold toldH; rw [fold_snoc])
      have Hxs : Hid (readX (toldX T ((l.take i).map Fin.val)) (T f.val).1 (f.val : Int) = toldX T ((l.take (i + 1)).map Fin.val)) := Lib.hid (by rw [htk, List.map_append, List.map_singleton]; unfold toldX; rw [fold_snoc])
      have hbl2 : b < wr.heap.size := hbl
      clear hc hf htk
      obtain ⟨kf, hkf⟩ : ∃ kf : Nat, kf = f.val := ⟨_, rfl⟩
      rw [← hkf] at c0 Hr Hhs Hxs
      clear hkf
      go_wp2_with fail
      refine Hr.out.mono ?_
      rintro e2 w2 ⟨⟨rfl, ⟨M', hS2, hX2, hM2⟩, hO2⟩, hl2⟩
      have HS2 := Lib.hid (Hhs.out ▸ hS2)
      have HX2 : Hid (amap Sv.a M' = toldX T ((l.take (i + 1)).map Fin.val)) := Lib.hid (by rw [hX2, HXi.out, Hxs.out])
      have HB2 := Lib.hid (HB.out.trans (hO2.below hsr (fun k hk h => by omega)))
      have hM3 : M'.length ≤ (i + 1) * 4096 := by omega
      clear Hr hS2 hX2 hO2 HSi HXi c0 Hhs Hxs
      go_wp2_with fail
      go_roundw
      case rel => exact ⟨i + 1, M', by omega, by simp, rfl, hM3, HS2, HX2, HB2⟩
      case measure => simp [intOf]; omega
    · have hin : i = n := by omega
      subst hin
      have hte : l.take i = l := List.take_of_length_le (by omega)
      rw [hte] at HXi HSi
      clear hte
      go_wp2_with fail
      go_ret2
      exact ⟨⟨_, _, Mi, rfl, HSi.out, HXi.out, by rw [List.length_map, hln]; exact hMi, by omega, Nat.le_refl _⟩, HB.out⟩

end Go.Proofs.YtnhfmcijadficaaGreatDoor
