/- The walk over carpetbagmake's Next. -/
import Derived.Test.YtnhfmcijadficaaGreatDoorZbg
import Derived.Test.YtnhfmcijadficaaGreatDoorZac
namespace Go.Proofs.YtnhfmcijadficaaGreatDoor
set_option maxRecDepth 100000
open Go.RowKit Go.Maps

/-- A tape as it lies: its own block is new, its bytes are old. -/
structure TapeAt (w : World) (B g : Nat) (A : Option Addr) (n cap : Nat) (xs : List UInt8) (at_ : Nat) : Prop where
  blk : Blk w g 53 #[.slice A n cap, .int .i64 (at_ : Int)]
  row : ByteSl w (fun q => B ≤ q) A n cap xs
  le : at_ ≤ n
  new : B ≤ g
  n1 : n ≤ 1048576

theorem TapeAt.only {w w' : World} {B g n cap at_ : Nat} {A : Option Addr} {xs : List UInt8} {T : Nat → Prop} (h : TapeAt w B g A n cap xs at_) (k : Only T w w') (hg : ¬ T g) (hb : ∀ i, T i → B ≤ i) : TapeAt w' B g A n cap xs at_ :=
  ⟨k.blk h.blk hg, h.row.only k (fun i _ h1 => hb i h1), h.le, h.new, h.n1⟩
theorem TapeAt.below {w w' : World} {B g n cap at_ : Nat} {A : Option Addr} {xs : List UInt8} (h : TapeAt w B g A n cap xs at_) (k : Below w.heap.size w w') : TapeAt w' B g A n cap xs at_ :=
  h.only (Only.of_below (S := Empty) k) (fun h => h) (fun _ h => h.elim)

/-- How Next ends: a number below k. -/
def Nexted (B g : Nat) (A : Option Addr) (n cap : Nat) (xs : List UInt8) (k : Nat) (w w' : World) (e1 : Ending) : Prop :=
  (∃ v : Nat, v < k ∧ e1 = .returned (.int .i64 (v : Int))) ∧ (∃ at2, TapeAt w' B g A n cap xs at2) ∧ Only (· = g) w w'

set_option maxHeartbeats 2000000 in
theorem next_tape (B g : Nat) (A : Option Addr) (n cap : Nat) (xs : List UInt8) (at_ k : Nat) (w : World) (h : TapeAt w B g A n cap xs at_) (hk : 2 ≤ k) (hk2 : k ≤ 1048576) :
    Calls Tryz.prog 18 #[.pointer (some ⟨g, 0, none⟩), .int .i64 (k : Int)] w fun e1 w' => Nexted B g A n cap xs k w w' e1 := by
  have hn1 := h.n1
  have hle := h.le
  have c0 : w.cell? ⟨g, 0, none⟩ = some (.slice A n cap) := h.blk.cell 0
  have c1 : w.cell? ⟨g, 1, none⟩ = some (.int .i64 (at_ : Int)) := h.blk.cell 1
  have f1 := h.blk.frozen 1
  have hgl := h.blk.lt
  have hcap := h.row.2.1
  have hk3 : decide ((k : Int) < 2) = false := by simp; omega
  by_cases hlt : at_ < n
  · obtain ⟨ad, x, rfl, had, hadB, hx, hc⟩ := h.row.at_ hlt
    have hag : ad.block ≠ g := fun e => hadB (by rw [e]; exact h.new)
    have hO : Only (· = g) w (w.setCell ⟨g, 1, none⟩ (.int .i64 ((at_ : Int) + 1))) := (Only.refl (· = g) w).setCell (p := ⟨g, 1, none⟩) (Or.inl rfl) _
    have hb1 := h.blk.set_ 1 (.int .i64 ((at_ : Int) + 1))
    have HT : Hid (TapeAt (w.setCell ⟨g, 1, none⟩ (.int .i64 ((at_ : Int) + 1))) B g (some ad) n cap xs (at_ + 1)) := Lib.hid ⟨by simpa using hb1, h.row.only hO (fun i _ e => by rw [e]; exact h.new), by omega, h.new, hn1⟩
    have hlt2 : decide ((n : Int) ≤ (at_ : Int)) = false := by simp; omega
    have HO := Lib.hid hO
    have hxb : x.toNat < 256 := x.toNat_lt
    have hd : ((at_ : Int) + 1 - 1) = (at_ : Int) := by omega
    have hc2 : (w.setCell ⟨g, 1, none⟩ (.int .i64 ((at_ : Int) + 1))).cell? (ad.add at_) = some (.int .u8 (x.toNat : Int)) := (hO.cell (p := ad.add at_) (by rw [addr_add_block]; exact had) (by rw [addr_add_block]; exact hag)).trans hc
    have hd0 : (w.setCell ⟨g, 1, none⟩ (.int .i64 ((at_ : Int) + 1))).cell? ⟨g, 0, none⟩ = some (.slice (some ad) n cap) := hb1.cell 0
    have hd1 : (w.setCell ⟨g, 1, none⟩ (.int .i64 ((at_ : Int) + 1))).cell? ⟨g, 1, none⟩ = some (.int .i64 ((at_ : Int) + 1)) := by rw [hb1.cell]; rfl
    clear h hx hO hb1
    go_enter Tryz.func18, Tryz.ntmps18
    go_wp2_with fail
    go_region
    go_wp2_with fail
    obtain ⟨w1, hw1⟩ : ∃ w1, w1 = w.setCell ⟨g, 1, none⟩ (.int .i64 ((at_ : Int) + 1)) := ⟨_, rfl⟩
    rw [← hw1] at HT HO hc2 hd0 hd1 ⊢
    have hmod : (x.toNat : Int) % (k : Int) = ((x.toNat % k : Nat) : Int) := by simp
    have hk0 : ((k : Int) == 0) = false := by simp; omega
    clear hw1 c0 c1 f1
    go_region
    go_wp2_with fail
    go_ret
    exact ⟨⟨x.toNat % k, Nat.mod_lt _ (by omega), by simp⟩, ⟨at_ + 1, HT.out.only ((Only.refl Empty w1).drew.drew) (fun h => h) (fun _ h => h.elim)⟩, HO.out.drew.drew⟩
  · have hlt2 : decide ((n : Int) ≤ (at_ : Int)) = true := by simp; omega
    have HT := Lib.hid h
    clear h
    go_enter Tryz.func18, Tryz.ntmps18
    go_wp2_with fail
    go_region
    go_wp2_with fail
    go_ret
    exact ⟨⟨0, by omega, rfl⟩, ⟨at_, HT.out.only (Only.refl Empty w).drew (fun h => h) (fun _ h => h.elim)⟩, (Only.refl _ _).drew⟩

theorem next_tape_v (B g : Nat) (A : Option Addr) (n cap : Nat) (xs : List UInt8) (at_ k : Nat) (kv : Int) (w : World) (h : TapeAt w B g A n cap xs at_) (hk : 2 ≤ k) (hk2 : k ≤ 1048576) (hv : kv = (k : Int)) :
    Calls Tryz.prog 18 #[.pointer (some ⟨g, 0, none⟩), .int .i64 kv] w fun e1 w' => Nexted B g A n cap xs k w w' e1 := by
  subst hv
  exact next_tape B g A n cap xs at_ k w h hk hk2

end Go.Proofs.YtnhfmcijadficaaGreatDoor

/- The walk over carpetbagmake's Changes. -/
namespace Go.Proofs.YtnhfmcijadficaaGreatDoor
set_option maxRecDepth 100000
open Go.RowKit Go.Maps

/-- A change whose blob was made anew. -/
def BlobOwn (w : World) (base : Nat) (f : Ch) : Prop := ∃ gb, f.A = some ⟨gb, 0, none⟩ ∧ base ≤ gb ∧ Blk w gb 5 (cellsB f.blob) ∧ f.n = f.blob.length ∧ f.cap = f.n ∧ f.n ≤ 1048576
theorem BlobOwn.keep {E : TypeId → Prop} {w w' : World} {base : Nat} {f : Ch} (h : BlobOwn w base f) (k : Keep E w w') (hE : ¬ E 5) : BlobOwn w' base f := by
  obtain ⟨gb, h1, h2, h3, h4⟩ := h
  exact ⟨gb, h1, h2, k _ _ _ h3 hE, h4⟩
theorem BlobOwn.sl {w : World} {base : Nat} {f : Ch} (h : BlobOwn w base f) : ByteSl w (fun q => q < base) f.A f.n f.cap f.blob ∧ (f.A = none → f.n = 0 ∧ f.cap = 0) := by
  obtain ⟨gb, h1, h2, h3, h4, h5, h6⟩ := h
  refine ⟨⟨h4.symm, by omega, by unfold maxLen; omega, fun _ => ⟨_, h1, h3.lt, by show ¬ gb < base; omega, fun j x hx => ?_⟩⟩, fun h => by rw [h1] at h; cases h⟩
  rw [show (⟨gb, 0, none⟩ : Addr).add j = ⟨gb, j, none⟩ by simp [Addr.add]; omega, h3.cell]
  simp [cellsB, hx]

theorem key6 (v : Nat) (h : v < 6) : ∃ kb : ByteArray, (#[.string ⟨#[97]⟩, .string ⟨#[98]⟩, .string ⟨#[99]⟩, .string ⟨#[100, 47, 49]⟩, .string ⟨#[100, 47, 50]⟩, .string ⟨#[97]⟩] : Array Value)[v]? = some (.string kb) ∧ kb.size ≤ 3 := by
  have h1 : v = 0 ∨ v = 1 ∨ v = 2 ∨ v = 3 ∨ v = 4 ∨ v = 5 := by omega
  rcases h1 with rfl | rfl | rfl | rfl | rfl | rfl <;> exact ⟨_, rfl, by decide⟩
theorem len4 (v : Nat) (h : v < 4) : ∃ nb : Nat, (#[.int .i64 0, .int .i64 3, .int .i64 9, .int .i64 30] : Array Value)[v]? = some (.int .i64 (nb : Int)) ∧ nb ≤ 30 := by
  have h1 : v = 0 ∨ v = 1 ∨ v = 2 ∨ v = 3 := by omega
  rcases h1 with rfl | rfl | rfl | rfl
  · exact ⟨0, rfl, by decide⟩
  · exact ⟨3, rfl, by decide⟩
  · exact ⟨9, rfl, by decide⟩
  · exact ⟨30, rfl, by decide⟩

theorem cellsB_setv (xs : List UInt8) (j v : Nat) (hv : v < 256) : (cellsB xs).setIfInBounds j (.int .u8 (v : Int)) = cellsB (xs.set j (UInt8.ofNat v)) := by
  have e : B8 (UInt8.ofNat v) = .int .u8 (v : Int) := by
    unfold B8
    rw [UInt8.toNat_ofNat_of_lt' hv]
  rw [← e, cellsB_set]

/-- How Changes ends: one change or two, made anew. -/
def Changed (B g : Nat) (A : Option Addr) (n cap : Nat) (xs : List UInt8) (w w' : World) (e1 : Ending) : Prop :=
  (∃ A' m cap' l, m ≤ 2 ∧ e1 = .returned (.slice A' m cap') ∧ Chs w' (fun q => q < w.heap.size) A' m cap' l) ∧ (∃ at2, TapeAt w' B g A n cap xs at2) ∧ Only (· = g) w w'

end Go.Proofs.YtnhfmcijadficaaGreatDoor

/- A flash as New makes it; where a sector can be opened there is room. -/
namespace Go.Proofs.YtnhfmcijadficaaGreatDoor
set_option maxRecDepth 100000
open Go.RowKit Go.Maps

def freshS (S Z : Nat) : List (Nat × List UInt8) := List.replicate S (0, List.replicate Z 255)
theorem FS.fresh {w : World} {p c e S Z L : Nat} (h : FlashAt w p c e (Fl.fresh S Z L)) : FS w p c e Z L (freshS S Z) := by
  refine ⟨Fl.fresh S Z L, h, rfl, rfl, by simp [freshS, Fl.fresh], rfl, rfl, fun k m xs hk => ?_⟩
  unfold freshS at hk
  rw [List.getElem?_replicate] at hk
  split at hk
  · rename_i hlt
    cases hk
    refine ⟨?_, ?_⟩
    · show (List.replicate S 0)[k]? = some 0
      rw [List.getElem?_replicate, if_pos hlt]
    · show ((List.replicate (S * Z) 255).drop (k * Z)).take Z = _
      rw [List.drop_replicate, List.take_replicate]
      congr 1
      have h1 : (k + 1) * Z ≤ S * Z := Nat.mul_le_mul_right _ hlt
      rw [Nat.add_mul, Nat.one_mul] at h1
      omega
  · cases hk
theorem fresh_secs (S Z : Nat) (hz : 12 ≤ Z) : secsOf (freshS S Z) = List.replicate S ⟨0, 0, 0⟩ := by
  unfold secsOf freshS
  rw [List.map_replicate]
  congr 1
  have h := blank_st Z hz
  show (⟨stS _, stQ _, _⟩ : Sc) = _
  rw [h.2.2, h.2.1]
  rfl
theorem fresh_no (S Z : Nat) (hz : 12 ≤ Z) : ∀ x ∈ freshS S Z, stU x.2 = false := by
  intro x hx
  rw [List.eq_of_mem_replicate hx]
  exact (blank_st Z hz).1
theorem fresh_count (S Z L : Nat) (hz : 12 ≤ Z) : (secsOf (freshS S Z)).countP (opensB (L : Int)) = S := by
  rw [fresh_secs S Z hz, List.countP_replicate]
  simp [opensB]
theorem fresh_last (S Z : Nat) (hz : 12 ≤ Z) : lastQ (secsOf (freshS S Z)) = 0 := by
  rw [fresh_secs S Z hz]
  unfold lastQ
  induction S with
  | zero => rfl
  | succ n ih => rw [List.replicate_succ, List.foldl_cons]; exact ih

theorem best_some {L : Nat} {l : List Sc} (h : 0 < l.countP (opensB (L : Int))) : best (opensB (L : Int)) Sc.er l l.length ≠ none := by
  intro hb
  have h1 := best_is (opensB (L : Int)) Sc.er l l.length (Nat.le_refl _)
  rw [hb] at h1
  rw [List.countP_pos_iff] at h
  obtain ⟨s, hs, ho⟩ := h
  obtain ⟨j, hj, rfl⟩ := List.mem_iff_getElem.1 hs
  have h2 := h1 j _ hj (List.getElem?_eq_getElem hj)
  rw [ho] at h2
  cases h2
/-- Where two sectors can be opened one round makes room. -/
theorem one_round {Z L : Nat} {M : Al Sv} {room : Int} {n : Nat} {P : PV} {K : List (List (List UInt8))} {b : Bool} {PF : PV} {KF : List (List (List UInt8))} (h2 : 2 ≤ P.l.countP (opensB (L : Int))) (hq : ¬ lastQ P.l = 4294967295) (hr : room ≤ ((Z - 12 : Nat) : Int))
    (h : Rounds Z L M room (n + 1) P K b PF KF) : b = true ∧ KF = K ∧ ∃ i s, Opens L P i s ∧ PF = P.opened i Z s := by
  have hno : ¬ NoOpen L P := fun hn => by
    rcases hn.no with h1 | h1
    · exact best_some (by omega) h1
    · exact hq h1
  rcases h.inv with ⟨t, hm, rfl⟩ | ⟨t, hm, _, rfl⟩ | ⟨t, P1, K1, hm, htk, _, _⟩
  · rcases hm with ⟨_, i, s, _, h3, _⟩ | ⟨_, h3, _⟩ | ⟨h3, _⟩
    · cases h3
    · exact absurd h3 hno
    · omega
  · rcases hm with ⟨_, i, s, h3, _, h4, h5⟩ | ⟨_, h3, _⟩ | ⟨h3, _⟩
    · exact ⟨rfl, h5, i, s, h3, h4⟩
    · exact absurd h3 hno
    · omega
  · rcases hm with ⟨_, i, s, _, _, h4, _⟩ | ⟨_, h3, _⟩ | ⟨h3, _⟩
    · rw [h4] at htk
      have : takesB (P.opened i Z s).h room = true := by
        unfold takesB PV.opened
        simp
        omega
      rw [this] at htk
      cases htk
    · exact absurd h3 hno
    · omega

theorem reSecK_none (S : Nat) : ∀ (n j : Nat) (X : Al (Int × List UInt8)), reSecK j X (List.replicate n []) = X
  | 0, _, _ => rfl
  | n + 1, j, X => by rw [List.replicate_succ]; exact reSecK_none S n (j + 1) X

end Go.Proofs.YtnhfmcijadficaaGreatDoor

/- Where there is room: what keys take, what a plan keeps from round to round. The plain half. -/
namespace Go.Proofs.YtnhfmcijadficaaGreatDoor
set_option maxRecDepth 100000
open Go.RowKit Go.Maps

/-- What a key's put takes; what keys take, what they count for; what the ends of their commits take at most. -/
def szK (M : Al Sv) (k : List UInt8) : Nat := (keyCh M k).sz
def sumA (M : Al Sv) (ks : List (List UInt8)) : Nat := (ks.map (szK M)).sum
def sumW (M : Al Sv) (ks : List (List UInt8)) : Nat := sumA M ks + 16 * ks.length
def cost (n : Nat) : Nat := (n + 15) / 16 * 16
theorem cost_add (n m : Nat) (h : m ≤ 16) : cost (n + m) ≤ cost n + 16 := by unfold cost; omega
theorem cost_mono {n m : Nat} (h : n ≤ m) : cost n ≤ cost m := by unfold cost; omega
theorem cost_pos {n : Nat} (h : 0 < n) : 16 ≤ cost n := by unfold cost; omega
theorem cost_16 {n : Nat} (h : 16 ≤ n) : cost n = cost (n - 16) + 16 := by unfold cost; omega
theorem sumA_app (M : Al Sv) (a b : List (List UInt8)) : sumA M (a ++ b) = sumA M a + sumA M b := by simp [sumA]
theorem sumA_cons (M : Al Sv) (a : List UInt8) (b : List (List UInt8)) : sumA M (a :: b) = szK M a + sumA M b := by simp [sumA]
theorem sumW_app (M : Al Sv) (a b : List (List UInt8)) : sumW M (a ++ b) = sumW M a + sumW M b := by unfold sumW; rw [sumA_app, List.length_append]; omega
theorem sumA_take (M : Al Sv) (ks : List (List UInt8)) (n : Nat) : sumA M (ks.take n) + sumA M (ks.drop n) = sumA M ks := by rw [← sumA_app, List.take_append_drop]
def totW (M : Al Sv) (K : List (List (List UInt8))) : Nat := (K.map (sumW M)).sum
theorem totW_set (M : Al Sv) : ∀ (K : List (List (List UInt8))) (i : Nat) (kk x : List (List UInt8)), K[i]? = some kk → totW M (K.set i x) + sumW M kk = totW M K + sumW M x
  | [], i, kk, x, h => by simp at h
  | a :: K, 0, kk, x, h => by
    simp at h
    subst h
    simp [totW]
    omega
  | a :: K, i + 1, kk, x, h => by
    have h1 : K[i]? = some kk := by simpa using h
    have h2 := totW_set M K i kk x h1
    have h3 : totW M ((a :: K).set (i + 1) x) = sumW M a + totW M (K.set i x) := by simp [totW]
    have h4 : totW M (a :: K) = sumW M a + totW M K := by simp [totW]
    omega

/-- The greatest Seq. -/
theorem foldQ (l : List Sc) : ∀ m : Int, m ≤ l.foldl (fun m s => if s.st = 2 then max m s.q else m) m ∧ (∀ s ∈ l, s.st = 2 → s.q ≤ l.foldl (fun m s => if s.st = 2 then max m s.q else m) m) ∧
    (∀ c, m ≤ c → (∀ s ∈ l, s.st = 2 → s.q ≤ c) → l.foldl (fun m s => if s.st = 2 then max m s.q else m) m ≤ c) ∧ (l.foldl (fun m s => if s.st = 2 then max m s.q else m) m = m ∨ ∃ s ∈ l, s.st = 2 ∧ s.q = l.foldl (fun m s => if s.st = 2 then max m s.q else m) m) := by
  induction l with
  | nil => exact fun m => ⟨Int.le_refl _, (fun s h => by cases h), fun c h _ => h, Or.inl rfl⟩
  | cons a l ih =>
    intro m
    rw [List.foldl_cons]
    by_cases ha : a.st = 2
    · rw [if_pos ha]
      obtain ⟨h1, h2, h3, h4⟩ := ih (max m a.q)
      refine ⟨by omega, ?_, ?_, ?_⟩
      · intro s hs hst
        rcases List.mem_cons.1 hs with rfl | hs
        · omega
        · exact h2 s hs hst
      · intro c hc hl
        have := hl a (List.mem_cons_self ..) ha
        exact h3 c (by omega) (fun s hs => hl s (List.mem_cons_of_mem _ hs))
      · rcases h4 with h4 | ⟨s, hs, h5⟩
        · rcases Int.le_total m a.q with h6 | h6
          · exact Or.inr ⟨a, List.mem_cons_self .., ha, by rw [h4]; omega⟩
          · exact Or.inl (by rw [h4]; omega)
        · exact Or.inr ⟨s, List.mem_cons_of_mem _ hs, h5⟩
    · rw [if_neg ha]
      obtain ⟨h1, h2, h3, h4⟩ := ih m
      refine ⟨h1, ?_, ?_, ?_⟩
      · intro s hs hst
        rcases List.mem_cons.1 hs with rfl | hs
        · exact absurd hst ha
        · exact h2 s hs hst
      · exact fun c hc hl => h3 c hc (fun s hs => hl s (List.mem_cons_of_mem _ hs))
      · rcases h4 with h4 | ⟨s, hs, h5⟩
        · exact Or.inl h4
        · exact Or.inr ⟨s, List.mem_cons_of_mem _ hs, h5⟩
theorem lastQ_ge {l : List Sc} {s : Sc} (hs : s ∈ l) (h : s.st = 2) : s.q ≤ lastQ l := (foldQ l 0).2.1 s hs h
theorem lastQ_le_of {l : List Sc} {c : Int} (h0 : 0 ≤ c) (h : ∀ s ∈ l, s.st = 2 → s.q ≤ c) : lastQ l ≤ c := (foldQ l 0).2.2.1 c h0 h
theorem lastQ_att (l : List Sc) : lastQ l = 0 ∨ ∃ s ∈ l, s.st = 2 ∧ s.q = lastQ l := (foldQ l 0).2.2.2
theorem lastQ_pos (l : List Sc) : 0 ≤ lastQ l := (foldQ l 0).1
theorem lastQ_opened {l : List Sc} {j : Nat} {s : Sc} (e : Int) (hj : l[j]? = some s) : lastQ (l.set j ⟨2, lastQ l + 1, e⟩) = lastQ l + 1 := by
  have h0 := lastQ_pos l
  have hjl := (List.getElem?_eq_some_iff.1 hj).1
  refine Int.le_antisymm (lastQ_le_of (by omega) ?_) (lastQ_ge (s := ⟨2, lastQ l + 1, e⟩) (List.mem_of_getElem? (List.getElem?_set_self hjl)) rfl)
  intro x hx hst
  rcases List.mem_or_eq_of_mem_set hx with h | rfl
  · have := lastQ_ge h hst; omega
  · exact Int.le_refl _
theorem lastQ_gone {l : List Sc} {j : Nat} {x : Sc} (hx : x.st ≠ 2) : lastQ (l.set j x) ≤ lastQ l := by
  refine lastQ_le_of (lastQ_pos l) ?_
  intro s hs hst
  rcases List.mem_or_eq_of_mem_set hs with h | rfl
  · exact lastQ_ge h hst
  · exact absurd hst hx

/-- A head with a place in its sector. -/
structure HdS (Z : Nat) (M : Al Sv) (P : PV) (K : List (List (List UInt8))) (k o : Nat) (ks : List (List UInt8)) (s : Sc) : Prop where
  sec : P.h.sec = (k : Int)
  left : P.h.left = ((Z - o : Nat) : Int)
  ge : 12 ≤ o
  le : o ≤ Z
  t0 : 0 ≤ P.h.txn
  t1 : P.h.txn ≤ (o : Int)
  kk : K[k]? = some ks
  used : sumA M ks + cost ks.length + 12 ≤ o
  at_ : P.l[k]? = some s
  st : s.st = 2
/-- What holds of a store's sectors where none is worn, and of a plan's. -/
structure RB (Z : Nat) (M : Al Sv) (B : Int) (P : PV) (K : List (List (List UInt8))) : Prop where
  z : Z ≤ 65536
  kl : K.length = P.l.length
  clean : ∀ s ∈ P.l, s.st = 0 ∨ s.st = 2
  er : ∀ s ∈ P.l, s.er ≤ B
  lq : lastQ P.l ≤ B
  blank : ∀ (j : Nat) (s : Sc), P.l[j]? = some s → s.st = 0 → K[j]? = some []
  fit : ∀ ks ∈ K, sumA M ks + cost ks.length ≤ Z - 12
  small : ∀ ks ∈ K, ∀ x ∈ ks, 2 * (szK M x + 16) ≤ Z - 12
  hd : P.h = ⟨0, 0, 0, 0⟩ ∨ ∃ k o ks s, HdS Z M P K k o ks s
/-- Sectors that were opened behind q0 are half full of what lives, but for the head. -/
structure RS (Z : Nat) (M : Al Sv) (B q0 : Int) (P : PV) (K : List (List (List UInt8))) : Prop where
  b : RB Z M B P K
  lo : q0 ≤ lastQ P.l
  good : ∀ (j : Nat) (s : Sc) (ks : List (List UInt8)), P.l[j]? = some s → s.st = 2 → q0 < s.q → K[j]? = some ks → ((j : Int) = P.h.sec ∧ ∃ o, P.h.left = ((Z - o : Nat) : Int) ∧ o ≤ Z ∧ o ≤ 12 + sumW M ks) ∨ Z - 12 ≤ 2 * sumW M ks

theorem opens_iff {L : Nat} {s : Sc} (h : s.st = 0 ∨ s.st = 2) : opensB (L : Int) s = decide (s.st = 0) := by
  unfold opensB
  rcases h with h | h <;> simp [h]

section
variable {Z L : Nat} {M : Al Sv} {B q0 : Int} {P : PV} {K : List (List (List UInt8))}

theorem RB.mono (h : RB Z M B P K) {B' : Int} (hb : B ≤ B') : RB Z M B' P K :=
  ⟨h.z, h.kl, h.clean, fun s hs => by have := h.er s hs; omega, by have := h.lq; omega, h.blank, h.fit, h.small, h.hd⟩
theorem RS.mono (h : RS Z M B q0 P K) {B' : Int} (hb : B ≤ B') : RS Z M B' q0 P K := ⟨h.b.mono hb, h.lo, h.good⟩
theorem RB.txn (h : RB Z M B P K) : P.h.txn ≤ 4294901759 := by
  have := h.z
  rcases h.hd with h0 | ⟨k, o, ks, s, h1⟩
  · rw [h0]; show (0 : Int) ≤ _; omega
  · have := h1.t1; have := h1.le; omega
theorem RB.room {room : Int} (h : RB Z M B P K) (ht : takesB P.h room = false) : P.h.left < room := by
  have h1 := h.txn
  unfold takesB at ht
  simp only [Bool.and_eq_false_iff, decide_eq_false_iff_not] at ht
  omega

theorem fit_none {h : HeadV} {x : List UInt8} {ks : List (List UInt8)} (hf : fit M h (x :: ks) = []) : takesB h ((16 + szK M x : Nat) : Int) = false := by
  unfold fit at hf
  rw [List.take_succ_cons] at hf
  unfold fitL at hf
  split at hf
  · cases hf
  · rename_i h1
    simpa [szK] using h1
theorem roomL_keys (ks : List (List UInt8)) : roomL (ks.map fun x => (keyCh M x).nm) = 16 + sumA M ks := by
  have : (ks.map fun x => (keyCh M x).nm) = (ks.map (keyCh M)).map Ch.nm := by rw [List.map_map]; rfl
  rw [this, nm_sz]
  unfold roomL sumA szK
  rw [List.map_map]
  rfl

/-- A sector is opened. -/
theorem RB.opened (h : RB Z M B P K) {j : Nat} {s : Sc} (hj : P.l[j]? = some s) (hs : s.st = 0) (hz : 12 ≤ Z) :
    RB Z M (B + 1) (P.opened j Z s) K ∧ HdS Z M (P.opened j Z s) K j 12 [] ⟨2, lastQ P.l + 1, s.er⟩ ∧ (P.opened j Z s).l = P.l.set j ⟨2, lastQ P.l + 1, s.er⟩ := by
  have hl : (P.opened j Z s).l = P.l.set j ⟨2, lastQ P.l + 1, s.er⟩ := by
    unfold PV.opened
    rw [if_neg (by rw [hs]; decide)]
  have hjl := (List.getElem?_eq_some_iff.1 hj).1
  have hkj := h.blank j s hj hs
  have hlq := h.lq
  have hh : HdS Z M (P.opened j Z s) K j 12 [] ⟨2, lastQ P.l + 1, s.er⟩ :=
    ⟨rfl, rfl, Nat.le_refl _, hz, Int.le_refl _, (by show (0 : Int) ≤ _; omega), hkj, by simp [sumA, cost], by rw [hl]; exact List.getElem?_set_self hjl, rfl⟩
  refine ⟨⟨h.z, by rw [hl, List.length_set]; exact h.kl, ?_, ?_, by rw [hl, lastQ_opened _ hj]; omega, ?_, h.fit, h.small, Or.inr ⟨j, 12, [], _, hh⟩⟩, hh, hl⟩
  · intro x hx
    rw [hl] at hx
    rcases List.mem_or_eq_of_mem_set hx with h1 | rfl
    · exact h.clean x h1
    · exact Or.inr rfl
  · intro x hx
    rw [hl] at hx
    rcases List.mem_or_eq_of_mem_set hx with h1 | rfl
    · have := h.er x h1; omega
    · have := h.er s (List.mem_of_getElem? hj); show s.er ≤ B + 1; omega
  · intro i x hi hx
    rw [hl] at hi
    by_cases hji : j = i
    · subst hji
      rw [List.getElem?_set_self hjl] at hi
      cases hi
      cases hx
    · rw [List.getElem?_set_ne hji] at hi
      exact h.blank i x hi hx
theorem RS.opened (h : RS Z M B q0 P K) {j : Nat} {s : Sc} (hj : P.l[j]? = some s) (hs : s.st = 0) (hz : 12 ≤ Z) (hfull : 2 * P.h.left ≤ ((Z - 12 : Nat) : Int)) :
    RS Z M (B + 1) q0 (P.opened j Z s) K ∧ HdS Z M (P.opened j Z s) K j 12 [] ⟨2, lastQ P.l + 1, s.er⟩ ∧ (P.opened j Z s).l = P.l.set j ⟨2, lastQ P.l + 1, s.er⟩ := by
  obtain ⟨hb, hh, hl⟩ := h.b.opened hj hs hz
  have hkj := h.b.blank j s hj hs
  have hq0 := h.lo
  refine ⟨⟨hb, by rw [hl, lastQ_opened _ hj]; omega, ?_⟩, hh, hl⟩
  intro i x ks hi hx hq hk
  rw [hl] at hi
  by_cases hji : j = i
  · subst hji
    rw [hkj] at hk
    cases hk
    exact Or.inl ⟨rfl, 12, rfl, hz, by omega⟩
  · rw [List.getElem?_set_ne hji] at hi
    rcases h.good i x ks hi hx hq hk with ⟨h1, o, h2, h3, h4⟩ | h1
    · right
      rw [h2] at hfull
      omega
    · exact Or.inr h1

/-- Keys are laid in the head. -/
theorem RS.laid (h : RS Z M B q0 P K) {k o : Nat} {kk : List (List UInt8)} {s : Sc} (hd : HdS Z M P K k o kk s) (fx : List (List UInt8)) (n u k2 o2 : Nat) (hf0 : 0 < fx.length) (hf : fx.length ≤ 16) (hr : o + (16 + sumA M fx) ≤ Z) (hs : ∀ x ∈ fx, 2 * (szK M x + 16) ≤ Z - 12) :
    RS Z M B q0 (P.laid k2 o2 u none n 0 (fx.map fun x => (keyCh M x).nm)) (K.set k (kk ++ fx)) ∧ HdS Z M (P.laid k2 o2 u none n 0 (fx.map fun x => (keyCh M x).nm)) (K.set k (kk ++ fx)) k (o + (16 + sumA M fx)) (kk ++ fx) s := by
  have hll : (P.laid k2 o2 u none n 0 (fx.map fun x => (keyCh M x).nm)).l = P.l := rfl
  have hkl := (List.getElem?_eq_some_iff.1 hd.kk).1
  have hge := hd.ge
  have hle := hd.le
  have hus := hd.used
  have ha := sumA_app M kk fx
  have hln : (kk ++ fx).length = kk.length + fx.length := List.length_append
  have hc := cost_add kk.length fx.length hf
  have hw : sumW M fx = sumA M fx + 16 * fx.length := rfl
  have hwa := sumW_app M kk fx
  have hh : HdS Z M (P.laid k2 o2 u none n 0 (fx.map fun x => (keyCh M x).nm)) (K.set k (kk ++ fx)) k (o + (16 + sumA M fx)) (kk ++ fx) s := by
    refine ⟨hd.sec, ?_, by omega, hr, ?_, ?_, List.getElem?_set_self hkl, by rw [ha, hln]; omega, hd.at_, hd.st⟩
    · show P.h.left - (roomL _ : Int) = _
      rw [roomL_keys, hd.left]; omega
    · show 0 ≤ P.h.txn + 1
      have := hd.t0; omega
    · show P.h.txn + 1 ≤ _
      have := hd.t1; omega
  refine ⟨⟨⟨h.b.z, by rw [List.length_set]; exact h.b.kl, h.b.clean, h.b.er, h.b.lq, ?_, ?_, ?_, Or.inr ⟨_, _, _, _, hh⟩⟩, h.lo, ?_⟩, hh⟩
  · intro i x hi hx
    rw [List.getElem?_set_ne]
    · exact h.b.blank i x hi hx
    · rintro rfl
      rw [hll, hd.at_] at hi
      cases hi
      rw [hd.st] at hx
      cases hx
  · intro ks hks
    rcases List.mem_or_eq_of_mem_set hks with h1 | rfl
    · exact h.b.fit ks h1
    · rw [ha, hln]; omega
  · intro ks hks x hx
    rcases List.mem_or_eq_of_mem_set hks with h1 | rfl
    · exact h.b.small ks h1 x hx
    · rcases List.mem_append.1 hx with h1 | h1
      · exact h.b.small kk (List.mem_of_getElem? hd.kk) x h1
      · exact hs x h1
  · intro i x ks hi hx hq hk
    by_cases hik : i = k
    · subst hik
      rw [List.getElem?_set_self hkl] at hk
      cases hk
      rcases h.good i x kk hi hx hq hd.kk with ⟨h1, o2, h2, h3, h4⟩ | h1
      · left
        refine ⟨h1, o + (16 + sumA M fx), hh.left, hr, ?_⟩
        have := hd.left
        omega
      · right; omega
    · rw [List.getElem?_set_ne (by omega)] at hk
      rcases h.good i x ks hi hx hq hk with ⟨h1, _⟩ | h1
      · have := hd.sec
        exact absurd (show i = k by omega) hik
      · exact Or.inr h1
end

end Go.Proofs.YtnhfmcijadficaaGreatDoor

/- Where there is room: keys are put once more, the oldest sector is cleaned, rounds end with room. The plain half. -/
namespace Go.Proofs.YtnhfmcijadficaaGreatDoor
set_option maxRecDepth 100000
open Go.RowKit Go.Maps

def Cov (K : List (List (List UInt8))) (x : List UInt8) : Prop := ∃ ks ∈ K, x ∈ ks
theorem Cov.set {K : List (List (List UInt8))} {k : Nat} {kk fx : List (List UInt8)} (hk : K[k]? = some kk) {x : List UInt8} (h : Cov K x ∨ x ∈ fx) : Cov (K.set k (kk ++ fx)) x := by
  have hkl := (List.getElem?_eq_some_iff.1 hk).1
  have hm : kk ++ fx ∈ K.set k (kk ++ fx) := List.mem_of_getElem? (List.getElem?_set_self hkl)
  rcases h with ⟨ks, h1, h2⟩ | h
  · obtain ⟨i, hi, rfl⟩ := List.mem_iff_getElem.1 h1
    by_cases hik : i = k
    · subst hik
      rw [List.getElem?_eq_getElem hi] at hk
      cases hk
      exact ⟨_, hm, List.mem_append_left _ h2⟩
    · exact ⟨_, List.mem_of_getElem? (by rw [List.getElem?_set_ne (fun h => hik h.symm)]; exact List.getElem?_eq_getElem hi), h2⟩
  · exact ⟨_, hm, List.mem_append_right _ h⟩
theorem Cov.out {K : List (List (List UInt8))} {i : Nat} {kk : List (List UInt8)} (hk : K[i]? = some kk) {x : List UInt8} (h : Cov K x) : Cov (K.set i []) x ∨ x ∈ kk := by
  obtain ⟨ks, h1, h2⟩ := h
  obtain ⟨j, hj, rfl⟩ := List.mem_iff_getElem.1 h1
  by_cases hij : j = i
  · subst hij
    rw [List.getElem?_eq_getElem hj] at hk
    cases hk
    exact Or.inr h2
  · exact Or.inl ⟨_, List.mem_of_getElem? (by rw [List.getElem?_set_ne (fun h => hij h.symm)]; exact List.getElem?_eq_getElem hj), h2⟩

/-- The sector that is cleaned stays as it is, and isn't the head. -/
structure Aw2 (i : Nat) (P : PV) (K : List (List (List UInt8))) : Prop where
  l : ∃ s, P.l[i]? = some s ∧ s.st = 2
  k : K[i]? = some []
  h : P.h = ⟨0, 0, 0, 0⟩ ∨ P.h.sec ≠ (i : Int)

section
variable {Z L : Nat} {M : Al Sv} {q0 : Int}

theorem fitL_all (h : HeadV) (ht : h.txn ≤ 4294901759) : ∀ (ks : List (List UInt8)) (r : Nat), ((r + sumA M ks : Nat) : Int) ≤ h.left → fitL M h r ks = ks
  | [], _, _ => rfl
  | k :: ks, r, hl => by
    rw [sumA_cons] at hl
    have hz : (keyCh M k).sz = szK M k := rfl
    unfold fitL
    rw [if_pos (by unfold takesB; simp only [Bool.and_eq_true, decide_eq_true_eq]; exact ⟨ht, by rw [hz]; omega⟩), fitL_all h ht ks _ (by rw [hz]; omega)]
theorem sumA_take_le (ks : List (List UInt8)) (n : Nat) : sumA M (ks.take n) ≤ sumA M ks := by have := sumA_take M ks n; omega
theorem fit_full {h : HeadV} (ht : h.txn ≤ 4294901759) {ks : List (List UInt8)} (hl : ((sumA M ks + cost ks.length : Nat) : Int) ≤ h.left) : fit M h ks = ks.take 16 := by
  unfold fit
  by_cases h0 : ks = []
  · subst h0; rfl
  · have h1 : 0 < ks.length := List.length_pos_iff.2 h0
    have h2 := cost_pos h1
    have h3 := sumA_take_le (M := M) ks 16
    exact fitL_all h ht _ _ (by omega)

theorem again2 (i : Nat) {b : Bool} {P' : PV} {K' : List (List (List UInt8))} {B : Int} : ∀ (t : Nat) (P : PV) (K : List (List (List UInt8))) (ks : List (List UInt8)), Again Z L M t P K ks b P' K' → RS Z M B q0 P K → Aw2 i P K →
    (∃ k o kk s, HdS Z M P K k o kk s ∧ k ≠ i) → ((sumA M ks + cost ks.length : Nat) : Int) ≤ P.h.left → (∀ x ∈ ks, 2 * (szK M x + 16) ≤ Z - 12) →
    b = true ∧ RS Z M B q0 P' K' ∧ Aw2 i P' K' ∧ P'.l = P.l ∧ totW M K' = totW M K + sumW M ks ∧ ∀ x, Cov K x ∨ x ∈ ks → Cov K' x := by
  intro t
  induction t with
  | zero =>
    intro P K ks hA hs ha hd hl hx
    by_cases h0 : ks = []
    · subst h0
      obtain ⟨rfl, rfl, rfl⟩ := hA.nil_
      exact ⟨rfl, hs, ha, rfl, by simp [sumW, sumA], fun x hx => by rcases hx with h | h; exact h; cases h⟩
    · have hf := fit_full (M := M) hs.b.txn hl
      have hfn : fit M P.h ks ≠ [] := by
        rw [hf]
        intro h
        rw [List.take_eq_nil_iff] at h
        rcases h with h | h
        · cases h
        · exact h0 h
      rcases hA.inv h0 with ⟨h, _⟩ | ⟨h, _⟩ | ⟨_, t0, _, _, _, _, h, _⟩
      · exact absurd h hfn
      · exact absurd h hfn
      · omega
  | succ t ih =>
    intro P K ks hA hs ha hd hl hx
    by_cases h0 : ks = []
    · subst h0
      obtain ⟨rfl, rfl, rfl⟩ := hA.nil_
      exact ⟨rfl, hs, ha, rfl, by simp [sumW, sumA], fun x hx => by rcases hx with h | h; exact h; cases h⟩
    · have hf := fit_full (M := M) hs.b.txn hl
      have hlen : 0 < ks.length := List.length_pos_iff.2 h0
      have hfn : fit M P.h ks ≠ [] := by
        rw [hf]
        intro h
        rw [List.take_eq_nil_iff] at h
        rcases h with h | h
        · cases h
        · exact h0 h
      rcases hA.inv h0 with ⟨h, _⟩ | ⟨h, _⟩ | ⟨_, t0, k, o, u, kk, ht, hhd, _, hkk, _, hA2⟩
      · exact absurd h hfn
      · exact absurd h hfn
      · have ht0 : t0 = t := by omega
        subst ht0
        obtain ⟨k1, o1, kk1, s1, hd1, hki⟩ := hd
        have hk1 : k1 = k := by have := hd1.sec; have := hhd.sec; omega
        subst hk1
        rw [hd1.kk] at hkk
        cases hkk
        have hc := cost_pos hlen
        have hst := sumA_take M ks 16
        have hcx : cost (ks.drop 16).length + 16 ≤ cost ks.length := by
          rw [List.length_drop]
          by_cases h16 : 16 ≤ ks.length
          · rw [cost_16 h16]; exact Nat.le_refl _
          · have : ks.length - 16 = 0 := by omega
            rw [this]
            have : cost 0 = 0 := by decide
            omega
        rw [hf] at hA2
        have hdl := hd1.left
        have hdle := hd1.le
        have htl : (ks.take 16).length = min 16 ks.length := List.length_take
        have hdr : ks.drop (ks.take 16).length = ks.drop 16 := by
          rw [htl]
          by_cases h16 : 16 ≤ ks.length
          · rw [Nat.min_eq_left h16]
          · rw [Nat.min_eq_right (by omega), List.drop_of_length_le (Nat.le_refl _), List.drop_of_length_le (by omega)]
        rw [hdr] at hA2
        obtain ⟨hs2, hd2⟩ := hs.laid hd1 (ks.take 16) (ks.take 16).length u k1 o (by rw [htl]; omega) (by rw [htl]; omega) (by omega) (fun x h => hx x (List.mem_of_mem_take h))
        obtain ⟨r1, r2, r3, r4, r5, r6⟩ := ih _ _ _ hA2 hs2 ⟨ha.l, by rw [List.getElem?_set_ne hki]; exact ha.k, Or.inr (by rw [hd2.sec]; omega)⟩ ⟨_, _, _, _, hd2, hki⟩ (by rw [hd2.left]; omega) (fun x h => hx x (List.mem_of_mem_drop h))
        have htw := totW_set M K _ _ (kk ++ ks.take 16) hd1.kk
        rw [sumW_app] at htw
        have hww : sumW M (ks.take 16) + sumW M (ks.drop 16) = sumW M ks := by rw [← sumW_app, List.take_append_drop]
        refine ⟨r1, r2, r3, r4, by omega, fun x hx2 => r6 x ?_⟩
        rcases hx2 with h | h
        · exact Or.inl (Cov.set hd1.kk (Or.inl h))
        · rw [← List.take_append_drop 16 ks] at h
          rcases List.mem_append.1 h with h | h
          · exact Or.inl (Cov.set hd1.kk (Or.inr h))
          · exact Or.inr h

theorem again1 (i : Nat) {b : Bool} {P' : PV} {K' : List (List (List UInt8))} {B : Int} (hB : B < 4294967295) (hz : 12 ≤ Z) : ∀ (t : Nat) (P : PV) (K : List (List (List UInt8))) (ks : List (List UInt8)), Again Z L M t P K ks b P' K' → RS Z M B q0 P K → Aw2 i P K →
    1 ≤ P.l.countP (opensB (L : Int)) → sumA M ks + cost ks.length ≤ Z - 12 → (∀ x ∈ ks, 2 * (szK M x + 16) ≤ Z - 12) →
    b = true ∧ RS Z M (B + 1) q0 P' K' ∧ Aw2 i P' K' ∧ totW M K' = totW M K + sumW M ks ∧ (∀ x, Cov K x ∨ x ∈ ks → Cov K' x) ∧ (P'.l = P.l ∨ ∃ j s, P.l[j]? = some s ∧ s.st = 0 ∧ P'.l = P.l.set j ⟨2, lastQ P.l + 1, s.er⟩) := by
  intro t
  induction t with
  | zero =>
    intro P K ks hA hs ha hfr hl hx
    by_cases h0 : ks = []
    · subst h0
      obtain ⟨rfl, rfl, rfl⟩ := hA.nil_
      exact ⟨rfl, hs.mono (by omega), ha, by simp [sumW, sumA], fun x hx => (by rcases hx with h | h; exact h; cases h), Or.inl rfl⟩
    · rcases hA.inv h0 with ⟨_, t0, _, _, h, _⟩ | ⟨_, hno, _⟩ | ⟨_, t0, _, _, _, _, h, _⟩
      · omega
      · rcases hno.no with h1 | h1
        · exact absurd h1 (best_some (by omega))
        · have := hs.b.lq; omega
      · omega
  | succ t ih =>
    intro P K ks hA hs ha hfr hl hx
    by_cases h0 : ks = []
    · subst h0
      obtain ⟨rfl, rfl, rfl⟩ := hA.nil_
      exact ⟨rfl, hs.mono (by omega), ha, by simp [sumW, sumA], fun x hx => (by rcases hx with h | h; exact h; cases h), Or.inl rfl⟩
    · rcases hA.inv h0 with ⟨hf, t0, j, s, ht, hop, hA2⟩ | ⟨_, hno, _⟩ | ⟨hfn, t0, k, o, u, kk, ht, hhd, _, hkk, _, hA2⟩
      · obtain ⟨s2, hs2, hos⟩ := Sim.opens hop.best
        rw [hop.at_] at hs2
        cases hs2
        have hcl := hs.b.clean s (List.mem_of_getElem? hop.at_)
        rw [opens_iff hcl] at hos
        have hs0 : s.st = 0 := by simpa using hos
        obtain ⟨x, r, hxr⟩ : ∃ x r, ks = x :: r := by cases ks with | nil => exact absurd rfl h0 | cons x r => exact ⟨x, r, rfl⟩
        have hfn := hf
        rw [hxr] at hfn
        have hlt := hs.b.room (fit_none hfn)
        have hsm := hx x (by rw [hxr]; exact List.mem_cons_self ..)
        obtain ⟨hs2, hd2, hl2⟩ := hs.opened hop.at_ hs0 hz (by omega)
        obtain ⟨si, hsi, hsi2⟩ := ha.l
        have hij : j ≠ i := by
          rintro rfl
          rw [hop.at_] at hsi
          cases hsi
          rw [hs0] at hsi2
          cases hsi2
        obtain ⟨r1, r2, r3, r4, r5, r6⟩ := again2 i t0 _ _ _ hA2 hs2 ⟨⟨si, by rw [hl2, List.getElem?_set_ne hij]; exact hsi, hsi2⟩, ha.k, Or.inr (by rw [hd2.sec]; omega)⟩ ⟨_, _, _, _, hd2, hij⟩ (by rw [hd2.left]; omega) hx
        exact ⟨r1, r2, r3, r5, r6, Or.inr ⟨j, s, hop.at_, hs0, by rw [r4, hl2]⟩⟩
      · rcases hno.no with h1 | h1
        · exact absurd h1 (best_some (by omega))
        · have := hs.b.lq; omega
      · have ht0 : t0 = t := by omega
        subst ht0
        have htk := fit_takes M P.h ks hfn
        have hroom : roomL ((fit M P.h ks).map (keyCh M)) = 16 + sumA M (fit M P.h ks) := by
          unfold roomL sumA szK
          rw [List.map_map]
          rfl
        rw [hroom] at htk
        have htl : ((16 + sumA M (fit M P.h ks) : Nat) : Int) ≤ P.h.left := by
          unfold takesB at htk
          simp only [Bool.and_eq_true, decide_eq_true_eq] at htk
          exact htk.2
        rcases hs.b.hd with hz0 | ⟨k1, o1, kk1, s1, hd1⟩
        · rw [hz0] at htl
          have : (HeadV.mk 0 0 0 0).left = 0 := rfl
          omega
        · have hk1 : k1 = k := by have := hd1.sec; have := hhd.sec; omega
          subst hk1
          rw [hd1.kk] at hkk
          cases hkk
          have hki : k1 ≠ i := by
            rcases ha.h with h | h
            · rw [h] at htl
              have : (HeadV.mk 0 0 0 0).left = 0 := rfl
              omega
            · have := hd1.sec
              rintro rfl
              exact h this
          obtain ⟨hft1, hft2, hft3⟩ := fit_take M P.h ks
          have hfl : 0 < (fit M P.h ks).length := List.length_pos_iff.2 hfn
          have hdl := hd1.left
          have hdle := hd1.le
          have hfx : ∀ x ∈ fit M P.h ks, x ∈ ks := fun x h => by rw [hft1] at h; exact List.mem_of_mem_take h
          obtain ⟨hs2, hd2⟩ := hs.laid hd1 (fit M P.h ks) (fit M P.h ks).length u k1 o hfl hft3 (by omega) (fun x h => hx x (hfx x h))
          have hst := sumA_take M ks (fit M P.h ks).length
          have hcm : cost (ks.drop (fit M P.h ks).length).length ≤ cost ks.length := cost_mono (by rw [List.length_drop]; omega)
          obtain ⟨r1, r2, r3, r4, r5, r6⟩ := ih _ _ _ hA2 hs2 ⟨ha.l, by rw [List.getElem?_set_ne hki]; exact ha.k, Or.inr (by rw [hd2.sec]; omega)⟩ hfr (by omega) (fun x h => hx x (List.mem_of_mem_drop h))
          have htw := totW_set M K _ _ (kk ++ fit M P.h ks) hd1.kk
          rw [sumW_app] at htw
          have hft := List.take_append_drop (fit M P.h ks).length ks
          rw [← hft1] at hft
          have hww : sumW M (fit M P.h ks) + sumW M (ks.drop (fit M P.h ks).length) = sumW M ks := by rw [← sumW_app, hft]
          refine ⟨r1, r2, r3, by omega, fun x hx2 => r5 x ?_, r6⟩
          rcases hx2 with h | h
          · exact Or.inl (Cov.set hd1.kk (Or.inl h))
          · have h' : x ∈ fit M P.h ks ++ ks.drop (fit M P.h ks).length := by rw [hft]; exact h
            rcases List.mem_append.1 h' with h | h
            · exact Or.inl (Cov.set hd1.kk (Or.inr h))
            · exact Or.inr h
end

end Go.Proofs.YtnhfmcijadficaaGreatDoor
