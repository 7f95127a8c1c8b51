/- The walk over carpetbagmake's Next. -/
import Derived.Test.YtnhfmcijadficaaGreatDoorZbf
import Derived.Test.YtnhfmcijadficaaGreatDoorZad
namespace Go.Proofs.YtnhfmcijadficaaGreatDoor
set_option maxRecDepth 100000
open Go.RowKit Go.Maps

/-- A tape as it lies: its own block is new, its bytes are old. -/
structure TapeAt (w : World) (B g : Nat) (A : Option Addr) (n cap : Nat) (xs : List UInt8) (at_ : Nat) : Prop where
  blk : Blk w g 53 #[.slice A n cap, .int .i64 (at_ : Int)]
  row : ByteSl w (fun q => B ≤ q) A n cap xs
  le : at_ ≤ n
  new : B ≤ g
  n1 : n ≤ 1048576

theorem TapeAt.only {w w' : World} {B g n cap at_ : Nat} {A : Option Addr} {xs : List UInt8} {T : Nat → Prop} (h : TapeAt w B g A n cap xs at_) (k : Only T w w') (hg : ¬ T g) (hb : ∀ i, T i → B ≤ i) : TapeAt w' B g A n cap xs at_ :=
  ⟨k.blk h.blk hg, h.row.only k (fun i _ h1 => hb i h1), h.le, h.new, h.n1⟩
theorem TapeAt.below {w w' : World} {B g n cap at_ : Nat} {A : Option Addr} {xs : List UInt8} (h : TapeAt w B g A n cap xs at_) (k : Below w.heap.size w w') : TapeAt w' B g A n cap xs at_ :=
  h.only (Only.of_below (S := Empty) k) (fun h => h) (fun _ h => h.elim)

/-- How Next ends: a number below k. -/
def Nexted (B g : Nat) (A : Option Addr) (n cap : Nat) (xs : List UInt8) (k : Nat) (w w' : World) (e1 : Ending) : Prop :=
  (∃ v : Nat, v < k ∧ e1 = .returned (.int .i64 (v : Int))) ∧ (∃ at2, TapeAt w' B g A n cap xs at2) ∧ Only (· = g) w w'

set_option maxHeartbeats 2000000 in
theorem next_tape (B g : Nat) (A : Option Addr) (n cap : Nat) (xs : List UInt8) (at_ k : Nat) (w : World) (h : TapeAt w B g A n cap xs at_) (hk : 2 ≤ k) (hk2 : k ≤ 1048576) :
    Calls Tryz.prog 18 #[.pointer (some ⟨g, 0, none⟩), .int .i64 (k : Int)] w fun e1 w' => Nexted B g A n cap xs k w w' e1 := by
  have hn1 := h.n1
  have hle := h.le
  have c0 : w.cell? ⟨g, 0, none⟩ = some (.slice A n cap) := h.blk.cell 0
  have c1 : w.cell? ⟨g, 1, none⟩ = some (.int .i64 (at_ : Int)) := h.blk.cell 1
  have f1 := h.blk.frozen 1
  have hgl := h.blk.lt
  have hcap := h.row.2.1
  have hk3 : decide ((k : Int) < 2) = false := by simp; omega
  by_cases hlt : at_ < n
  · obtain ⟨ad, x, rfl, had, hadB, hx, hc⟩ := h.row.at_ hlt
    have hag : ad.block ≠ g := fun e => hadB (by rw [e]; exact h.new)
    have hO : Only (· = g) w (w.setCell ⟨g, 1, none⟩ (.int .i64 ((at_ : Int) + 1))) := (Only.refl (· = g) w).setCell (p := ⟨g, 1, none⟩) (Or.inl rfl) _
    have hb1 := h.blk.set_ 1 (.int .i64 ((at_ : Int) + 1))
    have HT : Hid (TapeAt (w.setCell ⟨g, 1, none⟩ (.int .i64 ((at_ : Int) + 1))) B g (some ad) n cap xs (at_ + 1)) := Lib.hid ⟨by simpa using hb1, h.row.only hO (fun i _ e => by rw [e]; exact h.new), by omega, h.new, hn1⟩
    have hlt2 : decide ((n : Int) ≤ (at_ : Int)) = false := by simp; omega
    have HO := Lib.hid hO
    have hxb : x.toNat < 256 := x.toNat_lt
    have hd : ((at_ : Int) + 1 - 1) = (at_ : Int) := by omega
    have hc2 : (w.setCell ⟨g, 1, none⟩ (.int .i64 ((at_ : Int) + 1))).cell? (ad.add at_) = some (.int .u8 (x.toNat : Int)) := (hO.cell (p := ad.add at_) (by rw [addr_add_block]; exact had) (by rw [addr_add_block]; exact hag)).trans hc
    have hd0 : (w.setCell ⟨g, 1, none⟩ (.int .i64 ((at_ : Int) + 1))).cell? ⟨g, 0, none⟩ = some (.slice (some ad) n cap) := hb1.cell 0
    have hd1 : (w.setCell ⟨g, 1, none⟩ (.int .i64 ((at_ : Int) + 1))).cell? ⟨g, 1, none⟩ = some (.int .i64 ((at_ : Int) + 1)) := by rw [hb1.cell]; rfl
    clear h hx hO hb1
    go_enter Tryz.func18, Tryz.ntmps18
    go_wp2_with fail
    go_region
    go_wp2_with fail
    obtain ⟨w1, hw1⟩ : ∃ w1, w1 = w.setCell ⟨g, 1, none⟩ (.int .i64 ((at_ : Int) + 1)) := ⟨_, rfl⟩
    rw [← hw1] at HT HO hc2 hd0 hd1 ⊢
    have hmod : (x.toNat : Int) % (k : Int) = ((x.toNat % k : Nat) : Int) := by simp
    have hk0 : ((k : Int) == 0) = false := by simp; omega
    clear hw1 c0 c1 f1
    go_region
    go_wp2_with fail
    go_ret
    exact ⟨⟨x.toNat % k, Nat.mod_lt _ (by omega), by simp⟩, ⟨at_ + 1, HT.out.only ((Only.refl Empty w1).drew.drew) (fun h => h) (fun _ h => h.elim)⟩, HO.out.drew.drew⟩
  · have hlt2 : decide ((n : Int) ≤ (at_ : Int)) = true := by simp; omega
    have HT := Lib.hid h
    clear h
    go_enter Tryz.func18, Tryz.ntmps18
    go_wp2_with fail
    go_region
    go_wp2_with fail
    go_ret
    exact ⟨⟨0, by omega, rfl⟩, ⟨at_, HT.out.only (Only.refl Empty w).drew (fun h => h) (fun _ h => h.elim)⟩, (Only.refl _ _).drew⟩

theorem next_tape_v (B g : Nat) (A : Option Addr) (n cap : Nat) (xs : List UInt8) (at_ k : Nat) (kv : Int) (w : World) (h : TapeAt w B g A n cap xs at_) (hk : 2 ≤ k) (hk2 : k ≤ 1048576) (hv : kv = (k : Int)) :
    Calls Tryz.prog 18 #[.pointer (some ⟨g, 0, none⟩), .int .i64 kv] w fun e1 w' => Nexted B g A n cap xs k w w' e1 := by
  subst hv
  exact next_tape B g A n cap xs at_ k w h hk hk2

end Go.Proofs.YtnhfmcijadficaaGreatDoor

/- The walk over carpetbagmake's Changes. -/
namespace Go.Proofs.YtnhfmcijadficaaGreatDoor
set_option maxRecDepth 100000
open Go.RowKit Go.Maps

/-- A change whose blob was made anew. -/
def BlobOwn (w : World) (base : Nat) (f : Ch) : Prop := ∃ gb, f.A = some ⟨gb, 0, none⟩ ∧ base ≤ gb ∧ Blk w gb 5 (cellsB f.blob) ∧ f.n = f.blob.length ∧ f.cap = f.n ∧ f.n ≤ 1048576
theorem BlobOwn.keep {E : TypeId → Prop} {w w' : World} {base : Nat} {f : Ch} (h : BlobOwn w base f) (k : Keep E w w') (hE : ¬ E 5) : BlobOwn w' base f := by
  obtain ⟨gb, h1, h2, h3, h4⟩ := h
  exact ⟨gb, h1, h2, k _ _ _ h3 hE, h4⟩
theorem BlobOwn.sl {w : World} {base : Nat} {f : Ch} (h : BlobOwn w base f) : ByteSl w (fun q => q < base) f.A f.n f.cap f.blob ∧ (f.A = none → f.n = 0 ∧ f.cap = 0) := by
  obtain ⟨gb, h1, h2, h3, h4, h5, h6⟩ := h
  refine ⟨⟨h4.symm, by omega, by unfold maxLen; omega, fun _ => ⟨_, h1, h3.lt, by show ¬ gb < base; omega, fun j x hx => ?_⟩⟩, fun h => by rw [h1] at h; cases h⟩
  rw [show (⟨gb, 0, none⟩ : Addr).add j = ⟨gb, j, none⟩ by simp [Addr.add]; omega, h3.cell]
  simp [cellsB, hx]

theorem key6 (v : Nat) (h : v < 6) : ∃ kb : ByteArray, (#[.string ⟨#[97]⟩, .string ⟨#[98]⟩, .string ⟨#[99]⟩, .string ⟨#[100, 47, 49]⟩, .string ⟨#[100, 47, 50]⟩, .string ⟨#[97]⟩] : Array Value)[v]? = some (.string kb) ∧ kb.size ≤ 3 := by
  have h1 : v = 0 ∨ v = 1 ∨ v = 2 ∨ v = 3 ∨ v = 4 ∨ v = 5 := by omega
  rcases h1 with rfl | rfl | rfl | rfl | rfl | rfl <;> exact ⟨_, rfl, by decide⟩
theorem len4 (v : Nat) (h : v < 4) : ∃ nb : Nat, (#[.int .i64 0, .int .i64 3, .int .i64 9, .int .i64 30] : Array Value)[v]? = some (.int .i64 (nb : Int)) ∧ nb ≤ 30 := by
  have h1 : v = 0 ∨ v = 1 ∨ v = 2 ∨ v = 3 := by omega
  rcases h1 with rfl | rfl | rfl | rfl
  · exact ⟨0, rfl, by decide⟩
  · exact ⟨3, rfl, by decide⟩
  · exact ⟨9, rfl, by decide⟩
  · exact ⟨30, rfl, by decide⟩

theorem cellsB_setv (xs : List UInt8) (j v : Nat) (hv : v < 256) : (cellsB xs).setIfInBounds j (.int .u8 (v : Int)) = cellsB (xs.set j (UInt8.ofNat v)) := by
  have e : B8 (UInt8.ofNat v) = .int .u8 (v : Int) := by
    unfold B8
    rw [UInt8.toNat_ofNat_of_lt' hv]
  rw [← e, cellsB_set]

/-- How Changes ends: one change or two, made anew. -/
def Changed (B g : Nat) (A : Option Addr) (n cap : Nat) (xs : List UInt8) (w w' : World) (e1 : Ending) : Prop :=
  (∃ A' m cap' l, m ≤ 2 ∧ e1 = .returned (.slice A' m cap') ∧ Chs w' (fun q => q < w.heap.size) A' m cap' l) ∧ (∃ at2, TapeAt w' B g A n cap xs at2) ∧ Only (· = g) w w'

end Go.Proofs.YtnhfmcijadficaaGreatDoor

/- A flash as New makes it; where a sector can be opened there is room. -/
namespace Go.Proofs.YtnhfmcijadficaaGreatDoor
set_option maxRecDepth 100000
open Go.RowKit Go.Maps

def freshS (S Z : Nat) : List (Nat × List UInt8) := List.replicate S (0, List.replicate Z 255)
theorem FS.fresh {w : World} {p c e S Z L : Nat} (h : FlashAt w p c e (Fl.fresh S Z L)) : FS w p c e Z L (freshS S Z) := by
  refine ⟨Fl.fresh S Z L, h, rfl, rfl, by simp [freshS, Fl.fresh], rfl, rfl, fun k m xs hk => ?_⟩
  unfold freshS at hk
  rw [List.getElem?_replicate] at hk
  split at hk
  · rename_i hlt
    cases hk
    refine ⟨?_, ?_⟩
    · show (List.replicate S 0)[k]? = some 0
      rw [List.getElem?_replicate, if_pos hlt]
    · show ((List.replicate (S * Z) 255).drop (k * Z)).take Z = _
      rw [List.drop_replicate, List.take_replicate]
      congr 1
      have h1 : (k + 1) * Z ≤ S * Z := Nat.mul_le_mul_right _ hlt
      rw [Nat.add_mul, Nat.one_mul] at h1
      omega
  · cases hk
theorem fresh_secs (S Z : Nat) (hz : 12 ≤ Z) : secsOf (freshS S Z) = List.replicate S ⟨0, 0, 0⟩ := by
  unfold secsOf freshS
  rw [List.map_replicate]
  congr 1
  have h := blank_st Z hz
  show (⟨stS _, stQ _, _⟩ : Sc) = _
  rw [h.2.2, h.2.1]
  rfl
theorem fresh_no (S Z : Nat) (hz : 12 ≤ Z) : ∀ x ∈ freshS S Z, stU x.2 = false := by
  intro x hx
  rw [List.eq_of_mem_replicate hx]
  exact (blank_st Z hz).1
theorem fresh_count (S Z L : Nat) (hz : 12 ≤ Z) : (secsOf (freshS S Z)).countP (opensB (L : Int)) = S := by
  rw [fresh_secs S Z hz, List.countP_replicate]
  simp [opensB]
theorem fresh_last (S Z : Nat) (hz : 12 ≤ Z) : lastQ (secsOf (freshS S Z)) = 0 := by
  rw [fresh_secs S Z hz]
  unfold lastQ
  induction S with
  | zero => rfl
  | succ n ih => rw [List.replicate_succ, List.foldl_cons]; exact ih

theorem best_some {L : Nat} {l : List Sc} (h : 0 < l.countP (opensB (L : Int))) : best (opensB (L : Int)) Sc.er l l.length ≠ none := by
  intro hb
  have h1 := best_is (opensB (L : Int)) Sc.er l l.length (Nat.le_refl _)
  rw [hb] at h1
  rw [List.countP_pos_iff] at h
  obtain ⟨s, hs, ho⟩ := h
  obtain ⟨j, hj, rfl⟩ := List.mem_iff_getElem.1 hs
  have h2 := h1 j _ hj (List.getElem?_eq_getElem hj)
  rw [ho] at h2
  cases h2
/-- Where two sectors can be opened one round makes room. -/
theorem one_round {Z L : Nat} {M : Al Sv} {room : Int} {n : Nat} {P : PV} {K : List (List (List UInt8))} {b : Bool} {PF : PV} {KF : List (List (List UInt8))} (h2 : 2 ≤ P.l.countP (opensB (L : Int))) (hq : ¬ lastQ P.l = 4294967295) (hr : room ≤ ((Z - 12 : Nat) : Int))
    (h : Rounds Z L M room (n + 1) P K b PF KF) : b = true ∧ KF = K ∧ ∃ i s, Opens L P i s ∧ PF = P.opened i Z s := by
  have hno : ¬ NoOpen L P := fun hn => by
    rcases hn.no with h1 | h1
    · exact best_some (by omega) h1
    · exact hq h1
  rcases h.inv with ⟨t, hm, rfl⟩ | ⟨t, hm, _, rfl⟩ | ⟨t, P1, K1, hm, htk, _, _⟩
  · rcases hm with ⟨_, i, s, _, h3, _⟩ | ⟨_, h3, _⟩ | ⟨h3, _⟩
    · cases h3
    · exact absurd h3 hno
    · omega
  · rcases hm with ⟨_, i, s, h3, _, h4, h5⟩ | ⟨_, h3, _⟩ | ⟨h3, _⟩
    · exact ⟨rfl, h5, i, s, h3, h4⟩
    · exact absurd h3 hno
    · omega
  · rcases hm with ⟨_, i, s, _, _, h4, _⟩ | ⟨_, h3, _⟩ | ⟨h3, _⟩
    · rw [h4] at htk
      have : takesB (P.opened i Z s).h room = true := by
        unfold takesB PV.opened
        simp
        omega
      rw [this] at htk
      cases htk
    · exact absurd h3 hno
    · omega

theorem reSecK_none (S : Nat) : ∀ (n j : Nat) (X : Al (Int × List UInt8)), reSecK j X (List.replicate n []) = X
  | 0, _, _ => rfl
  | n + 1, j, X => by rw [List.replicate_succ]; exact reSecK_none S n (j + 1) X

end Go.Proofs.YtnhfmcijadficaaGreatDoor
