/- The walks over a nil store's calls; over Sectors. -/
import Derived.Test.YtmdnhpnaikfpjaaGreatDoorZbj
import Derived.Test.YtmdnhpnaikfpjaaGreatDoorZau
import Derived.Deep.DeepCutAuto
import Derived.Test.YtmdnhpnaikfpjaaGreatDoorZaf
import Derived.Test.YtmdnhpnaikfpjaaGreatDoorCards
import Derived.Test.YtmdnhpnaikfpjaaGreatDoorTie
import Derived.ProofKit
import Derived.LaidMore
import Derived.OpenShut
import Derived.Stop.Joined
import Derived.SevenTiedAt
namespace Go.Proofs.YtmdnhpnaikfpjaaGreatDoor
set_option maxRecDepth 100000
open Go.RowKit Go.Maps

theorem get_nil (k : ByteArray) (w : World) : Calls Tryz.prog 24 #[.pointer none, .string k] w fun e1 w' => e1 = .returned (.tuple #[.slice none 0 0, .bool false]) ∧ Below w.heap.size w w' := by
  go_enter Tryz.func24, Tryz.ntmps24
  go_wp2_with fail
  go_ret2
  exact ⟨rfl, Below.refl _ _⟩
theorem keys_nil (k : ByteArray) (w : World) : Calls Tryz.prog 26 #[.pointer none, .string k] w fun e1 w' => e1 = .returned (.slice none 0 0) ∧ Below w.heap.size w w' := by
  go_enter Tryz.func26, Tryz.ntmps26
  go_wp2_with fail
  go_ret
  exact ⟨rfl, Below.refl _ _⟩
theorem live_nil (w : World) : Calls Tryz.prog 27 #[.pointer none] w fun e1 w' => e1 = .returned (.int .i64 0) ∧ Below w.heap.size w w' := by
  go_enter Tryz.func27, Tryz.ntmps27
  go_wp2_with fail
  go_ret
  exact ⟨rfl, Below.refl _ _⟩
theorem room_nil (w : World) : Calls Tryz.prog 28 #[.pointer none] w fun e1 w' => e1 = .returned (.int .i64 0) ∧ Below w.heap.size w w' := by
  go_enter Tryz.func28, Tryz.ntmps28
  go_wp2_with fail
  go_ret
  exact ⟨rfl, Below.refl _ _⟩
theorem sectors_nil (w : World) : Calls Tryz.prog 22 #[.pointer none] w fun e1 w' => e1 = .returned (.slice none 0 0) ∧ Below w.heap.size w w' := by
  go_enter Tryz.func22, Tryz.ntmps22
  go_wp2_with fail
  refine (down_nil w).mono ?_
  rintro e1 w1 ⟨rfl, rfl⟩
  go_wp2_with fail
  go_ret
  exact ⟨rfl, Below.refl _ _⟩
theorem commit_nil (A : Option Addr) (n cap : Nat) (w : World) : Calls Tryz.prog 16 #[.pointer none, .slice A n cap] w fun e1 w' => e1 = .returned (.int .i64 5) ∧ Below w.heap.size w w' := by
  go_enter Tryz.func16, Tryz.ntmps16
  go_wp2_with fail
  refine (down_nil w).mono ?_
  rintro e1 w1 ⟨rfl, rfl⟩
  go_wp2_with fail
  go_ret
  exact ⟨rfl, Below.refl _ _⟩

theorem sectors_any (s mb p c e Z L : Nat) (ss : List (Nat × List UInt8)) (M : Al Sv) (h : HeadV) (w : World) (hG : GoodX w s mb p c e Z L M h ss) :
    Calls Tryz.prog 22 #[.pointer (some ⟨s, 0, none⟩)] w fun e1 w' => (∃ A cap, e1 = .returned (.slice A ss.length cap) ∧ GotR Sc.cells 3 56 w.heap.size w' A ss.length cap (secsOf ss)) ∧ Below w.heap.size w w' := by
  have Hd := Lib.hid (down_any s p mb h false w hG.st.blk)
  have s0 : w.cell? ⟨s, 0, none⟩ = some (.pointer (some ⟨p, 0, none⟩)) := hG.st.blk.cell 0
  have hsl := hG.st.blk.lt
  have Hl := Lib.hid (look_any p c e Z L ss w hG.fs hG.mark)
  clear hG
  go_enter Tryz.func22, Tryz.ntmps22
  go_wp2_with fail
  refine Hd.out.mono ?_
  rintro e1 w1 ⟨rfl, rfl⟩
  clear Hd
  go_wp2_with fail
  refine Hl.out.mono ?_
  rintro e2 w2 ⟨⟨A, cap, rfl, hg⟩, hb⟩
  clear Hl
  go_wp2_with fail
  go_ret
  exact ⟨⟨A, cap, rfl, hg⟩, hb⟩

/-- A store's blobs lie in no block whose first cell is no byte. -/
theorem BlobsAt.apart {w : World} {S : Nat → Prop} {M : Al Sv} (h : BlobsAt w S M) {g : Nat} {t : TypeId} {cs : Array Value} (hB : Blk w g t cs) (hc : ∀ x : UInt8, cs[0]? ≠ some (B8 x)) : BlobsAt w (fun q => S q ∨ q = g) M := by
  intro q hq
  obtain ⟨h1, h2⟩ := h q hq
  refine ⟨⟨h1.1, h1.2.1, h1.2.2.1, fun hn => ?_⟩, h2⟩
  obtain ⟨ad, ha, hl, hs, hx⟩ := h1.2.2.2 hn
  refine ⟨ad, ha, hl, fun hor => ?_, hx⟩
  rcases hor with h3 | h3
  · exact hs h3
  · obtain ⟨b, hb⟩ : ∃ b, ad = ⟨b, 0, none⟩ := by
      cases hg : q.2.g with
      | none => rw [hg] at ha; cases ha
      | some b => rw [hg] at ha; exact ⟨b, (Option.some.inj ha).symm⟩
    subst hb
    have hb2 : b = g := h3
    subst hb2
    obtain ⟨x, hx0⟩ : ∃ x, q.2.xs[0]? = some x := ⟨_, List.getElem?_eq_getElem (by rw [h1.1]; exact hn)⟩
    have h4 := hx 0 x hx0
    have h5 : w.cell? ⟨b, 0, none⟩ = some (B8 x) := h4
    rw [hB.cell] at h5
    exact hc x h5
/-- A block that is none of the store's turns. -/
theorem GoodX.turn {w w' : World} {s mb p c e Z L : Nat} {M : Al Sv} {h : HeadV} {ss : List (Nat × List UInt8)} (G : GoodX w s mb p c e Z L M h ss) {g : Nat} {t : TypeId} {cs : Array Value} (hB : Blk w g t cs) (hc : ∀ x : UInt8, cs[0]? ≠ some (B8 x)) (hO : Only (· = g) w w') (hg : ¬ Mut s mb p c e g) (h0 : g ≠ 0) : GoodX w' s mb p c e Z L M h ss := by
  have n1 : ¬ s = g := fun h => hg (Or.inl h.symm)
  have n2 : ¬ mb = g := fun h => hg (Or.inr (Or.inl h.symm))
  have n3 : ∀ q, Three p c e q → ¬ q = g := fun q hq h => hg (Or.inr (Or.inr (by rw [← h]; exact hq)))
  refine ⟨⟨hO.blk G.st.blk n1, G.st.map.only hO n2, fun q hq => ?_⟩, G.fs.of hO (n3 p (Or.inl rfl)) (n3 c (Or.inr (Or.inl rfl))) (n3 e (Or.inr (Or.inr rfl))), G.mark.only hO (fun h => h0 h.symm), G.ok, G.hd⟩
  obtain ⟨h1, h2⟩ := (G.st.bl.apart hB hc).only hO (fun i _ hi => Or.inr hi) q hq
  exact ⟨h1.mono (fun _ _ h => Or.inl h), h2⟩
theorem Outcome.good {w w' : World} {s mb p c e Z L : Nat} {M : Al Sv} {h : HeadV} {ss : List (Nat × List UInt8)} {l : List Ch} {e1 : Ending} (hO : Outcome s mb p c e Z L M h ss l w w' e1) (G : GoodX w s mb p c e Z L M h ss) :
    (∃ E : Int, e1 = .returned (.int .i64 E)) ∧ ∃ M' h' ss', GoodX w' s mb p c e Z L M' h' ss' ∧ ss'.length = ss.length ∧ M'.length ≤ M.length + 16 ∧ Only (Mut s mb p c e) w w' := by
  rcases hO with ⟨_, h2, h3⟩ | ⟨_, h2, h3, _⟩ | ⟨_, h2, PF, KF, M', h', ss', k, o, hpl, hG', hss, hX', hM', hl, hor, hh', hs', hkey, hkl, hon, _⟩
  · exact ⟨⟨_, h2⟩, M, h, ss, G.below h3, rfl, by omega, Only.of_below h3⟩
  · exact ⟨⟨_, h2⟩, M, h, ss, G.below h3, rfl, by omega, Only.of_below h3⟩
  · exact ⟨⟨_, h2⟩, M', h', ss', hG', hss, hM', hon⟩

end Go.Proofs.YtmdnhpnaikfpjaaGreatDoor

/- The walk over BlobRoom. -/
namespace Go.Proofs.YtmdnhpnaikfpjaaGreatDoor
set_option maxRecDepth 100000
open Go.RowKit Go.Maps

theorem liveB_le (Y : AB) (h : ∀ q ∈ Y, q.1.length ≤ 4096 ∧ q.2.length ≤ 4096) : liveB Y ≤ Y.length * 8224 := by
  induction Y with
  | nil => simp [liveB]
  | cons q Y ih =>
    have h1 := ih (fun x hx => h x (List.mem_cons_of_mem _ hx))
    have h2 := h q (List.mem_cons_self ..)
    have h3 : liveB (q :: Y) = q.1.length + q.2.length + 32 + liveB Y := by simp [liveB]
    rw [h3, List.length_cons]
    omega
theorem live_blobs (X : AX) : liveX X = liveB (blobsOf X) := by
  unfold liveX liveB blobsOf amap sumX
  rw [List.map_map]
  induction X with
  | nil => rfl
  | cons q X ih =>
    rw [List.map_cons, List.map_cons, List.sum_cons, List.sum_cons, List.length_cons]
    have : szX q = q.1.length + q.2.2.length + 16 := rfl
    simp only [Function.comp] at ih ⊢
    omega

/-- A new store is one that commits have made. -/
theorem fresh_good {w : World} {s mb p c e S Z L : Nat} (g : GoodX w s mb p c e Z L [] ⟨0, 0, 0, 0⟩ (freshS S Z)) (hz : 12 ≤ Z) (hz2 : Z ≤ 65536) (hS : 1 ≤ S) : GoodR w s mb p c e Z L [] ⟨0, 0, 0, 0⟩ (freshS S Z) 0 := by
  have hs := fresh_secs S Z hz
  refine ⟨g, ⟨hz2, ?_, ?_, by rw [fresh_last S Z hz]; omega, fun _ _ _ _ q hq => (by cases hq), fun j _ => (by show 0 + cost 0 ≤ _; simp [cost]), fun q hq => (by cases hq), Or.inl rfl⟩, by rw [fresh_count S Z L hz]; exact hS⟩
  · intro x hx
    rw [hs] at hx
    rw [List.eq_of_mem_replicate hx]
    exact Or.inl rfl
  · intro x hx
    rw [hs] at hx
    rw [List.eq_of_mem_replicate hx]
    exact Int.le_refl _

theorem GoodR.turn {w w' : World} {s mb p c e Z L : Nat} {M : Al Sv} {h : HeadV} {ss : List (Nat × List UInt8)} {B : Int} (G : GoodR w s mb p c e Z L M h ss B) (b : Below w.heap.size w w') : GoodR w' s mb p c e Z L M h ss B := G.below b

theorem conv_blk {W : World} {g n : Nat} {bs : List UInt8} (h : Blk W g 5 (cellsB bs)) (hn : bs.length = n) (hm : n ≤ maxLen) : (convert 22 9 (.slice (some ⟨g, 0, none⟩) n n)).run Tryz.prog W = .ok (.string (strB bs)) W :=
  conv_bytes (S := Empty) ⟨hn, Nat.le_refl _, hm, fun _ => ⟨⟨g, 0, none⟩, rfl, h.lt, fun h => h, fun j x hx => by
    rw [show (⟨g, 0, none⟩ : Addr).add j = ⟨g, j, none⟩ by simp [Addr.add]; omega, h.cell, cellsB_get, hx]
    rfl⟩⟩
theorem wrap_i64_small (n : Int) (h0 : 0 ≤ n) (h1 : n < 9223372036854775808) : IntKind.i64.wrap n = n := by simp [IntKind.wrap, IntKind.bits, IntKind.signed]; omega
theorem wrap_u8_small (n : Int) (h0 : 0 ≤ n) (h1 : n < 256) : IntKind.u8.wrap n = n := by simp [IntKind.wrap, IntKind.bits, IntKind.signed]; omega
theorem one_byte (k : Nat) (hk : k ≤ 9) : (#[.int .u8 (97 + (k : Int))] : Array Value) = cellsB [UInt8.ofNat (97 + k)] := by
  unfold cellsB B8
  rw [List.map_singleton, UInt8.toNat_ofNat_of_lt' (by have : UInt8.size = 256 := rfl; omega)]
  simp
/-- A change that was made anew. -/
def MadeC (wr : World) (sk : ByteArray) (nb : Nat) (v : Value) (W : World) : Prop :=
  ∃ g gb, v = .slice (some ⟨g, 0, none⟩) 1 1 ∧ Blk W g 35 #[.bool false, .string sk, .slice (some ⟨gb, 0, none⟩) nb nb] ∧ Blk W gb 5 (cellsB (List.replicate nb 0)) ∧ wr.heap.size ≤ g ∧ wr.heap.size ≤ gb ∧ Below wr.heap.size wr W

theorem alloc_one (w : World) (o : Obj) : (w.alloc o).heap.size = w.heap.size + 1 := by simp
theorem madeC_a {wr : World} {sk : ByteArray} {nb : Nat} {o : Obj} : MadeC wr sk nb (.slice (some ⟨wr.heap.size + 1 + 1, 0, none⟩) 1 1) (((wr.alloc o).alloc (.cells (cellsB (List.replicate nb 0)) 5)).alloc (.cells #[.bool false, .string sk, .slice (some ⟨wr.heap.size + 1, 0, none⟩) nb nb] 35)).drew := by
  refine ⟨wr.heap.size + 1 + 1, wr.heap.size + 1, rfl, ?_, ?_, by omega, by omega, ?_⟩
  · have h := Blk.new ((wr.alloc o).alloc (.cells (cellsB (List.replicate nb 0)) 5)) 35 #[.bool false, .string sk, .slice (some ⟨wr.heap.size + 1, 0, none⟩) nb nb]
    rw [alloc_one, alloc_one] at h
    exact h.drew
  · have h := Blk.new (wr.alloc o) 5 (cellsB (List.replicate nb 0))
    rw [alloc_one] at h
    exact (h.alloc _).drew
  · exact (((((Below.refl wr.heap.size wr).alloc (Nat.le_refl _) _).alloc (by rw [alloc_one]; omega) _).alloc (by rw [alloc_one, alloc_one]; omega) _)).drewN 1
theorem madeC_b {wr : World} {sk : ByteArray} {nb : Nat} {o : Obj} : MadeC wr sk nb (.slice (some ⟨wr.heap.size + 1 + 1, 0, none⟩) 1 1) (((wr.alloc (.cells (cellsB (List.replicate nb 0)) 5)).alloc o).alloc (.cells #[.bool false, .string sk, .slice (some ⟨wr.heap.size, 0, none⟩) nb nb] 35)).drew := by
  refine ⟨wr.heap.size + 1 + 1, wr.heap.size, rfl, ?_, ?_, by omega, by omega, ?_⟩
  · have h := Blk.new ((wr.alloc (.cells (cellsB (List.replicate nb 0)) 5)).alloc o) 35 #[.bool false, .string sk, .slice (some ⟨wr.heap.size, 0, none⟩) nb nb]
    rw [alloc_one, alloc_one] at h
    exact h.drew
  · exact (((Blk.new wr 5 (cellsB (List.replicate nb 0))).alloc o).alloc _).drew
  · exact (((((Below.refl wr.heap.size wr).alloc (Nat.le_refl _) _).alloc (by rw [alloc_one]; omega) _).alloc (by rw [alloc_one, alloc_one]; omega) _)).drewN 1

set_option maxHeartbeats 8000000 in
theorem blobRoom_any (a1 a2 a4 : Nat) (A : Option Addr) (n cap : Nat) (xs : List UInt8) (w : World) (h1 : a1 ≤ 255) (h2 : a2 ≤ 255) (h4 : a4 ≤ 255) (hB : ByteSl w (fun k => w.heap.size ≤ k) A n cap xs) (hM : Mark w) :
    Calls Tryz.prog 3 #[.int .u8 (a1 : Int), .int .u8 (a2 : Int), .slice A n cap, .int .u8 (a4 : Int)] w fun e w' => e = .returned (.bool true) ∧ Below w.heap.size w w' := by
  have HM := Lib.hid hM
  have HB := Lib.hid hB
  have Hfx := Lib.hid (fixed8_any w hM)
  have h0w : 0 < w.heap.size := hM.pos
  have hncap : n ≤ cap := hB.2.1
  have hcap2 : cap ≤ 9223372036854775807 := by have := hB.2.2.1; unfold maxLen at this; omega
  obtain ⟨r1, hr1, hr1b⟩ : ∃ r1 : Nat, (a1 : Int) % 5 = (r1 : Int) ∧ r1 ≤ 4 := ⟨a1 % 5, by omega, by omega⟩
  obtain ⟨r2, hr2, hr2b⟩ : ∃ r2 : Nat, (a2 : Int) % 60 = (r2 : Int) ∧ r2 ≤ 59 := ⟨a2 % 60, by omega, by omega⟩
  obtain ⟨r4, hr4, hr4b⟩ : ∃ r4 : Nat, (a4 : Int) % 60 = (r4 : Int) ∧ r4 ≤ 59 := ⟨a4 % 60, by omega, by omega⟩
  clear hM hB
  go_enter Tryz.func3, Tryz.ntmps3
  go_wp2_with fail
  refine Hfx.out.mono ?_
  rintro e0 w0 ⟨rfl, hb0⟩
  have Hb0 := Lib.hid hb0
  have hs0 := hb0.size
  clear Hfx hb0
  by_cases hlong : 10 < n
  · go_wp2_with fail
    go_ret
    exact ⟨rfl, Hb0.out⟩
  · obtain ⟨S, hS, hS3⟩ : ∃ S : Nat, 3 + (r1 : Int) = (S : Int) ∧ S = 3 + r1 := ⟨3 + r1, by omega, rfl⟩
    obtain ⟨Z, hZ, hZ3⟩ : ∃ Z : Nat, 128 + 4 * (r2 : Int) = (Z : Int) ∧ Z = 128 + 4 * r2 := ⟨128 + 4 * r2, by omega, rfl⟩
    have HS := Lib.hid hS
    have HZ := Lib.hid hZ
    clear hS hZ
    go_wp2_with fail
    rw [HS.out, HZ.out]
    have hS3b : 3 ≤ S ∧ S ≤ 7 := by omega
    have hZ3b : 128 ≤ Z ∧ Z ≤ 364 := by omega
    clear hS3 hZ3
    have hal := (Below.refl w0.heap.size w0).alloc (Nat.le_refl _) (.cells #[.int .i64 (S : Int), .int .i64 (Z : Int), .int .i64 1048576] 25)
    have hB9 := Blk.new w0 25 #[.int .i64 (S : Int), .int .i64 (Z : Int), .int .i64 1048576]
    obtain ⟨wg, hwg⟩ : ∃ wg, wg = w0.alloc (.cells #[.int .i64 (S : Int), .int .i64 (Z : Int), .int .i64 1048576] 25) := ⟨_, rfl⟩
    obtain ⟨g9, hg9⟩ : ∃ g9, g9 = w0.heap.size := ⟨_, rfl⟩
    rw [← hwg] at hal hB9 ⊢
    rw [← hg9] at hB9 ⊢
    have Hbg := Lib.hid (Hb0.out.trans (hal.mono hs0))
    have HB9 := Lib.hid hB9
    have hg9l := hB9.lt
    have hg9w : w.heap.size ≤ g9 := by omega
    have hsg := Hbg.out.size
    have Hnew := Lib.hid (new_yes S Z 1048576 wg ⟨by omega, by omega, by omega, by omega, by decide, by decide⟩)
    clear hwg hg9 hal hB9
    refine Hnew.out.mono ?_
    rintro e1 w1 ⟨p, c, er, rfl, hfl, hb1, hp, hc, he⟩
    have Hfs := Lib.hid (FS.fresh hfl)
    have Hb1 := Lib.hid (Hbg.out.trans (hb1.mono hsg))
    have HB9b := Lib.hid ((Only.of_below (S := Empty) hb1).blk HB9.out (fun h => h))
    have Hmo := Lib.hid (mount_none p c er Z 1048576 (freshS S Z) w1 (FS.fresh hfl) (HM.out.below Hb1.out) (fresh_no S Z (by omega)) (by rw [fresh_count S Z 1048576 (by omega)]; omega))
    have hs1 := hb1.size
    clear Hnew hfl hb1
    go_wp2_with fail
    refine Hmo.out.mono ?_
    rintro e2 w2 ⟨⟨s, mb, rfl, hG, hs, hm⟩, hb2⟩
    have HG2 := Lib.hid (fresh_good hG (by omega) (by omega) (by omega))
    have Hb2 := Lib.hid (Hb1.out.trans (hb2.mono Hb1.out.size))
    have HB9c := Lib.hid ((Only.of_below (S := Empty) hb2).blk HB9b.out (fun h => h))
    have hs2 := hb2.size
    have Hmut : Hid (∀ q, Mut s mb p c er q → wg.heap.size ≤ q ∧ q < w2.heap.size) := Lib.hid (by
      intro q hq
      have hS := hG.st
      rcases hq with rfl | rfl | hq
      · exact ⟨by omega, hS.blk.lt⟩
      · exact ⟨by omega, hS.map.lt⟩
      · refine ⟨?_, hG.fs.lt q hq⟩
        rcases hq with rfl | rfl | rfl <;> omega)
    have Hthr : Hid (∀ q, Three p c er q → q ≠ s ∧ q ≠ mb) := Lib.hid (fun q hq => by have := Hfs.out.lt q hq; omega)
    obtain ⟨T, hT, hT2⟩ : ∃ T : Nat, 1 + (r4 : Int) = (T : Int) ∧ T ≤ 60 := ⟨1 + r4, by omega, by omega⟩
    have HT := Lib.hid hT
    clear hG hb2 Hmo hT
    go_wp2_with fail
    rw [HT.out]
    clear HS HZ HT hr1 hr2 hr4 HB9 HB9b Hfs
    go_loopw [14, 53] (fun hv v wr => ∃ (i n3 c3 : Nat) (A3 : Option Addr) (M : Al Sv) (h : HeadV) (ss : List (Nat × List UInt8)) (B : Int), i ≤ T ∧ hv = .slice A3 n3 c3 ∧ v = .int .i64 (i : Int) ∧ B ≤ 56 * (i : Int) ∧ ss.length = S ∧ M.length ≤ 16 * i ∧ Hid (GoodR wr s mb p c er Z 1048576 M h ss B) ∧ Hid (RowSl pairC 2 wr (Mut s mb p c er) A3 n3 c3 (blobsOf (amap Sv.a M))) ∧ Hid (A3 = none → n3 = 0 ∧ c3 = 0) ∧ Hid (Only (Mut s mb p c er) w2 wr)) (fun _ v _ => T - (intOf v).toNat)
    case atStart => exact ⟨0, 0, 0, none, [], ⟨0, 0, 0, 0⟩, freshS S Z, 0, by omega, rfl, rfl, by omega, freshS_len _ _, by simp, HG2, Lib.hid (RowSl.nil_ _ _ _ _ (by decide)), Lib.hid (fun _ => ⟨rfl, rfl⟩), Lib.hid (Only.refl _ _)⟩
    case round =>
      obtain ⟨i, n3, k3, A3, M, h, ss, B, hi, rfl, rfl, hBi, hss, hMl, HG, HR, HA, HO⟩ := hrel
      have hswr : w2.heap.size ≤ wr.heap.size := HO.out.size
      by_cases hiT : i < T
      · by_cases hn0 : n = 0
        · subst hn0
          go_wp2_with fail
          go_ret
          refine ⟨rfl, Hb2.out.trans (HO.out.below Hb2.out.size (fun q hq hm => ?_))⟩
          have := (Hmut.out q hm).1
          omega
        · have hn1 : (n : Int) ≠ 0 := by omega
          obtain ⟨k, hk, hkn⟩ : ∃ k : Nat, (i : Int) % (n : Int) = (k : Int) ∧ k < n := ⟨i % n, by simp, Nat.mod_lt _ (by omega)⟩
          obtain ⟨z, hz, hz2⟩ : ∃ z : Nat, (i : Int) % 3 = (z : Int) ∧ z ≤ 2 := ⟨i % 3, by omega, by omega⟩
          have hneq : ((n : Int) == 0) = false := by simpa using hn1
          have hOw : Only Empty w wr := by
            have hh := HO.out
            exact ⟨hh.os.trans Hb2.out.os, hh.tape.trans Hb2.out.tape, hh.output.trans Hb2.out.output, Nat.le_trans Hb2.out.size hh.size, fun q hq _ => (hh.block q (Nat.lt_of_lt_of_le hq Hb2.out.size) (fun hm => by have := (Hmut.out q hm).1; omega)).trans (Hb2.out.block q hq)⟩
          obtain ⟨ad, x, hAd, hadl, hadS, hxk, hxc⟩ := HB.out.at_ hkn
          obtain ⟨y0, hy0, hy0b⟩ : ∃ y0 : Nat, x.toNat = y0 ∧ y0 ≤ 255 := ⟨_, rfl, by have := byte_lt x; omega⟩
          have hx0 : wr.cell? (ad.add k) = some (.int .u8 (y0 : Int)) := by
            have h9 := hOw.cell (p := ad.add k) (by rw [addr_add_block]; exact hadl) (fun h => h)
            rw [h9, hxc, ← hy0]
            rfl
          obtain ⟨y, hy, hyb⟩ : ∃ y : Nat, (y0 : Int) % 40 = (y : Int) ∧ y ≤ 39 := ⟨y0 % 40, by omega, by omega⟩
          have hk9 : k ≤ 9 := by omega
          have hkI : (k : Int) < (n : Int) := by omega
          have hadw : (ad.add k).block < wr.heap.size := by rw [addr_add_block]; have := hOw.size; omega
          go_wp2_with fail
          rw [hk]
          subst hAd
          clear hxc hxk hy0 hadS
          obtain ⟨nb, hnb, hnb2⟩ : ∃ nb : Nat, (y : Int) + (z : Int) = (nb : Int) ∧ nb ≤ 41 := ⟨y + z, by omega, by omega⟩
          obtain ⟨sk, hsk⟩ : ∃ sk, sk = strB [UInt8.ofNat (97 + k)] := ⟨_, rfl⟩
          have HCV : Hid (∀ W g, Blk W g 5 #[.int .u8 (97 + (k : Int))] → (convert 22 9 (.slice (some ⟨g, 0, none⟩) 1 1)).run Tryz.prog W = .ok (.string sk) W) := Lib.hid (fun W g hb => by rw [hsk]; rw [one_byte k hk9] at hb; exact conv_blk hb rfl (by decide))
          have HS1 : Hid (∀ W, Only Empty wr W → W.cell? (ad.add k) = some (.int .u8 (y0 : Int)) ∧ Only Empty wr W) := Lib.hid (fun W hW => ⟨(hW.cell hadw (fun h => h)).trans hx0, hW⟩)
          have hmk := fun W => run_make_cap nb nb (Nat.le_refl _) (by omega) W
          have hu0 : Only Empty wr wr.drew := (Only.refl _ _).drew
          have hsk1 : sk.size = 1 := by rw [hsk]; rfl
          have eb : IntKind.u8.wrap (IntKind.i64.wrap (97 + (k : Int))) = 97 + (k : Int) := by
            rw [wrap_i64_small (97 + (k : Int)) (by omega) (by omega), wrap_u8_small (97 + (k : Int)) (by omega) (by omega)]
          have en : IntKind.i64.wrap (IntKind.i64.wrap ((y0 : Int).tmod 40) + (i : Int).tmod 3) = (nb : Int) := by
            have t1 : (y0 : Int).tmod 40 = (y : Int) := by rw [Int.tmod_eq_emod_of_nonneg (by omega)]; exact hy
            have t2 : (i : Int).tmod 3 = (z : Int) := by rw [Int.tmod_eq_emod_of_nonneg (by omega)]; exact hz
            rw [t1, t2, wrap_i64_small (y : Int) (by omega) (by omega), wrap_i64_small ((y : Int) + (z : Int)) (by omega) (by omega)]
            exact hnb
          clear hx0 hsk
          go_cut [17] (fun v wx => MadeC wr sk nb v wx)
          case first =>
            refine wp_region_held_drew (S := fun W => W.cell? (ad.add k) = some (.int .u8 (y0 : Int)) ∧ Only Empty wr W) (by kernel_rfl) (HS1.out _ hu0) (fun hHeld => ?_)
            refine take_yes 0 63 ?_ rfl rfl (by kernel_rfl) (by kernel_rfl) (by kernel_rfl) (fun _ _ _ h => h) (by kernel_rfl) ?_ (by assumption) ?_; rotate_left; (focus (intro w hSw; (try dsimp only at hSw); go_simp; all_goals with_reducible rfl)); simp only [Act.put, List.setIfInBounds_toArray, List.set_cons_zero, List.set_cons_succ]
            refine take_yes 1 64 ?_ rfl rfl (by kernel_rfl) (by kernel_rfl) (by kernel_rfl) (fun _ _ _ h => h) (by kernel_rfl) ?_ (by assumption) ?_; rotate_left; (focus (intro w hSw; (try dsimp only at hSw); go_simp; all_goals with_reducible rfl)); simp only [Act.put, List.setIfInBounds_toArray, List.set_cons_zero, List.set_cons_succ]
            refine take_yes 2 65 ?_ rfl rfl (by kernel_rfl) (by kernel_rfl) (by kernel_rfl) (fun _ _ _ h => h) (by kernel_rfl) ?_ (by assumption) ?_; rotate_left; (focus (intro w hSw; (try dsimp only at hSw); go_simp; all_goals with_reducible rfl)); simp only [Act.put, List.setIfInBounds_toArray, List.set_cons_zero, List.set_cons_succ]
            refine take_yes 5 68 ?_ rfl rfl (by kernel_rfl) (by kernel_rfl) (by kernel_rfl) (fun _ _ _ h => h) (by kernel_rfl) ?_ (by assumption) ?_; rotate_left; (focus (intro w hSw; (try dsimp only at hSw); go_simp; all_goals with_reducible rfl)); simp only [Act.put, List.setIfInBounds_toArray, List.set_cons_zero, List.set_cons_succ]
            refine take_yes 6 69 ?_ rfl rfl (by kernel_rfl) (by kernel_rfl) (by kernel_rfl) (fun _ _ _ h => h) (by kernel_rfl) ?_ (by assumption) ?_; rotate_left; (focus (intro w hSw; (try dsimp only at hSw); go_simp; all_goals with_reducible rfl)); simp only [Act.put, List.setIfInBounds_toArray, List.set_cons_zero, List.set_cons_succ]
            refine take_yes 7 70 ?_ rfl rfl (by kernel_rfl) (by kernel_rfl) (by kernel_rfl) (fun _ _ _ h => h) (by kernel_rfl) ?_ (by assumption) ?_; rotate_left; (focus (intro w hSw; (try dsimp only at hSw); go_simp; all_goals with_reducible rfl)); simp only [Act.put, List.setIfInBounds_toArray, List.set_cons_zero, List.set_cons_succ]
            refine take_yes 8 71 ?_ rfl rfl (by kernel_rfl) (by kernel_rfl) (by kernel_rfl) (fun _ _ _ h => h) (by kernel_rfl) ?_ (by assumption) ?_; rotate_left; (focus (intro w hSw; (try dsimp only at hSw); go_simp; all_goals with_reducible rfl)); simp only [Act.put, List.setIfInBounds_toArray, List.set_cons_zero, List.set_cons_succ]
            refine take_yes 9 72 ?_ rfl rfl (by kernel_rfl) (by kernel_rfl) (by kernel_rfl) (fun _ _ _ h => h) (by kernel_rfl) ?_ (by assumption) ?_; rotate_left; (focus (intro w hSw; (try dsimp only at hSw); go_simp; all_goals with_reducible rfl)); simp only [Act.put, List.setIfInBounds_toArray, List.set_cons_zero, List.set_cons_succ]
            refine take_yes 10 73 ?_ rfl rfl (by kernel_rfl) (by kernel_rfl) (by kernel_rfl) (fun _ _ _ h => h) (by kernel_rfl) ?_ (by assumption) ?_; rotate_left; (focus (intro w hSw; (try dsimp only at hSw); go_simp; all_goals with_reducible rfl)); simp only [Act.put, List.setIfInBounds_toArray, List.set_cons_zero, List.set_cons_succ]
            refine take_yes 11 74 ?_ rfl rfl (by kernel_rfl) (by kernel_rfl) (by kernel_rfl) (fun _ _ _ h => h) (by kernel_rfl) ?_ (by assumption) ?_; rotate_left; (focus (intro w hSw; (try dsimp only at hSw); go_simp; all_goals with_reducible rfl)); simp only [Act.put, List.setIfInBounds_toArray, List.set_cons_zero, List.set_cons_succ]
            refine take_yes 12 75 ?_ rfl rfl (by kernel_rfl) (by kernel_rfl) (by kernel_rfl) (fun _ _ _ h => h) (by kernel_rfl) ?_ (by assumption) ?_; rotate_left; (focus (intro w hSw; (try dsimp only at hSw); go_simp; all_goals with_reducible rfl)); simp only [Act.put, List.setIfInBounds_toArray, List.set_cons_zero, List.set_cons_succ]
            refine take_yes 13 76 ?_ rfl rfl (by kernel_rfl) (by kernel_rfl) (by kernel_rfl) (fun _ _ _ h => h) (by kernel_rfl) ?_ (by assumption) ?_; rotate_left; (focus (intro w hSw; (try dsimp only at hSw); go_simp; all_goals with_reducible rfl)); simp only [Act.put, List.setIfInBounds_toArray, List.set_cons_zero, List.set_cons_succ]
            refine wpAnyH_ready (rs := [3, 14]) (by kernel_rfl) (by simp) ?_
            refine AllReadyH.cons rfl (fun K hK => ?_) (AllReadyH.cons rfl (fun K hK => ?_) AllReadyH.nil)
            · go_simp
              refine hK.out _ _ (HS1.out _ ((Only.refl Empty wr).alloc _).drew) (fun _ => ?_)
              clear hK K
              try simp only [Act.put, List.setIfInBounds_toArray, List.set_cons_zero, List.set_cons_succ]
              have kb : Blk (wr.alloc (.cells #[.int .u8 (97 + (k : Int))] 5)) wr.heap.size 5 #[.int .u8 (97 + (k : Int))] := Blk.new wr 5 _
              refine wpAnyH_ready (rs := [4, 14]) (by kernel_rfl) (by simp) ?_
              refine AllReadyH.cons rfl (fun K hK => ?_) (AllReadyH.cons rfl (fun K hK => ?_) AllReadyH.nil)
              · have hcv := HCV.out _ _ kb.drew
                go_simp
                refine hK.out _ _ (HS1.out _ ((Only.refl Empty wr).alloc _).drew) (fun _ => ?_)
                clear hK K
                try simp only [Act.put, List.setIfInBounds_toArray, List.set_cons_zero, List.set_cons_succ]
                refine wpAnyH_ready (rs := [14]) (by kernel_rfl) (by simp) ?_
                refine AllReadyH.cons rfl (fun K hK => ?_) AllReadyH.nil
                have hmk1 := hmk (wr.alloc (.cells #[.int .u8 (97 + (k : Int))] 5)).drew
                go_simp
                refine hK.out _ _ (HS1.out _ (((Only.refl Empty wr).alloc _).alloc _).drew) (fun _ => ?_)
                clear hK K
                try simp only [Act.put, List.setIfInBounds_toArray, List.set_cons_zero, List.set_cons_succ]
                refine take_yes 15 78 ?_ rfl rfl (by kernel_rfl) (by kernel_rfl) (by kernel_rfl) (fun _ _ _ h => h) (by kernel_rfl) ?_ (by assumption) ?_; rotate_left; (focus (intro w hSw; (try dsimp only at hSw); go_simp; all_goals with_reducible rfl)); simp only [Act.put, List.setIfInBounds_toArray, List.set_cons_zero, List.set_cons_succ]
                refine wpAnyH_ready (rs := [16]) (by kernel_rfl) (by simp) ?_
                refine AllReadyH.cons rfl (fun K hK => ?_) AllReadyH.nil
                go_simp
                refine hK.out _ _ (HS1.out _ ((((Only.refl Empty wr).alloc _).alloc _).alloc _).drew) (fun _ => ?_)
                clear hK K
                try simp only [Act.put, List.setIfInBounds_toArray, List.set_cons_zero, List.set_cons_succ]
                refine take_yes 17 17 ?_ rfl rfl (by kernel_rfl) (by kernel_rfl) (by kernel_rfl) (fun _ _ _ h => h) (by kernel_rfl) ?_ (by assumption) ?_; rotate_left; (focus (intro w hSw; (try dsimp only at hSw); go_simp; all_goals with_reducible rfl)); simp only [Act.put, List.setIfInBounds_toArray, List.set_cons_zero, List.set_cons_succ]
                refine wpAnyH_done (by kernel_rfl) ?_ _
                go_wp2_with fail
                go_meet
                exact madeC_a
              · have hmk1 := hmk (wr.alloc (.cells #[.int .u8 (97 + (k : Int))] 5)).drew
                go_simp
                refine hK.out _ _ (HS1.out _ (((Only.refl Empty wr).alloc _).alloc _).drew) (fun _ => ?_)
                clear hK K
                try simp only [Act.put, List.setIfInBounds_toArray, List.set_cons_zero, List.set_cons_succ]
                refine wpAnyH_ready (rs := [4]) (by kernel_rfl) (by simp) ?_
                refine AllReadyH.cons rfl (fun K hK => ?_) AllReadyH.nil
                have hcv := HCV.out _ _ (kb.alloc (.cells (cellsB (List.replicate nb 0)) 5)).drew
                go_simp
                refine hK.out _ _ (HS1.out _ (((Only.refl Empty wr).alloc _).alloc _).drew) (fun _ => ?_)
                clear hK K
                try simp only [Act.put, List.setIfInBounds_toArray, List.set_cons_zero, List.set_cons_succ]
                refine take_yes 15 78 ?_ rfl rfl (by kernel_rfl) (by kernel_rfl) (by kernel_rfl) (fun _ _ _ h => h) (by kernel_rfl) ?_ (by assumption) ?_; rotate_left; (focus (intro w hSw; (try dsimp only at hSw); go_simp; all_goals with_reducible rfl)); simp only [Act.put, List.setIfInBounds_toArray, List.set_cons_zero, List.set_cons_succ]
                refine wpAnyH_ready (rs := [16]) (by kernel_rfl) (by simp) ?_
                refine AllReadyH.cons rfl (fun K hK => ?_) AllReadyH.nil
                go_simp
                refine hK.out _ _ (HS1.out _ ((((Only.refl Empty wr).alloc _).alloc _).alloc _).drew) (fun _ => ?_)
                clear hK K
                try simp only [Act.put, List.setIfInBounds_toArray, List.set_cons_zero, List.set_cons_succ]
                refine take_yes 17 17 ?_ rfl rfl (by kernel_rfl) (by kernel_rfl) (by kernel_rfl) (fun _ _ _ h => h) (by kernel_rfl) ?_ (by assumption) ?_; rotate_left; (focus (intro w hSw; (try dsimp only at hSw); go_simp; all_goals with_reducible rfl)); simp only [Act.put, List.setIfInBounds_toArray, List.set_cons_zero, List.set_cons_succ]
                refine wpAnyH_done (by kernel_rfl) ?_ _
                go_wp2_with fail
                go_meet
                exact madeC_a
            · have hmk1 := hmk wr.drew
              go_simp
              refine hK.out _ _ (HS1.out _ ((Only.refl Empty wr).alloc _).drew) (fun _ => ?_)
              clear hK K
              try simp only [Act.put, List.setIfInBounds_toArray, List.set_cons_zero, List.set_cons_succ]
              refine wpAnyH_ready (rs := [3]) (by kernel_rfl) (by simp) ?_
              refine AllReadyH.cons rfl (fun K hK => ?_) AllReadyH.nil
              go_simp
              refine hK.out _ _ (HS1.out _ (((Only.refl Empty wr).alloc _).alloc _).drew) (fun _ => ?_)
              clear hK K
              try simp only [Act.put, List.setIfInBounds_toArray, List.set_cons_zero, List.set_cons_succ]
              refine wpAnyH_ready (rs := [4]) (by kernel_rfl) (by simp) ?_
              refine AllReadyH.cons rfl (fun K hK => ?_) AllReadyH.nil
              have kb : Blk ((wr.alloc (.cells (cellsB (List.replicate nb 0)) 5)).alloc (.cells #[.int .u8 (97 + (k : Int))] 5)) (wr.heap.size + 1) 5 #[.int .u8 (97 + (k : Int))] := by
                have h := Blk.new (wr.alloc (.cells (cellsB (List.replicate nb 0)) 5)) 5 #[.int .u8 (97 + (k : Int))]
                rw [alloc_one] at h
                exact h
              have hcv := HCV.out _ _ kb.drew
              go_simp
              refine hK.out _ _ (HS1.out _ (((Only.refl Empty wr).alloc _).alloc _).drew) (fun _ => ?_)
              clear hK K
              try simp only [Act.put, List.setIfInBounds_toArray, List.set_cons_zero, List.set_cons_succ]
              refine take_yes 15 78 ?_ rfl rfl (by kernel_rfl) (by kernel_rfl) (by kernel_rfl) (fun _ _ _ h => h) (by kernel_rfl) ?_ (by assumption) ?_; rotate_left; (focus (intro w hSw; (try dsimp only at hSw); go_simp; all_goals with_reducible rfl)); simp only [Act.put, List.setIfInBounds_toArray, List.set_cons_zero, List.set_cons_succ]
              refine wpAnyH_ready (rs := [16]) (by kernel_rfl) (by simp) ?_
              refine AllReadyH.cons rfl (fun K hK => ?_) AllReadyH.nil
              go_simp
              refine hK.out _ _ (HS1.out _ ((((Only.refl Empty wr).alloc _).alloc _).alloc _).drew) (fun _ => ?_)
              clear hK K
              try simp only [Act.put, List.setIfInBounds_toArray, List.set_cons_zero, List.set_cons_succ]
              refine take_yes 17 17 ?_ rfl rfl (by kernel_rfl) (by kernel_rfl) (by kernel_rfl) (fun _ _ _ h => h) (by kernel_rfl) ?_ (by assumption) ?_; rotate_left; (focus (intro w hSw; (try dsimp only at hSw); go_simp; all_goals with_reducible rfl)); simp only [Act.put, List.setIfInBounds_toArray, List.set_cons_zero, List.set_cons_succ]
              refine wpAnyH_done (by kernel_rfl) ?_ _
              go_wp2_with fail
              go_meet
              exact madeC_b
          case rest =>
            clear HCV HS1 hmk hu0
            obtain ⟨g, gb, rfl, hBg, hBgb, hgl, hgbl, hbc⟩ := hcut
            obtain ⟨f, hf⟩ : ∃ f : Ch, f = ⟨false, sk, some ⟨gb, 0, none⟩, nb, nb, List.replicate nb 0⟩ := ⟨_, rfl⟩
            have hgm : ∀ q, wr.heap.size ≤ q → ¬ Mut s mb p c er q := fun q h1 h2 => by have := (Hmut.out q h2).2; omega
            have hsl : ∀ S' : Nat → Prop, ¬ S' gb → ByteSl wc S' (some ⟨gb, 0, none⟩) nb nb (List.replicate nb 0) := fun S' h => ⟨by simp, Nat.le_refl _, by unfold maxLen; omega, fun _ => ⟨_, rfl, hBgb.lt, h, fun j x hx => by
              rw [show (⟨gb, 0, none⟩ : Addr).add j = ⟨gb, j, none⟩ by simp [Addr.add]; omega, hBgb.cell, cellsB_get, hx]
              rfl⟩⟩
            have hch : ∀ S' : Nat → Prop, ¬ S' g → ¬ S' gb → Chs wc S' (some ⟨g, 0, none⟩) 1 1 [f] := fun S' h1 h2 => by
              rw [hf]
              refine ⟨rfl, by decide, by decide, fun _ => ⟨_, _, rfl, hBg.lt, h1, fun i x hi j hj => ?_⟩, fun x hx => ?_⟩
              · cases i with
                | succ i => simp at hi
                | zero =>
                  simp at hi
                  subst hi
                  have hc := hBg.cell j
                  simp only [Nat.zero_mul, Nat.zero_add]
                  rw [hc]
                  have hj3 : j = 0 ∨ j = 1 ∨ j = 2 := by omega
                  rcases hj3 with rfl | rfl | rfl <;> rfl
              · rw [List.mem_singleton.1 hx]
                exact ⟨hsl S' h2, fun h => by cases h⟩
            have HC0 := Lib.hid (hch Empty (fun h => h) (fun h => h))
            have HCM := Lib.hid (hch (Mut s mb p c er) (hgm g hgl) (hgm gb hgbl))
            have hfs : f.s.size ≤ 64 ∧ f.rN ≤ 4096 := by rw [hf]; exact ⟨by show sk.size ≤ 64; omega, by show nb ≤ 4096; omega⟩
            have HGc := Lib.hid (HG.out.below hbc)
            have HRc := Lib.hid (HR.out.below hbc)
            have HOc := Lib.hid (HO.out.trans (Only.of_below hbc))
            have hB9 : Blk wc g9 25 #[.int .i64 (S : Int), .int .i64 (Z : Int), .int .i64 1048576] := HOc.out.blk HB9c.out (fun h => by have := (Hmut.out _ h).1; omega)
            have hfb : f.blob.length = f.n := by rw [hf]; simp
            clear hf hch hsl hBg hBgb hgm HG HR HO hOw
            obtain ⟨E, hE⟩ : ∃ E, E = refuC [f] (Z - 12) := ⟨_, rfl⟩
            obtain ⟨LV, hLV⟩ : ∃ LV, LV = liveB (blobsOf (amap Sv.a M)) := ⟨_, rfl⟩
            obtain ⟨RM, hRM⟩ : ∃ RM, RM = roomL [f] := ⟨_, rfl⟩
            obtain ⟨MX, hMX⟩ : ∃ MX, MX = roomMax S Z := ⟨_, rfl⟩
            have hMl2 : (blobsOf (amap Sv.a M)).length = M.length := by unfold blobsOf amap; simp
            have hRMb := roomL_le [f] (fun x hx => by rw [List.mem_singleton.1 hx]; exact hfs)
            rw [← hRM] at hRMb
            have hMX2 : MX ≤ 4194304 := by
              rw [hMX]
              unfold roomMax
              have h1 : (S - 2) * (Z - 12) ≤ 64 * 65536 := Nat.mul_le_mul (by omega) (by omega)
              omega
            have hfairB : ∀ q ∈ blobsOf (amap Sv.a M), q.1.length ≤ 4096 ∧ q.2.length ≤ 4096 := by
              intro q hq
              unfold blobsOf amap at hq
              rw [List.map_map] at hq
              obtain ⟨x, hx, rfl⟩ := List.mem_map.1 hq
              have h1 := HGc.out.g.fair x hx
              have h2 := HGc.out.g.lenM x hx
              exact ⟨by show x.1.length ≤ 4096; omega, by show x.2.xs.length ≤ 4096; omega⟩
            have hLVb : LV ≤ 960 * 8224 := by
              rw [hLV]
              have h1 := HRc.out.1
              refine Nat.le_trans (liveB_le _ hfairB) ?_
              rw [hMl2]
              have h3 : M.length ≤ 960 := by omega
              exact Nat.mul_le_mul_right _ h3
            have HCk : Hid (∀ W, Only Empty wc W → Calls Tryz.prog 12 #[.slice (some ⟨g, 0, none⟩) 1 1, .int .i64 (Z : Int)] W fun e w' => e = .returned (.int .i64 E) ∧ Below W.heap.size W w') := Lib.hid (fun W hW => by rw [hE]; exact refCheck_one _ 1 f Z W (HC0.out.only hW (fun _ _ h => h)) hfs (by omega))
            have HLv : Hid (∀ W, Only Empty wc W → Calls Tryz.prog 13 #[.slice A3 n3 k3] W fun e w' => e = .returned (.int .i64 (LV : Int)) ∧ Below W.heap.size W w') := Lib.hid (fun W hW => by rw [hLV]; exact refLive_any A3 n3 k3 _ W ((HRc.out.mono (T := Empty) (fun _ _ h => h.elim)).only hW (fun _ _ h => h)) (by have := HRc.out.1; omega) hfairB)
            have HRm : Hid (∀ W, Only Empty wc W → Calls Tryz.prog 14 #[.slice (some ⟨g, 0, none⟩) 1 1] W fun e w' => e = .returned (.int .i64 (RM : Int)) ∧ Below W.heap.size W w') := Lib.hid (fun W hW => by rw [hRM]; exact refRoom_any _ 1 1 [f] W (HC0.out.only hW (fun _ _ h => h)) (fun x hx => by rw [List.mem_singleton.1 hx]; exact hfs) (by omega))
            have HMx : Hid (∀ W, Only Empty wc W → Calls Tryz.prog 15 #[.agg #[.int .i64 (S : Int), .int .i64 (Z : Int), .int .i64 1048576]] W fun e w' => e = .returned (.int .i64 (MX : Int)) ∧ Below W.heap.size W w') := Lib.hid (fun W hW => by rw [hMX]; exact refMost_any S Z 1048576 W (by omega) (by omega))
            have hg9c := hB9.lt
            have HS2 : Hid (∀ W, Only Empty wc W → (W.cell? ⟨g9, 0, none⟩ = some (.int .i64 (S : Int)) ∧ W.cell? ⟨g9, 1, none⟩ = some (.int .i64 (Z : Int)) ∧ W.cell? ⟨g9, 2, none⟩ = some (.int .i64 1048576)) ∧ Only Empty wc W) := Lib.hid (fun W hW => by
              have hb := hW.blk hB9 (fun h => h)
              exact ⟨⟨hb.cell 0, hb.cell 1, hb.cell 2⟩, hW⟩)
            have hv0 : Only Empty wc wc.drew := (Only.refl _ _).drew
            have HEx := Lib.hid (And.intro hE (And.intro hLV (And.intro hRM hMX)))
            have Hfb := Lib.hid hfb
            have Hbc := Lib.hid hbc
            clear hE hLV hRM hMX hfb hbc hB9 hfairB hMl2
            have hew : IntKind.i64.wrap ((LV : Int) + (RM : Int)) = (LV : Int) + (RM : Int) := wrap_i64_small _ (by omega) (by simp at hRMb; omega)
            go_wp2_with fail
            go_cut [94] (fun v wx => Hid (v = .bool (decide (¬ E = 0 ∨ (MX : Int) < (LV : Int) + (RM : Int)))) ∧ Hid (Only Empty wc wx))
            case first =>
              by_cases hE0 : E = 0
              · subst hE0
                go_wp2_with fail
                refine wp_region_held_drew (S := fun W => (W.cell? ⟨g9, 0, none⟩ = some (.int .i64 (S : Int)) ∧ W.cell? ⟨g9, 1, none⟩ = some (.int .i64 (Z : Int)) ∧ W.cell? ⟨g9, 2, none⟩ = some (.int .i64 1048576)) ∧ Only Empty wc W) (by kernel_rfl) (HS2.out _ hv0) (fun hHeld => ?_)
                refine take_yes 0 80 ?_ rfl rfl (by kernel_rfl) (by kernel_rfl) (by kernel_rfl) (fun _ _ _ h => h) (by kernel_rfl) ?_ (by assumption) ?_; rotate_left; (focus (intro w hSw; (try dsimp only at hSw); go_simp; all_goals with_reducible rfl)); simp only [Act.put, List.setIfInBounds_toArray, List.set_cons_zero, List.set_cons_succ]
                refine take_yes 1 81 ?_ rfl rfl (by kernel_rfl) (by kernel_rfl) (by kernel_rfl) (fun _ _ _ h => h) (by kernel_rfl) ?_ (by assumption) ?_; rotate_left; (focus (intro w hSw; (try dsimp only at hSw); go_simp; all_goals with_reducible rfl)); simp only [Act.put, List.setIfInBounds_toArray, List.set_cons_zero, List.set_cons_succ]
                refine take_yes 2 82 ?_ rfl rfl (by kernel_rfl) (by kernel_rfl) (by kernel_rfl) (fun _ _ _ h => h) (by kernel_rfl) ?_ (by assumption) ?_; rotate_left; (focus (intro w hSw; (try dsimp only at hSw); go_simp; all_goals with_reducible rfl)); simp only [Act.put, List.setIfInBounds_toArray, List.set_cons_zero, List.set_cons_succ]
                refine wpAnyH_ready (rs := [3]) (by kernel_rfl) (by simp) ?_
                refine AllReadyH.cons rfl (fun K hK => ?_) (AllReadyH.nil)
                go_simp
                go_at_call 12
                (with_reducible refine (HCk.out _ hv0).mono ?_)
                rintro ev3 v3 ⟨rfl, hbv3⟩
                have hv3 := hv0.trans (Only.of_below hbv3)
                go_wp2_with fail
                refine hK.out _ _ (HS2.out _ hv3) (fun _ => ?_)
                clear hK K
                try simp only [Act.put, List.setIfInBounds_toArray, List.set_cons_zero, List.set_cons_succ]
                refine take_yes 4 84 ?_ rfl rfl (by kernel_rfl) (by kernel_rfl) (by kernel_rfl) (fun _ _ _ h => h) (by kernel_rfl) ?_ (by assumption) ?_; rotate_left; (focus (intro w hSw; (try dsimp only at hSw); go_simp; all_goals with_reducible rfl)); simp only [Act.put, List.setIfInBounds_toArray, List.set_cons_zero, List.set_cons_succ]
                refine take_yes 5 85 ?_ rfl rfl (by kernel_rfl) (by kernel_rfl) (by kernel_rfl) (fun _ _ _ h => h) (by kernel_rfl) ?_ (by assumption) ?_; rotate_left; (focus (intro w hSw; (try dsimp only at hSw); go_simp; all_goals with_reducible rfl)); simp only [Act.put, List.setIfInBounds_toArray, List.set_cons_zero, List.set_cons_succ]
                refine take_yes 6 86 ?_ rfl rfl (by kernel_rfl) (by kernel_rfl) (by kernel_rfl) (fun _ _ _ h => h) (by kernel_rfl) ?_ (by assumption) ?_; rotate_left; (focus (intro w hSw; (try dsimp only at hSw); go_simp; all_goals with_reducible rfl)); simp only [Act.put, List.setIfInBounds_toArray, List.set_cons_zero, List.set_cons_succ]
                refine take_yes 8 88 ?_ rfl rfl (by kernel_rfl) (by kernel_rfl) (by kernel_rfl) (fun _ _ _ h => h) (by kernel_rfl) ?_ (by assumption) ?_; rotate_left; (focus (intro w hSw; (try dsimp only at hSw); go_simp; all_goals with_reducible rfl)); simp only [Act.put, List.setIfInBounds_toArray, List.set_cons_zero, List.set_cons_succ]
                refine take_yes 11 91 ?_ rfl rfl (by kernel_rfl) (by kernel_rfl) (by kernel_rfl) (fun _ _ _ h => h) (by kernel_rfl) ?_ (by assumption) ?_; rotate_left; (focus (intro w hSw; (try dsimp only at hSw); go_simp; all_goals with_reducible rfl)); simp only [Act.put, List.setIfInBounds_toArray, List.set_cons_zero, List.set_cons_succ]
                refine wpAnyH_ready (rs := [7]) (by kernel_rfl) (by simp) ?_
                refine AllReadyH.cons rfl (fun K hK => ?_) (AllReadyH.nil)
                go_simp
                go_at_call 13
                (with_reducible refine (HLv.out _ hv3).mono ?_)
                rintro ev7 v7 ⟨rfl, hbv7⟩
                have hv7 := hv3.trans (Only.of_below hbv7)
                go_wp2_with fail
                refine hK.out _ _ (HS2.out _ hv7) (fun _ => ?_)
                clear hK K
                try simp only [Act.put, List.setIfInBounds_toArray, List.set_cons_zero, List.set_cons_succ]
                refine wpAnyH_ready (rs := [9]) (by kernel_rfl) (by simp) ?_
                refine AllReadyH.cons rfl (fun K hK => ?_) (AllReadyH.nil)
                go_simp
                go_at_call 14
                (with_reducible refine (HRm.out _ hv7).mono ?_)
                rintro ev9 v9 ⟨rfl, hbv9⟩
                have hv9 := hv7.trans (Only.of_below hbv9)
                go_wp2_with fail
                refine hK.out _ _ (HS2.out _ hv9) (fun _ => ?_)
                clear hK K
                try simp only [Act.put, List.setIfInBounds_toArray, List.set_cons_zero, List.set_cons_succ]
                refine take_yes 10 90 ?_ rfl rfl (by kernel_rfl) (by kernel_rfl) (by kernel_rfl) (fun _ _ _ h => h) (by kernel_rfl) ?_ (by assumption) ?_; rotate_left; (focus (intro w hSw; (try dsimp only at hSw); go_simp; all_goals with_reducible rfl)); simp only [Act.put, List.setIfInBounds_toArray, List.set_cons_zero, List.set_cons_succ]
                refine wpAnyH_ready (rs := [12]) (by kernel_rfl) (by simp) ?_
                refine AllReadyH.cons rfl (fun K hK => ?_) (AllReadyH.nil)
                go_simp
                go_at_call 15
                (with_reducible refine (HMx.out _ hv9).mono ?_)
                rintro ev12 v12 ⟨rfl, hbv12⟩
                have hv12 := hv9.trans (Only.of_below hbv12)
                go_wp2_with fail
                refine hK.out _ _ (HS2.out _ hv12) (fun _ => ?_)
                clear hK K
                try simp only [Act.put, List.setIfInBounds_toArray, List.set_cons_zero, List.set_cons_succ]
                refine take_yes 13 93 ?_ rfl rfl (by kernel_rfl) (by kernel_rfl) (by kernel_rfl) (fun _ _ _ h => h) (by kernel_rfl) ?_ (by assumption) ?_; rotate_left; (focus (intro w hSw; (try dsimp only at hSw); go_simp; all_goals with_reducible rfl)); simp only [Act.put, List.setIfInBounds_toArray, List.set_cons_zero, List.set_cons_succ]
                refine take_yes 14 94 ?_ rfl rfl (by kernel_rfl) (by kernel_rfl) (by kernel_rfl) (fun _ _ _ h => h) (by kernel_rfl) ?_ (by assumption) ?_; rotate_left; (focus (intro w hSw; (try dsimp only at hSw); go_simp; all_goals with_reducible rfl)); simp only [Act.put, List.setIfInBounds_toArray, List.set_cons_zero, List.set_cons_succ]
                refine wpAnyH_done (by kernel_rfl) ?_ _
                go_wp2_with fail
                go_meet
                exact ⟨Lib.hid (by simp), Lib.hid hv12⟩
              · have hEb : (E == 0) = false := by simpa using hE0
                go_wp2_with fail
                refine wp_region_held_drew (S := fun W => (W.cell? ⟨g9, 0, none⟩ = some (.int .i64 (S : Int)) ∧ W.cell? ⟨g9, 1, none⟩ = some (.int .i64 (Z : Int)) ∧ W.cell? ⟨g9, 2, none⟩ = some (.int .i64 1048576)) ∧ Only Empty wc W) (by kernel_rfl) (HS2.out _ hv0) (fun hHeld => ?_)
                refine take_yes 0 80 ?_ rfl rfl (by kernel_rfl) (by kernel_rfl) (by kernel_rfl) (fun _ _ _ h => h) (by kernel_rfl) ?_ (by assumption) ?_; rotate_left; (focus (intro w hSw; (try dsimp only at hSw); go_simp; all_goals with_reducible rfl)); simp only [Act.put, List.setIfInBounds_toArray, List.set_cons_zero, List.set_cons_succ]
                refine take_yes 1 81 ?_ rfl rfl (by kernel_rfl) (by kernel_rfl) (by kernel_rfl) (fun _ _ _ h => h) (by kernel_rfl) ?_ (by assumption) ?_; rotate_left; (focus (intro w hSw; (try dsimp only at hSw); go_simp; all_goals with_reducible rfl)); simp only [Act.put, List.setIfInBounds_toArray, List.set_cons_zero, List.set_cons_succ]
                refine take_yes 2 82 ?_ rfl rfl (by kernel_rfl) (by kernel_rfl) (by kernel_rfl) (fun _ _ _ h => h) (by kernel_rfl) ?_ (by assumption) ?_; rotate_left; (focus (intro w hSw; (try dsimp only at hSw); go_simp; all_goals with_reducible rfl)); simp only [Act.put, List.setIfInBounds_toArray, List.set_cons_zero, List.set_cons_succ]
                refine wpAnyH_ready (rs := [3]) (by kernel_rfl) (by simp) ?_
                refine AllReadyH.cons rfl (fun K hK => ?_) (AllReadyH.nil)
                go_simp
                go_at_call 12
                (with_reducible refine (HCk.out _ hv0).mono ?_)
                rintro ev3 v3 ⟨rfl, hbv3⟩
                have hv3 := hv0.trans (Only.of_below hbv3)
                go_wp2_with fail
                refine hK.out _ _ (HS2.out _ hv3) (fun _ => ?_)
                clear hK K
                try simp only [Act.put, List.setIfInBounds_toArray, List.set_cons_zero, List.set_cons_succ]
                refine take_yes 4 84 (.bool true) rfl rfl (by kernel_rfl) (by kernel_rfl) (by kernel_rfl) (fun _ _ _ h => h) (by kernel_rfl) ?_ (by assumption) ?_; (focus (intro w hSw; (try dsimp only at hSw); go_simp; all_goals first | with_reducible rfl | simp [hE0])); simp only [Act.put, List.setIfInBounds_toArray, List.set_cons_zero, List.set_cons_succ]
                refine take_yes 5 85 ?_ rfl rfl (by kernel_rfl) (by kernel_rfl) (by kernel_rfl) (fun _ _ _ h => h) (by kernel_rfl) ?_ (by assumption) ?_; rotate_left; (focus (intro w hSw; (try dsimp only at hSw); go_simp; all_goals with_reducible rfl)); simp only [Act.put, List.setIfInBounds_toArray, List.set_cons_zero, List.set_cons_succ]
                refine take_no 6 86 rfl rfl (by kernel_rfl) (by kernel_rfl) (by kernel_rfl) (fun _ _ _ h => h) (by kernel_rfl) (by assumption) ?_; simp only [Act.put, List.setIfInBounds_toArray, List.set_cons_zero, List.set_cons_succ]
                refine take_no 7 87 rfl rfl (by kernel_rfl) (by kernel_rfl) (by kernel_rfl) (fun _ _ _ h => h) (by kernel_rfl) (by assumption) ?_; simp only [Act.put, List.setIfInBounds_toArray, List.set_cons_zero, List.set_cons_succ]
                refine take_no 8 88 rfl rfl (by kernel_rfl) (by kernel_rfl) (by kernel_rfl) (fun _ _ _ h => h) (by kernel_rfl) (by assumption) ?_; simp only [Act.put, List.setIfInBounds_toArray, List.set_cons_zero, List.set_cons_succ]
                refine take_no 9 89 rfl rfl (by kernel_rfl) (by kernel_rfl) (by kernel_rfl) (fun _ _ _ h => h) (by kernel_rfl) (by assumption) ?_; simp only [Act.put, List.setIfInBounds_toArray, List.set_cons_zero, List.set_cons_succ]
                refine take_no 10 90 rfl rfl (by kernel_rfl) (by kernel_rfl) (by kernel_rfl) (fun _ _ _ h => h) (by kernel_rfl) (by assumption) ?_; simp only [Act.put, List.setIfInBounds_toArray, List.set_cons_zero, List.set_cons_succ]
                refine take_no 11 91 rfl rfl (by kernel_rfl) (by kernel_rfl) (by kernel_rfl) (fun _ _ _ h => h) (by kernel_rfl) (by assumption) ?_; simp only [Act.put, List.setIfInBounds_toArray, List.set_cons_zero, List.set_cons_succ]
                refine take_no 12 92 rfl rfl (by kernel_rfl) (by kernel_rfl) (by kernel_rfl) (fun _ _ _ h => h) (by kernel_rfl) (by assumption) ?_; simp only [Act.put, List.setIfInBounds_toArray, List.set_cons_zero, List.set_cons_succ]
                refine take_no 13 93 rfl rfl (by kernel_rfl) (by kernel_rfl) (by kernel_rfl) (fun _ _ _ h => h) (by kernel_rfl) (by assumption) ?_; simp only [Act.put, List.setIfInBounds_toArray, List.set_cons_zero, List.set_cons_succ]
                refine take_yes 14 94 ?_ rfl rfl (by kernel_rfl) (by kernel_rfl) (by kernel_rfl) (fun _ _ _ h => h) (by kernel_rfl) ?_ (by assumption) ?_; rotate_left; (focus (intro w hSw; (try dsimp only at hSw); go_simp; all_goals with_reducible rfl)); simp only [Act.put, List.setIfInBounds_toArray, List.set_cons_zero, List.set_cons_succ]
                refine wpAnyH_done (by kernel_rfl) ?_ _
                go_wp2_with fail
                go_meet
                exact ⟨Lib.hid (by simp [hE0]), Lib.hid hv3⟩
            case rest =>
              obtain ⟨HV, HOx⟩ := hcut
              have hvx := HV.out
              subst hvx
              clear HV HCk HLv HRm HMx HS2 hv0 hew
              have HGx := Lib.hid (HGc.out.below (HOx.out.below (Nat.le_refl _) (fun _ _ h => h)))
              have HRx := Lib.hid (HRc.out.only HOx.out (fun _ _ h => h.elim))
              have HOw := Lib.hid (HOc.out.trans (HOx.out.mono (fun _ _ h => h.elim)))
              have HCx := Lib.hid (HCM.out.only HOx.out (fun _ _ h => h.elim))
              clear HGc HRc HOc HC0 HCM
              by_cases hgo : ¬ E = 0 ∨ (MX : Int) < (LV : Int) + (RM : Int)
              · have hgb : decide (¬ E = 0 ∨ (MX : Int) < (LV : Int) + (RM : Int)) = true := decide_eq_true hgo
                go_wp2_with fail
                go_roundw
                case rel => exact ⟨i + 1, n3, k3, A3, M, h, ss, B, by omega, rfl, by simp, by omega, hss, by omega, HGx, HRx, HA, HOw⟩
                case measure => simp [intOf]; omega
              · have hgb : decide (¬ E = 0 ∨ (MX : Int) < (LV : Int) + (RM : Int)) = false := decide_eq_false hgo
                have hE0 : E = 0 := Classical.byContradiction fun hh => hgo (Or.inl hh)
                have hroom : LV + RM ≤ MX := by
                  have : ¬ (MX : Int) < (LV : Int) + (RM : Int) := fun hh => hgo (Or.inr hh)
                  omega
                obtain ⟨q1, q2, q3, q4⟩ := HEx.out
                have hrm4 : 4 * (liveX (amap Sv.a M) + roomL [f]) ≤ (ss.length - 2) * (Z - 12) := by
                  rw [live_blobs, ← q2, ← q3, hss]
                  rw [q4] at hroom
                  unfold roomMax at hroom
                  omega
                have Hcm := Lib.hid (commit_room s mb p c er Z 1048576 M h ss B (some ⟨g, 0, none⟩) 1 1 [f] wc HGx.out (by omega) HCx.out (by omega) Hthr.out (fun hh => by have := (Hmut.out _ hh).1; omega) (by rw [hss]; have h5 : 4 * S * (66 + M.length) ≤ 4 * 7 * (66 + 960) := Nat.mul_le_mul (by omega) (by omega); omega) (by omega) (by rw [← q1]; exact hE0) hrm4 (by omega) (by omega))
                have hlt : ¬ (MX : Int) < (LV : Int) + (RM : Int) := by omega
                have hgb2 : decide ((MX : Int) < (LV : Int) + (RM : Int)) = false := decide_eq_false hlt
                clear q1 q2 q3 q4 hrm4 hroom hgo
                go_wp2_with fail
                refine Hcm.out.mono ?_
                rintro e5 w5 ⟨rfl, M', h', ss', hG5, hss5, hbl5, hM5, hon5⟩
                have HG5 := Lib.hid hG5
                have HR5 := Lib.hid (HRx.out.only hon5 (fun _ _ h => h))
                have HC5 := Lib.hid (HCx.out.only hon5 (fun _ _ h => h))
                have HO5 := Lib.hid (HOw.out.trans hon5)
                have hMn : ∀ q, w5.heap.size ≤ q → ¬ Mut s mb p c er q := fun q h1 h2 => by have := (Hmut.out q h2).2; have := HO5.out.size; omega
                have Hap := Lib.hid (refApply_any (Mut s mb p c er) A3 (some ⟨g, 0, none⟩) n3 1 k3 1 (blobsOf (amap Sv.a M)) [f] w5 hMn HR5.out HA.out (HC5.out.mono (T := Empty) (fun _ _ h => h.elim)) (by have h6 := HR5.out.1; have h7 : (blobsOf (amap Sv.a M)).length = M.length := (by unfold blobsOf amap; simp); omega) (by omega))
                rw [← hbl5] at Hap
                clear hG5 hon5 hbl5 Hcm hMn
                go_wp2_with fail
                refine Hap.out.mono ?_
                rintro e6 w6 ⟨⟨A6, n6, k6, rfl, hR6, hA6⟩, hb6⟩
                have HG6 := Lib.hid (HG5.out.below hb6)
                have HR6 := Lib.hid hR6
                have HA6 := Lib.hid hA6
                have HO6 := Lib.hid (HO5.out.trans (Only.of_below hb6))
                clear hR6 hA6 hb6 Hap
                go_wp2_with fail
                go_roundw
                case rel => exact ⟨i + 1, n6, k6, A6, M', h', ss', B + 8 * (ss.length : Int), by omega, rfl, by simp, by omega, by omega, by omega, HG6, HR6, HA6, HO6⟩
                case measure => simp [intOf]; omega
      · have hiT2 : i = T := by omega
        have Hpr := Lib.hid (pairs_any s mb p c er Z 1048576 ss M h wr HG.out.g (by omega))
        go_wp2_with fail
        refine Hpr.out.mono ?_
        rintro e5 w5 ⟨⟨A5, n5, k5, rfl, hP5⟩, hb5⟩
        have hR5 := (HR.out.mono (T := Empty) (fun _ _ h => h.elim)).below hb5
        have Hsm := Lib.hid (refSame_yes A5 A3 n5 n3 k5 k3 _ w5 hP5.row hR5 (by have h6 := hP5.row.1; have h7 : (blobsOf (amap Sv.a M)).length = M.length := (by unfold blobsOf amap; simp); omega))
        have Hb5 := Lib.hid hb5
        clear hP5 hR5 hb5 Hpr
        go_wp2_with fail
        refine Hsm.out.mono ?_
        rintro e6 w6 ⟨rfl, hb6⟩
        go_wp2_with fail
        go_ret
        refine ⟨rfl, (Hb2.out.trans (HO.out.below Hb2.out.size (fun q hq hm => ?_))).trans ((Hb5.out.trans (hb6.mono Hb5.out.size)).mono (Nat.le_trans Hb2.out.size HO.out.size))⟩
        have := (Hmut.out q hm).1
        omega

theorem blobRoom_int (s0 s1 s3 : Int) (A : Option Addr) (n cap : Nat) (xs : List UInt8) (w : World) (a0 : 0 ≤ s0) (b0 : s0 ≤ 255) (a1 : 0 ≤ s1) (b1 : s1 ≤ 255) (a3 : 0 ≤ s3) (b3 : s3 ≤ 255) (hB : ByteSl w (fun k => w.heap.size ≤ k) A n cap xs) (hM : Mark w) :
    Calls Tryz.prog 3 #[.int .u8 s0, .int .u8 s1, .slice A n cap, .int .u8 s3] w fun e w' => e = .returned (.bool true) ∧ Below w.heap.size w w' := by
  obtain ⟨x0, rfl⟩ := Int.eq_ofNat_of_zero_le a0
  obtain ⟨x1, rfl⟩ := Int.eq_ofNat_of_zero_le a1
  obtain ⟨x3, rfl⟩ := Int.eq_ofNat_of_zero_le a3
  exact blobRoom_any x0 x1 x3 A n cap xs w (by omega) (by omega) (by omega) hB hM

end Go.Proofs.YtmdnhpnaikfpjaaGreatDoor

/- The condition on the program's mark: what the list of variables says, that the start-up code lays it, and what the walks take of it. -/
namespace Go.Proofs.YtmdnhpnaikfpjaaGreatDoor
set_option maxRecDepth 100000
open Go.ChangeShapes Go.WideShapes Go.ChangeAt Go.RowKit Go.Joins

/-- The one variable that the rows list. -/
def laidD {H : Type} : List (String × DataW H) := [("carpetbag/page.mark", Rows.laid_carpetbag_page_mark)]
theorem gMark : Tryz.prog.globalNamed "carpetbag/page.mark" = some 0 := by kernel_rfl
theorem tMark : (Tryz.prog.globals[0]?).map (·.type) = some 216 := by kernel_rfl
theorem cMark : Tryz.prog.cellsOf 216 = 2 := by kernel_rfl
theorem cU8 : Tryz.prog.cellsOf 5 = 1 := by kernel_rfl

/-- The start-up code's own heap meets the condition. -/
theorem door_met (os : Os) (args : Array Value) : laidMetH Tryz.prog laidD ((World.doorLaid Tryz.prog 14 os).forCall (fun _ _ => 0) ⟨#[], args, []⟩).memory :=
  laidMetH_of_parts3 (fuel := 8) (laidMet_of_run' 8 (by kernel_rfl) (by kernel_rfl)) (by kernel_rfl) (by kernel_rfl)

/-- What the condition gives the walks: the mark's two bytes. -/
theorem mark_of_laid {W : World} (h : laidMetH Tryz.prog laidD W) : Mark W := by
  rw [MakeChecks.laidMetH_plain _ _ _ (by kernel_rfl)] at h
  obtain ⟨ps, ⟨g0, t0, cs0, f0, p0, q0, hg0, ht0, hv0, hd0, _, _⟩, _⟩ := h
  obtain rfl := Option.some.inj (gMark.symm.trans hg0)
  obtain rfl := Option.some.inj (tMark.symm.trans ht0)
  obtain ⟨xs, m1, rfl, hx1, hlen, hn3, hel⟩ := DataW.trod_array Tryz.underlying216 hd0
  have h0 := hel 0 (by decide)
  have h1 := hel 1 (by decide)
  simp only [Rows.laid_carpetbag_page_mark, Prod.mk.injEq, DataW.agg.injEq] at hx1
  match xs, hn3, hx1, h0, h1 with
  | [x0, x1], _, hx1, h0, h1 =>
    simp only [List.map_cons, List.map_nil, List.cons.injEq] at hx1
    obtain ⟨k0, e0, d0, _⟩ := DataW.trod_int Tryz.underlying5 (show DataW.trod _ Tryz.prog W 0 _ false m1 5 _ = some x0 from h0)
    obtain ⟨k1, e1, d1, _⟩ := DataW.trod_int Tryz.underlying5 (show DataW.trod _ Tryz.prog W 0 _ false m1 5 _ = some x1 from h1)
    have hk0 : k0 = 67 := by rw [d0] at hx1; simpa using hx1.1.1.symm
    have hk1 : k1 = 66 := by rw [d1] at hx1; simpa using hx1.1.2.1.symm
    subst hk0 hk1
    have w0 := World.var?_cell hg0 hv0 0
    have w1 := World.var?_cell hg0 hv0 1
    obtain ⟨l⟩ := cs0
    rw [cU8] at e0 e1
    rw [cMark] at hlen
    match l, hlen, e0, e1 with
    | [c0, c1], _, e0, e1 =>
      simp at e0 e1
      subst e0 e1
      exact ⟨by simpa using w0, by simpa using w1⟩

end Go.Proofs.YtmdnhpnaikfpjaaGreatDoor
