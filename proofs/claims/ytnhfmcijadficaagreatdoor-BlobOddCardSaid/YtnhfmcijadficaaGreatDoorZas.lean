/- The walks over rec.Parse where the record's sum of 32 bits is wrong, and where it is right; Parse as one answer. -/
import Derived.Test.YtnhfmcijadficaaGreatDoorZar
import Derived.Maps.Own
import Derived.Maps.OwnSet
import Derived.Test.YtnhfmcijadficaaGreatDoorZai
import Derived.BigQuiet
namespace Go.Proofs.YtnhfmcijadficaaGreatDoor
set_option maxRecDepth 100000
open Go.RowKit

set_option maxHeartbeats 4000000 in
theorem rcParse_sum (b o : Nat) (sp : Option Nat) (n cap : Nat) (xs : List UInt8) (w : World) (hBy : ByteSl w Empty (some ⟨b, o, sp⟩) n cap xs) (hm : n ≤ 1048576) (h : hdE xs = 0) (hs : ¬ xs.length < szOf xs) (hsum : sumOk xs = false) :
    Calls Tryz.prog 142 #[.slice (some ⟨b, o, sp⟩) n cap] w fun e w' => RecOk xs w w' e := by
  have hf := head_facts h
  have hf4 := mayB_iff.1 hf.2.2.2
  have HC : Hid (∀ w' : World, Below w.heap.size w w' → RecOk xs w w' (zeroA ((szOf xs : Nat) : Int) 0)) := Lib.hid (fun w' hb => by
    have hp : pE xs = 0 := by unfold pE; rw [if_pos h, if_neg hs]
    have ho : out xs = ⟨0, 0, [], [], 0, szOf xs, false, 0⟩ := by
      unfold out
      rw [hp, hsum]
      rfl
    exact zero_ok ho hb)
  obtain ⟨ad', e, hbl, -, hcell⟩ := hBy.2.2.2 (by have := hBy.1; omega)
  cases e
  have hbl : b < w.heap.size := hbl
  have hcap := hBy.2.1
  have hcap2 : cap ≤ 9223372036854775807 := by have := hBy.2.2.1; unfold maxLen at this; omega
  have hO0 := (Only.refl Empty w).alloc (.cells #[.int .i64 0, .int .u32 0, .string ⟨#[]⟩, .slice none 0 0, .int .i64 0] 161)
  obtain ⟨v1, e1, b1⟩ : ∃ v, v = nK xs ∧ v ≤ 255 := ⟨_, rfl, nK_le xs⟩
  obtain ⟨v2, e2, b2⟩ : ∃ v, v = nT xs ∧ v ≤ 4294967295 := ⟨_, rfl, nT_le xs⟩
  obtain ⟨v3, e3, b3⟩ : ∃ v, v = nA xs ∧ v ≤ 64 := ⟨_, rfl, by omega⟩
  obtain ⟨v4, e4, b4⟩ : ∃ v, v = nB xs ∧ v ≤ 4096 := ⟨_, rfl, by omega⟩
  obtain ⟨v5, e5⟩ : ∃ v, v = nC xs := ⟨_, rfl⟩
  have hge : v3 + v4 + 16 ≤ n := by
    unfold szOf at hs
    rw [hBy.1, ← e3, ← e4] at hs
    omega
  obtain ⟨sm, hsm⟩ : ∃ sm, sm = v3 + v4 + 11 := ⟨_, rfl⟩
  have hsum2 := hsum
  unfold sumOk at hsum2
  rw [← e3, ← e4, ← hsm] at hsum2
  obtain ⟨v6, e6, b6⟩ : ∃ v, v = getV ((xs.drop sm).take 4) ∧ v ≤ 4294967295 := ⟨_, rfl, getV_le _ 4 _ (by simp; omega) rfl⟩
  obtain ⟨v7, e7, b7⟩ : ∃ v, v = (crc32 (xs.take sm)).toNat ∧ v ≤ 4294967295 := ⟨_, rfl, by have := (crc32 (xs.take sm)).isLt; omega⟩
  rw [← e6, ← e7] at hsum2
  have N1 : Hid (Calls Tryz.prog 174 #[.slice (some ⟨b, o, sp⟩) n cap] (w.alloc (.cells #[.int .i64 0, .int .u32 0, .string ⟨#[]⟩, .slice none 0 0, .int .i64 0] 161)) fun e w' => e = .returned (.tuple #[.agg #[.int .i64 (v1 : Int), .int .u32 (v2 : Int), .int .i64 (v3 : Int), .int .i64 (v4 : Int), .int .i64 (v5 : Int)], .int .i64 0]) ∧ Below (w.alloc (.cells #[.int .i64 0, .int .u32 0, .string ⟨#[]⟩, .slice none 0 0, .int .i64 0] 161)).heap.size (w.alloc (.cells #[.int .i64 0, .int .u32 0, .string ⟨#[]⟩, .slice none 0 0, .int .i64 0] 161)) w') := Lib.hid
    ((parseHead_any _ n cap xs _ (hBy.only hO0 (fun _ _ h => h)) hm).mono fun e w' ⟨he, hb⟩ => by
      rw [if_pos h, h, headV, ← e1, ← e2, ← e3, ← e4, ← e5] at he
      exact ⟨he, hb⟩)
  have HBy := Lib.hid hBy
  have N6 : Hid (∀ g W, g ≠ b → Rd W g (some ⟨b, o, sp⟩) n cap sm → ByteSl W Empty (some ⟨b, o, sp⟩) n cap xs → Calls Tryz.prog 175 #[.pointer (some ⟨g, 0, none⟩), .int .i64 4] W fun e W' => e = .returned (.int .u64 (v6 : Int)) ∧ Rd W' g (some ⟨b, o, sp⟩) n cap (sm + 4) ∧ Only (· = g) W W') := Lib.hid fun g W hg hR hB => by
    rw [e6]; exact number_any g _ n cap sm 4 xs W hR hB (by omega) (by omega) hm (by omega)
  have N7 : Hid (∀ W, ByteSl W Empty (some ⟨b, o, sp⟩) n cap xs → Calls Tryz.prog 159 #[.slice (some ⟨b, o, sp⟩) sm cap] W fun e W' => e = .returned (.int .u32 (v7 : Int)) ∧ Below W.heap.size W W') := Lib.hid fun W hB => by
    rw [e7]; exact sum32_any _ sm cap (xs.take sm) W (hB.take_ sm (by omega))
  have hne := of_decide_eq_false hsum2
  have hne1 : ((v6 : Int) == (v7 : Int)) = false := by
    rw [beq_eq_false_iff_ne]
    intro e
    exact hne (by omega)
  have hne2 : ((v6 : Int) != (v7 : Int)) = true := by simp only [bne, hne1]; rfl
  have Hsz : Hid (((szOf xs : Nat) : Int) = (sm : Int) + 5) := Lib.hid (by unfold szOf; rw [← e3, ← e4]; omega)
  rw [Hsz.out] at HC
  clear hne hsum2 e1 e2 e3 e4 e5 e6 e7
  have Hsm := Lib.hid hsm
  have hge2 : sm + 5 ≤ n := by omega
  clear hf hf4 h hs hBy hO0 hsum hcell hsm hge
  go_enter Tryz.func142, Tryz.ntmps142
  go_wp2_with fail
  refine N1.out.mono ?_
  rintro e1 w1 ⟨rfl, hb1⟩
  have HJ1 := Lib.hid ((Blk.new w 161 #[.int .i64 0, .int .u32 0, .string ⟨#[]⟩, .slice none 0 0, .int .i64 0]).of (hb1.block w.heap.size (by simp)))
  have HO1 := Lib.hid (((Only.refl Empty w).alloc (.cells #[.int .i64 0, .int .u32 0, .string ⟨#[]⟩, .slice none 0 0, .int .i64 0] 161)).trans (Only.of_below hb1))
  clear hb1
  go_wp2_with fail
  refine (hSize_any (v1 : Int) (v2 : Int) (v5 : Int) v3 v4 _ (by omega) (by omega)).mono ?_
  rintro e1 w2 ⟨rfl, hb2⟩
  have HJ2 := Lib.hid ((HJ1.out.alloc (.cells #[.int .i64 (v1 : Int), .int .u32 (v2 : Int), .int .i64 (v3 : Int), .int .i64 (v4 : Int), .int .i64 (v5 : Int)] 199)).of (hb2.block w.heap.size (by have := HJ1.out.lt; simp; omega)))
  have HK2 := Lib.hid ((Blk.new w1 199 #[.int .i64 (v1 : Int), .int .u32 (v2 : Int), .int .i64 (v3 : Int), .int .i64 (v4 : Int), .int .i64 (v5 : Int)]).of (hb2.block w1.heap.size (by simp)))
  have HO2 := Lib.hid ((HO1.out.alloc (.cells #[.int .i64 (v1 : Int), .int .u32 (v2 : Int), .int .i64 (v3 : Int), .int .i64 (v4 : Int), .int .i64 (v5 : Int)] 199)).trans (Only.of_below hb2))
  clear hb2
  have hz2 : w1.heap.size < w2.heap.size := HK2.out.lt
  have hz1 : w.heap.size < w1.heap.size := HJ1.out.lt
  rw [show ((v3 + v4 + 16 : Nat) : Int) = (sm : Int) + 5 by have := Hsm.out; omega]
  have hd : decide ((n : Int) < (sm : Int) + 5) = false := by simp; omega
  have hq : (sm : Int) + 5 - 5 = (sm : Int) := by omega
  go_wp2_with fail
  clear hd hq
  have HR3 : Hid (Rd (w2.alloc (.cells #[.slice (some ⟨b, o, sp⟩) n cap, .int .i64 (sm : Int)] 254)).drew w2.heap.size (some ⟨b, o, sp⟩) n cap sm) := Lib.hid (Blk.new w2 254 #[.slice (some ⟨b, o, sp⟩) n cap, .int .i64 (sm : Int)]).drew
  have hO3 : Only Empty w2 (w2.alloc (.cells #[.slice (some ⟨b, o, sp⟩) n cap, .int .i64 (sm : Int)] 254)).drew := ((Only.refl Empty w2).alloc _).drew
  have HO3 := Lib.hid (HO2.out.trans hO3)
  have HB3 := Lib.hid (HBy.out.only HO3.out (fun _ _ h => h))
  have HJ3 := Lib.hid (hO3.blk HJ2.out (fun h => h))
  have HK3 := Lib.hid (hO3.blk HK2.out (fun h => h))
  have Hg : Hid (w2.heap.size ≠ b) := Lib.hid (by omega)
  clear hO3
  have hwv : IntKind.u32.wrap (v6 : Int) = (v6 : Int) := by rw [IntKind.wrap_u32]; omega
  have q1 : (sm : Int) ≤ (cap : Int) := by omega
  have q2 : (sm : Int) ≤ (n : Int) := by omega
  have q3 : (0 : Int) ≤ (sm : Int) := by omega
  have q4 : sm ≤ cap := by omega
  have q5 : sm ≤ n := by omega
  have hT : True := trivial
  go_region_held3 (fun _ => True) (exact hT)
    (first | ((go_at_call 175; (with_reducible refine (N6.out _ _ Hg.out HR3.out HB3.out).mono ?_); rintro e10 w10 ⟨rfl, hR10, hO10⟩; have HB10 := Lib.hid (((HB3.out.mono_of (T := (· = w2.heap.size)) (Ne.symm Hg.out)).only hO10 (fun _ _ h => h)).mono (T := Empty) (fun _ _ h => h.elim)))) | ((go_at_call 159; (with_reducible refine (N7.out _ HB10.out).mono ?_); rintro e11 w11 ⟨rfl, hb11⟩)))
  clear hwv q1 q2 q3 q4 q5
  have hz3 : w2.heap.size < w10.heap.size := hR10.lt
  have hz4 := hb11.size
  have HO11 := Lib.hid (HO3.out.trans' (hO10.trans (Only.of_below hb11)) (fun q h1 h2 => by omega))
  have HR11 : Hid (Rd w11 w2.heap.size (some ⟨b, o, sp⟩) n cap (sm + 4)) := Lib.hid (Blk.of hR10 (hb11.block w2.heap.size (by omega)))
  have HJ11 := Lib.hid ((hO10.blk HJ3.out (by omega)).of (hb11.block w.heap.size (by omega)))
  have HK11 := Lib.hid ((hO10.blk HK3.out (by omega)).of (hb11.block w1.heap.size (by omega)))
  have HB11 := Lib.hid (HBy.out.only HO11.out (fun _ _ h => h))
  clear hR10 hO10 hb11
  have j0 := HJ11.out.cell 0
  have j1 := HJ11.out.cell 1
  have j2 := HJ11.out.cell 2
  have j3 := HJ11.out.cell 3
  have j4 := HJ11.out.cell 4
  have g0 := HJ11.out.frozen 0
  have g1 := HJ11.out.frozen 1
  have g2 := HJ11.out.frozen 2
  have g3 := HJ11.out.frozen 3
  have g4 := HJ11.out.frozen 4
  simp at j0 j1 j2 j3 j4
  go_wp2
  refine bodyPost_ret (v := .tuple #[.agg #[.int .i64 0, .int .u32 0, .string ⟨#[]⟩, .slice none 0 0, .int .i64 0], .int .i64 ((sm : Int) + 5), .bool false, .int .i64 0]) (by simp [results, Tryz.results142, go_sem, j0, j1, j2, j3, j4]) rfl (HC.out _ ?_)
  exact (((((HO11.out.below (Nat.le_refl _) (fun _ _ h => h)).setCell (by simp) _).setCell (by simp) _).setCell (by simp) _).setCell (by simp) _).setCell (by simp) _

set_option maxHeartbeats 4000000 in
theorem rcParse_yes (b o : Nat) (sp : Option Nat) (n cap : Nat) (xs : List UInt8) (w : World) (hBy : ByteSl w Empty (some ⟨b, o, sp⟩) n cap xs) (hm : n ≤ 1048576) (h : hdE xs = 0) (hs : ¬ xs.length < szOf xs) (hsum : sumOk xs = true) :
    Calls Tryz.prog 142 #[.slice (some ⟨b, o, sp⟩) n cap] w fun e w' => RecOk xs w w' e := by
  have hf := head_facts h
  have hf4 := mayB_iff.1 hf.2.2.2
  obtain ⟨ad', e, hbl, -, hcell⟩ := hBy.2.2.2 (by have := hBy.1; omega)
  cases e
  have hbl : b < w.heap.size := hbl
  have hcap := hBy.2.1
  have hcap2 : cap ≤ 9223372036854775807 := by have := hBy.2.2.1; unfold maxLen at this; omega
  have hO0 := (Only.refl Empty w).alloc (.cells #[.int .i64 0, .int .u32 0, .string ⟨#[]⟩, .slice none 0 0, .int .i64 0] 161)
  obtain ⟨v1, e1, b1⟩ : ∃ v, v = nK xs ∧ v ≤ 255 := ⟨_, rfl, nK_le xs⟩
  obtain ⟨v2, e2, b2⟩ : ∃ v, v = nT xs ∧ v ≤ 4294967295 := ⟨_, rfl, nT_le xs⟩
  obtain ⟨v3, e3, b3⟩ : ∃ v, v = nA xs ∧ v ≤ 64 := ⟨_, rfl, by omega⟩
  obtain ⟨v4, e4, b4⟩ : ∃ v, v = nB xs ∧ v ≤ 4096 := ⟨_, rfl, by omega⟩
  obtain ⟨v5, e5⟩ : ∃ v, v = nC xs := ⟨_, rfl⟩
  have hge : v3 + v4 + 16 ≤ n := by
    unfold szOf at hs
    rw [hBy.1, ← e3, ← e4] at hs
    omega
  obtain ⟨sm, hsm⟩ : ∃ sm, sm = v3 + v4 + 11 := ⟨_, rfl⟩
  have hsum2 := hsum
  unfold sumOk at hsum2
  rw [← e3, ← e4, ← hsm] at hsum2
  obtain ⟨v6, e6, b6⟩ : ∃ v, v = getV ((xs.drop sm).take 4) ∧ v ≤ 4294967295 := ⟨_, rfl, getV_le _ 4 _ (by simp; omega) rfl⟩
  obtain ⟨v7, e7, b7⟩ : ∃ v, v = (crc32 (xs.take sm)).toNat ∧ v ≤ 4294967295 := ⟨_, rfl, by have := (crc32 (xs.take sm)).isLt; omega⟩
  rw [← e6, ← e7] at hsum2
  have N1 : Hid (Calls Tryz.prog 174 #[.slice (some ⟨b, o, sp⟩) n cap] (w.alloc (.cells #[.int .i64 0, .int .u32 0, .string ⟨#[]⟩, .slice none 0 0, .int .i64 0] 161)) fun e w' => e = .returned (.tuple #[.agg #[.int .i64 (v1 : Int), .int .u32 (v2 : Int), .int .i64 (v3 : Int), .int .i64 (v4 : Int), .int .i64 (v5 : Int)], .int .i64 0]) ∧ Below (w.alloc (.cells #[.int .i64 0, .int .u32 0, .string ⟨#[]⟩, .slice none 0 0, .int .i64 0] 161)).heap.size (w.alloc (.cells #[.int .i64 0, .int .u32 0, .string ⟨#[]⟩, .slice none 0 0, .int .i64 0] 161)) w') := Lib.hid
    ((parseHead_any _ n cap xs _ (hBy.only hO0 (fun _ _ h => h)) hm).mono fun e w' ⟨he, hb⟩ => by
      rw [if_pos h, h, headV, ← e1, ← e2, ← e3, ← e4, ← e5] at he
      exact ⟨he, hb⟩)
  have HBy := Lib.hid hBy
  have N6 : Hid (∀ g W, g ≠ b → Rd W g (some ⟨b, o, sp⟩) n cap sm → ByteSl W Empty (some ⟨b, o, sp⟩) n cap xs → Calls Tryz.prog 175 #[.pointer (some ⟨g, 0, none⟩), .int .i64 4] W fun e W' => e = .returned (.int .u64 (v6 : Int)) ∧ Rd W' g (some ⟨b, o, sp⟩) n cap (sm + 4) ∧ Only (· = g) W W') := Lib.hid fun g W hg hR hB => by
    rw [e6]; exact number_any g _ n cap sm 4 xs W hR hB (by omega) (by omega) hm (by omega)
  have N7 : Hid (∀ W, ByteSl W Empty (some ⟨b, o, sp⟩) n cap xs → Calls Tryz.prog 159 #[.slice (some ⟨b, o, sp⟩) sm cap] W fun e W' => e = .returned (.int .u32 (v7 : Int)) ∧ Below W.heap.size W W') := Lib.hid fun W hB => by
    rw [e7]; exact sum32_any _ sm cap (xs.take sm) W (hB.take_ sm (by omega))
  obtain ⟨z8, hz8⟩ : ∃ z, xs[sm + 4]? = some z := ⟨_, List.getElem?_eq_getElem (by have := hBy.1; omega)⟩
  have N8 : Hid (∀ g W, Rd W g (some ⟨b, o, sp⟩) n cap (sm + 4) → ByteSl W Empty (some ⟨b, o, sp⟩) n cap xs → Calls Tryz.prog 175 #[.pointer (some ⟨g, 0, none⟩), .int .i64 1] W fun e W' => e = .returned (.int .u64 (z8.toNat : Int)) ∧ Rd W' g (some ⟨b, o, sp⟩) n cap (sm + 5) ∧ Only (· = g) W W') := Lib.hid fun g W hR hB => by
    have hv : getV ((xs.drop (sm + 4)).take 1) = z8.toNat := by
      have hl : sm + 4 < xs.length := (List.getElem?_eq_some_iff.1 hz8).1
      have he := (List.getElem?_eq_some_iff.1 hz8).2
      rw [List.drop_eq_getElem_cons hl, he]
      simp [getV]
    rw [← hv]; exact number_any g _ n cap (sm + 4) 1 xs W hR hB (by omega) (by omega) hm (by omega)
  have HOut : Hid (out xs = ⟨v1, v2, (xs.drop 11).take v3, (xs.drop (11 + v3)).take v4, v5, sm + 5, decide (z8 = 0), 0⟩) := Lib.hid (by
    have hp : pE xs = 0 := by unfold pE; rw [if_pos h, if_neg hs]
    have hz : xs[nA xs + nB xs + 15]? = some z8 := by rw [← e3, ← e4, ← hz8]; congr 1; omega
    have hzz : szOf xs = sm + 5 := by unfold szOf; rw [← e3, ← e4]; omega
    unfold out
    rw [if_pos hp, if_pos hsum, hz, ← e1, ← e2, ← e3, ← e4, ← e5, hzz]
    rfl)
  clear hz8
  have he67 : v6 = v7 := of_decide_eq_true hsum2
  subst he67
  have Hsz : Hid (((szOf xs : Nat) : Int) = (sm : Int) + 5) := Lib.hid (by unfold szOf; rw [← e3, ← e4]; omega)
  have E1 := Lib.hid (And.intro e1 (And.intro e2 (And.intro e3 (And.intro e4 e5))))
  clear hsum2 e1 e2 e3 e4 e5 e6 e7
  have Hsm := Lib.hid hsm
  have hge2 : sm + 5 ≤ n := by omega
  clear hf hf4 h hs hBy hO0 hsum hcell hsm hge
  go_enter Tryz.func142, Tryz.ntmps142
  go_wp2_with fail
  refine N1.out.mono ?_
  rintro e1 w1 ⟨rfl, hb1⟩
  have HJ1 := Lib.hid ((Blk.new w 161 #[.int .i64 0, .int .u32 0, .string ⟨#[]⟩, .slice none 0 0, .int .i64 0]).of (hb1.block w.heap.size (by simp)))
  have HO1 := Lib.hid (((Only.refl Empty w).alloc (.cells #[.int .i64 0, .int .u32 0, .string ⟨#[]⟩, .slice none 0 0, .int .i64 0] 161)).trans (Only.of_below hb1))
  clear hb1
  go_wp2_with fail
  refine (hSize_any (v1 : Int) (v2 : Int) (v5 : Int) v3 v4 _ (by omega) (by omega)).mono ?_
  rintro e1 w2 ⟨rfl, hb2⟩
  have HJ2 := Lib.hid ((HJ1.out.alloc (.cells #[.int .i64 (v1 : Int), .int .u32 (v2 : Int), .int .i64 (v3 : Int), .int .i64 (v4 : Int), .int .i64 (v5 : Int)] 199)).of (hb2.block w.heap.size (by have := HJ1.out.lt; simp; omega)))
  have HK2 := Lib.hid ((Blk.new w1 199 #[.int .i64 (v1 : Int), .int .u32 (v2 : Int), .int .i64 (v3 : Int), .int .i64 (v4 : Int), .int .i64 (v5 : Int)]).of (hb2.block w1.heap.size (by simp)))
  have HO2 := Lib.hid ((HO1.out.alloc (.cells #[.int .i64 (v1 : Int), .int .u32 (v2 : Int), .int .i64 (v3 : Int), .int .i64 (v4 : Int), .int .i64 (v5 : Int)] 199)).trans (Only.of_below hb2))
  clear hb2
  have hz2 : w1.heap.size < w2.heap.size := HK2.out.lt
  have hz1 : w.heap.size < w1.heap.size := HJ1.out.lt
  rw [show ((v3 + v4 + 16 : Nat) : Int) = (sm : Int) + 5 by have := Hsm.out; omega]
  have hd : decide ((n : Int) < (sm : Int) + 5) = false := by simp; omega
  have hq : (sm : Int) + 5 - 5 = (sm : Int) := by omega
  go_wp2_with fail
  clear hd hq
  have HR3 : Hid (Rd (w2.alloc (.cells #[.slice (some ⟨b, o, sp⟩) n cap, .int .i64 (sm : Int)] 254)).drew w2.heap.size (some ⟨b, o, sp⟩) n cap sm) := Lib.hid (Blk.new w2 254 #[.slice (some ⟨b, o, sp⟩) n cap, .int .i64 (sm : Int)]).drew
  have hO3 : Only Empty w2 (w2.alloc (.cells #[.slice (some ⟨b, o, sp⟩) n cap, .int .i64 (sm : Int)] 254)).drew := ((Only.refl Empty w2).alloc _).drew
  have HO3 := Lib.hid (HO2.out.trans hO3)
  have HB3 := Lib.hid (HBy.out.only HO3.out (fun _ _ h => h))
  have HJ3 := Lib.hid (hO3.blk HJ2.out (fun h => h))
  have HK3 := Lib.hid (hO3.blk HK2.out (fun h => h))
  have Hg : Hid (w2.heap.size ≠ b) := Lib.hid (by omega)
  clear hO3
  have hwv : IntKind.u32.wrap (v6 : Int) = (v6 : Int) := by rw [IntKind.wrap_u32]; omega
  have q1 : (sm : Int) ≤ (cap : Int) := by omega
  have q2 : (sm : Int) ≤ (n : Int) := by omega
  have q3 : (0 : Int) ≤ (sm : Int) := by omega
  have q4 : sm ≤ cap := by omega
  have q5 : sm ≤ n := by omega
  have hT : True := trivial
  go_region_held3 (fun _ => True) (exact hT)
    (first | ((go_at_call 175; (with_reducible refine (N6.out _ _ Hg.out HR3.out HB3.out).mono ?_); rintro e10 w10 ⟨rfl, hR10, hO10⟩; have HB10 := Lib.hid (((HB3.out.mono_of (T := (· = w2.heap.size)) (Ne.symm Hg.out)).only hO10 (fun _ _ h => h)).mono (T := Empty) (fun _ _ h => h.elim)))) | ((go_at_call 159; (with_reducible refine (N7.out _ HB10.out).mono ?_); rintro e11 w11 ⟨rfl, hb11⟩)))
  clear hwv q1 q2 q3 q4 q5
  have hz3 : w2.heap.size < w10.heap.size := hR10.lt
  have hz4 := hb11.size
  have HO11 := Lib.hid (HO3.out.trans' (hO10.trans (Only.of_below hb11)) (fun q h1 h2 => by omega))
  have HR11 : Hid (Rd w11 w2.heap.size (some ⟨b, o, sp⟩) n cap (sm + 4)) := Lib.hid (Blk.of hR10 (hb11.block w2.heap.size (by omega)))
  have HJ11 := Lib.hid ((hO10.blk HJ3.out (by omega)).of (hb11.block w.heap.size (by omega)))
  have HK11 := Lib.hid ((hO10.blk HK3.out (by omega)).of (hb11.block w1.heap.size (by omega)))
  have HB11 := Lib.hid (HBy.out.only HO11.out (fun _ _ h => h))
  clear hR10 hO10 hb11
  have j0 := HJ11.out.cell 0
  have j1 := HJ11.out.cell 1
  have j2 := HJ11.out.cell 2
  have j3 := HJ11.out.cell 3
  have j4 := HJ11.out.cell 4
  have g0 := HJ11.out.frozen 0
  have g1 := HJ11.out.frozen 1
  have g2 := HJ11.out.frozen 2
  have g3 := HJ11.out.frozen 3
  have g4 := HJ11.out.frozen 4
  have y0 := HK11.out.cell 0
  have y1 := HK11.out.cell 1
  have y2 := HK11.out.cell 2
  have y3 := HK11.out.cell 3
  have y4 := HK11.out.cell 4
  simp at j0 j1 j2 j3 j4 y0 y1 y2 y3 y4
  have hy1 : w1.heap.size < w11.heap.size := HK11.out.lt
  have hy0 : w.heap.size < w11.heap.size := HJ11.out.lt
  have hz24 : w2.heap.size < w11.heap.size := by omega
  clear hz4
  go_wp2_with fail
  clear y0 y1 y2 y3 y4
  have HO12 := Lib.hid (HO11.out.alloc (.cells #[.slice (some ⟨b, o, sp⟩) n cap, .int .i64 11] 254))
  have HR12 : Hid (Rd (w11.alloc (.cells #[.slice (some ⟨b, o, sp⟩) n cap, .int .i64 11] 254)) w11.heap.size (some ⟨b, o, sp⟩) n cap 11) := Lib.hid (Blk.new w11 254 _)
  have HB12 : Hid (ByteSl (w11.alloc (.cells #[.slice (some ⟨b, o, sp⟩) n cap, .int .i64 11] 254)) (· = w11.heap.size) (some ⟨b, o, sp⟩) n cap xs) := Lib.hid ((HBy.out.only HO12.out (fun _ _ h => h)).mono_of (by omega))
  refine (record_any w11.heap.size _ n cap (v1 : Int) (v2 : Int) (v5 : Int) v3 v4 xs _ HR12.out HB12.out hm (by have := Hsm.out; omega)).mono ?_
  rintro e1 w12 ⟨⟨_, rfl, A2, n2, cap2, rfl, hl2, hown2⟩, hO12⟩
  have hz12 : w11.heap.size < w12.heap.size := (hO12.size |> fun h => by simp at h; omega)
  have HO13 := Lib.hid (HO12.out.trans' hO12 (fun q h1 h2 => by omega))
  have HJ12 := Lib.hid (hO12.blk (HJ11.out.alloc (.cells #[.slice (some ⟨b, o, sp⟩) n cap, .int .i64 11] 254)) (by omega))
  have HR13 : Hid (Rd w12 w2.heap.size (some ⟨b, o, sp⟩) n cap (sm + 4)) := Lib.hid (hO12.blk (Blk.alloc HR11.out (.cells #[.slice (some ⟨b, o, sp⟩) n cap, .int .i64 11] 254)) (by omega))
  have HB13 := Lib.hid (HBy.out.only HO13.out (fun _ _ h => h))
  have Hown2 : Hid (w12.ownsRow (w11.heap.size + 1) 5 1 (.slice A2 n2 cap2) n2 ((((xs.drop (11 + v3)).take v4)).map B8)) := Lib.hid (own_base hown2 (by simp))
  have Hl2 := Lib.hid hl2
  clear hO12 hown2 hl2 j0 j1 j2 j3 j4 g0 g1 g2 g3 g4
  go_wp2_with fail
  refine (N8.out _ _ HR13.out HB13.out).mono ?_
  rintro e1 w13 ⟨rfl, hR14, hO14⟩
  have hj13 := hO14.blk HJ12.out (by omega)
  have HO15 := Lib.hid (HO13.out.trans' hO14 (fun q h1 h2 => by omega))
  have Hown3 := Lib.hid (own_only Hown2.out hO14 (fun q h1 h2 => by omega))
  have hz13 : w12.heap.size ≤ w13.heap.size := hO14.size
  have j0 := hj13.cell 0
  have j1 := hj13.cell 1
  have j2 := hj13.cell 2
  have j3 := hj13.cell 3
  have j4 := hj13.cell 4
  have g0 := hj13.frozen 0
  have g1 := hj13.frozen 1
  have g2 := hj13.frozen 2
  have g3 := hj13.frozen 3
  have g4 := hj13.frozen 4
  simp at j0 j1 j2 j3 j4
  clear hR14 hO14 hj13
  have hzb := u8_dec z8 0 0 rfl
  go_wp2
  have hS : Only (· = w.heap.size) w13 (((((w13.setCell ⟨w.heap.size, 0, none⟩ (.int .i64 (v1 : Int))).setCell ⟨w.heap.size, 1, none⟩ (.int .u32 (v2 : Int))).setCell ⟨w.heap.size, 2, none⟩ (.string (strB ((xs.drop 11).take v3)))).setCell ⟨w.heap.size, 3, none⟩ (.slice A2 n2 cap2)).setCell ⟨w.heap.size, 4, none⟩ (.int .i64 (v5 : Int))) :=
    (((((Only.refl (· = w.heap.size) w13).setCell (p := ⟨w.heap.size, 0, none⟩) (Or.inl rfl) _).setCell (p := ⟨w.heap.size, 1, none⟩) (Or.inl rfl) _).setCell (p := ⟨w.heap.size, 2, none⟩) (Or.inl rfl) _).setCell (p := ⟨w.heap.size, 3, none⟩) (Or.inl rfl) _).setCell (p := ⟨w.heap.size, 4, none⟩) (Or.inl rfl) _
  refine bodyPost_ret (v := .tuple #[.agg #[.int .i64 (v1 : Int), .int .u32 (v2 : Int), .string (strB ((xs.drop 11).take v3)), .slice A2 n2 cap2, .int .i64 (v5 : Int)], .int .i64 ((sm : Int) + 5), .bool (decide (z8 = 0)), .int .i64 0]) (by simp [results, Tryz.results142, go_sem, j0, j1, j2, j3, j4]) rfl ⟨⟨A2, n2, cap2, ?_, ?_⟩, ?_⟩
  · rw [HOut.out]
    rfl
  · rw [HOut.out]
    obtain ⟨A', c', e, hg⟩ := Got.of_own (own_base (own_only Hown3.out hS (fun q h1 h2 => by omega)) (show w.heap.size ≤ w11.heap.size + 1 by omega))
    cases e
    exact hg
  · exact (HO15.out.trans' hS (fun q h1 h2 => by omega)).below (Nat.le_refl _) (fun _ _ h => h)

/-- Parse as one answer. -/
theorem rcParse_any (A : Option Addr) (n cap : Nat) (xs : List UInt8) (w : World) (hBy : ByteSl w Empty A n cap xs) (hm : n ≤ 1048576) :
    Calls Tryz.prog 142 #[.slice A n cap] w fun e w' => RecOk xs w w' e := by
  by_cases h : hdE xs = 0
  · by_cases hs : xs.length < szOf xs
    · exact rcParse_short A n cap xs w hBy hm h hs
    · have hf := head_facts h
      obtain ⟨⟨b, o, sp⟩, rfl, -, -, -⟩ := hBy.2.2.2 (by have := hBy.1; omega)
      cases hsum : sumOk xs with
      | true => exact rcParse_yes b o sp n cap xs w hBy hm h hs hsum
      | false => exact rcParse_sum b o sp n cap xs w hBy hm h hs hsum
  · exact rcParse_no A n cap xs w hBy hm h

end Go.Proofs.YtnhfmcijadficaaGreatDoor

/- What a sector has, as plain data; the walk over scan.Scan. -/
namespace Go.Proofs.YtnhfmcijadficaaGreatDoor
set_option maxRecDepth 100000
open Go.RowKit

theorem strB_data (xs : List UInt8) : (strB xs).data.toList = xs := by simp [strB]

def fdOf (pl : Nat) (o : Out) : FD := ⟨pl, o.k, o.t, o.key, o.blob, o.c⟩

/-- From a place on, where all behind 'en' is blank: what is found, where the next one may stand, whether the sector is closed. -/
inductive Runs (xs : List UInt8) (en : Nat) : Nat → Bool → List FD → Nat → Bool → Prop
  | stop (pl : Nat) (c : Bool) : en ≤ pl → Runs xs en pl c [] pl c
  | bad (pl : Nat) (c : Bool) : pl < en → (out (xs.drop pl)).e ≠ 0 → Runs xs en pl c [] xs.length true
  | go (pl : Nat) (c : Bool) (l : List FD) (to : Nat) (c' : Bool) : pl < en → (out (xs.drop pl)).e = 0 → Runs xs en (pl + (out (xs.drop pl)).size) (c || !(out (xs.drop pl)).whole) l to c' →
      Runs xs en pl c ((if (out (xs.drop pl)).whole = true then [fdOf pl (out (xs.drop pl))] else []) ++ l) to c'

theorem out_size {ys : List UInt8} (h : (out ys).e = 0) : 16 ≤ (out ys).size ∧ (out ys).size ≤ ys.length := by
  by_cases hp : pE ys = 0
  · have hs : (out ys).size = szOf ys := by
      unfold out
      rw [if_pos hp]
      split <;> rfl
    have hl : ¬ ys.length < szOf ys := by
      intro hl
      unfold pE at hp
      by_cases h0 : hdE ys = 0
      · rw [if_pos h0, if_pos hl] at hp
        cases hp
      · rw [if_neg h0] at hp
        exact h0 hp
    rw [hs]
    exact ⟨by unfold szOf; omega, by omega⟩
  · exfalso
    apply hp
    unfold out at h
    rw [if_neg hp] at h
    exact h

theorem Runs.exists_ (xs : List UInt8) (en : Nat) (hen : en ≤ xs.length) : ∀ (m pl : Nat) (c : Bool), xs.length ≤ pl + m → ∃ l to c', Runs xs en pl c l to c'
  | 0, pl, c, h => ⟨_, _, _, .stop pl c (by omega)⟩
  | m + 1, pl, c, h => by
    by_cases h1 : en ≤ pl
    · exact ⟨_, _, _, .stop pl c h1⟩
    · by_cases h2 : (out (xs.drop pl)).e = 0
      · obtain ⟨l, to, c', hr⟩ := Runs.exists_ xs en hen m (pl + (out (xs.drop pl)).size) (c || !(out (xs.drop pl)).whole) (by have := (out_size h2).1; omega)
        exact ⟨_, _, _, .go pl c l to c' (by omega) h2 hr⟩
      · exact ⟨_, _, _, .bad pl c (by omega) h2⟩

/-- Found records that a call has made: its own row, and what it reads as. -/
structure GotF (base : Nat) (W : World) (A : Option Addr) (n cap : Nat) (l : List Fd) : Prop where
  own : W.ownsRow base 190 6 (.slice A n cap) n (l.flatMap Fd.cells)
  blobs : Blobs W (fun q => Value.ownBlock (.slice A n cap) = some q) l
  reads : Founds W Empty A n cap l

theorem GotF.of_own {base : Nat} {W : World} {v : Value} {l : List Fd} (h : W.ownsRow base 190 6 v l.length (l.flatMap Fd.cells)) (hb : Blobs W (fun q => v.ownBlock = some q) l) :
    ∃ A cap, v = .slice A l.length cap ∧ GotF base W A l.length cap l := by
  obtain ⟨A, cap, rfl, hf⟩ := Founds.of_own (S := Empty) h (hb.mono (fun _ _ h => h.elim)) (fun _ _ _ _ h => h)
  exact ⟨A, cap, rfl, h, hb, hf⟩

def ScanOk (w : World) (L : List FD) (to : Nat) (c : Bool) (e : Ending) (w' : World) : Prop :=
  (∃ A n cap l, e = .returned (.tuple #[.slice A n cap, .int .i64 (to : Int), .bool c]) ∧ l.map Fd.d = L ∧ GotF w.heap.size w' A n cap l) ∧ Below w.heap.size w w'

set_option maxHeartbeats 2000000 in
theorem scan_any (A : Option Addr) (n cap : Nat) (xs : List UInt8) (w : World) (hB : ByteSl w Empty A n cap xs) (hm : n ≤ 1048576) (h12 : 12 ≤ n) (en : Nat) (hE : IsEnd xs en) (L : List FD) (to : Nat) (c : Bool) (hR : Runs xs en 12 false L to c) :
    Calls Tryz.prog 114 #[.slice A n cap] w fun e w' => ScanOk w L to c e w' := by
  obtain ⟨⟨b, o, sp⟩, rfl, hbl, -, hcell⟩ := hB.2.2.2 (by omega)
  have hbl : b < w.heap.size := hbl
  have hcap := hB.2.1
  have hcap2 : cap ≤ 9223372036854775807 := by have := hB.2.2.1; unfold maxLen at this; omega
  have hen := hE.le
  rw [hB.1] at hen
  have HE := Lib.hid (laidEnd_any _ n cap xs w hB hm en hE)
  have HB := Lib.hid hB
  have HR := Lib.hid hR
  clear hB hcell hE hR
  have hd12 : decide ((n : Int) < 12) = false := by simp; omega
  go_enter Tryz.func114, Tryz.ntmps114
  go_wp2_with fail
  go_step3
  go_wp2_with fail
  refine HE.out.mono ?_
  rintro e1 w1 ⟨rfl, rfl⟩
  go_wp2_with fail
  go_step3
  go_wp2_with fail
  clear hd12
  go_loopw [5, 6, 8] (fun v i cc wr => ∃ (pl : Nat) (cl : Bool) (acc : List Fd) (l : List FD), i = .int .i64 (pl : Int) ∧ cc = .bool cl ∧ Hid (acc.map Fd.d ++ l = L) ∧ Runs xs en pl cl l to c ∧ Below w.heap.size w wr ∧ Hid (wr.ownsRow w.heap.size 190 6 v acc.length (acc.flatMap Fd.cells)) ∧ Hid (Blobs wr (fun q => v.ownBlock = some q) acc) ∧ acc.length ≤ pl ∧ pl ≤ n) (fun _ i _ _ => n - (intOf i).toNat)
  case atStart => exact ⟨12, false, [], L, rfl, rfl, Lib.hid rfl, HR.out, Below.refl _ _, Lib.hid (World.ownsRow_nil _ _ _ _), Lib.hid (Blobs.nil_ _ _), Nat.zero_le _, h12⟩
  case round =>
    obtain ⟨pl, cl, acc, l, rfl, rfl, hL, hr, hbw, hown, hbl, hlen, hpn⟩ := hrel
    by_cases hlt : pl < en
    · have hq1 : ¬ cap = pl := by omega
      have hq2 : (pl : Int) ≤ (cap : Int) := by omega
      have hB1 : ByteSl wr Empty (some (Addr.add ⟨b, o, sp⟩ pl)) (n - pl) (cap - pl) (xs.drop pl) := by
        have h := (HB.out.only (Only.of_below (S := Empty) hbw) (fun _ _ h => h)).drop_ pl (n - pl) (by omega)
        rw [List.take_of_length_le (by rw [List.length_drop, HB.out.1]; omega)] at h
        exact h
      have N1 := Lib.hid (rcParse_any _ (n - pl) (cap - pl) (xs.drop pl) wr hB1 (by omega))
      clear hB1
      by_cases he : (out (xs.drop pl)).e = 0
      · obtain ⟨l', rfl, hr'⟩ : ∃ l', l = (if (out (xs.drop pl)).whole = true then [fdOf pl (out (xs.drop pl))] else []) ++ l' ∧ Runs xs en (pl + (out (xs.drop pl)).size) (cl || !(out (xs.drop pl)).whole) l' to c := by
          cases hr with
          | stop _ _ h => omega
          | bad _ _ _ h => exact absurd he h
          | go _ _ l' _ _ _ _ h => exact ⟨l', rfl, h⟩
        have hsz := out_size he
        have hz1 : pl + (out (xs.drop pl)).size ≤ n := by have := hsz.2; rw [List.length_drop, HB.out.1] at this; omega
        have hz2 := hsz.1
        unfold RecOk at N1
        rw [he] at N1
        obtain ⟨q, hq⟩ : ∃ q, q = out (xs.drop pl) := ⟨_, rfl⟩
        rw [← hq] at N1 hL hr' hz1 hz2
        have Hq : Hid (fdOf pl q = ⟨pl, q.k, q.t, q.key, q.blob, q.c⟩) := Lib.hid rfl
        obtain ⟨k, t, key, blob, cc, size, whole, er⟩ := q
        simp only at N1 hL hr' hz1 hz2 Hq
        have Hr := Lib.hid hr'
        clear hr' hr hsz he hq
        cases whole with
        | true =>
          go_wp2_with fail
          refine N1.out.mono ?_
          rintro e2 w2 ⟨⟨A2, n2, cap2, rfl, hG2⟩, hb2⟩
          obtain ⟨f, hf⟩ : ∃ f : Fd, f = ⟨pl, k, t, strB key, A2, n2, cap2, cc, blob⟩ := ⟨_, rfl⟩
          have hlt5 := hown.out.lt
          have hd : f.d = ⟨pl, k, t, key, blob, cc⟩ := by rw [hf]; show FD.mk _ _ _ (strB key).data.toList _ _ = _; rw [strB_data]
          have hcells : f.cells.toArray = #[.int .i64 (pl : Int), .int .i64 (k : Int), .int .u32 (t : Int), .string (strB key), .slice A2 n2 cap2, .int .i64 (cc : Int)] := by rw [hf]; rfl
          obtain ⟨A3, cap3, e3, hB3, -⟩ := ByteSl.of_own (S := fun q => Value.ownBlock u5 = some q) hG2.own (fun q h1 _ h2 => by have := (hlt5 q h2).2; omega)
          cases e3
          have hB4 : ByteSl w2 (fun q => Value.ownBlock u5 = some q) f.A f.n f.cap f.blob := by rw [hf]; exact hB3
          have hN4 : f.A = none → f.n = 0 ∧ f.cap = 0 := by rw [hf]; exact hG2.isNil
          have HO3 := Lib.hid ((Only.of_below (S := Empty) hb2).alloc (.cells #[.int .i64 (k : Int), .int .u32 (t : Int), .string (strB key), .slice A2 n2 cap2, .int .i64 (cc : Int)] 161))
          have HO4 := Lib.hid (HO3.out.alloc (.cells f.cells.toArray 190))
          have Hbw3 := Lib.hid (((hbw.trans (hb2.mono hbw.size)).alloc (Nat.le_trans hbw.size hb2.size) (.cells #[.int .i64 (k : Int), .int .u32 (t : Int), .string (strB key), .slice A2 n2 cap2, .int .i64 (cc : Int)] 161)).alloc (Nat.le_trans hbw.size HO3.out.size) (.cells f.cells.toArray 190))
          have HK4 := Lib.hid (Blk.new (w2.alloc (.cells #[.int .i64 (k : Int), .int .u32 (t : Int), .string (strB key), .slice A2 n2 cap2, .int .i64 (cc : Int)] 161)) 190 f.cells.toArray)
          have HB4 := Lib.hid (hB4.only (((Only.refl Empty w2).alloc (.cells #[.int .i64 (k : Int), .int .u32 (t : Int), .string (strB key), .slice A2 n2 cap2, .int .i64 (cc : Int)] 161)).alloc (.cells f.cells.toArray 190)) (fun _ _ h => h.elim))
          have HN4 := Lib.hid hN4
          have Hown4 := Lib.hid (own_only hown.out HO4.out (fun _ _ _ h => h))
          have Hbl4 := Lib.hid (hbl.out.only HO4.out (fun _ _ h => h.elim))
          have Hd := Lib.hid hd
          have Hmm : Hid (acc.length + 1 ≤ 1048576) := Lib.hid (by omega)
          rw [hcells] at HO4 Hbw3 HK4 HB4 Hown4 Hbl4
          have Hcells := Lib.hid hcells
          clear hf hlt5 hd hcells hB3 hB4 hN4 hG2 hb2 hbw hown hbl
          go_wp2_with (at_builtin; refine wpList_append_found rfl (.tmp 39) (.tmp 43) rfl w.heap.size _ rfl acc Hown4.out f (w2.heap.size + 1) rfl (by rw [Hcells.out]; simpa using HK4.out) Hmm.out Hbw3.out.size ?_; intro v5 w5 hown5 hg5 hat5)
          have hBl5 := Hbl4.out.append HB4.out HN4.out hg5 hat5
          have hlt5 := Hown4.out.lt
          have hbw5 := below_grown Hbw3.out Hbw3.out.size hg5 (fun q hq => (hlt5 q hq).1)
          have HL5 : Hid ((acc ++ [f]).map Fd.d ++ l' = L) := Lib.hid (by
            have h := hL.out
            rw [if_pos trivial, Hq.out] at h
            rw [List.map_append, List.map_cons, List.map_nil, Hd.out, List.append_assoc]
            exact h)
          have Hlen5 : Hid ((acc ++ [f]).length ≤ pl + size) := Lib.hid (by simp; omega)
          have HBl5 := Lib.hid hBl5
          have Hown5 := Lib.hid hown5
          have Hbw5 := Lib.hid hbw5
          clear hBl5 hlt5 hbw5 hown5 hg5 hat5 hL
          go_wp2
          go_roundw
          case rel => exact ⟨pl + size, cl, acc ++ [f], l', by go_num, rfl, HL5, by simpa using Hr.out, Hbw5.out, Hown5, HBl5, Hlen5.out, hz1⟩
          case measure => simp [intOf]; omega
        | false =>
          go_wp2_with fail
          refine N1.out.mono ?_
          rintro e2 w2 ⟨⟨A2, n2, cap2, rfl, hG2⟩, hb2⟩
          have Hbw2 := Lib.hid (hbw.trans (hb2.mono hbw.size))
          have HO2 := Lib.hid ((Only.of_below (S := Empty) hb2).alloc (.cells #[.int .i64 (k : Int), .int .u32 (t : Int), .string (strB key), .slice A2 n2 cap2, .int .i64 (cc : Int)] 161))
          clear hb2 hG2 hbw
          go_wp2
          go_roundw
          case rel => exact ⟨pl + size, true, acc, l', by go_num, rfl, hL, by simpa using Hr.out, Hbw2.out.alloc Hbw2.out.size _, Lib.hid (own_only hown.out HO2.out (fun _ _ _ h => h)), Lib.hid (hbl.out.only HO2.out (fun _ _ h => h.elim)), by omega, by omega⟩
          case measure => simp [intOf]; omega
      · obtain ⟨rfl, rfl, rfl⟩ : l = [] ∧ to = xs.length ∧ c = true := by
          cases hr with
          | stop _ _ h => omega
          | bad _ _ _ h => exact ⟨rfl, rfl, rfl⟩
          | go _ _ l' _ _ _ h _ => exact absurd h he
        obtain ⟨q, hq⟩ : ∃ q, q = out (xs.drop pl) := ⟨_, rfl⟩
        unfold RecOk at N1
        rw [← hq] at N1 he
        obtain ⟨k, t, key, blob, cc, size, whole, er⟩ := q
        simp only at N1 he
        have he1 : (er == 0) = false := by simpa using he
        have he2 : (er != 0) = true := by simp only [bne, he1]; rfl
        have hown2 := hown.out
        have Hl : Hid (xs.length = n) := Lib.hid HB.out.1
        clear hq hr he
        go_wp2_with fail
        refine N1.out.mono ?_
        rintro e2 w2 ⟨⟨A2, n2, cap2, rfl, hG2⟩, hb2⟩
        have hO2 := (Only.of_below (S := Empty) hb2).alloc (.cells #[.int .i64 (k : Int), .int .u32 (t : Int), .string (strB key), .slice A2 n2 cap2, .int .i64 (cc : Int)] 161)
        obtain ⟨A3, cap3, rfl, hG⟩ := GotF.of_own (own_only hown.out hO2 (fun _ _ _ h => h)) (hbl.out.only hO2 (fun _ _ h => h.elim))
        have Hbw2 := Lib.hid ((hbw.trans (hb2.mono hbw.size)).alloc (Nat.le_trans hbw.size hb2.size) (.cells #[.int .i64 (k : Int), .int .u32 (t : Int), .string (strB key), .slice A2 n2 cap2, .int .i64 (cc : Int)] 161))
        have HG := Lib.hid hG
        clear hb2 hG2 hbw hO2 hG hown2
        go_wp2
        rw [Exit.noGoto_ret]
        refine bodyPost_ret (v := .tuple #[.slice A3 acc.length cap3, .int .i64 (n : Int), .bool true]) (by simp [results, Tryz.results114, go_sem]) rfl ⟨⟨A3, _, cap3, acc, by rw [Hl.out], ?_, HG.out⟩, Hbw2.out⟩
        have h := hL.out
        rw [List.append_nil] at h
        exact h
    · obtain ⟨rfl, rfl, rfl⟩ : l = [] ∧ to = pl ∧ c = cl := by
        cases hr with
        | stop _ _ h => exact ⟨rfl, rfl, rfl⟩
        | bad _ _ h _ => omega
        | go _ _ l' _ _ h _ _ => omega
      have hown2 := hown.out
      obtain ⟨A2, cap2, rfl, hG⟩ := GotF.of_own hown.out hbl.out
      have Hb := Lib.hid hbw
      have HG := Lib.hid hG
      clear hbw hG hown2
      go_wp2_with fail
      rw [Exit.noGoto_ret]
      refine bodyPost_ret (v := .tuple #[.slice A2 acc.length cap2, .int .i64 (to : Int), .bool c]) (by simp [results, Tryz.results114, go_sem]) rfl ⟨⟨A2, _, cap2, acc, rfl, ?_, HG.out⟩, Hb.out⟩
      have h := hL.out
      rw [List.append_nil] at h
      exact h

end Go.Proofs.YtnhfmcijadficaaGreatDoor

/- Txns in a map, as plain data; the walk over scan.countTxns. -/
namespace Go.Proofs.YtnhfmcijadficaaGreatDoor
set_option maxRecDepth 100000
open Go.RowKit Go.Maps

def txnV (p : Nat × Bool) : Value := .agg #[.int .i64 (p.1 : Int), .bool p.2]
def txnD (p : Nat × Bool) : DataW Unit := .agg [.lit (.int .i64 (p.1 : Int)), .lit (.bool p.2)]
/-- How a txn reads. -/
def txnElem : Value → Option (DataW Unit × List MemPlace)
  | .agg ⟨[.int .i64 a, .bool b]⟩ => some (.agg [.lit (.int .i64 a), .lit (.bool b)], [])
  | _ => none
theorem txnElem_mk (p : Nat × Bool) : txnElem (txnV p) = some (txnD p, []) := rfl
theorem txnElem_inv {v : Value} {p : Nat × Bool} {ps : List MemPlace} (h : txnElem v = some (txnD p, ps)) : v = txnV p := by
  unfold txnElem at h
  split at h
  · simp only [txnD, Option.some.injEq, Prod.mk.injEq, DataW.agg.injEq, List.cons.injEq, DataW.lit.injEq, Lit.int.injEq, Lit.bool.injEq, true_and, and_true] at h
    obtain ⟨⟨h1, h2⟩, _⟩ := h
    unfold txnV
    rw [h1, h2]
  · cases h

theorem Tryz.txnKeyed : Keyed Tryz.prog 45 := int_keyed Tryz.underlying45
theorem Tryz.txnZero (w : World) : (zeroValue 222).run Tryz.prog w = .ok (txnV (0, false)) w := by kernel_rfl
theorem u32_wf {t : Nat} (h : t ≤ 4294967295) : (Lit.int .u32 (t : Int)).wf = true := by
  simp [Lit.wf, IntKind.min, IntKind.max, IntKind.bits, IntKind.signed]
  omega

/-- Block b is a map that has f t under each t. -/
def TxM (w : World) (b n : Nat) (f : Nat → Nat × Bool) : Prop :=
  ∃ D : DataW Unit, w.ownsMap Tryz.prog 45 txnElem b n D ∧ ∀ t : Nat, t ≤ 4294967295 → D.atKey (.int .u32 (t : Int)) (txnD (0, false)) = txnD (f t)
def put (f : Nat → Nat × Bool) (t : Nat) (p : Nat × Bool) : Nat → Nat × Bool := fun u => if u = t then p else f u

section
variable {w w' : World} {b n : Nat} {f : Nat → Nat × Bool}
theorem TxM.made (w : World) : TxM (w.alloc (.map #[] 0)) w.heap.size 0 (fun _ => (0, false)) := ⟨_, World.ownsMap_made _ _ _ _, fun _ _ => rfl⟩
theorem TxM.lt (h : TxM w b n f) : b < w.heap.size := by obtain ⟨D, h, _⟩ := h; exact h.lt
theorem TxM.kept {row : Option Nat} (h : TxM w b n f) (hg : w.grownBy w' row) (hne : some b ≠ row) : TxM w' b n f := by
  obtain ⟨D, h, hf⟩ := h
  exact ⟨D, h.kept hg hne, hf⟩
theorem TxM.alloc (h : TxM w b n f) (o : Obj) : TxM (w.alloc o) b n f := h.kept (World.grownBy_alloc w o none) (by simp)
theorem TxM.only {S : Nat → Prop} (h : TxM w b n f) (k : Only S w w') (hS : ¬ S b) : TxM w' b n f := by
  obtain ⟨D, ⟨es, clock, hb, F, hs, hD⟩, hf⟩ := h
  exact ⟨D, ⟨es, clock, (k.block b (Array.getElem?_eq_some_iff.1 hb).1 hS).trans hb, F, hs, hD⟩, hf⟩
theorem TxM.look (h : TxM w b n f) {t : Nat} (ht : t ≤ 4294967295) : (Instr.lookup 219 (.map (some b)) (.int .u32 (t : Int)) false).run Tryz.prog w = .ok (txnV (f t)) w := by
  obtain ⟨D, h, hf⟩ := h
  obtain ⟨v, ps, hrun, hv⟩ := h.lookup Tryz.txnKeyed Tryz.underlying219 (Tryz.txnZero w) (txnElem_mk (0, false)) (keyOf_int_mk Tryz.underlying45 (u32_wf ht))
  rw [hf t ht] at hv
  rw [hrun, txnElem_inv hv]

theorem wpList_txn_put {ops : Array Oper} {rest : List Oper} {o : Oper} {a : Act} {Q : Exit → Act → World → Prop} (hg : o.guard = none) (m x v : Operand) (hop : o.op = Op.mapUpdate 219 m x v)
    (b n : Nat) (f : Nat → Nat × Bool) (hm : a.eval m = .map (some b)) (hM : TxM w b n f) (hn : n < maxLen) (t : Nat) (ht : t ≤ 4294967295) (p : Nat × Bool) (hx : a.eval x = .int .u32 (t : Int)) (hv : a.eval v = txnV p)
    (hK : ∀ w', TxM w' b (n + 1) (put f t p) → w.grownBy w' (some b) → wpList Tryz.prog ops Q rest (a.put o.dst undef) w') : wpList Tryz.prog ops Q (o :: rest) a w := by
  obtain ⟨D, hown, hf⟩ := hM
  refine wpList_mapUpdate_own w hg m x v 219 hop 45 222 Tryz.txnKeyed Tryz.underlying219 txnElem b n D hm hown hn _ _ _ hx hv (keyOf_int_mk Tryz.underlying45 (u32_wf ht)) (txnD p) [] (txnElem_mk p) ?_
  intro w' h1 h2
  refine hK w' ⟨_, h1, fun u hu => ?_⟩ h2
  by_cases hut : u = t
  · subst hut
    rw [atKey_put_same hown.isMap (show WideAt.IsKeyLit (Lit.int .u32 (u : Int)) from trivial)]
    simp [put]
  · rw [atKey_put_other (by simp; omega), hf u hu]
    simp [put, hut]
end

/-- What a found record makes of the Txns. -/
def stepT (f : Nat → Nat × Bool) (d : FD) : Nat → Nat × Bool :=
  put f d.t (if d.k = 3 then (if d.c = ((f d.t).1 : Int) then ((f d.t).1, true) else f d.t) else ((f d.t).1 + 1, false))
def countT (l : List FD) : Nat → Nat × Bool := l.foldl stepT (fun _ => (0, false))
theorem countT_snoc (l : List FD) (d : FD) : countT (l ++ [d]) = stepT (countT l) d := by simp [countT, List.foldl_append]
theorem stepT_le (f : Nat → Nat × Bool) (d : FD) (m : Nat) (h : ∀ t, (f t).1 ≤ m) (t : Nat) : (stepT f d t).1 ≤ m + 1 := by
  have h1 := h t
  have h2 := h d.t
  unfold stepT put
  split
  · split
    · split
      · show (f d.t).1 ≤ m + 1
        omega
      · omega
    · show (f d.t).1 + 1 ≤ m + 1
      omega
  · omega
theorem foldT_le : ∀ (l : List FD) (f : Nat → Nat × Bool) (m : Nat), (∀ t, (f t).1 ≤ m) → ∀ t, (l.foldl stepT f t).1 ≤ m + l.length
  | [], f, m, h, t => h t
  | d :: l, f, m, h, t => by
    have := foldT_le l (stepT f d) (m + 1) (stepT_le f d m h) t
    rw [List.foldl_cons, List.length_cons]
    omega
theorem countT_le (l : List FD) (t : Nat) : (countT l t).1 ≤ l.length := by
  have := foldT_le l (fun _ => (0, false)) 0 (fun _ => Nat.le_refl _) t
  rw [Nat.zero_add] at this
  exact this

set_option maxHeartbeats 4000000 in
theorem count6_any (A : Option Addr) (n cap : Nat) (l : List Fd) (w : World) (hF : Founds w Empty A n cap l) (ht : ∀ f ∈ l, f.t ≤ 4294967295) (hm : n ≤ 1048576) :
    Calls Tryz.prog 143 #[.slice A n cap] w fun e w' => (e = .returned (.map (some w.heap.size)) ∧ TxM w' w.heap.size n (countT (l.map Fd.d))) ∧ Below w.heap.size w w' := by
  have hmm := @run_makeMap Tryz.prog
  have HF := Lib.hid hF
  have Ht := Lib.hid ht
  have hcap := hF.2.1
  have hcap2 : cap ≤ 9223372036854775807 := by have := hF.2.2.1; unfold maxLen at this; omega
  clear hF ht
  go_enter Tryz.func143, Tryz.ntmps143
  go_wp2_with fail
  clear hmm
  go_loopw [10] (fun v wr => ∃ i : Nat, i ≤ n ∧ v = .int .i64 (i : Int) ∧ Hid (TxM wr w.heap.size i (countT ((l.take i).map Fd.d))) ∧ Hid (Below w.heap.size w wr)) (fun v _ => n - (intOf v).toNat)
  case atStart => exact ⟨0, Nat.zero_le _, rfl, Lib.hid (TxM.made w), Lib.hid ((Below.refl _ _).alloc (Nat.le_refl _) _)⟩
  case round =>
    obtain ⟨i, hi, rfl, HM, HB⟩ := hrel
    by_cases hlt : i < n
    · obtain ⟨b, o, rfl, hb, -, hcl⟩ := HF.out.2.2.2.1 (by omega)
      obtain ⟨f, hf⟩ : ∃ f, l[i]? = some f := ⟨_, List.getElem?_eq_getElem (by have := HF.out.1; omega)⟩
      have hc := hcl i f hf
      have hft := Ht.out f (List.mem_of_getElem? hf)
      have htake := congrArg (fun z => z.map Fd.d) (take_one l i f hf)
      rw [List.map_append, List.map_cons, List.map_nil] at htake
      have hcnt : countT ((l.take (i + 1)).map Fd.d) = stepT (countT ((l.take i).map Fd.d)) f.d := by rw [htake, countT_snoc]
      have hle := countT_le ((l.take i).map Fd.d) f.t
      rw [List.length_map, List.length_take] at hle
      obtain ⟨pl, k, t, s, A1, m1, p1, c, xs⟩ := f
      obtain ⟨F, hFd⟩ : ∃ F, F = countT ((l.take i).map Fd.d) := ⟨_, rfl⟩
      rw [← hFd] at hcnt HM hle
      have hst : stepT F (Fd.mk pl k t s A1 m1 p1 c xs).d = put F t (if k = 3 then (if c = ((F t).1 : Int) then ((F t).1, true) else F t) else ((F t).1 + 1, false)) := rfl
      rw [hst] at hcnt
      simp only at hft hle
      have hcell : ∀ j, j < 6 → wr.cell? ⟨b, o + i * 6 + j, none⟩ = (Fd.mk pl k t s A1 m1 p1 c xs).cells[j]? := fun j hj => (HB.out.cell (p := ⟨b, o + i * 6 + j, none⟩) hb).trans (hc j hj)
      have d0 : wr.cell? ⟨b, o + i * 6, none⟩ = some (.int .i64 pl) := hcell 0 (by omega)
      have d1 : wr.cell? ⟨b, o + i * 6 + 1, none⟩ = some (.int .i64 k) := hcell 1 (by omega)
      have d2 : wr.cell? ⟨b, o + i * 6 + 2, none⟩ = some (.int .u32 (t : Int)) := hcell 2 (by omega)
      have d3 : wr.cell? ⟨b, o + i * 6 + 3, none⟩ = some (.string s) := hcell 3 (by omega)
      have d4 : wr.cell? ⟨b, o + i * 6 + 4, none⟩ = some (.slice A1 m1 p1) := hcell 4 (by omega)
      have d5 : wr.cell? ⟨b, o + i * 6 + 5, none⟩ = some (.int .i64 c) := hcell 5 (by omega)
      obtain ⟨x, y, hxy⟩ : ∃ x y, F t = (x, y) := ⟨_, _, rfl⟩
      rw [hxy] at hle hcnt
      simp only at hle hcnt
      have hlook := fun ob => (HM.out.alloc ob).look hft
      rw [hxy] at hlook
      unfold txnV at hlook
      clear hc hcl hf hst hcell hFd htake hxy
      have Hi : Hid (i < maxLen) := Lib.hid (by unfold maxLen; omega)
      by_cases hk : k = 3
      · by_cases hcx : c = (x : Int)
        · have q1 : (c == (x : Int)) = true := by simpa using hcx
          rw [if_pos hk, if_pos hcx] at hcnt
          have Hcnt := Lib.hid hcnt
          subst hk
          clear hcx hcnt
          go_wp2_with (at_mapUpdate; refine wpList_txn_put rfl _ _ _ rfl w.heap.size i F rfl ((HM.out.alloc _).alloc _) Hi.out t hft (x, true) rfl rfl ?_; intro w7 hm7 hg7)
          have HM7 := Lib.hid hm7
          rw [← Hcnt.out] at HM7
          have HB7 := Lib.hid (below_grown ((HB.out.alloc HB.out.size _).alloc (Nat.le_trans HB.out.size (by simp)) _) (Nat.le_trans HB.out.size (by simp; omega)) hg7 (fun q hq => by cases hq; exact Nat.le_refl _))
          clear hm7 hg7 hlook d0 d1 d2 d3 d4 d5
          go_roundw
          case rel => exact ⟨i + 1, by omega, by go_num, HM7, HB7⟩
          case measure => simp [intOf]; omega
        · have q1 : (c == (x : Int)) = false := by simpa using hcx
          rw [if_pos hk, if_neg hcx] at hcnt
          have Hcnt := Lib.hid hcnt
          subst hk
          clear hcx hcnt
          go_wp2_with (at_mapUpdate; refine wpList_txn_put rfl _ _ _ rfl w.heap.size i F rfl ((HM.out.alloc _).alloc _) Hi.out t hft (x, y) rfl rfl ?_; intro w7 hm7 hg7)
          have HM7 := Lib.hid hm7
          rw [← Hcnt.out] at HM7
          have HB7 := Lib.hid (below_grown ((HB.out.alloc HB.out.size _).alloc (Nat.le_trans HB.out.size (by simp)) _) (Nat.le_trans HB.out.size (by simp; omega)) hg7 (fun q hq => by cases hq; exact Nat.le_refl _))
          clear hm7 hg7 hlook d0 d1 d2 d3 d4 d5
          go_roundw
          case rel => exact ⟨i + 1, by omega, by go_num, HM7, HB7⟩
          case measure => simp [intOf]; omega
      · have q1 : (k == 3) = false := by simpa using hk
        have q2 : (k != 3) = true := by simp only [bne, q1]; rfl
        rw [if_neg hk] at hcnt
        have Hcnt := Lib.hid hcnt
        clear hk hcnt
        go_wp2_with (at_mapUpdate; refine wpList_txn_put rfl _ _ _ rfl w.heap.size i F rfl ((HM.out.alloc _).alloc _) Hi.out t hft (x + 1, false) rfl rfl ?_; intro w7 hm7 hg7)
        have HM7 := Lib.hid hm7
        rw [← Hcnt.out] at HM7
        have HB7 := Lib.hid (below_grown ((HB.out.alloc HB.out.size _).alloc (Nat.le_trans HB.out.size (by simp)) _) (Nat.le_trans HB.out.size (by simp; omega)) hg7 (fun q hq => by cases hq; exact Nat.le_refl _))
        clear hm7 hg7 hlook d0 d1 d2 d3 d4 d5
        go_roundw
        case rel => exact ⟨i + 1, by omega, by go_num, HM7, HB7⟩
        case measure => simp [intOf]; omega
    · obtain rfl : i = n := by omega
      rw [List.take_of_length_le (by rw [HF.out.1]; omega)] at HM
      go_wp2_with fail
      go_ret
      exact ⟨⟨rfl, HM.out⟩, HB.out⟩

end Go.Proofs.YtnhfmcijadficaaGreatDoor

/- The walks over bytes.Clone and scan.Commits. -/
namespace Go.Proofs.YtnhfmcijadficaaGreatDoor
set_option maxRecDepth 100000
open Go.RowKit Go.Maps

theorem clone_any (A : Option Addr) (n cap : Nat) (xs : List UInt8) (w : World) (hB : ByteSl w Empty A n cap xs) (hA : A = none → n = 0 ∧ cap = 0) (hm : n ≤ 16777216) :
    Calls Tryz.prog 67 #[.slice A n cap] w fun e w' => (∃ A' cap', e = .returned (.slice A' n cap') ∧ Got w.heap.size w' A' n cap' xs) ∧ Below w.heap.size w w' := by
  have HB := Lib.hid hB
  rcases A with _ | ad
  · obtain ⟨rfl, rfl⟩ := hA rfl
    have hx : xs = [] := List.eq_nil_of_length_eq_zero hB.1
    subst hx
    clear hA hB
    have he := fun W => Lib.run_eql_slice_nil (P := Tryz.prog) W 22 5 none 0 0 0 0 Tryz.underlying22
    go_enter Tryz.func67, Tryz.ntmps67
    go_wp2
    go_ret
    exact ⟨⟨none, 0, rfl, Got.nil_ _ _⟩, Below.refl _ _⟩
  · have he := fun W => Lib.run_eql_slice_nil (P := Tryz.prog) W 22 5 (some ad) n cap 0 0 Tryz.underlying22
    have HO := Lib.hid (own_made w w.heap.size (Nat.le_refl _))
    have HB0 := Lib.hid ((Below.refl w.heap.size w).alloc (Nat.le_refl _) (.cells #[] 5))
    have HX := Lib.hid (HB.out.only (Only.of_below (S := Empty) HB0.out) (fun _ _ h => h))
    have HA := Lib.hid hA
    clear hB hA
    go_enter Tryz.func67, Tryz.ntmps67
    go_wp2_with (at_builtin; refine wpList_append_bytes rfl (.tmp 5) (.tmp 6) rfl w.heap.size _ rfl 0 [] HO.out (some ad) n cap xs Empty rfl HX.out HA.out (by omega) HB0.out.size ?_; intro v2 w2 hown2 hg2 _)
    have hown3 : w2.ownsRow w.heap.size 5 1 v2 n (xs.map B8) := by simpa using hown2
    obtain ⟨A2, c2, rfl, hG2⟩ := Got.of_own hown3
    have hlt := HO.out.lt
    have HB2 := Lib.hid (below_grown HB0.out HB0.out.size hg2 (fun q hq => (hlt q hq).1))
    have HG2 := Lib.hid hG2
    clear hown2 hown3 hg2 hG2 hlt he
    go_ret
    exact ⟨⟨A2, c2, rfl, HG2.out⟩, HB2.out⟩

/-- The records that count. -/
def keepT (F : Nat → Nat × Bool) (d : FD) : Bool := decide (d.k ≠ 3) && (F d.t).2
def commitsF (l : List FD) : List FD := l.filter (keepT (countT l))

set_option maxHeartbeats 4000000 in
theorem commits_any (A : Option Addr) (n cap : Nat) (l : List Fd) (w : World) (hF : Founds w Empty A n cap l) (ht : ∀ f ∈ l, f.t ≤ 4294967295) (hm : n ≤ 1048576) (hbl : ∀ f ∈ l, f.n ≤ 16777216) :
    Calls Tryz.prog 115 #[.slice A n cap] w fun e w' => (∃ A' n' cap' l', e = .returned (.slice A' n' cap') ∧ l'.map Fd.d = commitsF (l.map Fd.d) ∧ GotF w.heap.size w' A' n' cap' l') ∧ Below w.heap.size w w' := by
  have HF := Lib.hid hF
  have Ht := Lib.hid ht
  have Hbl := Lib.hid hbl
  have N1 := Lib.hid (count6_any A n cap l w hF ht hm)
  have hcap := hF.2.1
  have hcap2 : cap ≤ 9223372036854775807 := by have := hF.2.2.1; unfold maxLen at this; omega
  obtain ⟨F, hFe⟩ : ∃ F, F = countT (l.map Fd.d) := ⟨_, rfl⟩
  unfold commitsF
  rw [← hFe] at N1 ⊢
  clear hF ht hbl hFe
  go_enter Tryz.func115, Tryz.ntmps115
  go_wp2_with fail
  refine N1.out.mono ?_
  rintro e1 w1 ⟨⟨rfl, hM1⟩, hb1⟩
  have HM1 := Lib.hid hM1
  have HB1 := Lib.hid hb1
  have hz1 : w.heap.size < w1.heap.size := hM1.lt
  clear hM1 hb1
  go_wp2_with fail
  go_loopw [4, 11] (fun v4 v wr => ∃ (i : Nat) (acc : List Fd), i ≤ n ∧ v = .int .i64 (i : Int) ∧ Hid (acc.map Fd.d = ((l.take i).map Fd.d).filter (keepT F)) ∧ acc.length ≤ i ∧ Hid (TxM wr w.heap.size n F) ∧ Hid (Below w.heap.size w wr) ∧ Hid (w.heap.size < wr.heap.size) ∧
    Hid (wr.ownsRow (w.heap.size + 1) 190 6 v4 acc.length (acc.flatMap Fd.cells)) ∧ Hid (Blobs wr (fun q => v4.ownBlock = some q) acc)) (fun _ v _ => n - (intOf v).toNat)
  case atStart => exact ⟨0, [], Nat.zero_le _, rfl, Lib.hid rfl, Nat.le_refl _, HM1, HB1, Lib.hid hz1, Lib.hid (World.ownsRow_nil _ _ _ _), Lib.hid (Blobs.nil_ _ _)⟩
  case round =>
    obtain ⟨i, acc, hi, rfl, Hacc, hal, HM, HB, Hz, HO, HBl⟩ := hrel
    clear hz1
    have hz := Hz.out
    by_cases hlt : i < n
    · obtain ⟨b, o, rfl, hb, -, hcl⟩ := HF.out.2.2.2.1 (by omega)
      obtain ⟨f, hf⟩ : ∃ f, l[i]? = some f := ⟨_, List.getElem?_eq_getElem (by have := HF.out.1; omega)⟩
      have hc := hcl i f hf
      have hmem := List.mem_of_getElem? hf
      have hft := Ht.out f hmem
      have hfn := Hbl.out f hmem
      have hfb := HF.out.2.2.2.2 f hmem
      have htake : ((l.take (i + 1)).map Fd.d).filter (keepT F) = ((l.take i).map Fd.d).filter (keepT F) ++ (if keepT F f.d = true then [f.d] else []) := by
        rw [take_one l i f hf, List.map_append, List.filter_append]
        simp only [List.map_cons, List.map_nil, List.filter_cons, List.filter_nil]
      rw [← Hacc.out] at htake
      obtain ⟨pl, k, t, s, A1, m1, p1, c, xs⟩ := f
      simp only at hft hfn hfb
      have hcell : ∀ j, j < 6 → wr.cell? ⟨b, o + i * 6 + j, none⟩ = (Fd.mk pl k t s A1 m1 p1 c xs).cells[j]? := fun j hj => (HB.out.cell (p := ⟨b, o + i * 6 + j, none⟩) hb).trans (hc j hj)
      have d0 : wr.cell? ⟨b, o + i * 6, none⟩ = some (.int .i64 pl) := hcell 0 (by omega)
      have d1 : wr.cell? ⟨b, o + i * 6 + 1, none⟩ = some (.int .i64 k) := hcell 1 (by omega)
      have d2 : wr.cell? ⟨b, o + i * 6 + 2, none⟩ = some (.int .u32 (t : Int)) := hcell 2 (by omega)
      have d3 : wr.cell? ⟨b, o + i * 6 + 3, none⟩ = some (.string s) := hcell 3 (by omega)
      have d4 : wr.cell? ⟨b, o + i * 6 + 4, none⟩ = some (.slice A1 m1 p1) := hcell 4 (by omega)
      have d5 : wr.cell? ⟨b, o + i * 6 + 5, none⟩ = some (.int .i64 c) := hcell 5 (by omega)
      obtain ⟨x, y, hxy⟩ : ∃ x y, F t = (x, y) := ⟨_, _, rfl⟩
      have hlook := fun ob => (HM.out.alloc ob).look hft
      rw [hxy] at hlook
      unfold txnV at hlook
      have hfld : ∀ W, (Instr.field 222 (.agg #[.int .i64 (x : Int), .bool y]) 1).run Tryz.prog W = .ok (.bool y) W := fun _ => by kernel_rfl
      have Hfb := Lib.hid hfb
      have hO1 := (Only.refl Empty wr).alloc (.cells #[.int .i64 pl, .int .i64 k, .int .u32 (t : Int), .string s, .slice A1 m1 p1, .int .i64 c] 190)
      have HM2 := Lib.hid (HM.out.alloc (.cells #[.int .i64 pl, .int .i64 k, .int .u32 (t : Int), .string s, .slice A1 m1 p1, .int .i64 c] 190))
      have HB2 := Lib.hid (HB.out.alloc HB.out.size (.cells #[.int .i64 pl, .int .i64 k, .int .u32 (t : Int), .string s, .slice A1 m1 p1, .int .i64 c] 190))
      have HO2 := Lib.hid (HO.out.alloc (.cells #[.int .i64 pl, .int .i64 k, .int .u32 (t : Int), .string s, .slice A1 m1 p1, .int .i64 c] 190))
      have HBl2 := Lib.hid (HBl.out.only hO1 (fun _ _ h => h.elim))
      have HK2 := Lib.hid (Blk.new wr 190 #[.int .i64 pl, .int .i64 k, .int .u32 (t : Int), .string s, .slice A1 m1 p1, .int .i64 c])
      have Hz2 : Hid (w.heap.size < (wr.alloc (.cells #[.int .i64 pl, .int .i64 k, .int .u32 (t : Int), .string s, .slice A1 m1 p1, .int .i64 c] 190)).heap.size) := Lib.hid (by simp; omega)
      clear hc hcl hf hmem hcell hfb hO1
      by_cases hk : k = 3
      · have hkt : keepT F (Fd.mk pl k t s A1 m1 p1 c xs).d = false := by unfold keepT Fd.d; simp [hk]
        rw [hkt, if_neg (by simp), List.append_nil] at htake
        have Htake := Lib.hid htake.symm
        subst hk
        clear htake hxy hkt
        go_wp2
        go_roundw
        case rel => exact ⟨i + 1, acc, by omega, by go_num, Htake, by omega, HM2, HB2, Hz2, HO2, HBl2⟩
        case measure => simp [intOf]; omega
      · have q1 : (k == 3) = false := by simpa using hk
        have q2 : (k != 3) = true := by simp only [bne, q1]; rfl
        cases y with
        | false =>
          have hkt : keepT F (Fd.mk pl k t s A1 m1 p1 c xs).d = false := by unfold keepT Fd.d; simp [hxy]
          rw [hkt, if_neg (by simp), List.append_nil] at htake
          have Htake := Lib.hid htake.symm
          clear htake hxy hkt hk
          go_wp2
          go_roundw
          case rel => exact ⟨i + 1, acc, by omega, by go_num, Htake, by omega, HM2, HB2, Hz2, HO2, HBl2⟩
          case measure => simp [intOf]; omega
        | true =>
          have hkt : keepT F (Fd.mk pl k t s A1 m1 p1 c xs).d = true := by unfold keepT Fd.d; simp [hxy, hk]
          rw [hkt, if_pos rfl] at htake
          have Htake := Lib.hid htake.symm
          clear htake hxy hkt hk
          have HX := Lib.hid (Hfb.out.1.only (Only.of_below (S := Empty) HB2.out) (fun _ _ h => h))
          go_wp2_with fail
          refine (clone_any A1 m1 p1 xs _ HX.out Hfb.out.2 hfn).mono ?_
          rintro e7 w7 ⟨⟨A7, c7, rfl, hG7⟩, hb7⟩
          have hz7 : wr.heap.size < w7.heap.size := by have := hb7.size; simp at this; omega
          have hK7 := HK2.out.of (hb7.block wr.heap.size (by simp))
          have HK8 := Lib.hid (show Blk (w7.setCell ⟨wr.heap.size, 4, none⟩ (.slice A7 m1 c7)) wr.heap.size 190 #[.int .i64 pl, .int .i64 k, .int .u32 (t : Int), .string s, .slice A7 m1 c7, .int .i64 c] from hK7.set_ 4 (.slice A7 m1 c7))
          have x0 := hK7.cell 0
          have x1 := hK7.cell 1
          have x2 := hK7.cell 2
          have x3 := hK7.cell 3
          have x4 := hK7.cell 4
          have x5 := hK7.cell 5
          have g4 := hK7.frozen 4
          simp at x0 x1 x2 x3 x4 x5
          have y0 := HK8.out.cell 0
          have y1 := HK8.out.cell 1
          have y2 := HK8.out.cell 2
          have y3 := HK8.out.cell 3
          have y4 := HK8.out.cell 4
          have y5 := HK8.out.cell 5
          simp at y0 y1 y2 y3 y4 y5
          obtain ⟨f, hf⟩ : ∃ f : Fd, f = ⟨pl, k, t, s, A7, m1, c7, c, xs⟩ := ⟨_, rfl⟩
          have hfd : f.d = (Fd.mk pl k t s A1 m1 p1 c xs).d := by rw [hf]; rfl
          have hFd : f.A = A7 ∧ f.n = m1 ∧ f.cap = c7 ∧ f.blob = xs := by rw [hf]; exact ⟨rfl, rfl, rfl, rfl⟩
          have hcells : f.cells.toArray = #[.int .i64 pl, .int .i64 k, .int .u32 (t : Int), .string s, .slice A7 m1 c7, .int .i64 c] := by rw [hf]; rfl
          have hlt4 := HO.out.lt
          have hO9 : Only Empty wr ((w7.setCell ⟨wr.heap.size, 4, none⟩ (.slice A7 m1 c7)).alloc (.cells #[.int .i64 pl, .int .i64 k, .int .u32 (t : Int), .string s, .slice A7 m1 c7, .int .i64 c] 190)) :=
            ((((Only.refl Empty wr).alloc (.cells #[.int .i64 pl, .int .i64 k, .int .u32 (t : Int), .string s, .slice A1 m1 p1, .int .i64 c] 190)).trans (Only.of_below (S := Empty) hb7)).setCell (p := ⟨wr.heap.size, 4, none⟩) (Or.inr (Nat.le_refl _)) (.slice A7 m1 c7)).alloc _
          have hB9 := HB.out.trans (hO9.below (B := w.heap.size) HB.out.size (fun _ _ h => h))
          obtain ⟨A8, c8, e8, hB8, -⟩ := ByteSl.of_own (S := fun q => Value.ownBlock u4 = some q ∨ q = wr.heap.size) hG7.own (fun q h1 _ h2 => by
            simp at h1
            rcases h2 with h2 | h2
            · have := (hlt4 q h2).2; omega
            · omega)
          cases e8
          have hS : Only (· = wr.heap.size) w7 ((w7.setCell ⟨wr.heap.size, 4, none⟩ (.slice A7 m1 c7)).alloc (.cells #[.int .i64 pl, .int .i64 k, .int .u32 (t : Int), .string s, .slice A7 m1 c7, .int .i64 c] 190)) := ((Only.refl (· = wr.heap.size) w7).setCell (p := ⟨wr.heap.size, 4, none⟩) (Or.inl rfl) _).alloc _
          have hB10 := (hB8.only hS (fun q _ h => Or.inr h)).mono (T := fun q => Value.ownBlock u4 = some q) (fun q _ h => Or.inl h)
          have HB10 : Hid (ByteSl ((w7.setCell ⟨wr.heap.size, 4, none⟩ (.slice A7 m1 c7)).alloc (.cells #[.int .i64 pl, .int .i64 k, .int .u32 (t : Int), .string s, .slice A7 m1 c7, .int .i64 c] 190)) (fun q => Value.ownBlock u4 = some q) f.A f.n f.cap f.blob) := Lib.hid (by rw [hFd.1, hFd.2.1, hFd.2.2.1, hFd.2.2.2]; exact hB10)
          have HN10 : Hid (f.A = none → f.n = 0 ∧ f.cap = 0) := Lib.hid (by rw [hFd.1, hFd.2.1, hFd.2.2.1]; exact hG7.isNil)
          have HO9 := Lib.hid (own_only HO.out hO9 (fun _ _ _ h => h))
          have HBl9 := Lib.hid (HBl.out.only hO9 (fun _ _ h => h.elim))
          have HM9 := Lib.hid (HM.out.only hO9 (fun h => h))
          have HB9 := Lib.hid hB9
          have hK9 : Blk ((w7.setCell ⟨wr.heap.size, 4, none⟩ (.slice A7 m1 c7)).alloc (.cells #[.int .i64 pl, .int .i64 k, .int .u32 (t : Int), .string s, .slice A7 m1 c7, .int .i64 c] 190)) w7.heap.size 190 f.cells.toArray := by
            rw [hcells]
            have h := Blk.new (w7.setCell ⟨wr.heap.size, 4, none⟩ (.slice A7 m1 c7)) 190 #[.int .i64 pl, .int .i64 k, .int .u32 (t : Int), .string s, .slice A7 m1 c7, .int .i64 c]
            have hsz : (w7.setCell ⟨wr.heap.size, 4, none⟩ (.slice A7 m1 c7)).heap.size = w7.heap.size := by simp [World.setCell]
            rw [hsz] at h
            exact h
          have HK9 := Lib.hid hK9
          have Hmm : Hid (acc.length + 1 ≤ 1048576) := Lib.hid (by omega)
          have Hbs : Hid (w.heap.size + 1 ≤ ((w7.setCell ⟨wr.heap.size, 4, none⟩ (.slice A7 m1 c7)).alloc (.cells #[.int .i64 pl, .int .i64 k, .int .u32 (t : Int), .string s, .slice A7 m1 c7, .int .i64 c] 190)).heap.size) := Lib.hid (by have := hO9.size; omega)
          have Hfd := Lib.hid hfd
          clear hK7 hf hfd hFd hcells hlt4 hO9 hB9 hB8 hS hB10 hK9 hG7 hb7 hlook hfld
          go_wp2_with (at_builtin; refine wpList_append_found rfl (.tmp 33) (.tmp 35) rfl (w.heap.size + 1) u4 rfl acc HO9.out f w7.heap.size rfl HK9.out Hmm.out Hbs.out ?_; intro v8 w8 hown8 hg8 hat8)
          have hlt9 := HO9.out.lt
          have HB11 := Lib.hid (below_grown HB9.out HB9.out.size hg8 (fun q hq => by have := (hlt9 q hq).1; omega))
          have HM11 := Lib.hid (HM9.out.kept hg8 (fun e => by have := (hlt9 w.heap.size e.symm).1; omega))
          have HBl11 := Lib.hid (HBl9.out.append HB10.out HN10.out hg8 hat8)
          have HO11 := Lib.hid hown8
          have Hz11 : Hid (w.heap.size < w8.heap.size) := Lib.hid (by have := hg8.size; have := Hbs.out; omega)
          have HT11 : Hid ((acc ++ [f]).map Fd.d = ((l.take (i + 1)).map Fd.d).filter (keepT F)) := Lib.hid (by rw [List.map_append, List.map_cons, List.map_nil, Hfd.out]; exact Htake.out)
          have Hl11 : Hid ((acc ++ [f]).length ≤ i + 1) := Lib.hid (by simp; omega)
          clear hlt9 hg8 hat8 hown8 x0 x1 x2 x3 x4 x5 g4 y0 y1 y2 y3 y4 y5 d0 d1 d2 d3 d4 d5
          go_roundw
          case rel => exact ⟨i + 1, acc ++ [f], by omega, by go_num, HT11, Hl11.out, HM11, HB11, Hz11, HO11, HBl11⟩
          case measure => simp [intOf]; omega
    · obtain rfl : i = n := by omega
      rw [List.take_of_length_le (by rw [HF.out.1]; omega)] at Hacc
      obtain ⟨A2, cap2, rfl, hG⟩ := GotF.of_own (own_base HO.out (show w.heap.size ≤ w.heap.size + 1 by omega)) HBl.out
      have HG := Lib.hid hG
      clear hG
      go_wp2_with fail
      go_ret
      exact ⟨⟨A2, _, cap2, acc, rfl, Hacc.out, HG.out⟩, HB.out⟩

end Go.Proofs.YtnhfmcijadficaaGreatDoor

/- Of wear's Next and Oldest, and of the document's: contracts. -/
namespace Go.Proofs.YtnhfmcijadficaaGreatDoor
set_option maxRecDepth 100000
open Go.RowKit

theorem next_any (A : Option Addr) (n cap : Nat) (l : List Sc) (lim : Int) (w : World) (hS : Secs w Empty A n cap l) (hm : n ≤ 1048576) (r : Option Nat) (hr : best (opensB lim) Sc.er l n = r) :
    Calls Tryz.prog 160 #[.slice A n cap, .int .i64 lim] w fun e w' => e = .returned (.tuple #[placeV r, .bool r.isSome]) ∧ Below w.heap.size w w' := by
  have HS := Lib.hid hS
  have Hr := Lib.hid hr
  clear hS hr
  go_enter Tryz.func160, Tryz.ntmps160
  go_wp2_with fail
  refine (canOpen_any lim _).mono ?_
  rintro e1 w1 ⟨rfl, hb1, hk1⟩
  have HB := Lib.hid hb1
  have HK := Lib.hid hk1
  have HS1 := Lib.hid (HS.out.only (Only.of_below (S := Empty) hb1) (fun _ _ h => h))
  clear hb1 hk1
  go_wp2_with fail
  refine (leastI_any A n cap l lim w.heap.size w1 HS1.out HK.out hm r Hr.out).mono ?_
  rintro e2 w2 ⟨rfl, hb2⟩
  have HB2 := Lib.hid (HB.out.trans (hb2.mono HB.out.size))
  clear hb2
  unfold placeV
  go_wp2_with fail
  refine bodyPost_ret (v := .tuple #[placeV r, .bool r.isSome]) (by simp [results, Tryz.results160, go_sem, placeV]) rfl ?_
  exact ⟨rfl, HB2.out⟩

theorem oldest_any (A : Option Addr) (n cap : Nat) (l : List Sc) (w : World) (hS : Secs w Empty A n cap l) (hm : n ≤ 1048576) (r : Option Nat) (hr : best usedB Sc.q l n = r) :
    Calls Tryz.prog 163 #[.slice A n cap] w fun e w' => e = .returned (.tuple #[placeV r, .bool r.isSome]) ∧ Below w.heap.size w w' := by
  have HS := Lib.hid hS
  have Hr := Lib.hid hr
  clear hS hr
  go_enter Tryz.func163, Tryz.ntmps163
  go_wp2_with fail
  refine (leastU_any A n cap l w HS.out hm r Hr.out).mono ?_
  rintro e2 w2 ⟨rfl, hb2⟩
  have HB2 := Lib.hid hb2
  clear hb2
  unfold placeV
  go_wp2_with fail
  refine bodyPost_ret (v := .tuple #[placeV r, .bool r.isSome]) (by simp [results, Tryz.results163, go_sem, placeV]) rfl ?_
  exact ⟨rfl, HB2.out⟩

end Go.Proofs.YtnhfmcijadficaaGreatDoor
