/- The walks over rec.Parse where the record's sum of 32 bits is wrong, and where it is right; Parse as one answer. -/
import Derived.Test.YtidcgobnhfganaaHi
namespace Go.Proofs.Ytidcgobnhfganaa
open Go.RowKit

set_option maxHeartbeats 4000000 in
theorem rcParse_sum (b o : Nat) (sp : Option Nat) (n cap : Nat) (xs : List UInt8) (w : World) (hBy : ByteSl w Empty (some ⟨b, o, sp⟩) n cap xs) (hm : n ≤ 1048576) (h : hdE xs = 0) (hs : ¬ xs.length < szOf xs) (hsum : sumOk xs = false) :
    Calls Try.prog 16 #[.slice (some ⟨b, o, sp⟩) n cap] w fun e w' => RecOk xs w w' e := by
  have hf := head_facts h
  have hf4 := mayB_iff.1 hf.2.2.2
  have HC : Hid (∀ w' : World, Below w.heap.size w w' → RecOk xs w w' (zeroA ((szOf xs : Nat) : Int) 0)) := Lib.hid (fun w' hb => by
    have hp : pE xs = 0 := by unfold pE; rw [if_pos h, if_neg hs]
    have ho : out xs = ⟨0, 0, [], [], 0, szOf xs, false, 0⟩ := by
      unfold out
      rw [hp, hsum]
      rfl
    exact zero_ok ho hb)
  obtain ⟨ad', e, hbl, -, hcell⟩ := hBy.2.2.2 (by have := hBy.1; omega)
  cases e
  have hbl : b < w.heap.size := hbl
  have hcap := hBy.2.1
  have hcap2 : cap ≤ 9223372036854775807 := by have := hBy.2.2.1; unfold maxLen at this; omega
  have hO0 := (Only.refl Empty w).alloc (.cells #[.int .i64 0, .int .u32 0, .string ⟨#[]⟩, .slice none 0 0, .int .i64 0] 28)
  obtain ⟨v1, e1, b1⟩ : ∃ v, v = nK xs ∧ v ≤ 255 := ⟨_, rfl, nK_le xs⟩
  obtain ⟨v2, e2, b2⟩ : ∃ v, v = nT xs ∧ v ≤ 4294967295 := ⟨_, rfl, nT_le xs⟩
  obtain ⟨v3, e3, b3⟩ : ∃ v, v = nA xs ∧ v ≤ 64 := ⟨_, rfl, by omega⟩
  obtain ⟨v4, e4, b4⟩ : ∃ v, v = nB xs ∧ v ≤ 4096 := ⟨_, rfl, by omega⟩
  obtain ⟨v5, e5⟩ : ∃ v, v = nC xs := ⟨_, rfl⟩
  have hge : v3 + v4 + 16 ≤ n := by
    unfold szOf at hs
    rw [hBy.1, ← e3, ← e4] at hs
    omega
  obtain ⟨sm, hsm⟩ : ∃ sm, sm = v3 + v4 + 11 := ⟨_, rfl⟩
  have hsum2 := hsum
  unfold sumOk at hsum2
  rw [← e3, ← e4, ← hsm] at hsum2
  obtain ⟨v6, e6, b6⟩ : ∃ v, v = getV ((xs.drop sm).take 4) ∧ v ≤ 4294967295 := ⟨_, rfl, getV_le _ 4 _ (by simp; omega) rfl⟩
  obtain ⟨v7, e7, b7⟩ : ∃ v, v = (crc32 (xs.take sm)).toNat ∧ v ≤ 4294967295 := ⟨_, rfl, by have := (crc32 (xs.take sm)).isLt; omega⟩
  rw [← e6, ← e7] at hsum2
  have N1 : Hid (Calls Try.prog 22 #[.slice (some ⟨b, o, sp⟩) n cap] (w.alloc (.cells #[.int .i64 0, .int .u32 0, .string ⟨#[]⟩, .slice none 0 0, .int .i64 0] 28)) fun e w' => e = .returned (.tuple #[.agg #[.int .i64 (v1 : Int), .int .u32 (v2 : Int), .int .i64 (v3 : Int), .int .i64 (v4 : Int), .int .i64 (v5 : Int)], .int .i64 0]) ∧ Below (w.alloc (.cells #[.int .i64 0, .int .u32 0, .string ⟨#[]⟩, .slice none 0 0, .int .i64 0] 28)).heap.size (w.alloc (.cells #[.int .i64 0, .int .u32 0, .string ⟨#[]⟩, .slice none 0 0, .int .i64 0] 28)) w') := Lib.hid
    ((parseHead_any _ n cap xs _ (hBy.only hO0 (fun _ _ h => h)) hm).mono fun e w' ⟨he, hb⟩ => by
      rw [if_pos h, h, headV, ← e1, ← e2, ← e3, ← e4, ← e5] at he
      exact ⟨he, hb⟩)
  have HBy := Lib.hid hBy
  have N6 : Hid (∀ g W, g ≠ b → Rd W g (some ⟨b, o, sp⟩) n cap sm → ByteSl W Empty (some ⟨b, o, sp⟩) n cap xs → Calls Try.prog 24 #[.pointer (some ⟨g, 0, none⟩), .int .i64 4] W fun e W' => e = .returned (.int .u64 (v6 : Int)) ∧ Rd W' g (some ⟨b, o, sp⟩) n cap (sm + 4) ∧ Only (· = g) W W') := Lib.hid fun g W hg hR hB => by
    rw [e6]; exact number_any g _ n cap sm 4 xs W hR hB (by omega) (by omega) hm (by omega)
  have N7 : Hid (∀ W, ByteSl W Empty (some ⟨b, o, sp⟩) n cap xs → Calls Try.prog 25 #[.slice (some ⟨b, o, sp⟩) sm cap] W fun e W' => e = .returned (.int .u32 (v7 : Int)) ∧ Below W.heap.size W W') := Lib.hid fun W hB => by
    rw [e7]; exact sum32_any _ sm cap (xs.take sm) W (hB.take_ sm (by omega))
  have hne := of_decide_eq_false hsum2
  have hne1 : ((v6 : Int) == (v7 : Int)) = false := by
    rw [beq_eq_false_iff_ne]
    intro e
    exact hne (by omega)
  have hne2 : ((v6 : Int) != (v7 : Int)) = true := by simp only [bne, hne1]; rfl
  have Hsz : Hid (((szOf xs : Nat) : Int) = (sm : Int) + 5) := Lib.hid (by unfold szOf; rw [← e3, ← e4]; omega)
  rw [Hsz.out] at HC
  clear hne hsum2 e1 e2 e3 e4 e5 e6 e7
  have Hsm := Lib.hid hsm
  have hge2 : sm + 5 ≤ n := by omega
  clear hf hf4 h hs hBy hO0 hsum hcell hsm hge
  go_enter Try.func16, Try.ntmps16
  go_wp2_with fail
  refine N1.out.mono ?_
  rintro e1 w1 ⟨rfl, hb1⟩
  have HJ1 := Lib.hid ((Blk.new w 28 #[.int .i64 0, .int .u32 0, .string ⟨#[]⟩, .slice none 0 0, .int .i64 0]).of (hb1.block w.heap.size (by simp)))
  have HO1 := Lib.hid (((Only.refl Empty w).alloc (.cells #[.int .i64 0, .int .u32 0, .string ⟨#[]⟩, .slice none 0 0, .int .i64 0] 28)).trans (Only.of_below hb1))
  clear hb1
  go_wp2_with fail
  refine (hSize_any (v1 : Int) (v2 : Int) (v5 : Int) v3 v4 _ (by omega) (by omega)).mono ?_
  rintro e1 w2 ⟨rfl, hb2⟩
  have HJ2 := Lib.hid ((HJ1.out.alloc (.cells #[.int .i64 (v1 : Int), .int .u32 (v2 : Int), .int .i64 (v3 : Int), .int .i64 (v4 : Int), .int .i64 (v5 : Int)] 61)).of (hb2.block w.heap.size (by have := HJ1.out.lt; simp; omega)))
  have HK2 := Lib.hid ((Blk.new w1 61 #[.int .i64 (v1 : Int), .int .u32 (v2 : Int), .int .i64 (v3 : Int), .int .i64 (v4 : Int), .int .i64 (v5 : Int)]).of (hb2.block w1.heap.size (by simp)))
  have HO2 := Lib.hid ((HO1.out.alloc (.cells #[.int .i64 (v1 : Int), .int .u32 (v2 : Int), .int .i64 (v3 : Int), .int .i64 (v4 : Int), .int .i64 (v5 : Int)] 61)).trans (Only.of_below hb2))
  clear hb2
  have hz2 : w1.heap.size < w2.heap.size := HK2.out.lt
  have hz1 : w.heap.size < w1.heap.size := HJ1.out.lt
  rw [show ((v3 + v4 + 16 : Nat) : Int) = (sm : Int) + 5 by have := Hsm.out; omega]
  have hd : decide ((n : Int) < (sm : Int) + 5) = false := by simp; omega
  have hq : (sm : Int) + 5 - 5 = (sm : Int) := by omega
  go_wp2_with fail
  clear hd hq
  have HR3 : Hid (Rd (w2.alloc (.cells #[.slice (some ⟨b, o, sp⟩) n cap, .int .i64 (sm : Int)] 66)).drew w2.heap.size (some ⟨b, o, sp⟩) n cap sm) := Lib.hid (Blk.new w2 66 #[.slice (some ⟨b, o, sp⟩) n cap, .int .i64 (sm : Int)]).drew
  have hO3 : Only Empty w2 (w2.alloc (.cells #[.slice (some ⟨b, o, sp⟩) n cap, .int .i64 (sm : Int)] 66)).drew := ((Only.refl Empty w2).alloc _).drew
  have HO3 := Lib.hid (HO2.out.trans hO3)
  have HB3 := Lib.hid (HBy.out.only HO3.out (fun _ _ h => h))
  have HJ3 := Lib.hid (hO3.blk HJ2.out (fun h => h))
  have HK3 := Lib.hid (hO3.blk HK2.out (fun h => h))
  have Hg : Hid (w2.heap.size ≠ b) := Lib.hid (by omega)
  clear hO3
  have hwv : IntKind.u32.wrap (v6 : Int) = (v6 : Int) := by rw [IntKind.wrap_u32]; omega
  have q1 : (sm : Int) ≤ (cap : Int) := by omega
  have q2 : (sm : Int) ≤ (n : Int) := by omega
  have q3 : (0 : Int) ≤ (sm : Int) := by omega
  have q4 : sm ≤ cap := by omega
  have q5 : sm ≤ n := by omega
  have hT : True := trivial
  go_region_held3 (fun _ => True) (exact hT)
    (first | ((go_at_call 24; (with_reducible refine (N6.out _ _ Hg.out HR3.out HB3.out).mono ?_); rintro e10 w10 ⟨rfl, hR10, hO10⟩; have HB10 := Lib.hid (((HB3.out.mono_of (T := (· = w2.heap.size)) (Ne.symm Hg.out)).only hO10 (fun _ _ h => h)).mono (T := Empty) (fun _ _ h => h.elim)))) | ((go_at_call 25; (with_reducible refine (N7.out _ HB10.out).mono ?_); rintro e11 w11 ⟨rfl, hb11⟩)))
  clear hwv q1 q2 q3 q4 q5
  have hz3 : w2.heap.size < w10.heap.size := hR10.lt
  have hz4 := hb11.size
  have HO11 := Lib.hid (HO3.out.trans' (hO10.trans (Only.of_below hb11)) (fun q h1 h2 => by omega))
  have HR11 : Hid (Rd w11 w2.heap.size (some ⟨b, o, sp⟩) n cap (sm + 4)) := Lib.hid (Blk.of hR10 (hb11.block w2.heap.size (by omega)))
  have HJ11 := Lib.hid ((hO10.blk HJ3.out (by omega)).of (hb11.block w.heap.size (by omega)))
  have HK11 := Lib.hid ((hO10.blk HK3.out (by omega)).of (hb11.block w1.heap.size (by omega)))
  have HB11 := Lib.hid (HBy.out.only HO11.out (fun _ _ h => h))
  clear hR10 hO10 hb11
  have j0 := HJ11.out.cell 0
  have j1 := HJ11.out.cell 1
  have j2 := HJ11.out.cell 2
  have j3 := HJ11.out.cell 3
  have j4 := HJ11.out.cell 4
  have g0 := HJ11.out.frozen 0
  have g1 := HJ11.out.frozen 1
  have g2 := HJ11.out.frozen 2
  have g3 := HJ11.out.frozen 3
  have g4 := HJ11.out.frozen 4
  simp at j0 j1 j2 j3 j4
  go_wp2
  refine bodyPost_ret (v := .tuple #[.agg #[.int .i64 0, .int .u32 0, .string ⟨#[]⟩, .slice none 0 0, .int .i64 0], .int .i64 ((sm : Int) + 5), .bool false, .int .i64 0]) (by simp [results, Try.results16, go_sem, j0, j1, j2, j3, j4]) rfl (HC.out _ ?_)
  exact (((((HO11.out.below (Nat.le_refl _) (fun _ _ h => h)).setCell (by simp) _).setCell (by simp) _).setCell (by simp) _).setCell (by simp) _).setCell (by simp) _

set_option maxHeartbeats 4000000 in
theorem rcParse_yes (b o : Nat) (sp : Option Nat) (n cap : Nat) (xs : List UInt8) (w : World) (hBy : ByteSl w Empty (some ⟨b, o, sp⟩) n cap xs) (hm : n ≤ 1048576) (h : hdE xs = 0) (hs : ¬ xs.length < szOf xs) (hsum : sumOk xs = true) :
    Calls Try.prog 16 #[.slice (some ⟨b, o, sp⟩) n cap] w fun e w' => RecOk xs w w' e := by
  have hf := head_facts h
  have hf4 := mayB_iff.1 hf.2.2.2
  obtain ⟨ad', e, hbl, -, hcell⟩ := hBy.2.2.2 (by have := hBy.1; omega)
  cases e
  have hbl : b < w.heap.size := hbl
  have hcap := hBy.2.1
  have hcap2 : cap ≤ 9223372036854775807 := by have := hBy.2.2.1; unfold maxLen at this; omega
  have hO0 := (Only.refl Empty w).alloc (.cells #[.int .i64 0, .int .u32 0, .string ⟨#[]⟩, .slice none 0 0, .int .i64 0] 28)
  obtain ⟨v1, e1, b1⟩ : ∃ v, v = nK xs ∧ v ≤ 255 := ⟨_, rfl, nK_le xs⟩
  obtain ⟨v2, e2, b2⟩ : ∃ v, v = nT xs ∧ v ≤ 4294967295 := ⟨_, rfl, nT_le xs⟩
  obtain ⟨v3, e3, b3⟩ : ∃ v, v = nA xs ∧ v ≤ 64 := ⟨_, rfl, by omega⟩
  obtain ⟨v4, e4, b4⟩ : ∃ v, v = nB xs ∧ v ≤ 4096 := ⟨_, rfl, by omega⟩
  obtain ⟨v5, e5⟩ : ∃ v, v = nC xs := ⟨_, rfl⟩
  have hge : v3 + v4 + 16 ≤ n := by
    unfold szOf at hs
    rw [hBy.1, ← e3, ← e4] at hs
    omega
  obtain ⟨sm, hsm⟩ : ∃ sm, sm = v3 + v4 + 11 := ⟨_, rfl⟩
  have hsum2 := hsum
  unfold sumOk at hsum2
  rw [← e3, ← e4, ← hsm] at hsum2
  obtain ⟨v6, e6, b6⟩ : ∃ v, v = getV ((xs.drop sm).take 4) ∧ v ≤ 4294967295 := ⟨_, rfl, getV_le _ 4 _ (by simp; omega) rfl⟩
  obtain ⟨v7, e7, b7⟩ : ∃ v, v = (crc32 (xs.take sm)).toNat ∧ v ≤ 4294967295 := ⟨_, rfl, by have := (crc32 (xs.take sm)).isLt; omega⟩
  rw [← e6, ← e7] at hsum2
  have N1 : Hid (Calls Try.prog 22 #[.slice (some ⟨b, o, sp⟩) n cap] (w.alloc (.cells #[.int .i64 0, .int .u32 0, .string ⟨#[]⟩, .slice none 0 0, .int .i64 0] 28)) fun e w' => e = .returned (.tuple #[.agg #[.int .i64 (v1 : Int), .int .u32 (v2 : Int), .int .i64 (v3 : Int), .int .i64 (v4 : Int), .int .i64 (v5 : Int)], .int .i64 0]) ∧ Below (w.alloc (.cells #[.int .i64 0, .int .u32 0, .string ⟨#[]⟩, .slice none 0 0, .int .i64 0] 28)).heap.size (w.alloc (.cells #[.int .i64 0, .int .u32 0, .string ⟨#[]⟩, .slice none 0 0, .int .i64 0] 28)) w') := Lib.hid
    ((parseHead_any _ n cap xs _ (hBy.only hO0 (fun _ _ h => h)) hm).mono fun e w' ⟨he, hb⟩ => by
      rw [if_pos h, h, headV, ← e1, ← e2, ← e3, ← e4, ← e5] at he
      exact ⟨he, hb⟩)
  have HBy := Lib.hid hBy
  have N6 : Hid (∀ g W, g ≠ b → Rd W g (some ⟨b, o, sp⟩) n cap sm → ByteSl W Empty (some ⟨b, o, sp⟩) n cap xs → Calls Try.prog 24 #[.pointer (some ⟨g, 0, none⟩), .int .i64 4] W fun e W' => e = .returned (.int .u64 (v6 : Int)) ∧ Rd W' g (some ⟨b, o, sp⟩) n cap (sm + 4) ∧ Only (· = g) W W') := Lib.hid fun g W hg hR hB => by
    rw [e6]; exact number_any g _ n cap sm 4 xs W hR hB (by omega) (by omega) hm (by omega)
  have N7 : Hid (∀ W, ByteSl W Empty (some ⟨b, o, sp⟩) n cap xs → Calls Try.prog 25 #[.slice (some ⟨b, o, sp⟩) sm cap] W fun e W' => e = .returned (.int .u32 (v7 : Int)) ∧ Below W.heap.size W W') := Lib.hid fun W hB => by
    rw [e7]; exact sum32_any _ sm cap (xs.take sm) W (hB.take_ sm (by omega))
  obtain ⟨z8, hz8⟩ : ∃ z, xs[sm + 4]? = some z := ⟨_, List.getElem?_eq_getElem (by have := hBy.1; omega)⟩
  have N8 : Hid (∀ g W, Rd W g (some ⟨b, o, sp⟩) n cap (sm + 4) → ByteSl W Empty (some ⟨b, o, sp⟩) n cap xs → Calls Try.prog 24 #[.pointer (some ⟨g, 0, none⟩), .int .i64 1] W fun e W' => e = .returned (.int .u64 (z8.toNat : Int)) ∧ Rd W' g (some ⟨b, o, sp⟩) n cap (sm + 5) ∧ Only (· = g) W W') := Lib.hid fun g W hR hB => by
    have hv : getV ((xs.drop (sm + 4)).take 1) = z8.toNat := by
      have hl : sm + 4 < xs.length := (List.getElem?_eq_some_iff.1 hz8).1
      have he := (List.getElem?_eq_some_iff.1 hz8).2
      rw [List.drop_eq_getElem_cons hl, he]
      simp [getV]
    rw [← hv]; exact number_any g _ n cap (sm + 4) 1 xs W hR hB (by omega) (by omega) hm (by omega)
  have HOut : Hid (out xs = ⟨v1, v2, (xs.drop 11).take v3, (xs.drop (11 + v3)).take v4, v5, sm + 5, decide (z8 = 0), 0⟩) := Lib.hid (by
    have hp : pE xs = 0 := by unfold pE; rw [if_pos h, if_neg hs]
    have hz : xs[nA xs + nB xs + 15]? = some z8 := by rw [← e3, ← e4, ← hz8]; congr 1; omega
    have hzz : szOf xs = sm + 5 := by unfold szOf; rw [← e3, ← e4]; omega
    unfold out
    rw [if_pos hp, if_pos hsum, hz, ← e1, ← e2, ← e3, ← e4, ← e5, hzz]
    rfl)
  clear hz8
  have he67 : v6 = v7 := of_decide_eq_true hsum2
  subst he67
  have Hsz : Hid (((szOf xs : Nat) : Int) = (sm : Int) + 5) := Lib.hid (by unfold szOf; rw [← e3, ← e4]; omega)
  have E1 := Lib.hid (And.intro e1 (And.intro e2 (And.intro e3 (And.intro e4 e5))))
  clear hsum2 e1 e2 e3 e4 e5 e6 e7
  have Hsm := Lib.hid hsm
  have hge2 : sm + 5 ≤ n := by omega
  clear hf hf4 h hs hBy hO0 hsum hcell hsm hge
  go_enter Try.func16, Try.ntmps16
  go_wp2_with fail
  refine N1.out.mono ?_
  rintro e1 w1 ⟨rfl, hb1⟩
  have HJ1 := Lib.hid ((Blk.new w 28 #[.int .i64 0, .int .u32 0, .string ⟨#[]⟩, .slice none 0 0, .int .i64 0]).of (hb1.block w.heap.size (by simp)))
  have HO1 := Lib.hid (((Only.refl Empty w).alloc (.cells #[.int .i64 0, .int .u32 0, .string ⟨#[]⟩, .slice none 0 0, .int .i64 0] 28)).trans (Only.of_below hb1))
  clear hb1
  go_wp2_with fail
  refine (hSize_any (v1 : Int) (v2 : Int) (v5 : Int) v3 v4 _ (by omega) (by omega)).mono ?_
  rintro e1 w2 ⟨rfl, hb2⟩
  have HJ2 := Lib.hid ((HJ1.out.alloc (.cells #[.int .i64 (v1 : Int), .int .u32 (v2 : Int), .int .i64 (v3 : Int), .int .i64 (v4 : Int), .int .i64 (v5 : Int)] 61)).of (hb2.block w.heap.size (by have := HJ1.out.lt; simp; omega)))
  have HK2 := Lib.hid ((Blk.new w1 61 #[.int .i64 (v1 : Int), .int .u32 (v2 : Int), .int .i64 (v3 : Int), .int .i64 (v4 : Int), .int .i64 (v5 : Int)]).of (hb2.block w1.heap.size (by simp)))
  have HO2 := Lib.hid ((HO1.out.alloc (.cells #[.int .i64 (v1 : Int), .int .u32 (v2 : Int), .int .i64 (v3 : Int), .int .i64 (v4 : Int), .int .i64 (v5 : Int)] 61)).trans (Only.of_below hb2))
  clear hb2
  have hz2 : w1.heap.size < w2.heap.size := HK2.out.lt
  have hz1 : w.heap.size < w1.heap.size := HJ1.out.lt
  rw [show ((v3 + v4 + 16 : Nat) : Int) = (sm : Int) + 5 by have := Hsm.out; omega]
  have hd : decide ((n : Int) < (sm : Int) + 5) = false := by simp; omega
  have hq : (sm : Int) + 5 - 5 = (sm : Int) := by omega
  go_wp2_with fail
  clear hd hq
  have HR3 : Hid (Rd (w2.alloc (.cells #[.slice (some ⟨b, o, sp⟩) n cap, .int .i64 (sm : Int)] 66)).drew w2.heap.size (some ⟨b, o, sp⟩) n cap sm) := Lib.hid (Blk.new w2 66 #[.slice (some ⟨b, o, sp⟩) n cap, .int .i64 (sm : Int)]).drew
  have hO3 : Only Empty w2 (w2.alloc (.cells #[.slice (some ⟨b, o, sp⟩) n cap, .int .i64 (sm : Int)] 66)).drew := ((Only.refl Empty w2).alloc _).drew
  have HO3 := Lib.hid (HO2.out.trans hO3)
  have HB3 := Lib.hid (HBy.out.only HO3.out (fun _ _ h => h))
  have HJ3 := Lib.hid (hO3.blk HJ2.out (fun h => h))
  have HK3 := Lib.hid (hO3.blk HK2.out (fun h => h))
  have Hg : Hid (w2.heap.size ≠ b) := Lib.hid (by omega)
  clear hO3
  have hwv : IntKind.u32.wrap (v6 : Int) = (v6 : Int) := by rw [IntKind.wrap_u32]; omega
  have q1 : (sm : Int) ≤ (cap : Int) := by omega
  have q2 : (sm : Int) ≤ (n : Int) := by omega
  have q3 : (0 : Int) ≤ (sm : Int) := by omega
  have q4 : sm ≤ cap := by omega
  have q5 : sm ≤ n := by omega
  have hT : True := trivial
  go_region_held3 (fun _ => True) (exact hT)
    (first | ((go_at_call 24; (with_reducible refine (N6.out _ _ Hg.out HR3.out HB3.out).mono ?_); rintro e10 w10 ⟨rfl, hR10, hO10⟩; have HB10 := Lib.hid (((HB3.out.mono_of (T := (· = w2.heap.size)) (Ne.symm Hg.out)).only hO10 (fun _ _ h => h)).mono (T := Empty) (fun _ _ h => h.elim)))) | ((go_at_call 25; (with_reducible refine (N7.out _ HB10.out).mono ?_); rintro e11 w11 ⟨rfl, hb11⟩)))
  clear hwv q1 q2 q3 q4 q5
  have hz3 : w2.heap.size < w10.heap.size := hR10.lt
  have hz4 := hb11.size
  have HO11 := Lib.hid (HO3.out.trans' (hO10.trans (Only.of_below hb11)) (fun q h1 h2 => by omega))
  have HR11 : Hid (Rd w11 w2.heap.size (some ⟨b, o, sp⟩) n cap (sm + 4)) := Lib.hid (Blk.of hR10 (hb11.block w2.heap.size (by omega)))
  have HJ11 := Lib.hid ((hO10.blk HJ3.out (by omega)).of (hb11.block w.heap.size (by omega)))
  have HK11 := Lib.hid ((hO10.blk HK3.out (by omega)).of (hb11.block w1.heap.size (by omega)))
  have HB11 := Lib.hid (HBy.out.only HO11.out (fun _ _ h => h))
  clear hR10 hO10 hb11
  have j0 := HJ11.out.cell 0
  have j1 := HJ11.out.cell 1
  have j2 := HJ11.out.cell 2
  have j3 := HJ11.out.cell 3
  have j4 := HJ11.out.cell 4
  have g0 := HJ11.out.frozen 0
  have g1 := HJ11.out.frozen 1
  have g2 := HJ11.out.frozen 2
  have g3 := HJ11.out.frozen 3
  have g4 := HJ11.out.frozen 4
  have y0 := HK11.out.cell 0
  have y1 := HK11.out.cell 1
  have y2 := HK11.out.cell 2
  have y3 := HK11.out.cell 3
  have y4 := HK11.out.cell 4
  simp at j0 j1 j2 j3 j4 y0 y1 y2 y3 y4
  have hy1 : w1.heap.size < w11.heap.size := HK11.out.lt
  have hy0 : w.heap.size < w11.heap.size := HJ11.out.lt
  have hz24 : w2.heap.size < w11.heap.size := by omega
  clear hz4
  go_wp2_with fail
  clear y0 y1 y2 y3 y4
  have HO12 := Lib.hid (HO11.out.alloc (.cells #[.slice (some ⟨b, o, sp⟩) n cap, .int .i64 11] 66))
  have HR12 : Hid (Rd (w11.alloc (.cells #[.slice (some ⟨b, o, sp⟩) n cap, .int .i64 11] 66)) w11.heap.size (some ⟨b, o, sp⟩) n cap 11) := Lib.hid (Blk.new w11 66 _)
  have HB12 : Hid (ByteSl (w11.alloc (.cells #[.slice (some ⟨b, o, sp⟩) n cap, .int .i64 11] 66)) (· = w11.heap.size) (some ⟨b, o, sp⟩) n cap xs) := Lib.hid ((HBy.out.only HO12.out (fun _ _ h => h)).mono_of (by omega))
  refine (record_any w11.heap.size _ n cap (v1 : Int) (v2 : Int) (v5 : Int) v3 v4 xs _ HR12.out HB12.out hm (by have := Hsm.out; omega)).mono ?_
  rintro e1 w12 ⟨⟨_, rfl, A2, n2, cap2, rfl, hl2, hown2⟩, hO12⟩
  have hz12 : w11.heap.size < w12.heap.size := (hO12.size |> fun h => by simp at h; omega)
  have HO13 := Lib.hid (HO12.out.trans' hO12 (fun q h1 h2 => by omega))
  have HJ12 := Lib.hid (hO12.blk (HJ11.out.alloc (.cells #[.slice (some ⟨b, o, sp⟩) n cap, .int .i64 11] 66)) (by omega))
  have HR13 : Hid (Rd w12 w2.heap.size (some ⟨b, o, sp⟩) n cap (sm + 4)) := Lib.hid (hO12.blk (Blk.alloc HR11.out (.cells #[.slice (some ⟨b, o, sp⟩) n cap, .int .i64 11] 66)) (by omega))
  have HB13 := Lib.hid (HBy.out.only HO13.out (fun _ _ h => h))
  have Hown2 : Hid (w12.ownsRow (w11.heap.size + 1) 5 1 (.slice A2 n2 cap2) n2 ((((xs.drop (11 + v3)).take v4)).map B8)) := Lib.hid (own_base hown2 (by simp))
  have Hl2 := Lib.hid hl2
  clear hO12 hown2 hl2 j0 j1 j2 j3 j4 g0 g1 g2 g3 g4
  go_wp2_with fail
  refine (N8.out _ _ HR13.out HB13.out).mono ?_
  rintro e1 w13 ⟨rfl, hR14, hO14⟩
  have hj13 := hO14.blk HJ12.out (by omega)
  have HO15 := Lib.hid (HO13.out.trans' hO14 (fun q h1 h2 => by omega))
  have Hown3 := Lib.hid (own_only Hown2.out hO14 (fun q h1 h2 => by omega))
  have hz13 : w12.heap.size ≤ w13.heap.size := hO14.size
  have j0 := hj13.cell 0
  have j1 := hj13.cell 1
  have j2 := hj13.cell 2
  have j3 := hj13.cell 3
  have j4 := hj13.cell 4
  have g0 := hj13.frozen 0
  have g1 := hj13.frozen 1
  have g2 := hj13.frozen 2
  have g3 := hj13.frozen 3
  have g4 := hj13.frozen 4
  simp at j0 j1 j2 j3 j4
  clear hR14 hO14 hj13
  have hzb := u8_dec z8 0 0 rfl
  go_wp2
  have hS : Only (· = w.heap.size) w13 (((((w13.setCell ⟨w.heap.size, 0, none⟩ (.int .i64 (v1 : Int))).setCell ⟨w.heap.size, 1, none⟩ (.int .u32 (v2 : Int))).setCell ⟨w.heap.size, 2, none⟩ (.string (strB ((xs.drop 11).take v3)))).setCell ⟨w.heap.size, 3, none⟩ (.slice A2 n2 cap2)).setCell ⟨w.heap.size, 4, none⟩ (.int .i64 (v5 : Int))) :=
    (((((Only.refl (· = w.heap.size) w13).setCell (p := ⟨w.heap.size, 0, none⟩) (Or.inl rfl) _).setCell (p := ⟨w.heap.size, 1, none⟩) (Or.inl rfl) _).setCell (p := ⟨w.heap.size, 2, none⟩) (Or.inl rfl) _).setCell (p := ⟨w.heap.size, 3, none⟩) (Or.inl rfl) _).setCell (p := ⟨w.heap.size, 4, none⟩) (Or.inl rfl) _
  refine bodyPost_ret (v := .tuple #[.agg #[.int .i64 (v1 : Int), .int .u32 (v2 : Int), .string (strB ((xs.drop 11).take v3)), .slice A2 n2 cap2, .int .i64 (v5 : Int)], .int .i64 ((sm : Int) + 5), .bool (decide (z8 = 0)), .int .i64 0]) (by simp [results, Try.results16, go_sem, j0, j1, j2, j3, j4]) rfl ⟨⟨A2, n2, cap2, ?_, ?_⟩, ?_⟩
  · rw [HOut.out]
    rfl
  · rw [HOut.out]
    obtain ⟨A', c', e, hg⟩ := Got.of_own (own_base (own_only Hown3.out hS (fun q h1 h2 => by omega)) (show w.heap.size ≤ w11.heap.size + 1 by omega))
    cases e
    exact hg
  · exact (HO15.out.trans' hS (fun q h1 h2 => by omega)).below (Nat.le_refl _) (fun _ _ h => h)

/-- Parse as one answer. -/
theorem rcParse_any (A : Option Addr) (n cap : Nat) (xs : List UInt8) (w : World) (hBy : ByteSl w Empty A n cap xs) (hm : n ≤ 1048576) :
    Calls Try.prog 16 #[.slice A n cap] w fun e w' => RecOk xs w w' e := by
  by_cases h : hdE xs = 0
  · by_cases hs : xs.length < szOf xs
    · exact rcParse_short A n cap xs w hBy hm h hs
    · have hf := head_facts h
      obtain ⟨⟨b, o, sp⟩, rfl, -, -, -⟩ := hBy.2.2.2 (by have := hBy.1; omega)
      cases hsum : sumOk xs with
      | true => exact rcParse_yes b o sp n cap xs w hBy hm h hs hsum
      | false => exact rcParse_sum b o sp n cap xs w hBy hm h hs hsum
  · exact rcParse_no A n cap xs w hBy hm h

end Go.Proofs.Ytidcgobnhfganaa
