/- What Parse answers of any bytes, as plain data; the walks over rec.Parse where a header is refused or the bytes end too early. -/
import Derived.Test.YtnhfmcijadficaaGreatDoorZal
namespace Go.Proofs.YtnhfmcijadficaaGreatDoor
set_option maxRecDepth 100000
open Go.RowKit

/-- How many bytes the record has that a header tells. -/
def szOf (xs : List UInt8) : Nat := nA xs + nB xs + 16
/-- Parse's error. -/
def pE (xs : List UInt8) : Int := if hdE xs = 0 then (if xs.length < szOf xs then 6 else 0) else hdE xs
/-- Has the record its sum of 32 bits? -/
def sumOk (xs : List UInt8) : Bool := decide (getV ((xs.drop (nA xs + nB xs + 11)).take 4) = (crc32 (xs.take (nA xs + nB xs + 11))).toNat)
/-- All that Parse answers. -/
structure Out where
  k : Nat
  t : Nat
  key : List UInt8
  blob : List UInt8
  c : Nat
  size : Nat
  whole : Bool
  e : Int
def out (xs : List UInt8) : Out :=
  if pE xs = 0 then (if sumOk xs = true then ⟨nK xs, nT xs, (xs.drop 11).take (nA xs), (xs.drop (11 + nA xs)).take (nB xs), nC xs, szOf xs, decide (xs[nA xs + nB xs + 15]?.getD 1 = 0), 0⟩ else ⟨0, 0, [], [], 0, szOf xs, false, 0⟩)
  else ⟨0, 0, [], [], 0, 0, false, pE xs⟩
/-- Parse's answer: its record's blob is a row made since base. -/
def RecOk (xs : List UInt8) (w w' : World) (e : Ending) : Prop :=
  (∃ A n cap, e = .returned (.tuple #[.agg #[.int .i64 ((out xs).k : Int), .int .u32 ((out xs).t : Int), .string (strB (out xs).key), .slice A n cap, .int .i64 ((out xs).c : Int)], .int .i64 ((out xs).size : Int), .bool (out xs).whole, .int .i64 (out xs).e]) ∧
    Got w.heap.size w' A n cap (out xs).blob) ∧ Below w.heap.size w w'

/-- The empty record, with a size and an error. -/
def zeroA (s e : Int) : Ending := .returned (.tuple #[.agg #[.int .i64 0, .int .u32 0, .string ⟨#[]⟩, .slice none 0 0, .int .i64 0], .int .i64 s, .bool false, .int .i64 e])
theorem zero_ok {xs : List UInt8} {w w' : World} {s : Nat} {e : Int} (h : out xs = ⟨0, 0, [], [], 0, s, false, e⟩) (hb : Below w.heap.size w w') : RecOk xs w w' (zeroA (s : Int) e) := by
  refine ⟨⟨none, 0, 0, ?_, ?_⟩, hb⟩
  · rw [h]
    rfl
  · rw [h]
    exact Got.nil_ _ _

theorem head_facts {xs : List UInt8} (h : hdE xs = 0) : 11 ≤ xs.length ∧ hdE xs = 0 ∧ nS xs = (crc16 (xs.take 9)).toNat ∧ mayB (nK xs : Int) (nT xs : Int) (nA xs : Int) (nB xs : Int) (nC xs : Int) = true := by
  have h9 := h
  unfold hdE at h
  by_cases h1 : xs[0]?.getD 255 = 255
  · rw [if_pos h1] at h
    cases h
  · rw [if_neg h1] at h
    by_cases h2 : xs.length < 11
    · rw [if_pos h2] at h
      cases h
    · rw [if_neg h2] at h
      by_cases h3 : nS xs = (crc16 (xs.take 9)).toNat
      · rw [if_neg (by simp [h3])] at h
        cases h4 : mayB (nK xs : Int) (nT xs : Int) (nA xs : Int) (nB xs : Int) (nC xs : Int) with
        | true => exact ⟨by omega, h9, h3, rfl⟩
        | false =>
          rw [h4] at h
          simp at h
      · rw [if_pos h3] at h
        cases h

set_option maxHeartbeats 2000000 in
theorem rcParse_no (A : Option Addr) (n cap : Nat) (xs : List UInt8) (w : World) (hB : ByteSl w Empty A n cap xs) (hm : n ≤ 1048576) (h : hdE xs ≠ 0) :
    Calls Tryz.prog 142 #[.slice A n cap] w fun e w' => RecOk xs w w' e := by
  obtain ⟨er, her⟩ : ∃ er, er = hdE xs := ⟨_, rfl⟩
  have hne : (er == 0) = false := by rw [her]; simpa using h
  have hne2 : (er != 0) = true := by simp only [bne, hne]; rfl
  have HC : Hid (∀ w', Below w.heap.size w w' → RecOk xs w w' (zeroA 0 er)) := Lib.hid (fun w' hb => by
    have ho : out xs = ⟨0, 0, [], [], 0, 0, false, er⟩ := by
      unfold out pE
      rw [if_neg h, if_neg h, her]
    exact zero_ok (s := 0) ho hb)
  have hO0 := (Only.refl Empty w).alloc (.cells #[.int .i64 0, .int .u32 0, .string ⟨#[]⟩, .slice none 0 0, .int .i64 0] 161)
  have N1 : Hid (Calls Tryz.prog 174 #[.slice A n cap] (w.alloc (.cells #[.int .i64 0, .int .u32 0, .string ⟨#[]⟩, .slice none 0 0, .int .i64 0] 161)) fun e w' => e = .returned (.tuple #[zeroH, .int .i64 er]) ∧ Below (w.heap.size + 1) (w.alloc (.cells #[.int .i64 0, .int .u32 0, .string ⟨#[]⟩, .slice none 0 0, .int .i64 0] 161)) w') := Lib.hid
    ((parseHead_any A n cap xs _ (hB.only hO0 (fun _ _ h => h)) hm).mono fun e w' ⟨he, hb⟩ => by
      rw [if_neg h, ← her] at he
      exact ⟨he, hb.mono (by simp)⟩)
  unfold zeroH at N1
  clear h her hB hO0
  go_enter Tryz.func142, Tryz.ntmps142
  go_wp2_with fail
  refine N1.out.mono ?_
  rintro e1 w1 ⟨rfl, hb1⟩
  have hj1 := (Blk.new w 161 #[.int .i64 0, .int .u32 0, .string ⟨#[]⟩, .slice none 0 0, .int .i64 0]).of (hb1.block w.heap.size (by omega))
  have HW1 := Lib.hid (((Below.refl w.heap.size w).alloc (Nat.le_refl _) (.cells #[.int .i64 0, .int .u32 0, .string ⟨#[]⟩, .slice none 0 0, .int .i64 0] 161)).trans (hb1.mono (by omega)))
  have hz := hj1.lt
  have j0 := hj1.cell 0
  have j1 := hj1.cell 1
  have j2 := hj1.cell 2
  have j3 := hj1.cell 3
  have j4 := hj1.cell 4
  have g0 := hj1.frozen 0
  have g1 := hj1.frozen 1
  have g2 := hj1.frozen 2
  have g3 := hj1.frozen 3
  have g4 := hj1.frozen 4
  simp at j0 j1 j2 j3 j4
  clear hb1 hj1
  go_wp2
  refine bodyPost_ret (v := .tuple #[.agg #[.int .i64 0, .int .u32 0, .string ⟨#[]⟩, .slice none 0 0, .int .i64 0], .int .i64 0, .bool false, .int .i64 er]) (by simp [results, Tryz.results142, go_sem, j0, j1, j2, j3, j4, hz]) rfl (HC.out _ ?_)
  exact ((((((HW1.out.setCell (by simp) _).setCell (by simp) _).setCell (by simp) _).setCell (by simp) _).setCell (by simp) _).alloc (by simpa using HW1.out.size) _)

set_option maxHeartbeats 2000000 in
theorem rcParse_short (A : Option Addr) (n cap : Nat) (xs : List UInt8) (w : World) (hBy : ByteSl w Empty A n cap xs) (hm : n ≤ 1048576) (h : hdE xs = 0) (hs : xs.length < szOf xs) :
    Calls Tryz.prog 142 #[.slice A n cap] w fun e w' => RecOk xs w w' e := by
  have HC : Hid (∀ w', Below w.heap.size w w' → RecOk xs w w' (zeroA 0 6)) := Lib.hid (fun w' hb => by
    have hp : pE xs = 6 := by unfold pE; rw [if_pos h, if_pos hs]
    have ho : out xs = ⟨0, 0, [], [], 0, 0, false, 6⟩ := by
      unfold out
      rw [hp]
      rfl
    exact zero_ok (s := 0) ho hb)
  have hO0 := (Only.refl Empty w).alloc (.cells #[.int .i64 0, .int .u32 0, .string ⟨#[]⟩, .slice none 0 0, .int .i64 0] 161)
  obtain ⟨v1, e1⟩ : ∃ v, v = nK xs := ⟨_, rfl⟩
  obtain ⟨v2, e2⟩ : ∃ v, v = nT xs := ⟨_, rfl⟩
  obtain ⟨v3, e3, b3⟩ : ∃ v, v = nA xs ∧ v ≤ 255 := ⟨_, rfl, nA_le xs⟩
  obtain ⟨v4, e4, b4⟩ : ∃ v, v = nB xs ∧ v ≤ 65535 := ⟨_, rfl, nB_le xs⟩
  obtain ⟨v5, e5⟩ : ∃ v, v = nC xs := ⟨_, rfl⟩
  have hlt : n < v3 + v4 + 16 := by
    unfold szOf at hs
    rw [hBy.1, ← e3, ← e4] at hs
    exact hs
  have N1 : Hid (Calls Tryz.prog 174 #[.slice A n cap] (w.alloc (.cells #[.int .i64 0, .int .u32 0, .string ⟨#[]⟩, .slice none 0 0, .int .i64 0] 161)) fun e w' => e = .returned (.tuple #[.agg #[.int .i64 (v1 : Int), .int .u32 (v2 : Int), .int .i64 (v3 : Int), .int .i64 (v4 : Int), .int .i64 (v5 : Int)], .int .i64 0]) ∧ Below (w.heap.size + 1) (w.alloc (.cells #[.int .i64 0, .int .u32 0, .string ⟨#[]⟩, .slice none 0 0, .int .i64 0] 161)) w') := Lib.hid
    ((parseHead_any A n cap xs _ (hBy.only hO0 (fun _ _ h => h)) hm).mono fun e w' ⟨he, hb⟩ => by
      rw [if_pos h, h, headV, ← e1, ← e2, ← e3, ← e4, ← e5] at he
      exact ⟨he, hb.mono (by simp)⟩)
  clear h hs hBy hO0 e1 e2 e3 e4 e5
  go_enter Tryz.func142, Tryz.ntmps142
  go_wp2_with fail
  refine N1.out.mono ?_
  rintro e1 w1 ⟨rfl, hb1⟩
  have HJ1 := Lib.hid ((Blk.new w 161 #[.int .i64 0, .int .u32 0, .string ⟨#[]⟩, .slice none 0 0, .int .i64 0]).of (hb1.block w.heap.size (by omega)))
  have HW1 := Lib.hid (((Below.refl w.heap.size w).alloc (Nat.le_refl _) (.cells #[.int .i64 0, .int .u32 0, .string ⟨#[]⟩, .slice none 0 0, .int .i64 0] 161)).trans (hb1.mono (by omega)))
  clear hb1
  go_wp2_with fail
  refine (hSize_any (v1 : Int) (v2 : Int) (v5 : Int) v3 v4 _ (by omega) (by omega)).mono ?_
  rintro e1 w2 ⟨rfl, hb2⟩
  have hj1 := (HJ1.out.alloc (.cells #[.int .i64 (v1 : Int), .int .u32 (v2 : Int), .int .i64 (v3 : Int), .int .i64 (v4 : Int), .int .i64 (v5 : Int)] 199)).of (hb2.block w.heap.size (by have := HJ1.out.lt; simp; omega))
  have HW2 := Lib.hid ((HW1.out.alloc HW1.out.size (.cells #[.int .i64 (v1 : Int), .int .u32 (v2 : Int), .int .i64 (v3 : Int), .int .i64 (v4 : Int), .int .i64 (v5 : Int)] 199)).trans (hb2.mono (by have := HW1.out.size; simp; omega)))
  have hz := hj1.lt
  have j0 := hj1.cell 0
  have j1 := hj1.cell 1
  have j2 := hj1.cell 2
  have j3 := hj1.cell 3
  have j4 := hj1.cell 4
  have g0 := hj1.frozen 0
  have g1 := hj1.frozen 1
  have g2 := hj1.frozen 2
  have g3 := hj1.frozen 3
  have g4 := hj1.frozen 4
  simp at j0 j1 j2 j3 j4
  clear hb2 hj1
  obtain ⟨sz, hsz⟩ : ∃ sz, sz = v3 + v4 + 16 := ⟨_, rfl⟩
  rw [← hsz] at hlt ⊢
  have hd : decide ((n : Int) < (sz : Int)) = true := by simp; omega
  have Hsz := Lib.hid hsz
  clear hsz
  go_wp2
  refine bodyPost_ret (v := .tuple #[.agg #[.int .i64 0, .int .u32 0, .string ⟨#[]⟩, .slice none 0 0, .int .i64 0], .int .i64 0, .bool false, .int .i64 6]) (by simp [results, Tryz.results142, go_sem, j0, j1, j2, j3, j4, hz]) rfl (HC.out _ ?_)
  exact ((((HW2.out.setCell (by simp) _).setCell (by simp) _).setCell (by simp) _).setCell (by simp) _).setCell (by simp) _

end Go.Proofs.YtnhfmcijadficaaGreatDoor

/- The walks over rec.Parse where the record's sum of 32 bits is wrong, and where it is right; Parse as one answer. -/
namespace Go.Proofs.YtnhfmcijadficaaGreatDoor
set_option maxRecDepth 100000
open Go.RowKit

set_option maxHeartbeats 4000000 in
theorem rcParse_sum (b o : Nat) (sp : Option Nat) (n cap : Nat) (xs : List UInt8) (w : World) (hBy : ByteSl w Empty (some ⟨b, o, sp⟩) n cap xs) (hm : n ≤ 1048576) (h : hdE xs = 0) (hs : ¬ xs.length < szOf xs) (hsum : sumOk xs = false) :
    Calls Tryz.prog 142 #[.slice (some ⟨b, o, sp⟩) n cap] w fun e w' => RecOk xs w w' e := by
  have hf := head_facts h
  have hf4 := mayB_iff.1 hf.2.2.2
  have HC : Hid (∀ w' : World, Below w.heap.size w w' → RecOk xs w w' (zeroA ((szOf xs : Nat) : Int) 0)) := Lib.hid (fun w' hb => by
    have hp : pE xs = 0 := by unfold pE; rw [if_pos h, if_neg hs]
    have ho : out xs = ⟨0, 0, [], [], 0, szOf xs, false, 0⟩ := by
      unfold out
      rw [hp, hsum]
      rfl
    exact zero_ok ho hb)
  obtain ⟨ad', e, hbl, -, hcell⟩ := hBy.2.2.2 (by have := hBy.1; omega)
  cases e
  have hbl : b < w.heap.size := hbl
  have hcap := hBy.2.1
  have hcap2 : cap ≤ 9223372036854775807 := by have := hBy.2.2.1; unfold maxLen at this; omega
  have hO0 := (Only.refl Empty w).alloc (.cells #[.int .i64 0, .int .u32 0, .string ⟨#[]⟩, .slice none 0 0, .int .i64 0] 161)
  obtain ⟨v1, e1, b1⟩ : ∃ v, v = nK xs ∧ v ≤ 255 := ⟨_, rfl, nK_le xs⟩
  obtain ⟨v2, e2, b2⟩ : ∃ v, v = nT xs ∧ v ≤ 4294967295 := ⟨_, rfl, nT_le xs⟩
  obtain ⟨v3, e3, b3⟩ : ∃ v, v = nA xs ∧ v ≤ 64 := ⟨_, rfl, by omega⟩
  obtain ⟨v4, e4, b4⟩ : ∃ v, v = nB xs ∧ v ≤ 4096 := ⟨_, rfl, by omega⟩
  obtain ⟨v5, e5⟩ : ∃ v, v = nC xs := ⟨_, rfl⟩
  have hge : v3 + v4 + 16 ≤ n := by
    unfold szOf at hs
    rw [hBy.1, ← e3, ← e4] at hs
    omega
  obtain ⟨sm, hsm⟩ : ∃ sm, sm = v3 + v4 + 11 := ⟨_, rfl⟩
  have hsum2 := hsum
  unfold sumOk at hsum2
  rw [← e3, ← e4, ← hsm] at hsum2
  obtain ⟨v6, e6, b6⟩ : ∃ v, v = getV ((xs.drop sm).take 4) ∧ v ≤ 4294967295 := ⟨_, rfl, getV_le _ 4 _ (by simp; omega) rfl⟩
  obtain ⟨v7, e7, b7⟩ : ∃ v, v = (crc32 (xs.take sm)).toNat ∧ v ≤ 4294967295 := ⟨_, rfl, by have := (crc32 (xs.take sm)).isLt; omega⟩
  rw [← e6, ← e7] at hsum2
  have N1 : Hid (Calls Tryz.prog 174 #[.slice (some ⟨b, o, sp⟩) n cap] (w.alloc (.cells #[.int .i64 0, .int .u32 0, .string ⟨#[]⟩, .slice none 0 0, .int .i64 0] 161)) fun e w' => e = .returned (.tuple #[.agg #[.int .i64 (v1 : Int), .int .u32 (v2 : Int), .int .i64 (v3 : Int), .int .i64 (v4 : Int), .int .i64 (v5 : Int)], .int .i64 0]) ∧ Below (w.alloc (.cells #[.int .i64 0, .int .u32 0, .string ⟨#[]⟩, .slice none 0 0, .int .i64 0] 161)).heap.size (w.alloc (.cells #[.int .i64 0, .int .u32 0, .string ⟨#[]⟩, .slice none 0 0, .int .i64 0] 161)) w') := Lib.hid
    ((parseHead_any _ n cap xs _ (hBy.only hO0 (fun _ _ h => h)) hm).mono fun e w' ⟨he, hb⟩ => by
      rw [if_pos h, h, headV, ← e1, ← e2, ← e3, ← e4, ← e5] at he
      exact ⟨he, hb⟩)
  have HBy := Lib.hid hBy
  have N6 : Hid (∀ g W, g ≠ b → Rd W g (some ⟨b, o, sp⟩) n cap sm → ByteSl W Empty (some ⟨b, o, sp⟩) n cap xs → Calls Tryz.prog 175 #[.pointer (some ⟨g, 0, none⟩), .int .i64 4] W fun e W' => e = .returned (.int .u64 (v6 : Int)) ∧ Rd W' g (some ⟨b, o, sp⟩) n cap (sm + 4) ∧ Only (· = g) W W') := Lib.hid fun g W hg hR hB => by
    rw [e6]; exact number_any g _ n cap sm 4 xs W hR hB (by omega) (by omega) hm (by omega)
  have N7 : Hid (∀ W, ByteSl W Empty (some ⟨b, o, sp⟩) n cap xs → Calls Tryz.prog 159 #[.slice (some ⟨b, o, sp⟩) sm cap] W fun e W' => e = .returned (.int .u32 (v7 : Int)) ∧ Below W.heap.size W W') := Lib.hid fun W hB => by
    rw [e7]; exact sum32_any _ sm cap (xs.take sm) W (hB.take_ sm (by omega))
  have hne := of_decide_eq_false hsum2
  have hne1 : ((v6 : Int) == (v7 : Int)) = false := by
    rw [beq_eq_false_iff_ne]
    intro e
    exact hne (by omega)
  have hne2 : ((v6 : Int) != (v7 : Int)) = true := by simp only [bne, hne1]; rfl
  have Hsz : Hid (((szOf xs : Nat) : Int) = (sm : Int) + 5) := Lib.hid (by unfold szOf; rw [← e3, ← e4]; omega)
  rw [Hsz.out] at HC
  clear hne hsum2 e1 e2 e3 e4 e5 e6 e7
  have Hsm := Lib.hid hsm
  have hge2 : sm + 5 ≤ n := by omega
  clear hf hf4 h hs hBy hO0 hsum hcell hsm hge
  go_enter Tryz.func142, Tryz.ntmps142
  go_wp2_with fail
  refine N1.out.mono ?_
  rintro e1 w1 ⟨rfl, hb1⟩
  have HJ1 := Lib.hid ((Blk.new w 161 #[.int .i64 0, .int .u32 0, .string ⟨#[]⟩, .slice none 0 0, .int .i64 0]).of (hb1.block w.heap.size (by simp)))
  have HO1 := Lib.hid (((Only.refl Empty w).alloc (.cells #[.int .i64 0, .int .u32 0, .string ⟨#[]⟩, .slice none 0 0, .int .i64 0] 161)).trans (Only.of_below hb1))
  clear hb1
  go_wp2_with fail
  refine (hSize_any (v1 : Int) (v2 : Int) (v5 : Int) v3 v4 _ (by omega) (by omega)).mono ?_
  rintro e1 w2 ⟨rfl, hb2⟩
  have HJ2 := Lib.hid ((HJ1.out.alloc (.cells #[.int .i64 (v1 : Int), .int .u32 (v2 : Int), .int .i64 (v3 : Int), .int .i64 (v4 : Int), .int .i64 (v5 : Int)] 199)).of (hb2.block w.heap.size (by have := HJ1.out.lt; simp; omega)))
  have HK2 := Lib.hid ((Blk.new w1 199 #[.int .i64 (v1 : Int), .int .u32 (v2 : Int), .int .i64 (v3 : Int), .int .i64 (v4 : Int), .int .i64 (v5 : Int)]).of (hb2.block w1.heap.size (by simp)))
  have HO2 := Lib.hid ((HO1.out.alloc (.cells #[.int .i64 (v1 : Int), .int .u32 (v2 : Int), .int .i64 (v3 : Int), .int .i64 (v4 : Int), .int .i64 (v5 : Int)] 199)).trans (Only.of_below hb2))
  clear hb2
  have hz2 : w1.heap.size < w2.heap.size := HK2.out.lt
  have hz1 : w.heap.size < w1.heap.size := HJ1.out.lt
  rw [show ((v3 + v4 + 16 : Nat) : Int) = (sm : Int) + 5 by have := Hsm.out; omega]
  have hd : decide ((n : Int) < (sm : Int) + 5) = false := by simp; omega
  have hq : (sm : Int) + 5 - 5 = (sm : Int) := by omega
  go_wp2_with fail
  clear hd hq
  have HR3 : Hid (Rd (w2.alloc (.cells #[.slice (some ⟨b, o, sp⟩) n cap, .int .i64 (sm : Int)] 254)).drew w2.heap.size (some ⟨b, o, sp⟩) n cap sm) := Lib.hid (Blk.new w2 254 #[.slice (some ⟨b, o, sp⟩) n cap, .int .i64 (sm : Int)]).drew
  have hO3 : Only Empty w2 (w2.alloc (.cells #[.slice (some ⟨b, o, sp⟩) n cap, .int .i64 (sm : Int)] 254)).drew := ((Only.refl Empty w2).alloc _).drew
  have HO3 := Lib.hid (HO2.out.trans hO3)
  have HB3 := Lib.hid (HBy.out.only HO3.out (fun _ _ h => h))
  have HJ3 := Lib.hid (hO3.blk HJ2.out (fun h => h))
  have HK3 := Lib.hid (hO3.blk HK2.out (fun h => h))
  have Hg : Hid (w2.heap.size ≠ b) := Lib.hid (by omega)
  clear hO3
  have hwv : IntKind.u32.wrap (v6 : Int) = (v6 : Int) := by rw [IntKind.wrap_u32]; omega
  have q1 : (sm : Int) ≤ (cap : Int) := by omega
  have q2 : (sm : Int) ≤ (n : Int) := by omega
  have q3 : (0 : Int) ≤ (sm : Int) := by omega
  have q4 : sm ≤ cap := by omega
  have q5 : sm ≤ n := by omega
  have hT : True := trivial
  go_region_held3 (fun _ => True) (exact hT)
    (first | ((go_at_call 175; (with_reducible refine (N6.out _ _ Hg.out HR3.out HB3.out).mono ?_); rintro e10 w10 ⟨rfl, hR10, hO10⟩; have HB10 := Lib.hid (((HB3.out.mono_of (T := (· = w2.heap.size)) (Ne.symm Hg.out)).only hO10 (fun _ _ h => h)).mono (T := Empty) (fun _ _ h => h.elim)))) | ((go_at_call 159; (with_reducible refine (N7.out _ HB10.out).mono ?_); rintro e11 w11 ⟨rfl, hb11⟩)))
  clear hwv q1 q2 q3 q4 q5
  have hz3 : w2.heap.size < w10.heap.size := hR10.lt
  have hz4 := hb11.size
  have HO11 := Lib.hid (HO3.out.trans' (hO10.trans (Only.of_below hb11)) (fun q h1 h2 => by omega))
  have HR11 : Hid (Rd w11 w2.heap.size (some ⟨b, o, sp⟩) n cap (sm + 4)) := Lib.hid (Blk.of hR10 (hb11.block w2.heap.size (by omega)))
  have HJ11 := Lib.hid ((hO10.blk HJ3.out (by omega)).of (hb11.block w.heap.size (by omega)))
  have HK11 := Lib.hid ((hO10.blk HK3.out (by omega)).of (hb11.block w1.heap.size (by omega)))
  have HB11 := Lib.hid (HBy.out.only HO11.out (fun _ _ h => h))
  clear hR10 hO10 hb11
  have j0 := HJ11.out.cell 0
  have j1 := HJ11.out.cell 1
  have j2 := HJ11.out.cell 2
  have j3 := HJ11.out.cell 3
  have j4 := HJ11.out.cell 4
  have g0 := HJ11.out.frozen 0
  have g1 := HJ11.out.frozen 1
  have g2 := HJ11.out.frozen 2
  have g3 := HJ11.out.frozen 3
  have g4 := HJ11.out.frozen 4
  simp at j0 j1 j2 j3 j4
  go_wp2
  refine bodyPost_ret (v := .tuple #[.agg #[.int .i64 0, .int .u32 0, .string ⟨#[]⟩, .slice none 0 0, .int .i64 0], .int .i64 ((sm : Int) + 5), .bool false, .int .i64 0]) (by simp [results, Tryz.results142, go_sem, j0, j1, j2, j3, j4]) rfl (HC.out _ ?_)
  exact (((((HO11.out.below (Nat.le_refl _) (fun _ _ h => h)).setCell (by simp) _).setCell (by simp) _).setCell (by simp) _).setCell (by simp) _).setCell (by simp) _

set_option maxHeartbeats 4000000 in
theorem rcParse_yes (b o : Nat) (sp : Option Nat) (n cap : Nat) (xs : List UInt8) (w : World) (hBy : ByteSl w Empty (some ⟨b, o, sp⟩) n cap xs) (hm : n ≤ 1048576) (h : hdE xs = 0) (hs : ¬ xs.length < szOf xs) (hsum : sumOk xs = true) :
    Calls Tryz.prog 142 #[.slice (some ⟨b, o, sp⟩) n cap] w fun e w' => RecOk xs w w' e := by
  have hf := head_facts h
  have hf4 := mayB_iff.1 hf.2.2.2
  obtain ⟨ad', e, hbl, -, hcell⟩ := hBy.2.2.2 (by have := hBy.1; omega)
  cases e
  have hbl : b < w.heap.size := hbl
  have hcap := hBy.2.1
  have hcap2 : cap ≤ 9223372036854775807 := by have := hBy.2.2.1; unfold maxLen at this; omega
  have hO0 := (Only.refl Empty w).alloc (.cells #[.int .i64 0, .int .u32 0, .string ⟨#[]⟩, .slice none 0 0, .int .i64 0] 161)
  obtain ⟨v1, e1, b1⟩ : ∃ v, v = nK xs ∧ v ≤ 255 := ⟨_, rfl, nK_le xs⟩
  obtain ⟨v2, e2, b2⟩ : ∃ v, v = nT xs ∧ v ≤ 4294967295 := ⟨_, rfl, nT_le xs⟩
  obtain ⟨v3, e3, b3⟩ : ∃ v, v = nA xs ∧ v ≤ 64 := ⟨_, rfl, by omega⟩
  obtain ⟨v4, e4, b4⟩ : ∃ v, v = nB xs ∧ v ≤ 4096 := ⟨_, rfl, by omega⟩
  obtain ⟨v5, e5⟩ : ∃ v, v = nC xs := ⟨_, rfl⟩
  have hge : v3 + v4 + 16 ≤ n := by
    unfold szOf at hs
    rw [hBy.1, ← e3, ← e4] at hs
    omega
  obtain ⟨sm, hsm⟩ : ∃ sm, sm = v3 + v4 + 11 := ⟨_, rfl⟩
  have hsum2 := hsum
  unfold sumOk at hsum2
  rw [← e3, ← e4, ← hsm] at hsum2
  obtain ⟨v6, e6, b6⟩ : ∃ v, v = getV ((xs.drop sm).take 4) ∧ v ≤ 4294967295 := ⟨_, rfl, getV_le _ 4 _ (by simp; omega) rfl⟩
  obtain ⟨v7, e7, b7⟩ : ∃ v, v = (crc32 (xs.take sm)).toNat ∧ v ≤ 4294967295 := ⟨_, rfl, by have := (crc32 (xs.take sm)).isLt; omega⟩
  rw [← e6, ← e7] at hsum2
  have N1 : Hid (Calls Tryz.prog 174 #[.slice (some ⟨b, o, sp⟩) n cap] (w.alloc (.cells #[.int .i64 0, .int .u32 0, .string ⟨#[]⟩, .slice none 0 0, .int .i64 0] 161)) fun e w' => e = .returned (.tuple #[.agg #[.int .i64 (v1 : Int), .int .u32 (v2 : Int), .int .i64 (v3 : Int), .int .i64 (v4 : Int), .int .i64 (v5 : Int)], .int .i64 0]) ∧ Below (w.alloc (.cells #[.int .i64 0, .int .u32 0, .string ⟨#[]⟩, .slice none 0 0, .int .i64 0] 161)).heap.size (w.alloc (.cells #[.int .i64 0, .int .u32 0, .string ⟨#[]⟩, .slice none 0 0, .int .i64 0] 161)) w') := Lib.hid
    ((parseHead_any _ n cap xs _ (hBy.only hO0 (fun _ _ h => h)) hm).mono fun e w' ⟨he, hb⟩ => by
      rw [if_pos h, h, headV, ← e1, ← e2, ← e3, ← e4, ← e5] at he
      exact ⟨he, hb⟩)
  have HBy := Lib.hid hBy
  have N6 : Hid (∀ g W, g ≠ b → Rd W g (some ⟨b, o, sp⟩) n cap sm → ByteSl W Empty (some ⟨b, o, sp⟩) n cap xs → Calls Tryz.prog 175 #[.pointer (some ⟨g, 0, none⟩), .int .i64 4] W fun e W' => e = .returned (.int .u64 (v6 : Int)) ∧ Rd W' g (some ⟨b, o, sp⟩) n cap (sm + 4) ∧ Only (· = g) W W') := Lib.hid fun g W hg hR hB => by
    rw [e6]; exact number_any g _ n cap sm 4 xs W hR hB (by omega) (by omega) hm (by omega)
  have N7 : Hid (∀ W, ByteSl W Empty (some ⟨b, o, sp⟩) n cap xs → Calls Tryz.prog 159 #[.slice (some ⟨b, o, sp⟩) sm cap] W fun e W' => e = .returned (.int .u32 (v7 : Int)) ∧ Below W.heap.size W W') := Lib.hid fun W hB => by
    rw [e7]; exact sum32_any _ sm cap (xs.take sm) W (hB.take_ sm (by omega))
  obtain ⟨z8, hz8⟩ : ∃ z, xs[sm + 4]? = some z := ⟨_, List.getElem?_eq_getElem (by have := hBy.1; omega)⟩
  have N8 : Hid (∀ g W, Rd W g (some ⟨b, o, sp⟩) n cap (sm + 4) → ByteSl W Empty (some ⟨b, o, sp⟩) n cap xs → Calls Tryz.prog 175 #[.pointer (some ⟨g, 0, none⟩), .int .i64 1] W fun e W' => e = .returned (.int .u64 (z8.toNat : Int)) ∧ Rd W' g (some ⟨b, o, sp⟩) n cap (sm + 5) ∧ Only (· = g) W W') := Lib.hid fun g W hR hB => by
    have hv : getV ((xs.drop (sm + 4)).take 1) = z8.toNat := by
      have hl : sm + 4 < xs.length := (List.getElem?_eq_some_iff.1 hz8).1
      have he := (List.getElem?_eq_some_iff.1 hz8).2
      rw [List.drop_eq_getElem_cons hl, he]
      simp [getV]
    rw [← hv]; exact number_any g _ n cap (sm + 4) 1 xs W hR hB (by omega) (by omega) hm (by omega)
  have HOut : Hid (out xs = ⟨v1, v2, (xs.drop 11).take v3, (xs.drop (11 + v3)).take v4, v5, sm + 5, decide (z8 = 0), 0⟩) := Lib.hid (by
    have hp : pE xs = 0 := by unfold pE; rw [if_pos h, if_neg hs]
    have hz : xs[nA xs + nB xs + 15]? = some z8 := by rw [← e3, ← e4, ← hz8]; congr 1; omega
    have hzz : szOf xs = sm + 5 := by unfold szOf; rw [← e3, ← e4]; omega
    unfold out
    rw [if_pos hp, if_pos hsum, hz, ← e1, ← e2, ← e3, ← e4, ← e5, hzz]
    rfl)
  clear hz8
  have he67 : v6 = v7 := of_decide_eq_true hsum2
  subst he67
  have Hsz : Hid (((szOf xs : Nat) : Int) = (sm : Int) + 5) := Lib.hid (by unfold szOf; rw [← e3, ← e4]; omega)
  have E1 := Lib.hid (And.intro e1 (And.intro e2 (And.intro e3 (And.intro e4 e5))))
  clear hsum2 e1 e2 e3 e4 e5 e6 e7
  have Hsm := Lib.hid hsm
  have hge2 : sm + 5 ≤ n := by omega
  clear hf hf4 h hs hBy hO0 hsum hcell hsm hge
  go_enter Tryz.func142, Tryz.ntmps142
  go_wp2_with fail
  refine N1.out.mono ?_
  rintro e1 w1 ⟨rfl, hb1⟩
  have HJ1 := Lib.hid ((Blk.new w 161 #[.int .i64 0, .int .u32 0, .string ⟨#[]⟩, .slice none 0 0, .int .i64 0]).of (hb1.block w.heap.size (by simp)))
  have HO1 := Lib.hid (((Only.refl Empty w).alloc (.cells #[.int .i64 0, .int .u32 0, .string ⟨#[]⟩, .slice none 0 0, .int .i64 0] 161)).trans (Only.of_below hb1))
  clear hb1
  go_wp2_with fail
  refine (hSize_any (v1 : Int) (v2 : Int) (v5 : Int) v3 v4 _ (by omega) (by omega)).mono ?_
  rintro e1 w2 ⟨rfl, hb2⟩
  have HJ2 := Lib.hid ((HJ1.out.alloc (.cells #[.int .i64 (v1 : Int), .int .u32 (v2 : Int), .int .i64 (v3 : Int), .int .i64 (v4 : Int), .int .i64 (v5 : Int)] 199)).of (hb2.block w.heap.size (by have := HJ1.out.lt; simp; omega)))
  have HK2 := Lib.hid ((Blk.new w1 199 #[.int .i64 (v1 : Int), .int .u32 (v2 : Int), .int .i64 (v3 : Int), .int .i64 (v4 : Int), .int .i64 (v5 : Int)]).of (hb2.block w1.heap.size (by simp)))
  have HO2 := Lib.hid ((HO1.out.alloc (.cells #[.int .i64 (v1 : Int), .int .u32 (v2 : Int), .int .i64 (v3 : Int), .int .i64 (v4 : Int), .int .i64 (v5 : Int)] 199)).trans (Only.of_below hb2))
  clear hb2
  have hz2 : w1.heap.size < w2.heap.size := HK2.out.lt
  have hz1 : w.heap.size < w1.heap.size := HJ1.out.lt
  rw [show ((v3 + v4 + 16 : Nat) : Int) = (sm : Int) + 5 by have := Hsm.out; omega]
  have hd : decide ((n : Int) < (sm : Int) + 5) = false := by simp; omega
  have hq : (sm : Int) + 5 - 5 = (sm : Int) := by omega
  go_wp2_with fail
  clear hd hq
  have HR3 : Hid (Rd (w2.alloc (.cells #[.slice (some ⟨b, o, sp⟩) n cap, .int .i64 (sm : Int)] 254)).drew w2.heap.size (some ⟨b, o, sp⟩) n cap sm) := Lib.hid (Blk.new w2 254 #[.slice (some ⟨b, o, sp⟩) n cap, .int .i64 (sm : Int)]).drew
  have hO3 : Only Empty w2 (w2.alloc (.cells #[.slice (some ⟨b, o, sp⟩) n cap, .int .i64 (sm : Int)] 254)).drew := ((Only.refl Empty w2).alloc _).drew
  have HO3 := Lib.hid (HO2.out.trans hO3)
  have HB3 := Lib.hid (HBy.out.only HO3.out (fun _ _ h => h))
  have HJ3 := Lib.hid (hO3.blk HJ2.out (fun h => h))
  have HK3 := Lib.hid (hO3.blk HK2.out (fun h => h))
  have Hg : Hid (w2.heap.size ≠ b) := Lib.hid (by omega)
  clear hO3
  have hwv : IntKind.u32.wrap (v6 : Int) = (v6 : Int) := by rw [IntKind.wrap_u32]; omega
  have q1 : (sm : Int) ≤ (cap : Int) := by omega
  have q2 : (sm : Int) ≤ (n : Int) := by omega
  have q3 : (0 : Int) ≤ (sm : Int) := by omega
  have q4 : sm ≤ cap := by omega
  have q5 : sm ≤ n := by omega
  have hT : True := trivial
  go_region_held3 (fun _ => True) (exact hT)
    (first | ((go_at_call 175; (with_reducible refine (N6.out _ _ Hg.out HR3.out HB3.out).mono ?_); rintro e10 w10 ⟨rfl, hR10, hO10⟩; have HB10 := Lib.hid (((HB3.out.mono_of (T := (· = w2.heap.size)) (Ne.symm Hg.out)).only hO10 (fun _ _ h => h)).mono (T := Empty) (fun _ _ h => h.elim)))) | ((go_at_call 159; (with_reducible refine (N7.out _ HB10.out).mono ?_); rintro e11 w11 ⟨rfl, hb11⟩)))
  clear hwv q1 q2 q3 q4 q5
  have hz3 : w2.heap.size < w10.heap.size := hR10.lt
  have hz4 := hb11.size
  have HO11 := Lib.hid (HO3.out.trans' (hO10.trans (Only.of_below hb11)) (fun q h1 h2 => by omega))
  have HR11 : Hid (Rd w11 w2.heap.size (some ⟨b, o, sp⟩) n cap (sm + 4)) := Lib.hid (Blk.of hR10 (hb11.block w2.heap.size (by omega)))
  have HJ11 := Lib.hid ((hO10.blk HJ3.out (by omega)).of (hb11.block w.heap.size (by omega)))
  have HK11 := Lib.hid ((hO10.blk HK3.out (by omega)).of (hb11.block w1.heap.size (by omega)))
  have HB11 := Lib.hid (HBy.out.only HO11.out (fun _ _ h => h))
  clear hR10 hO10 hb11
  have j0 := HJ11.out.cell 0
  have j1 := HJ11.out.cell 1
  have j2 := HJ11.out.cell 2
  have j3 := HJ11.out.cell 3
  have j4 := HJ11.out.cell 4
  have g0 := HJ11.out.frozen 0
  have g1 := HJ11.out.frozen 1
  have g2 := HJ11.out.frozen 2
  have g3 := HJ11.out.frozen 3
  have g4 := HJ11.out.frozen 4
  have y0 := HK11.out.cell 0
  have y1 := HK11.out.cell 1
  have y2 := HK11.out.cell 2
  have y3 := HK11.out.cell 3
  have y4 := HK11.out.cell 4
  simp at j0 j1 j2 j3 j4 y0 y1 y2 y3 y4
  have hy1 : w1.heap.size < w11.heap.size := HK11.out.lt
  have hy0 : w.heap.size < w11.heap.size := HJ11.out.lt
  have hz24 : w2.heap.size < w11.heap.size := by omega
  clear hz4
  go_wp2_with fail
  clear y0 y1 y2 y3 y4
  have HO12 := Lib.hid (HO11.out.alloc (.cells #[.slice (some ⟨b, o, sp⟩) n cap, .int .i64 11] 254))
  have HR12 : Hid (Rd (w11.alloc (.cells #[.slice (some ⟨b, o, sp⟩) n cap, .int .i64 11] 254)) w11.heap.size (some ⟨b, o, sp⟩) n cap 11) := Lib.hid (Blk.new w11 254 _)
  have HB12 : Hid (ByteSl (w11.alloc (.cells #[.slice (some ⟨b, o, sp⟩) n cap, .int .i64 11] 254)) (· = w11.heap.size) (some ⟨b, o, sp⟩) n cap xs) := Lib.hid ((HBy.out.only HO12.out (fun _ _ h => h)).mono_of (by omega))
  refine (record_any w11.heap.size _ n cap (v1 : Int) (v2 : Int) (v5 : Int) v3 v4 xs _ HR12.out HB12.out hm (by have := Hsm.out; omega)).mono ?_
  rintro e1 w12 ⟨⟨_, rfl, A2, n2, cap2, rfl, hl2, hown2⟩, hO12⟩
  have hz12 : w11.heap.size < w12.heap.size := (hO12.size |> fun h => by simp at h; omega)
  have HO13 := Lib.hid (HO12.out.trans' hO12 (fun q h1 h2 => by omega))
  have HJ12 := Lib.hid (hO12.blk (HJ11.out.alloc (.cells #[.slice (some ⟨b, o, sp⟩) n cap, .int .i64 11] 254)) (by omega))
  have HR13 : Hid (Rd w12 w2.heap.size (some ⟨b, o, sp⟩) n cap (sm + 4)) := Lib.hid (hO12.blk (Blk.alloc HR11.out (.cells #[.slice (some ⟨b, o, sp⟩) n cap, .int .i64 11] 254)) (by omega))
  have HB13 := Lib.hid (HBy.out.only HO13.out (fun _ _ h => h))
  have Hown2 : Hid (w12.ownsRow (w11.heap.size + 1) 5 1 (.slice A2 n2 cap2) n2 ((((xs.drop (11 + v3)).take v4)).map B8)) := Lib.hid (own_base hown2 (by simp))
  have Hl2 := Lib.hid hl2
  clear hO12 hown2 hl2 j0 j1 j2 j3 j4 g0 g1 g2 g3 g4
  go_wp2_with fail
  refine (N8.out _ _ HR13.out HB13.out).mono ?_
  rintro e1 w13 ⟨rfl, hR14, hO14⟩
  have hj13 := hO14.blk HJ12.out (by omega)
  have HO15 := Lib.hid (HO13.out.trans' hO14 (fun q h1 h2 => by omega))
  have Hown3 := Lib.hid (own_only Hown2.out hO14 (fun q h1 h2 => by omega))
  have hz13 : w12.heap.size ≤ w13.heap.size := hO14.size
  have j0 := hj13.cell 0
  have j1 := hj13.cell 1
  have j2 := hj13.cell 2
  have j3 := hj13.cell 3
  have j4 := hj13.cell 4
  have g0 := hj13.frozen 0
  have g1 := hj13.frozen 1
  have g2 := hj13.frozen 2
  have g3 := hj13.frozen 3
  have g4 := hj13.frozen 4
  simp at j0 j1 j2 j3 j4
  clear hR14 hO14 hj13
  have hzb := u8_dec z8 0 0 rfl
  go_wp2
  have hS : Only (· = w.heap.size) w13 (((((w13.setCell ⟨w.heap.size, 0, none⟩ (.int .i64 (v1 : Int))).setCell ⟨w.heap.size, 1, none⟩ (.int .u32 (v2 : Int))).setCell ⟨w.heap.size, 2, none⟩ (.string (strB ((xs.drop 11).take v3)))).setCell ⟨w.heap.size, 3, none⟩ (.slice A2 n2 cap2)).setCell ⟨w.heap.size, 4, none⟩ (.int .i64 (v5 : Int))) :=
    (((((Only.refl (· = w.heap.size) w13).setCell (p := ⟨w.heap.size, 0, none⟩) (Or.inl rfl) _).setCell (p := ⟨w.heap.size, 1, none⟩) (Or.inl rfl) _).setCell (p := ⟨w.heap.size, 2, none⟩) (Or.inl rfl) _).setCell (p := ⟨w.heap.size, 3, none⟩) (Or.inl rfl) _).setCell (p := ⟨w.heap.size, 4, none⟩) (Or.inl rfl) _
  refine bodyPost_ret (v := .tuple #[.agg #[.int .i64 (v1 : Int), .int .u32 (v2 : Int), .string (strB ((xs.drop 11).take v3)), .slice A2 n2 cap2, .int .i64 (v5 : Int)], .int .i64 ((sm : Int) + 5), .bool (decide (z8 = 0)), .int .i64 0]) (by simp [results, Tryz.results142, go_sem, j0, j1, j2, j3, j4]) rfl ⟨⟨A2, n2, cap2, ?_, ?_⟩, ?_⟩
  · rw [HOut.out]
    rfl
  · rw [HOut.out]
    obtain ⟨A', c', e, hg⟩ := Got.of_own (own_base (own_only Hown3.out hS (fun q h1 h2 => by omega)) (show w.heap.size ≤ w11.heap.size + 1 by omega))
    cases e
    exact hg
  · exact (HO15.out.trans' hS (fun q h1 h2 => by omega)).below (Nat.le_refl _) (fun _ _ h => h)

/-- Parse as one answer. -/
theorem rcParse_any (A : Option Addr) (n cap : Nat) (xs : List UInt8) (w : World) (hBy : ByteSl w Empty A n cap xs) (hm : n ≤ 1048576) :
    Calls Tryz.prog 142 #[.slice A n cap] w fun e w' => RecOk xs w w' e := by
  by_cases h : hdE xs = 0
  · by_cases hs : xs.length < szOf xs
    · exact rcParse_short A n cap xs w hBy hm h hs
    · have hf := head_facts h
      obtain ⟨⟨b, o, sp⟩, rfl, -, -, -⟩ := hBy.2.2.2 (by have := hBy.1; omega)
      cases hsum : sumOk xs with
      | true => exact rcParse_yes b o sp n cap xs w hBy hm h hs hsum
      | false => exact rcParse_sum b o sp n cap xs w hBy hm h hs hsum
  · exact rcParse_no A n cap xs w hBy hm h

end Go.Proofs.YtnhfmcijadficaaGreatDoor

/- What Parse answers of bytes that were made, as plain lists: as they were made; with a header, or a body, of which bits are turned. -/
namespace Go.Proofs.YtnhfmcijadficaaGreatDoor
set_option maxRecDepth 100000
open Go.RowKit

/-- A part in the midst of a row. -/
theorem mid_part (ys p m s : List UInt8) (a k : Nat) (h : ys = p ++ m ++ s) (hp : p.length = a) (hm : m.length = k) : (ys.drop a).take k = m := by
  subst h hp hm
  rw [List.append_assoc, List.drop_left, List.take_left]
theorem first_part (ys p s : List UInt8) (a : Nat) (h : ys = p ++ s) (hp : p.length = a) : ys.take a = p := by
  subst h hp
  rw [List.take_left]
theorem at_part (ys p s : List UInt8) (x : UInt8) (a : Nat) (h : ys = p ++ x :: s) (hp : p.length = a) : ys[a]? = some x := by
  subst h hp
  rw [List.getElem?_append_right (Nat.le_refl _)]
  simp

theorem getV_byte (v n m : Nat) (h : v ≤ m) (hm : 2 ^ (8 * n) = m + 1) : getV (putL v n) = v := by
  rw [getV_putL, hm]
  exact Nat.mod_eq_of_lt (by omega)

/-- What a header that was made tells. -/
theorem head_made (k t a b c : Nat) (rest : List UInt8) (hmay : mayB (k : Int) (t : Int) (a : Int) (b : Int) (c : Int) = true) (ht : t ≤ 4294967295) :
    nK (headR k t a b c ++ rest) = k ∧ nT (headR k t a b c ++ rest) = t ∧ nA (headR k t a b c ++ rest) = a ∧ nB (headR k t a b c ++ rest) = b ∧ nC (headR k t a b c ++ rest) = c ∧ hdE (headR k t a b c ++ rest) = 0 := by
  have hf := mayB_iff.1 hmay
  have hk : k ≤ 255 := by omega
  have ha : a ≤ 255 := by omega
  have hb : b ≤ 65535 := by omega
  have hc : c ≤ 255 := by omega
  obtain ⟨S, hS⟩ : ∃ S, S = putL (crc16 (nineB k t a b c)).toNat 2 ++ rest := ⟨_, rfl⟩
  have hy : headR k t a b c ++ rest = nineB k t a b c ++ S := by rw [hS, headR, List.append_assoc]
  have e1 : nK (headR k t a b c ++ rest) = k := by
    unfold nK
    rw [mid_part _ [] (putL k 1) (putL t 4 ++ putL a 1 ++ putL b 2 ++ putL c 1 ++ S) 0 1 (by rw [hy, nineB]; simp [List.append_assoc]) rfl (putL_len _ _)]
    exact getV_byte k 1 255 hk rfl
  have e2 : nT (headR k t a b c ++ rest) = t := by
    unfold nT
    rw [mid_part _ (putL k 1) (putL t 4) (putL a 1 ++ putL b 2 ++ putL c 1 ++ S) 1 4 (by rw [hy, nineB]; simp [List.append_assoc]) (putL_len _ _) (putL_len _ _)]
    exact getV_byte t 4 4294967295 ht rfl
  have e3 : nA (headR k t a b c ++ rest) = a := by
    unfold nA
    rw [mid_part _ (putL k 1 ++ putL t 4) (putL a 1) (putL b 2 ++ putL c 1 ++ S) 5 1 (by rw [hy, nineB]; simp [List.append_assoc]) (by simp [putL_len]) (putL_len _ _)]
    exact getV_byte a 1 255 ha rfl
  have e4 : nB (headR k t a b c ++ rest) = b := by
    unfold nB
    rw [mid_part _ (putL k 1 ++ putL t 4 ++ putL a 1) (putL b 2) (putL c 1 ++ S) 6 2 (by rw [hy, nineB]; simp [List.append_assoc]) (by simp [putL_len]) (putL_len _ _)]
    exact getV_byte b 2 65535 hb rfl
  have e5 : nC (headR k t a b c ++ rest) = c := by
    unfold nC
    rw [mid_part _ (putL k 1 ++ putL t 4 ++ putL a 1 ++ putL b 2) (putL c 1) S 8 1 (by rw [hy, nineB]) (by simp [putL_len]) (putL_len _ _)]
    exact getV_byte c 1 255 hc rfl
  have e6 : nS (headR k t a b c ++ rest) = (crc16 (nineB k t a b c)).toNat := by
    unfold nS
    rw [mid_part _ (nineB k t a b c) (putL (crc16 (nineB k t a b c)).toNat 2) rest 9 2 (by rw [headR]) (nineB_len _ _ _ _ _) (putL_len _ _)]
    exact getV_byte _ 2 65535 (by have := (crc16 (nineB k t a b c)).isLt; omega) rfl
  have e7 : (headR k t a b c ++ rest).take 9 = nineB k t a b c := first_part _ _ S 9 hy (nineB_len _ _ _ _ _)
  have e8 : (headR k t a b c ++ rest)[0]?.getD 255 ≠ 255 := by
    have h0 : (headR k t a b c ++ rest)[0]? = some (byteOf k 0) := by
      rw [hy, nineB]
      simp [putL]
    rw [h0]
    have hb0 : byteOf k 0 = UInt8.ofNat k := by simp [byteOf]
    rw [Option.getD_some, hb0]
    intro e
    have e9 := congrArg UInt8.toNat e
    rw [UInt8.toNat_ofNat'] at e9
    have : (255 : UInt8).toNat = 255 := rfl
    omega
  have e9 : ¬ (headR k t a b c ++ rest).length < 11 := by rw [List.length_append, headR_len]; omega
  refine ⟨e1, e2, e3, e4, e5, ?_⟩
  unfold hdE
  rw [if_neg e8, if_neg e9, e6, e7, if_neg (by simp), e1, e2, e3, e4, e5, if_pos hmay]

/-- What was made is told, whole just if the byte behind it is 0. -/
theorem out_made (k t c : Nat) (key blob : List UInt8) (last : UInt8) (more : List UInt8) (hmay : mayB (k : Int) (t : Int) (key.length : Int) (blob.length : Int) (c : Int) = true) (ht : t ≤ 4294967295) :
    out (recB k t c key blob ++ last :: more) = ⟨k, t, key, blob, c, key.length + blob.length + 16, decide (last = 0), 0⟩ := by
  obtain ⟨R, hR⟩ : ∃ R, R = key ++ blob ++ putL (crc32 (bodyR k t c key blob)).toNat 4 ++ last :: more := ⟨_, rfl⟩
  have hy : recB k t c key blob ++ last :: more = headR k t key.length blob.length c ++ R := by rw [hR, recB, bodyR]; simp only [List.append_assoc]
  obtain ⟨e1, e2, e3, e4, e5, e6⟩ := head_made k t key.length blob.length c R hmay ht
  rw [hy]
  have hlen : ¬ (headR k t key.length blob.length c ++ R).length < szOf (headR k t key.length blob.length c ++ R) := by
    unfold szOf
    rw [e3, e4, ← hy, List.length_append, recB_len, List.length_cons]
    omega
  have hp : pE (headR k t key.length blob.length c ++ R) = 0 := by unfold pE; rw [if_pos e6, if_neg hlen]
  have hbody : (headR k t key.length blob.length c ++ R).take (key.length + blob.length + 11) = bodyR k t c key blob :=
    first_part _ _ (putL (crc32 (bodyR k t c key blob)).toNat 4 ++ last :: more) _ (by rw [← hy, recB, List.append_assoc]) (by rw [bodyR_len]; omega)
  have hsum : sumOk (headR k t key.length blob.length c ++ R) = true := by
    unfold sumOk
    rw [e3, e4, hbody, mid_part _ (bodyR k t c key blob) (putL (crc32 (bodyR k t c key blob)).toNat 4) (last :: more) _ 4 (by rw [← hy, recB]) (by rw [bodyR_len]; omega) (putL_len _ _),
      getV_byte _ 4 4294967295 (by have := (crc32 (bodyR k t c key blob)).isLt; omega) rfl]
    simp
  have hkey : ((headR k t key.length blob.length c ++ R).drop 11).take key.length = key := mid_part _ (headR k t key.length blob.length c) key (blob ++ putL (crc32 (bodyR k t c key blob)).toNat 4 ++ last :: more) 11 _ (by rw [hR]; simp only [List.append_assoc]) (headR_len _ _ _ _ _) rfl
  have hblob : ((headR k t key.length blob.length c ++ R).drop (11 + key.length)).take blob.length = blob := mid_part _ (headR k t key.length blob.length c ++ key) blob (putL (crc32 (bodyR k t c key blob)).toNat 4 ++ last :: more) _ _ (by rw [hR]; simp only [List.append_assoc]) (by rw [List.length_append, headR_len]) rfl
  have hlast : (headR k t key.length blob.length c ++ R)[key.length + blob.length + 15]? = some last := at_part _ (recB k t c key blob) more last _ (by rw [← hy]) (by rw [recB_len]; omega)
  unfold out
  rw [if_pos hp, if_pos hsum, e1, e2, e3, e4, e5, hkey, hblob, hlast]
  unfold szOf
  rw [e3, e4]
  rfl

/-- A header of which bits are turned, so that its sum is another one. -/
theorem out_head_turned (h9 : List UInt8) (v : Nat) (rest : List UInt8) (hl : h9.length = 9) (hv : v ≤ 65535) (hne : (crc16 h9).toNat ≠ v) : (out (h9 ++ (putL v 2 ++ rest))).whole = false ∧ (out (h9 ++ (putL v 2 ++ rest))).e ≠ 0 := by
  have e6 : nS (h9 ++ (putL v 2 ++ rest)) = v := by
    unfold nS
    rw [mid_part _ h9 (putL v 2) rest 9 2 (by rw [List.append_assoc]) hl (putL_len _ _)]
    exact getV_byte _ 2 65535 hv rfl
  have e7 : (h9 ++ (putL v 2 ++ rest)).take 9 = h9 := first_part _ _ _ 9 rfl hl
  have h0 : hdE (h9 ++ (putL v 2 ++ rest)) ≠ 0 := by
    unfold hdE
    by_cases c1 : (h9 ++ (putL v 2 ++ rest))[0]?.getD 255 = 255
    · rw [if_pos c1]; decide
    · rw [if_neg c1]
      by_cases c2 : (h9 ++ (putL v 2 ++ rest)).length < 11
      · rw [if_pos c2]; decide
      · rw [if_neg c2, e6, e7, if_pos (fun e => hne e.symm)]; decide
  have hp : pE (h9 ++ (putL v 2 ++ rest)) = hdE (h9 ++ (putL v 2 ++ rest)) := by unfold pE; rw [if_neg h0]
  unfold out
  rw [hp, if_neg h0]
  exact ⟨rfl, h0⟩

/-- A body of which bits are turned, so that the record's sum is another one. -/
theorem out_body_turned (k t a b c v : Nat) (mid : List UInt8) (hmay : mayB (k : Int) (t : Int) (a : Int) (b : Int) (c : Int) = true) (ht : t ≤ 4294967295) (hl : mid.length = a + b) (hv : v ≤ 4294967295) (hne : (crc32 (headR k t a b c ++ mid)).toNat ≠ v) :
    (out (headR k t a b c ++ (mid ++ (putL v 4 ++ [0])))).whole = false := by
  obtain ⟨e1, e2, e3, e4, e5, e6⟩ := head_made k t a b c (mid ++ (putL v 4 ++ [0])) hmay ht
  have hsum : sumOk (headR k t a b c ++ (mid ++ (putL v 4 ++ [0]))) = false := by
    unfold sumOk
    have h1 : (headR k t a b c ++ (mid ++ (putL v 4 ++ [0]))).take (a + b + 11) = headR k t a b c ++ mid := first_part _ _ (putL v 4 ++ [0]) _ (by simp only [List.append_assoc]) (by rw [List.length_append, headR_len]; omega)
    have h2 : ((headR k t a b c ++ (mid ++ (putL v 4 ++ [0]))).drop (a + b + 11)).take 4 = putL v 4 := mid_part _ (headR k t a b c ++ mid) (putL v 4) [0] _ 4 (by simp only [List.append_assoc]) (by rw [List.length_append, headR_len]; omega) (putL_len _ _)
    rw [e3, e4, h1, h2, getV_byte _ 4 4294967295 hv rfl]
    simp only [decide_eq_false_iff_not]
    exact fun e => hne e.symm
  unfold out
  rw [hsum]
  split <;> rfl

end Go.Proofs.YtnhfmcijadficaaGreatDoor
