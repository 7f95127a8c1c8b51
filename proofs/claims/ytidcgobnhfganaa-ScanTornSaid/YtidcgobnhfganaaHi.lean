/- What Parse answers of any bytes, as plain data; the walks over rec.Parse where a header is refused or the bytes end too early. -/
import Derived.Test.YtidcgobnhfganaaHh
namespace Go.Proofs.Ytidcgobnhfganaa
open Go.RowKit

/-- How many bytes the record has that a header tells. -/
def szOf (xs : List UInt8) : Nat := nA xs + nB xs + 16
/-- Parse's error. -/
def pE (xs : List UInt8) : Int := if hdE xs = 0 then (if xs.length < szOf xs then 6 else 0) else hdE xs
/-- Has the record its sum of 32 bits? -/
def sumOk (xs : List UInt8) : Bool := decide (getV ((xs.drop (nA xs + nB xs + 11)).take 4) = (crc32 (xs.take (nA xs + nB xs + 11))).toNat)
/-- All that Parse answers. -/
structure Out where
  k : Nat
  t : Nat
  key : List UInt8
  blob : List UInt8
  c : Nat
  size : Nat
  whole : Bool
  e : Int
def out (xs : List UInt8) : Out :=
  if pE xs = 0 then (if sumOk xs = true then ⟨nK xs, nT xs, (xs.drop 11).take (nA xs), (xs.drop (11 + nA xs)).take (nB xs), nC xs, szOf xs, decide (xs[nA xs + nB xs + 15]?.getD 1 = 0), 0⟩ else ⟨0, 0, [], [], 0, szOf xs, false, 0⟩)
  else ⟨0, 0, [], [], 0, 0, false, pE xs⟩
/-- Parse's answer: its record's blob is a row made since base. -/
def RecOk (xs : List UInt8) (w w' : World) (e : Ending) : Prop :=
  (∃ A n cap, e = .returned (.tuple #[.agg #[.int .i64 ((out xs).k : Int), .int .u32 ((out xs).t : Int), .string (strB (out xs).key), .slice A n cap, .int .i64 ((out xs).c : Int)], .int .i64 ((out xs).size : Int), .bool (out xs).whole, .int .i64 (out xs).e]) ∧
    Got w.heap.size w' A n cap (out xs).blob) ∧ Below w.heap.size w w'

/-- The empty record, with a size and an error. -/
def zeroA (s e : Int) : Ending := .returned (.tuple #[.agg #[.int .i64 0, .int .u32 0, .string ⟨#[]⟩, .slice none 0 0, .int .i64 0], .int .i64 s, .bool false, .int .i64 e])
theorem zero_ok {xs : List UInt8} {w w' : World} {s : Nat} {e : Int} (h : out xs = ⟨0, 0, [], [], 0, s, false, e⟩) (hb : Below w.heap.size w w') : RecOk xs w w' (zeroA (s : Int) e) := by
  refine ⟨⟨none, 0, 0, ?_, ?_⟩, hb⟩
  · rw [h]
    rfl
  · rw [h]
    exact Got.nil_ _ _

theorem head_facts {xs : List UInt8} (h : hdE xs = 0) : 11 ≤ xs.length ∧ hdE xs = 0 ∧ nS xs = (crc16 (xs.take 9)).toNat ∧ mayB (nK xs : Int) (nT xs : Int) (nA xs : Int) (nB xs : Int) (nC xs : Int) = true := by
  have h9 := h
  unfold hdE at h
  by_cases h1 : xs[0]?.getD 255 = 255
  · rw [if_pos h1] at h
    cases h
  · rw [if_neg h1] at h
    by_cases h2 : xs.length < 11
    · rw [if_pos h2] at h
      cases h
    · rw [if_neg h2] at h
      by_cases h3 : nS xs = (crc16 (xs.take 9)).toNat
      · rw [if_neg (by simp [h3])] at h
        cases h4 : mayB (nK xs : Int) (nT xs : Int) (nA xs : Int) (nB xs : Int) (nC xs : Int) with
        | true => exact ⟨by omega, h9, h3, rfl⟩
        | false =>
          rw [h4] at h
          simp at h
      · rw [if_pos h3] at h
        cases h

set_option maxHeartbeats 2000000 in
theorem rcParse_no (A : Option Addr) (n cap : Nat) (xs : List UInt8) (w : World) (hB : ByteSl w Empty A n cap xs) (hm : n ≤ 1048576) (h : hdE xs ≠ 0) :
    Calls Try.prog 16 #[.slice A n cap] w fun e w' => RecOk xs w w' e := by
  obtain ⟨er, her⟩ : ∃ er, er = hdE xs := ⟨_, rfl⟩
  have hne : (er == 0) = false := by rw [her]; simpa using h
  have hne2 : (er != 0) = true := by simp only [bne, hne]; rfl
  have HC : Hid (∀ w', Below w.heap.size w w' → RecOk xs w w' (zeroA 0 er)) := Lib.hid (fun w' hb => by
    have ho : out xs = ⟨0, 0, [], [], 0, 0, false, er⟩ := by
      unfold out pE
      rw [if_neg h, if_neg h, her]
    exact zero_ok (s := 0) ho hb)
  have hO0 := (Only.refl Empty w).alloc (.cells #[.int .i64 0, .int .u32 0, .string ⟨#[]⟩, .slice none 0 0, .int .i64 0] 28)
  have N1 : Hid (Calls Try.prog 22 #[.slice A n cap] (w.alloc (.cells #[.int .i64 0, .int .u32 0, .string ⟨#[]⟩, .slice none 0 0, .int .i64 0] 28)) fun e w' => e = .returned (.tuple #[zeroH, .int .i64 er]) ∧ Below (w.heap.size + 1) (w.alloc (.cells #[.int .i64 0, .int .u32 0, .string ⟨#[]⟩, .slice none 0 0, .int .i64 0] 28)) w') := Lib.hid
    ((parseHead_any A n cap xs _ (hB.only hO0 (fun _ _ h => h)) hm).mono fun e w' ⟨he, hb⟩ => by
      rw [if_neg h, ← her] at he
      exact ⟨he, hb.mono (by simp)⟩)
  unfold zeroH at N1
  clear h her hB hO0
  go_enter Try.func16, Try.ntmps16
  go_wp2_with fail
  refine N1.out.mono ?_
  rintro e1 w1 ⟨rfl, hb1⟩
  have hj1 := (Blk.new w 28 #[.int .i64 0, .int .u32 0, .string ⟨#[]⟩, .slice none 0 0, .int .i64 0]).of (hb1.block w.heap.size (by omega))
  have HW1 := Lib.hid (((Below.refl w.heap.size w).alloc (Nat.le_refl _) (.cells #[.int .i64 0, .int .u32 0, .string ⟨#[]⟩, .slice none 0 0, .int .i64 0] 28)).trans (hb1.mono (by omega)))
  have hz := hj1.lt
  have j0 := hj1.cell 0
  have j1 := hj1.cell 1
  have j2 := hj1.cell 2
  have j3 := hj1.cell 3
  have j4 := hj1.cell 4
  have g0 := hj1.frozen 0
  have g1 := hj1.frozen 1
  have g2 := hj1.frozen 2
  have g3 := hj1.frozen 3
  have g4 := hj1.frozen 4
  simp at j0 j1 j2 j3 j4
  clear hb1 hj1
  go_wp2
  refine bodyPost_ret (v := .tuple #[.agg #[.int .i64 0, .int .u32 0, .string ⟨#[]⟩, .slice none 0 0, .int .i64 0], .int .i64 0, .bool false, .int .i64 er]) (by simp [results, Try.results16, go_sem, j0, j1, j2, j3, j4, hz]) rfl (HC.out _ ?_)
  exact ((((((HW1.out.setCell (by simp) _).setCell (by simp) _).setCell (by simp) _).setCell (by simp) _).setCell (by simp) _).alloc (by simpa using HW1.out.size) _)

set_option maxHeartbeats 2000000 in
theorem rcParse_short (A : Option Addr) (n cap : Nat) (xs : List UInt8) (w : World) (hBy : ByteSl w Empty A n cap xs) (hm : n ≤ 1048576) (h : hdE xs = 0) (hs : xs.length < szOf xs) :
    Calls Try.prog 16 #[.slice A n cap] w fun e w' => RecOk xs w w' e := by
  have HC : Hid (∀ w', Below w.heap.size w w' → RecOk xs w w' (zeroA 0 6)) := Lib.hid (fun w' hb => by
    have hp : pE xs = 6 := by unfold pE; rw [if_pos h, if_pos hs]
    have ho : out xs = ⟨0, 0, [], [], 0, 0, false, 6⟩ := by
      unfold out
      rw [hp]
      rfl
    exact zero_ok (s := 0) ho hb)
  have hO0 := (Only.refl Empty w).alloc (.cells #[.int .i64 0, .int .u32 0, .string ⟨#[]⟩, .slice none 0 0, .int .i64 0] 28)
  obtain ⟨v1, e1⟩ : ∃ v, v = nK xs := ⟨_, rfl⟩
  obtain ⟨v2, e2⟩ : ∃ v, v = nT xs := ⟨_, rfl⟩
  obtain ⟨v3, e3, b3⟩ : ∃ v, v = nA xs ∧ v ≤ 255 := ⟨_, rfl, nA_le xs⟩
  obtain ⟨v4, e4, b4⟩ : ∃ v, v = nB xs ∧ v ≤ 65535 := ⟨_, rfl, nB_le xs⟩
  obtain ⟨v5, e5⟩ : ∃ v, v = nC xs := ⟨_, rfl⟩
  have hlt : n < v3 + v4 + 16 := by
    unfold szOf at hs
    rw [hBy.1, ← e3, ← e4] at hs
    exact hs
  have N1 : Hid (Calls Try.prog 22 #[.slice A n cap] (w.alloc (.cells #[.int .i64 0, .int .u32 0, .string ⟨#[]⟩, .slice none 0 0, .int .i64 0] 28)) fun e w' => e = .returned (.tuple #[.agg #[.int .i64 (v1 : Int), .int .u32 (v2 : Int), .int .i64 (v3 : Int), .int .i64 (v4 : Int), .int .i64 (v5 : Int)], .int .i64 0]) ∧ Below (w.heap.size + 1) (w.alloc (.cells #[.int .i64 0, .int .u32 0, .string ⟨#[]⟩, .slice none 0 0, .int .i64 0] 28)) w') := Lib.hid
    ((parseHead_any A n cap xs _ (hBy.only hO0 (fun _ _ h => h)) hm).mono fun e w' ⟨he, hb⟩ => by
      rw [if_pos h, h, headV, ← e1, ← e2, ← e3, ← e4, ← e5] at he
      exact ⟨he, hb.mono (by simp)⟩)
  clear h hs hBy hO0 e1 e2 e3 e4 e5
  go_enter Try.func16, Try.ntmps16
  go_wp2_with fail
  refine N1.out.mono ?_
  rintro e1 w1 ⟨rfl, hb1⟩
  have HJ1 := Lib.hid ((Blk.new w 28 #[.int .i64 0, .int .u32 0, .string ⟨#[]⟩, .slice none 0 0, .int .i64 0]).of (hb1.block w.heap.size (by omega)))
  have HW1 := Lib.hid (((Below.refl w.heap.size w).alloc (Nat.le_refl _) (.cells #[.int .i64 0, .int .u32 0, .string ⟨#[]⟩, .slice none 0 0, .int .i64 0] 28)).trans (hb1.mono (by omega)))
  clear hb1
  go_wp2_with fail
  refine (hSize_any (v1 : Int) (v2 : Int) (v5 : Int) v3 v4 _ (by omega) (by omega)).mono ?_
  rintro e1 w2 ⟨rfl, hb2⟩
  have hj1 := (HJ1.out.alloc (.cells #[.int .i64 (v1 : Int), .int .u32 (v2 : Int), .int .i64 (v3 : Int), .int .i64 (v4 : Int), .int .i64 (v5 : Int)] 61)).of (hb2.block w.heap.size (by have := HJ1.out.lt; simp; omega))
  have HW2 := Lib.hid ((HW1.out.alloc HW1.out.size (.cells #[.int .i64 (v1 : Int), .int .u32 (v2 : Int), .int .i64 (v3 : Int), .int .i64 (v4 : Int), .int .i64 (v5 : Int)] 61)).trans (hb2.mono (by have := HW1.out.size; simp; omega)))
  have hz := hj1.lt
  have j0 := hj1.cell 0
  have j1 := hj1.cell 1
  have j2 := hj1.cell 2
  have j3 := hj1.cell 3
  have j4 := hj1.cell 4
  have g0 := hj1.frozen 0
  have g1 := hj1.frozen 1
  have g2 := hj1.frozen 2
  have g3 := hj1.frozen 3
  have g4 := hj1.frozen 4
  simp at j0 j1 j2 j3 j4
  clear hb2 hj1
  obtain ⟨sz, hsz⟩ : ∃ sz, sz = v3 + v4 + 16 := ⟨_, rfl⟩
  rw [← hsz] at hlt ⊢
  have hd : decide ((n : Int) < (sz : Int)) = true := by simp; omega
  have Hsz := Lib.hid hsz
  clear hsz
  go_wp2
  refine bodyPost_ret (v := .tuple #[.agg #[.int .i64 0, .int .u32 0, .string ⟨#[]⟩, .slice none 0 0, .int .i64 0], .int .i64 0, .bool false, .int .i64 6]) (by simp [results, Try.results16, go_sem, j0, j1, j2, j3, j4, hz]) rfl (HC.out _ ?_)
  exact ((((HW2.out.setCell (by simp) _).setCell (by simp) _).setCell (by simp) _).setCell (by simp) _).setCell (by simp) _

end Go.Proofs.Ytidcgobnhfganaa
