/- The walks over crc's sums. -/
import Derived.Test.YtidbipbangifbaaGreatDoorZai
import Derived.Test.YtidbipbangifbaaGreatDoorZab
import Derived.Test.YtidbipbangifbaaGreatDoorZae
import Derived.Lib.SlBytesConst
namespace Go.Proofs.YtidbipbangifbaaGreatDoor
set_option maxRecDepth 100000
open Go.RowKit

/-- The sums as the document has them. -/
def crc16 (xs : List UInt8) : BitVec 16 := way16.sum (BitVec.allOnes 16) xs
def crc32 (xs : List UInt8) : BitVec 32 := ~~~(way32.sum (BitVec.allOnes 32) xs)

set_option maxHeartbeats 1000000 in
theorem more16_any (s : BitVec 16) (A : Option Addr) (n cap : Nat) (xs : List UInt8) (w : World) (hB : ByteSl w Empty A n cap xs) :
    Calls Tryz.prog 177 #[V16 s, .slice A n cap] w fun e w' => e = .returned (V16 (way16.sum s xs)) ∧ Below w.heap.size w w' := by
  unfold V16
  have hn : n ≤ 9223372036854775807 := by have := hB.2.1; have := hB.2.2.1; unfold maxLen at this; omega
  go_enter Tryz.func177, Tryz.ntmps177
  go_wp2_with fail
  refine (table16_any _).mono ?_
  rintro e1 w1 ⟨rfl, hb1⟩
  have hnew : Blk (w1.alloc (.cells (tab16 0) 270)) w1.heap.size 270 (tab16 0) := Blk.new _ _ _
  have hi : (Tryz.prog.info? 270).map (·.size) = some (tab16 16).size := by kernel_rfl
  have h1 : (tab16 16).all (·.oneCell') = true := by kernel_rfl
  go_wp2_with (refine wpList_store_row rfl _ _ _ rfl w1.heap.size (tab16 16) rfl rfl 270 (tab16 0) hnew hi rfl h1 ?_)
  generalize hw2 : World.setRow _ _ _ = w2
  have hT : Blk w2 w1.heap.size 270 (tab16 16) := by rw [← hw2]; exact setRow_heap _ _ (tab16 0) _ _ (0, 0) hnew
  have hbw : Below w.heap.size w w2 := by rw [← hw2]; exact below_setRow (hb1.alloc hb1.size _) hb1.size _
  have hB2 := hB.only (Only.of_below (S := Empty) (hbw.mono (Nat.le_refl _))) (fun _ _ h => h)
  clear hw2 hnew hi h1 hB
  go_loop [0, 11] (fun v i => ∃ k : Nat, k ≤ n ∧ i = .int .i64 (k : Int) ∧ v = .int .u16 ((way16.sum s (xs.take k)).toNat : Int)) (fun _ i => n - (intOf i).toNat)
  case atStart => exact ⟨0, Nat.zero_le _, rfl, rfl⟩
  case round =>
    obtain ⟨k, hk, rfl, rfl⟩ := hrel
    by_cases hlt : k < n
    · obtain ⟨ad, x, rfl, hbl, -, hx, hc⟩ := hB2.at_ hlt
      unfold B8 at hc
      have hsum : way16.sum s (xs.take (k + 1)) = reps d16 4 (reps d16 4 (way16.sum s (xs.take k) ^^^ emb16 x)) := by rw [take_one xs k x hx, way16.sum_snoc, byte16]
      have Hsum := Lib.hid hsum
      clear hsum
      generalize way16.sum s (xs.take k) = S at Hsum ⊢
      have e1 := in16 S x
      have e2 := half16 (S ^^^ emb16 x)
      have e3 := half16 (reps d16 4 (S ^^^ emb16 x))
      have b1 := (S ^^^ emb16 x).isLt
      have b2 := (reps d16 4 (S ^^^ emb16 x)).isLt
      have c1 : w2.cell? ⟨w1.heap.size, (S ^^^ emb16 x).toNat / 4096, none⟩ = some (.int .u16 ((reps d16 4 (BitVec.ofNat 16 ((S ^^^ emb16 x).toNat / 4096 * 4096))).toNat : Int)) := by
        rw [hT.cell, tab16_get _ _ (by omega), if_pos (by omega)]; rfl
      have c2 : w2.cell? ⟨w1.heap.size, (reps d16 4 (S ^^^ emb16 x)).toNat / 4096, none⟩ = some (.int .u16 ((reps d16 4 (BitVec.ofNat 16 ((reps d16 4 (S ^^^ emb16 x)).toNat / 4096 * 4096))).toNat : Int)) := by
        rw [hT.cell, tab16_get _ _ (by omega), if_pos (by omega)]; rfl
      obtain ⟨z3, hz3⟩ : ∃ z, z = (reps d16 4 (reps d16 4 (S ^^^ emb16 x))).toNat := ⟨_, rfl⟩
      rw [← hz3] at e3
      have H3 := Lib.hid hz3
      clear hz3
      generalize (reps d16 4 (BitVec.ofNat 16 ((reps d16 4 (S ^^^ emb16 x)).toNat / 4096 * 4096))).toNat = t2 at c2 e3
      generalize (reps d16 4 (BitVec.ofNat 16 ((S ^^^ emb16 x).toNat / 4096 * 4096))).toNat = t1 at c1 e2
      generalize (reps d16 4 (S ^^^ emb16 x)).toNat = z2 at c2 e2 e3 b2
      generalize (S ^^^ emb16 x).toNat = z1 at c1 e1 e2 b1
      obtain ⟨q1, hq1⟩ : ∃ q, z1 / 4096 = q := ⟨_, rfl⟩
      obtain ⟨q2, hq2⟩ : ∃ q, z2 / 4096 = q := ⟨_, rfl⟩
      rw [hq1] at c1
      rw [hq2] at c2
      have f1 : (z1 : Int) / 4096 = (q1 : Int) := by omega
      have f2 : (z2 : Int) / 4096 = (q2 : Int) := by omega
      have g1 : q1 < 16 := by omega
      have g2 : q2 < 16 := by omega
      have hm : x.toNat < 256 := x.toNat_lt
      have hS : S.toNat < 65536 := S.isLt
      clear b1 b2 hq1 hq2
      generalize S.toNat = y at e1 hS ⊢
      generalize x.toNat = m at e1 hm hc
      go_wp2
      go_round
      case rel => exact ⟨k + 1, by omega, by go_num, by rw [Hsum.out, ← H3.out]⟩
      case measure => simp [intOf]; omega
    · obtain rfl : k = n := by omega
      go_wp2
      go_ret
      exact ⟨by rw [List.take_of_length_le (by have := hB2.1; omega)]; rfl, hbw⟩

set_option maxHeartbeats 1000000 in
theorem sum32_any (A : Option Addr) (n cap : Nat) (xs : List UInt8) (w : World) (hB : ByteSl w Empty A n cap xs) :
    Calls Tryz.prog 160 #[.slice A n cap] w fun e w' => e = .returned (V32 (crc32 xs)) ∧ Below w.heap.size w w' := by
  unfold V32
  have hn : n ≤ 9223372036854775807 := by have := hB.2.1; have := hB.2.2.1; unfold maxLen at this; omega
  go_enter Tryz.func160, Tryz.ntmps160
  go_wp2_with fail
  refine (table32_any _).mono ?_
  rintro e1 w1 ⟨rfl, hb1⟩
  have hnew : Blk (w1.alloc (.cells (tab32 0) 259)) w1.heap.size 259 (tab32 0) := Blk.new _ _ _
  have hi : (Tryz.prog.info? 259).map (·.size) = some (tab32 16).size := by kernel_rfl
  have h1 : (tab32 16).all (·.oneCell') = true := by kernel_rfl
  go_wp2_with (refine wpList_store_row rfl _ _ _ rfl w1.heap.size (tab32 16) rfl rfl 259 (tab32 0) hnew hi rfl h1 ?_)
  generalize hw2 : World.setRow _ _ _ = w2
  have hT : Blk w2 w1.heap.size 259 (tab32 16) := by rw [← hw2]; exact setRow_heap _ _ (tab32 0) _ _ (0, 0) hnew
  have hbw : Below w.heap.size w w2 := by rw [← hw2]; exact below_setRow (hb1.alloc hb1.size _) hb1.size _
  have hB2 := hB.only (Only.of_below (S := Empty) (hbw.mono (Nat.le_refl _))) (fun _ _ h => h)
  clear hw2 hnew hi h1 hB
  go_loop [4, 10] (fun v i => ∃ k : Nat, k ≤ n ∧ i = .int .i64 (k : Int) ∧ v = .int .u32 ((way32.sum (BitVec.allOnes 32) (xs.take k)).toNat : Int)) (fun _ i => n - (intOf i).toNat)
  case atStart => exact ⟨0, Nat.zero_le _, rfl, rfl⟩
  case round =>
    obtain ⟨k, hk, rfl, rfl⟩ := hrel
    by_cases hlt : k < n
    · obtain ⟨ad, x, rfl, hbl, -, hx, hc⟩ := hB2.at_ hlt
      unfold B8 at hc
      have hsum : way32.sum (BitVec.allOnes 32) (xs.take (k + 1)) = reps d32 4 (reps d32 4 (way32.sum (BitVec.allOnes 32) (xs.take k) ^^^ emb32 x)) := by rw [take_one xs k x hx, way32.sum_snoc, byte32]
      have Hsum := Lib.hid hsum
      clear hsum
      generalize way32.sum (BitVec.allOnes 32) (xs.take k) = S at Hsum ⊢
      have e1 := in32 S x
      have e2 := half32 (S ^^^ emb32 x)
      have e3 := half32 (reps d32 4 (S ^^^ emb32 x))
      have b1 := (S ^^^ emb32 x).isLt
      have b2 := (reps d32 4 (S ^^^ emb32 x)).isLt
      have c1 : w2.cell? ⟨w1.heap.size, (S ^^^ emb32 x).toNat % 16, none⟩ = some (.int .u32 ((reps d32 4 (BitVec.ofNat 32 ((S ^^^ emb32 x).toNat % 16))).toNat : Int)) := by
        rw [hT.cell, tab32_get _ _ (by omega), if_pos (by omega)]; rfl
      have c2 : w2.cell? ⟨w1.heap.size, (reps d32 4 (S ^^^ emb32 x)).toNat % 16, none⟩ = some (.int .u32 ((reps d32 4 (BitVec.ofNat 32 ((reps d32 4 (S ^^^ emb32 x)).toNat % 16))).toNat : Int)) := by
        rw [hT.cell, tab32_get _ _ (by omega), if_pos (by omega)]; rfl
      obtain ⟨z3, hz3⟩ : ∃ z, z = (reps d32 4 (reps d32 4 (S ^^^ emb32 x))).toNat := ⟨_, rfl⟩
      rw [← hz3] at e3
      have H3 := Lib.hid hz3
      clear hz3
      generalize (reps d32 4 (BitVec.ofNat 32 ((reps d32 4 (S ^^^ emb32 x)).toNat % 16))).toNat = t2 at c2 e3
      generalize (reps d32 4 (BitVec.ofNat 32 ((S ^^^ emb32 x).toNat % 16))).toNat = t1 at c1 e2
      generalize (reps d32 4 (S ^^^ emb32 x)).toNat = z2 at c2 e2 e3 b2
      generalize (S ^^^ emb32 x).toNat = z1 at c1 e1 e2 b1
      obtain ⟨q1, hq1⟩ : ∃ q, z1 % 16 = q := ⟨_, rfl⟩
      obtain ⟨q2, hq2⟩ : ∃ q, z2 % 16 = q := ⟨_, rfl⟩
      rw [hq1] at c1
      rw [hq2] at c2
      have g1 : q1 < 16 := by omega
      have g2 : q2 < 16 := by omega
      have hm : x.toNat < 256 := x.toNat_lt
      have hS : S.toNat < 4294967296 := S.isLt
      have a1 := and_15_32 z1 b1
      have a2 := and_15_32 z2 b2
      rw [hq1] at a1
      rw [hq2] at a2
      clear hq1 hq2
      generalize S.toNat = y at e1 hS ⊢
      generalize x.toNat = m at e1 hm hc
      go_wp2
      go_round
      case rel => exact ⟨k + 1, by omega, by go_num, by rw [Hsum.out, ← H3.out]⟩
      case measure => simp [intOf]; omega
    · obtain rfl : k = n := by omega
      go_wp2
      go_ret
      exact ⟨by rw [List.take_of_length_le (by have := hB2.1; omega)]; exact congrArg (fun v : Int => Ending.returned (Value.int .u32 v)) (not32 _), hbw⟩


theorem sum16_any (A : Option Addr) (n cap : Nat) (xs : List UInt8) (w : World) (hB : ByteSl w Empty A n cap xs) :
    Calls Tryz.prog 153 #[.slice A n cap] w fun e w' => e = .returned (V16 (crc16 xs)) ∧ Below w.heap.size w w' := by
  go_enter Tryz.func153, Tryz.ntmps153
  go_wp2_with fail
  refine (more16_any (BitVec.allOnes 16) A n cap xs _ hB).mono ?_
  rintro e1 w1 ⟨rfl, hb1⟩
  go_wp2
  go_ret
  exact ⟨rfl, hb1⟩

end Go.Proofs.YtidbipbangifbaaGreatDoor

/- The walks over the document's sums. -/
namespace Go.Proofs.YtidbipbangifbaaGreatDoor
set_option maxRecDepth 100000
open Go.RowKit

theorem ref16_hi (s : BitVec 16) (y : Nat) (hy : s.toNat = y) (h : 32768 ≤ y) : bits .xor .u32 ((y : Int) * 2 % 65536) 4129 = ((d16 s).toNat : Int) := by
  have hs := s.isLt
  rw [d16_nat, hy, show y / 32768 = 1 by omega, show (y : Int) * 2 % 65536 = ((2 * y % 65536 : Nat) : Int) by omega]
  have := u32_xor_nat (2 * y % 65536) 4129 (by omega) (by omega)
  rw [Nat.one_mul]
  exact this
theorem ref16_lo (s : BitVec 16) (y : Nat) (hy : s.toNat = y) (h : y < 32768) : (y : Int) * 2 = ((d16 s).toNat : Int) := by
  rw [d16_nat, hy, show y / 32768 = 0 by omega, Nat.zero_mul, Nat.xor_zero]
  omega
theorem refin16 (s : BitVec 16) (x : UInt8) : bits .xor .u32 (s.toNat : Int) ((x.toNat : Int) * 256) = ((s ^^^ emb16 x).toNat : Int) := by
  have := x.toNat_lt
  have := s.isLt
  rw [show (x.toNat : Int) * 256 = ((x.toNat * 256 : Nat) : Int) by omega, u32_xor_nat _ _ (by omega) (by omega), BitVec.toNat_xor, emb16_nat]
theorem ref32_odd (s : BitVec 32) (y : Nat) (hy : s.toNat = y) (h : y % 2 = 1) : bits .xor .u32 ((y : Int) / 2) 2197175160 = ((d32 s).toNat : Int) := by
  have hs := s.isLt
  rw [d32_nat, hy, h, show (y : Int) / 2 = ((y / 2 : Nat) : Int) by omega]
  have := u32_xor_nat (y / 2) 2197175160 (by omega) (by omega)
  rw [Nat.one_mul]
  exact this
theorem ref32_even (s : BitVec 32) (y : Nat) (hy : s.toNat = y) (h : y % 2 = 0) : (y : Int) / 2 = ((d32 s).toNat : Int) := by
  rw [d32_nat, hy, h, Nat.zero_mul, Nat.xor_zero]
  omega




end Go.Proofs.YtidbipbangifbaaGreatDoor

/- Headers as plain data, the mark in memory, and the walks over page.Bytes and the document's Bytes. -/
namespace Go.Proofs.YtidbipbangifbaaGreatDoor
set_option maxRecDepth 100000
open Go.RowKit

/-- The first six bytes of a header. -/
def head6 (s : Nat) : List UInt8 := [67, 66] ++ putL s 4
/-- What a header begins with: the mark, the number, their sum. -/
def headB (s : Nat) : List UInt8 := head6 s ++ putL (crc16 (head6 s)).toNat 2
theorem head6_len (s : Nat) : (head6 s).length = 6 := by simp [head6, putL_len]
theorem headB_len (s : Nat) : (headB s).length = 8 := by simp [headB, head6_len, putL_len]

/-- The program's mark lies where its initialiser laid it. -/
structure Mark (w : World) : Prop where
  c0 : w.cell? ⟨0, 0, none⟩ = some (.int .u8 67)
  c1 : w.cell? ⟨0, 1, none⟩ = some (.int .u8 66)
section
variable {w w' : World} {S : Nat → Prop} {B : Nat}
theorem Mark.pos (h : Mark w) : 0 < w.heap.size := cell_lt h.c0
theorem Mark.only (h : Mark w) (k : Only S w w') (h0 : ¬ S 0) : Mark w' := ⟨(k.cell (p := ⟨0, 0, none⟩) h.pos h0).trans h.c0, (k.cell (p := ⟨0, 1, none⟩) h.pos h0).trans h.c1⟩
theorem Mark.below (h : Mark w) (k : Below w.heap.size w w') : Mark w' := h.only (Only.of_below (S := Empty) k) (fun h => h)
end

/-- Bytes that a call made anew. -/
def GotB (w w' : World) (n : Nat) (xs : List UInt8) (e : Ending) : Prop := (∃ u, e = .returned u ∧ w'.ownsRow w.heap.size 5 1 u n (xs.map B8)) ∧ Below w.heap.size w w'

/-- Bytes that lie in a new block, whatever its type. -/
theorem ByteSl.lit_t (w : World) (S : Nat → Prop) (t : TypeId) (xs : List UInt8) (n : Nat) (hn : xs.length = n) (hS : ¬ S w.heap.size) (h : n ≤ maxLen) :
    ByteSl (w.alloc (.cells (cellsB xs) t)) S (some ⟨w.heap.size, 0, none⟩) n n xs := by
  refine ⟨hn, Nat.le_refl _, h, fun _ => ⟨_, rfl, by simp, hS, fun j x hx => ?_⟩⟩
  have ha : (⟨w.heap.size, 0, none⟩ : Addr).add j = ⟨w.heap.size, j, none⟩ := by unfold Addr.add; split <;> simp_all
  rw [ha, (Blk.new w t (cellsB xs)).cell, cellsB_get, hx]
  rfl

/-- A number's first six bytes, then their sum: what both Bytes do. -/
theorem head6_eq (s : Nat) : [67, 66] ++ putL s 4 = head6 s := rfl

set_option maxHeartbeats 1000000 in
theorem pgBytes_any (s : Nat) (w : World) (hs : s ≤ 4294967295) (hM : Mark w) : Calls Tryz.prog 199 #[.int .u32 (s : Int)] w fun e w' => GotB w w' 8 (headB s) e := by
  have c0 := hM.c0
  have c1 := hM.c1
  have hp := hM.pos
  clear hM
  go_enter Tryz.func199, Tryz.ntmps199
  go_wp2_with fail
  have hB : ByteSl (w.alloc (.cells #[.int .u8 67, .int .u8 66] 231)) Empty (some ⟨w.heap.size, 0, none⟩) 2 2 [67, 66] := ByteSl.lit_t w _ 231 [67, 66] 2 rfl (fun h => h) (by decide)
  clear c0 c1 hp
  refine (put_yes _ 2 2 [67, 66] s 4 _ hB (by omega) (by omega) (by omega) (by omega)).mono ?_
  rintro e1 w1 ⟨⟨u, rfl, hown⟩, hb⟩
  rw [head6_eq] at hown
  have hb1 : Below w.heap.size w w1 := ((Below.refl _ _).alloc (Nat.le_refl _) _).trans (hb.mono (by simp))
  obtain ⟨A1, cap1, rfl, hB1, -⟩ := ByteSl.of_own (S := Empty) hown (fun _ _ _ h => h)
  have Hb1 := Lib.hid hb1
  have HB1 := Lib.hid hB1
  clear hB hown hb hb1 hB1
  go_wp2_with fail
  refine (sum16_any A1 6 cap1 (head6 s) _ HB1.out).mono ?_
  rintro e1 w2 ⟨rfl, hb2⟩
  have HB2 := Lib.hid (HB1.out.only (Only.of_below (S := Empty) hb2) (fun _ _ h => h))
  have Hb2 := Lib.hid (Hb1.out.trans (hb2.mono Hb1.out.size))
  clear hb2
  unfold V16
  have hv := (crc16 (head6 s)).isLt
  obtain ⟨v, hve⟩ : ∃ v, v = (crc16 (head6 s)).toNat := ⟨_, rfl⟩
  rw [← hve] at hv ⊢
  have hv2 : v ≤ 65535 := by omega
  have Hve := Lib.hid hve
  clear hv hve
  go_wp2_with fail
  refine (put_yes A1 6 cap1 (head6 s) v 2 _ HB2.out (by omega) (by omega) (by omega) (by omega)).mono ?_
  rintro e1 w3 ⟨⟨u, rfl, hown⟩, hb⟩
  have Hown := Lib.hid hown
  have Hb3 := Lib.hid hb
  clear hown hb
  go_wp2
  go_ret
  refine ⟨⟨u, rfl, own_base ?_ Hb2.out.size⟩, Hb2.out.trans (Hb3.out.mono Hb2.out.size)⟩
  have h := Hown.out
  rw [Hve.out] at h
  exact h


end Go.Proofs.YtidbipbangifbaaGreatDoor
