/- The walks over num.Get and the document's Get. -/
import Derived.Test.YtnhfmcijadficaaGreatDoorZaf
import Derived.Test.YtnhfmcijadficaaGreatDoorZaa
import Derived.Lib.SlBytesConst
import Derived.Deep.QuietTactic
import Derived.BigQuiet
import Derived.RegionTactic
import Derived.ChangeAlike
import Derived.Laws.Cover3
import Derived.Stop.BytesEq
namespace Go.Proofs.YtnhfmcijadficaaGreatDoor
set_option maxRecDepth 100000
open Go.RowKit

/-- Which number bytes are. -/
def getV (xs : List UInt8) : Nat := xs.foldl (fun v x => v * 256 + x.toNat) 0
theorem getV_snoc (xs : List UInt8) (x : UInt8) : getV (xs ++ [x]) = getV xs * 256 + x.toNat := by simp [getV]
theorem getV_fold (xs : List UInt8) (v k : Nat) (h : v < 256 ^ k) : xs.foldl (fun v x => v * 256 + x.toNat) v < 256 ^ (k + xs.length) := by
  induction xs generalizing v k with
  | nil => simpa using h
  | cons x xs ih =>
    have hx := x.toNat_lt
    have h2 := ih (v * 256 + x.toNat) (k + 1) (by rw [Nat.pow_succ]; omega)
    rw [List.foldl_cons, List.length_cons, show k + (xs.length + 1) = k + 1 + xs.length by omega]
    exact h2
theorem getV_lt (xs : List UInt8) : getV xs < 256 ^ xs.length := by
  have h := getV_fold xs 0 0 (by decide)
  rw [Nat.zero_add] at h
  exact h

theorem get_arg (A : Option Addr) (m cap : Nat) (a n : Int) (w : World) (h : n < 1 ∨ 8 < n) :
    Calls Tryz.prog 168 #[.slice A m cap, .int .i64 a, .int .i64 n] w fun e w' => e = .returned (.tuple #[.int .u64 0, .int .i64 1]) ∧ w = w' := by
  go_enter Tryz.func168, Tryz.ntmps168
  go_wp2_with fail
  refine (isSize_no n _ h).mono ?_
  rintro e1 w1 ⟨rfl, rfl⟩
  go_wp2
  go_ret2
  exact ⟨rfl, rfl⟩
theorem get_short (A : Option Addr) (m cap : Nat) (a n : Int) (w : World) (h1 : 1 ≤ n) (h2 : n ≤ 8) (hm : m ≤ 9223372036854775807) (h : a < 0 ∨ (m : Int) - n < a) :
    Calls Tryz.prog 168 #[.slice A m cap, .int .i64 a, .int .i64 n] w fun e w' => e = .returned (.tuple #[.int .u64 0, .int .i64 6]) ∧ w = w' := by
  have Hs := Lib.hid (isSize_yes n w h1 h2)
  by_cases h0 : a < 0
  · clear h
    go_enter Tryz.func168, Tryz.ntmps168
    go_wp2_with fail
    refine Hs.out.mono ?_
    rintro e1 w1 ⟨rfl, rfl⟩
    go_wp2
    go_ret2
    exact ⟨rfl, rfl⟩
  · have h3 : (m : Int) - n < a := by omega
    clear h
    go_enter Tryz.func168, Tryz.ntmps168
    go_wp2_with fail
    refine Hs.out.mono ?_
    rintro e1 w1 ⟨rfl, rfl⟩
    go_wp2
    go_ret2
    exact ⟨rfl, rfl⟩

theorem add_add (ad : Addr) (i j : Nat) : (ad.add i).add j = ad.add (i + j) := by
  unfold Addr.add
  by_cases hi : i = 0
  · subst hi; simp
  · by_cases hj : j = 0
    · subst hj; simp
    · rw [if_neg hj, if_neg hi, if_neg (by omega)]
      simp only [Nat.add_assoc]

theorem or256 (y x : Nat) (hy : y < 72057594037927936) (hx : x < 256) : bits .or .u64 (IntKind.u64.wrap ((y : Int) * 256)) (x : Int) = ((y * 256 + x : Nat) : Int) := by
  rw [show IntKind.u64.wrap ((y : Int) * 256) = ((y * 256 : Nat) : Int) by rw [IntKind.wrap_u64]; omega, u64_or_nat _ _ (by omega) (by omega), nat_join 8 _ _ (by omega) (by omega)]
theorem pow256 (k : Nat) (h : k ≤ 7) : 256 ^ k ≤ 72057594037927936 := Nat.pow_le_pow_right (n := 256) (by decide) h

set_option maxHeartbeats 1000000 in
theorem get_yes (A : Option Addr) (m cap a n : Nat) (xs : List UInt8) (w : World) (hB : ByteSl w Empty A m cap xs) (h1 : 1 ≤ n) (h2 : n ≤ 8) (hm : m ≤ 1048576) (ha : a + n ≤ m) :
    Calls Tryz.prog 168 #[.slice A m cap, .int .i64 (a : Int), .int .i64 (n : Int)] w fun e w' => e = .returned (.tuple #[.int .u64 (getV ((xs.drop a).take n) : Int), .int .i64 0]) ∧ w = w' := by
  have hc := hB.2.1
  have hc2 := hB.2.2.1
  unfold maxLen at hc2
  obtain ⟨ad, rfl, hbl, -, hcell⟩ := hB.2.2.2 (by omega)
  have Hcell := Lib.hid hcell
  have Hl := Lib.hid hB.1
  have Hs := Lib.hid (isSize_yes n w (by omega) (by omega))
  have h3 : (a : Int) ≤ (m : Int) - (n : Int) := by omega
  clear hcell hB
  go_enter Tryz.func168, Tryz.ntmps168
  go_wp2_with fail
  refine Hs.out.mono ?_
  rintro e1 w1 ⟨rfl, rfl⟩
  go_wp2
  go_loop [8, 31] (fun v i => ∃ k : Nat, k ≤ n ∧ i = .int .i64 (k : Int) ∧ v = .int .u64 (getV (((xs.drop a).take n).take k) : Int)) (fun _ i => n - (intOf i).toNat)
  case atStart => exact ⟨0, Nat.zero_le _, rfl, rfl⟩
  case round =>
    obtain ⟨k, hk, rfl, rfl⟩ := hrel
    by_cases hlt : k < n
    · have hlen := Hl.out
      have hk1 : a + k < xs.length := by omega
      obtain ⟨x, hx⟩ : ∃ x, xs[a + k]? = some x := ⟨_, List.getElem?_eq_getElem hk1⟩
      have hx2 : ((xs.drop a).take n)[k]? = some x := by rw [List.getElem?_take, if_pos hlt, List.getElem?_drop]; exact hx
      have hcl := Hcell.out (a + k) x hx
      rw [← add_add] at hcl
      have hsn := take_one _ k x hx2
      have hb1 := getV_lt (((xs.drop a).take n).take k)
      have hb2 := pow256 k (by omega)
      have hb3 : (((xs.drop a).take n).take k).length = k := by simp; omega
      rw [hb3] at hb1
      have hv : getV (((xs.drop a).take n).take (k + 1)) = getV (((xs.drop a).take n).take k) * 256 + x.toNat := by rw [hsn, getV_snoc]
      unfold B8 at hcl
      have Hv := Lib.hid hv
      have hy : getV (((xs.drop a).take n).take k) < 72057594037927936 := by omega
      clear hsn hb1 hb2 hb3 hv hx hx2 hk1 hlen
      generalize getV (((xs.drop a).take n).take k) = y at Hv hy ⊢
      have hm2 : x.toNat < 256 := x.toNat_lt
      generalize x.toNat = z at hcl Hv hm2
      have hor := or256 y z hy hm2
      clear hy
      go_wp2
      go_round
      case rel => exact ⟨k + 1, by omega, by go_num, by rw [Hv.out]; simp⟩
      case measure => simp [intOf]; omega
    · obtain rfl : k = n := by omega
      go_wp2
      go_ret2
      exact ⟨by rw [List.take_of_length_le (by simp; omega)]; rfl, rfl⟩


theorem getV_put (v n c : Nat) (hc : c ≤ n) : getV ((putL v n).take c) = v / 2 ^ (8 * (n - c)) % 2 ^ (8 * c) := by
  induction c with
  | zero => simp [getV, Nat.mod_one]
  | succ c ih =>
    rw [putL_next v n c (by omega), getV_snoc, ih (by omega)]
    have e1 : 2 ^ (8 * (n - c)) = 2 ^ (8 * (n - (c + 1))) * 256 := by
      rw [show 8 * (n - c) = 8 * (n - (c + 1)) + 8 by omega, Nat.pow_add]
    have e2 : 2 ^ (8 * (c + 1)) = 256 * 2 ^ (8 * c) := by
      rw [show 8 * (c + 1) = 8 + 8 * c by omega, Nat.pow_add]
    have e3 : (byteOf v (n - 1 - c)).toNat = v / 2 ^ (8 * (n - (c + 1))) % 256 := by
      unfold byteOf
      rw [UInt8.toNat_ofNat', show n - 1 - c = n - (c + 1) by omega]
    rw [e1, e2, e3, ← Nat.div_div_eq_div_mul, Nat.mod_mul]
    omega
theorem getV_putL (v n : Nat) : getV (putL v n) = v % 2 ^ (8 * n) := by
  have h := getV_put v n n (Nat.le_refl _)
  rw [List.take_of_length_le (by rw [putL_len]; omega)] at h
  simpa using h

end Go.Proofs.YtnhfmcijadficaaGreatDoor

/- Headers as plain data, the mark in memory, and the walks over page.Bytes and the document's Bytes. -/
namespace Go.Proofs.YtnhfmcijadficaaGreatDoor
set_option maxRecDepth 100000
open Go.RowKit

/-- The first six bytes of a header. -/
def head6 (s : Nat) : List UInt8 := [67, 66] ++ putL s 4
/-- What a header begins with: the mark, the number, their sum. -/
def headB (s : Nat) : List UInt8 := head6 s ++ putL (crc16 (head6 s)).toNat 2
theorem head6_len (s : Nat) : (head6 s).length = 6 := by simp [head6, putL_len]
theorem headB_len (s : Nat) : (headB s).length = 8 := by simp [headB, head6_len, putL_len]

/-- The program's mark lies where its initialiser laid it. -/
structure Mark (w : World) : Prop where
  c0 : w.cell? ⟨0, 0, none⟩ = some (.int .u8 67)
  c1 : w.cell? ⟨0, 1, none⟩ = some (.int .u8 66)
section
variable {w w' : World} {S : Nat → Prop} {B : Nat}
theorem Mark.pos (h : Mark w) : 0 < w.heap.size := cell_lt h.c0
theorem Mark.only (h : Mark w) (k : Only S w w') (h0 : ¬ S 0) : Mark w' := ⟨(k.cell (p := ⟨0, 0, none⟩) h.pos h0).trans h.c0, (k.cell (p := ⟨0, 1, none⟩) h.pos h0).trans h.c1⟩
theorem Mark.below (h : Mark w) (k : Below w.heap.size w w') : Mark w' := h.only (Only.of_below (S := Empty) k) (fun h => h)
end

/-- Bytes that a call made anew. -/
def GotB (w w' : World) (n : Nat) (xs : List UInt8) (e : Ending) : Prop := (∃ u, e = .returned u ∧ w'.ownsRow w.heap.size 5 1 u n (xs.map B8)) ∧ Below w.heap.size w w'

/-- Bytes that lie in a new block, whatever its type. -/
theorem ByteSl.lit_t (w : World) (S : Nat → Prop) (t : TypeId) (xs : List UInt8) (n : Nat) (hn : xs.length = n) (hS : ¬ S w.heap.size) (h : n ≤ maxLen) :
    ByteSl (w.alloc (.cells (cellsB xs) t)) S (some ⟨w.heap.size, 0, none⟩) n n xs := by
  refine ⟨hn, Nat.le_refl _, h, fun _ => ⟨_, rfl, by simp, hS, fun j x hx => ?_⟩⟩
  have ha : (⟨w.heap.size, 0, none⟩ : Addr).add j = ⟨w.heap.size, j, none⟩ := by unfold Addr.add; split <;> simp_all
  rw [ha, (Blk.new w t (cellsB xs)).cell, cellsB_get, hx]
  rfl

/-- A number's first six bytes, then their sum: what both Bytes do. -/
theorem head6_eq (s : Nat) : [67, 66] ++ putL s 4 = head6 s := rfl

set_option maxHeartbeats 1000000 in
theorem pgBytes_any (s : Nat) (w : World) (hs : s ≤ 4294967295) (hM : Mark w) : Calls Tryz.prog 203 #[.int .u32 (s : Int)] w fun e w' => GotB w w' 8 (headB s) e := by
  have c0 := hM.c0
  have c1 := hM.c1
  have hp := hM.pos
  clear hM
  go_enter Tryz.func203, Tryz.ntmps203
  go_wp2_with fail
  have hB : ByteSl (w.alloc (.cells #[.int .u8 67, .int .u8 66] 245)) Empty (some ⟨w.heap.size, 0, none⟩) 2 2 [67, 66] := ByteSl.lit_t w _ 245 [67, 66] 2 rfl (fun h => h) (by decide)
  clear c0 c1 hp
  refine (put_yes _ 2 2 [67, 66] s 4 _ hB (by omega) (by omega) (by omega) (by omega)).mono ?_
  rintro e1 w1 ⟨⟨u, rfl, hown⟩, hb⟩
  rw [head6_eq] at hown
  have hb1 : Below w.heap.size w w1 := ((Below.refl _ _).alloc (Nat.le_refl _) _).trans (hb.mono (by simp))
  obtain ⟨A1, cap1, rfl, hB1, -⟩ := ByteSl.of_own (S := Empty) hown (fun _ _ _ h => h)
  have Hb1 := Lib.hid hb1
  have HB1 := Lib.hid hB1
  clear hB hown hb hb1 hB1
  go_wp2_with fail
  refine (sum16_any A1 6 cap1 (head6 s) _ HB1.out).mono ?_
  rintro e1 w2 ⟨rfl, hb2⟩
  have HB2 := Lib.hid (HB1.out.only (Only.of_below (S := Empty) hb2) (fun _ _ h => h))
  have Hb2 := Lib.hid (Hb1.out.trans (hb2.mono Hb1.out.size))
  clear hb2
  unfold V16
  have hv := (crc16 (head6 s)).isLt
  obtain ⟨v, hve⟩ : ∃ v, v = (crc16 (head6 s)).toNat := ⟨_, rfl⟩
  rw [← hve] at hv ⊢
  have hv2 : v ≤ 65535 := by omega
  have Hve := Lib.hid hve
  clear hv hve
  go_wp2_with fail
  refine (put_yes A1 6 cap1 (head6 s) v 2 _ HB2.out (by omega) (by omega) (by omega) (by omega)).mono ?_
  rintro e1 w3 ⟨⟨u, rfl, hown⟩, hb⟩
  have Hown := Lib.hid hown
  have Hb3 := Lib.hid hb
  clear hown hb
  go_wp2
  go_ret
  refine ⟨⟨u, rfl, own_base ?_ Hb2.out.size⟩, Hb2.out.trans (Hb3.out.mono Hb2.out.size)⟩
  have h := Hown.out
  rw [Hve.out] at h
  exact h


end Go.Proofs.YtnhfmcijadficaaGreatDoor

/- The walks over page.Parse and the document's Parse. -/
namespace Go.Proofs.YtnhfmcijadficaaGreatDoor
set_option maxRecDepth 100000
open Go.RowKit

/-- What a header tells. -/
structure Hd where
  seq : Nat
  live : Bool
  void : Bool
/-- Parse's error of any bytes. -/
def parseC (xs : List UInt8) : Int :=
  if xs.length < 12 then 6 else if xs.take 2 = [67, 66] then (if getV ((xs.drop 6).take 2) = (crc16 (xs.take 6)).toNat then 0 else 7) else 8
/-- What Parse tells of any bytes. -/
def parseH (xs : List UInt8) : Hd := if parseC xs = 0 then ⟨getV ((xs.drop 2).take 4), decide (xs[8]?.getD 0 = 0), decide (xs[9]?.getD 0 ≠ 255)⟩ else ⟨0, false, false⟩
def Hd.v (h : Hd) : Value := .agg #[.int .u32 (h.seq : Int), .bool h.live, .bool h.void]
/-- Parse's answer. -/
def ParseOk (xs : List UInt8) (w w' : World) (e : Ending) : Prop := e = .returned (.tuple #[(parseH xs).v, .int .i64 (parseC xs)]) ∧ Below w.heap.size w w'

theorem parse_short (A : Option Addr) (n cap : Nat) (xs : List UInt8) (w : World) (hx : xs.length = n) (h : n < 12) :
    Calls Tryz.prog 136 #[.slice A n cap] w fun e w' => ParseOk xs w w' e := by
  have hc : Hid (parseC xs = 6) := Lib.hid (by unfold parseC; rw [if_pos (by omega)])
  go_enter Tryz.func136, Tryz.ntmps136
  go_wp2
  refine bodyPost_ret (v := .tuple #[.agg #[.int .u32 0, .bool false, .bool false], .int .i64 6]) (by simp [results, Tryz.results136, go_sem]) rfl ⟨?_, (Below.refl _ _).alloc (Nat.le_refl _) _⟩
  rw [parseH, hc.out]
  rfl


theorem take2_iff {xs : List UInt8} {x y : UInt8} (h0 : xs[0]? = some x) (h1 : xs[1]? = some y) : xs.take 2 = [67, 66] ↔ x = 67 ∧ y = 66 := by
  match xs, h0, h1 with
  | a :: b :: l, h0, h1 =>
    simp at h0 h1
    subst h0 h1
    simp

theorem u8_ne {x y : UInt8} (h : x ≠ y) : ((x.toNat : Int) == (y.toNat : Int)) = false := by
  rw [beq_eq_false_iff_ne]
  intro e
  apply h
  apply UInt8.toNat_inj.1
  omega

/-- Two bytes held against the mark. -/
theorem eq_two (x y : UInt8) (W : World) : (Op.equalIn 10000 245 (.agg #[.int .u8 (x.toNat : Int), .int .u8 (y.toNat : Int)]) (.agg #[.int .u8 67, .int .u8 66])).run Tryz.prog W = .ok ([x, y] == [67, 66]) W := by
  have h := run_equalIn_bytes (P := Tryz.prog) W 9998 245 5 2 Tryz.underlying245 Tryz.underlying5 (fun W => by
    have hi : (Tryz.prog.info? 5).map (·.size) = some 1 := Tryz.sizeU8
    cases hq : Tryz.prog.info? 5 with
    | none => simp [hq] at hi
    | some i =>
      have hs : i.size = 1 := by simpa [hq] using hi
      simp [sizeOf, typeInfo, hq, hs]) [x, y] [67, 66] rfl rfl
  exact h
theorem eq_two_no {x y : UInt8} (h : ¬ (x = 67 ∧ y = 66)) (W : World) : (Op.equalIn 10000 245 (.agg #[.int .u8 (x.toNat : Int), .int .u8 (y.toNat : Int)]) (.agg #[.int .u8 67, .int .u8 66])).run Tryz.prog W = .ok false W := by
  rw [eq_two]
  congr 1
  simpa using h
theorem eq_two_yes (W : World) : (Op.equalIn 10000 245 (.agg #[.int .u8 67, .int .u8 66]) (.agg #[.int .u8 67, .int .u8 66])).run Tryz.prog W = .ok true W := eq_two 67 66 W

theorem parse_form (ad : Addr) (n cap : Nat) (xs : List UInt8) (x y : UInt8) (w : World) (hB : ByteSl w Empty (some ad) n cap xs) (hM : Mark w) (h : 12 ≤ n) (hn : n ≤ 1048576) (h0 : xs[0]? = some x) (h1 : xs[1]? = some y) (hne : ¬ (x = 67 ∧ y = 66)) :
    Calls Tryz.prog 136 #[.slice (some ad) n cap] w fun e w' => ParseOk xs w w' e := by
  have hc : Hid (parseC xs = 8) := Lib.hid (by unfold parseC; rw [if_neg (by have := hB.1; omega), if_neg (by rw [take2_iff h0 h1]; exact hne)])
  obtain ⟨ad', e, hbl, -, hcell⟩ := hB.2.2.2 (by omega)
  cases e
  obtain ⟨b, o, sp⟩ := ad
  have k0 : w.cell? ⟨b, o, sp⟩ = some (.int .u8 (x.toNat : Int)) := hcell 0 x h0
  have k1 : w.cell? ⟨b, o + 1, none⟩ = some (.int .u8 (y.toNat : Int)) := hcell 1 y h1
  have hbl : b < w.heap.size := hbl
  have m0 := hM.c0
  have m1 := hM.c1
  have mp := hM.pos
  have hat : ∀ w, (Instr.arrayAt 245 (.slice (some ⟨b, o, sp⟩) n cap)).run Tryz.prog w = .ok (.pointer (some ⟨b, o, sp⟩)) w := fun w => run_arrayAt w 245 _ 2 _ n cap Tryz.underlying245 (by omega)
  have heq := fun W => eq_two_no hne W
  clear hcell hB hM h0 h1 hne
  go_enter Tryz.func136, Tryz.ntmps136
  go_wp2
  go_quiet (fail)
  go_wp2
  refine bodyPost_ret (v := .tuple #[.agg #[.int .u32 0, .bool false, .bool false], .int .i64 8]) (by simp [results, Tryz.results136, go_sem]) rfl ⟨?_, (((((Below.refl _ _).alloc (Nat.le_refl _) _).drewN _).setCell (by simp) _).setCell (by simp) _).setCell (by simp) _⟩
  rw [parseH, hc.out]
  rfl

set_option maxHeartbeats 1000000 in
theorem parse_sum (b o : Nat) (sp : Option Nat) (n cap : Nat) (xs : List UInt8) (w : World) (hB : ByteSl w Empty (some ⟨b, o, sp⟩) n cap xs) (hM : Mark w) (h : 12 ≤ n) (hn : n ≤ 1048576) (h0 : xs[0]? = some 67) (h1 : xs[1]? = some 66)
    (hne : getV ((xs.drop 6).take 2) ≠ (crc16 (xs.take 6)).toNat) :
    Calls Tryz.prog 136 #[.slice (some ⟨b, o, sp⟩) n cap] w fun e w' => ParseOk xs w w' e := by
  have hc : Hid (parseC xs = 7) := Lib.hid (by unfold parseC; rw [if_neg (by have := hB.1; omega), if_pos ((take2_iff h0 h1).2 ⟨rfl, rfl⟩), if_neg hne])
  obtain ⟨ad', e, hbl, -, hcell⟩ := hB.2.2.2 (by omega)
  cases e
  have k0 : w.cell? ⟨b, o, sp⟩ = some (.int .u8 67) := hcell 0 67 h0
  have k1 : w.cell? ⟨b, o + 1, none⟩ = some (.int .u8 66) := hcell 1 66 h1
  have hbl : b < w.heap.size := hbl
  have hcap := hB.2.1
  have hcap2 : cap ≤ 9223372036854775807 := by have := hB.2.2.1; unfold maxLen at this; omega
  have m0 := hM.c0
  have m1 := hM.c1
  have mp := hM.pos
  have hat : ∀ w, (Instr.arrayAt 245 (.slice (some ⟨b, o, sp⟩) n cap)).run Tryz.prog w = .ok (.pointer (some ⟨b, o, sp⟩)) w := fun w => run_arrayAt w 245 _ 2 _ n cap Tryz.underlying245 (by omega)
  have heq := fun W => eq_two_yes W
  have HB := Lib.hid hB
  have Hne := Lib.hid hne
  clear hcell hB hM h0 h1 hne
  go_enter Tryz.func136, Tryz.ntmps136
  go_wp2
  go_quiet (fail)
  clear k0 k1 hat heq m0 m1
  have HB1 := Lib.hid (HB.out.only (((Only.refl Empty w).alloc (.cells #[.int .u32 0, .bool false, .bool false] 210)).drewN nq) (fun _ _ h => h))
  go_wp2_with fail
  refine (get_yes _ n cap 2 4 xs _ HB1.out (by omega) (by omega) (by omega) (by omega)).mono ?_
  rintro e1 w1 ⟨rfl, rfl⟩
  go_wp2_with fail
  refine (get_yes _ n cap 6 2 xs _ HB1.out (by omega) (by omega) (by omega) (by omega)).mono ?_
  rintro e1 w1 ⟨rfl, rfl⟩
  have hg := getV_lt ((xs.drop 6).take 2)
  have hgl : ((xs.drop 6).take 2).length = 2 := by have := HB.out.1; simp; omega
  rw [hgl] at hg
  obtain ⟨g, hge⟩ : ∃ g, g = getV ((xs.drop 6).take 2) := ⟨_, rfl⟩
  rw [← hge] at hg ⊢
  have hg2 : g ≤ 65535 := by omega
  have Hge := Lib.hid hge
  clear hg hgl hge
  go_wp2_with fail
  refine (sum16_any _ 6 cap (xs.take 6) _ (HB1.out.take_ 6 (by omega))).mono ?_
  rintro e1 w1 ⟨rfl, hb1⟩
  unfold V16
  have hneq : ((g : Int) == ((crc16 (xs.take 6)).toNat : Int)) = false := by
    rw [beq_eq_false_iff_ne, Hge.out]
    intro e
    exact Hne.out (by omega)
  have hx16 := (crc16 (xs.take 6)).isLt
  generalize (crc16 (xs.take 6)).toNat = s at hneq hx16 ⊢
  have hs2 : s ≤ 65535 := by omega
  have hneq2 : ((g : Int) != (s : Int)) = true := by simp only [bne, hneq]; rfl
  clear hx16
  have Hb1 := Lib.hid hb1
  have hblk : Blk w1 w.heap.size 210 #[.int .u32 0, .bool false, .bool false] := ((Blk.new w 210 #[.int .u32 0, .bool false, .bool false]).drewN nq).of (hb1.block w.heap.size (by simp))
  have c0 := hblk.cell 0
  have c1 := hblk.cell 1
  have c2 := hblk.cell 2
  have f0 := hblk.frozen 0
  have f1 := hblk.frozen 1
  have f2 := hblk.frozen 2
  simp at c0 c1 c2
  clear hb1 hblk
  go_wp2
  refine bodyPost_ret (v := .tuple #[.agg #[.int .u32 0, .bool false, .bool false], .int .i64 7]) (by simp [results, Tryz.results136, go_sem, c0, c1, c2]) rfl ⟨?_, ?_⟩
  · rw [parseH, hc.out]
    rfl
  · exact (((((((Below.refl _ _).alloc (Nat.le_refl _) _).drewN _).trans (Hb1.out.mono (by simp))).setCell (by simp) _).setCell (by simp) _).setCell (by simp) _)

end Go.Proofs.YtnhfmcijadficaaGreatDoor
