/- The walks over num.Put and the document's Put. -/
import Derived.Test.YtnhfmcijadficaaGreatDoorZag
import Derived.Test.YtnhfmcijadficaaGreatDoorZaa
import Derived.Test.YtnhfmcijadficaaGreatDoorZab
import Derived.Lib.SlBytesConst
namespace Go.Proofs.YtnhfmcijadficaaGreatDoor
set_option maxRecDepth 100000
open Go.RowKit

/-- A number's byte, counted from the lowest. -/
def byteOf (v i : Nat) : UInt8 := UInt8.ofNat (v / 2 ^ (8 * i))
/-- The lowest n bytes of a number, the highest first. -/
def putL (v n : Nat) : List UInt8 := (List.range n).map fun j => byteOf v (n - 1 - j)

theorem byteOf_int (v i : Nat) : ((byteOf v i).toNat : Int) = (v : Int) / 2 ^ (8 * i) % 256 := by
  unfold byteOf
  rw [UInt8.toNat_ofNat']
  simp
theorem putL_len (v n : Nat) : (putL v n).length = n := by simp [putL]
theorem putL_next (v n c : Nat) (h : c < n) : (putL v n).take (c + 1) = (putL v n).take c ++ [byteOf v (n - 1 - c)] := by
  rw [List.take_succ_eq_append_getElem (by rw [putL_len]; exact h)]
  simp [putL]

set_option maxHeartbeats 1000000 in
theorem put_yes (A : Option Addr) (m cap : Nat) (xs : List UInt8) (v n : Nat) (w : World) (hB : ByteSl w Empty A m cap xs) (hv : v ≤ 18446744073709551615) (h1 : 1 ≤ n) (h2 : n ≤ 8) (hm : m ≤ 1048576) :
    Calls Tryz.prog 93 #[.slice A m cap, .int .u64 (v : Int), .int .i64 (n : Int)] w fun e w' => (∃ u, e = .returned u ∧ w'.ownsRow w.heap.size 5 1 u (m + n) ((xs ++ putL v n).map B8)) ∧ Below w.heap.size w w' := by
  have hmk := fun W => run_make_cap m (m + n) (by omega) (by omega) W
  rw [show ((m + n : Nat) : Int) = (m : Int) + (n : Int) by simp] at hmk
  obtain ⟨Z, hZ⟩ : ∃ Z, Z = List.replicate (m + n) (0 : UInt8) := ⟨_, rfl⟩
  rw [← hZ] at hmk
  have hZl : Z.length = m + n := by simp [hZ]
  have HZl := Lib.hid hZl
  clear hZ hZl
  go_enter Tryz.func93, Tryz.ntmps93
  go_wp2_with fail
  refine (isSize_yes n _ (by omega) (by omega)).mono ?_
  rintro e1 w1 ⟨rfl, rfl⟩
  have hblk : Blk (w.alloc (.cells (cellsB Z) 5)) w.heap.size 5 (Z.map B8).toArray := Blk.new _ _ _
  have hB1 : ByteSl (w.alloc (.cells (cellsB Z) 5)) Empty A m cap xs := hB.only ((Only.refl Empty w).alloc _) (fun _ _ h => h)
  have hbw : Below w.heap.size w (w.alloc (.cells (cellsB Z) 5)) := (Below.refl _ _).alloc (Nat.le_refl _) _
  have hlen := hB.1
  have Hlen := Lib.hid hlen
  have HB1 := Lib.hid hB1
  have Hblk := Lib.hid hblk
  have Hbw := Lib.hid hbw
  clear hblk hB1 hbw hlen hB
  have hone : ∀ u ∈ xs.map B8, u.oneCell' = true := by
    intro u hu
    obtain ⟨z, _, rfl⟩ := List.mem_map.1 hu
    rfl
  have Hone := Lib.hid hone
  clear hone
  go_wp2_with (with_reducible refine wpList_copy_only rfl (.tmp 19) (.tmp 20) 22 22 rfl 5 Tryz.underlying22 Tryz.sizeU8 (some ⟨w.heap.size, 0, none⟩) A m (m + n) m cap rfl rfl w.heap.size 0 (Z.map B8) 5 Hblk.out (xs.map B8) ?c1 ?c2 ?c3 Hone.out ?_)
  case c1 => simp [Hlen.out]
  case c2 =>
    intro h0
    obtain ⟨ad, rfl, _, _, hc⟩ := HB1.out.2.2.2 (by simp [Hlen.out] at h0; exact h0)
    exact ⟨ad, rfl, hc⟩
  case c3 => simp [Hlen.out, HZl.out]
  intro w2 hb2 ho2
  have hb3 : Blk w2 w.heap.size 5 (cellsB (splice Z 0 xs)) := by
    have h := hb2.out
    rw [splice_map] at h
    exact h
  have hown : w2.ownsRow w.heap.size 5 1 (.slice (some ⟨w.heap.size, 0, none⟩) m (m + n)) m (xs.map B8) :=
    own_of_blk hb3 (Nat.le_refl _) (by rw [length_splice _ _ _ (by simp [Hlen.out, HZl.out]), HZl.out]) (by omega) (by unfold maxLen; omega) (by simp [splice, Hlen.out])
  have hw2 : Below w.heap.size w w2 := Hbw.out.trans (ho2.below (by simp) (by intro k hk e; omega))
  have Hown := Lib.hid hown
  have Hw2 := Lib.hid hw2
  clear hb2 hb3 ho2 hown hw2
  have hz : w.heap.size ≤ w2.heap.size := Hw2.out.size
  have Hz := Lib.hid hz
  clear hz
  go_wp2
  go_loopw [7, 8] (fun u i wr => ∃ c : Nat, c ≤ n ∧ i = .int .i64 ((n : Int) - 1 - (c : Int)) ∧ wr.ownsRow w.heap.size 5 1 u (m + c) ((xs ++ (putL v n).take c).map B8) ∧ Below w.heap.size w wr) (fun _ i _ => (intOf i + 1).toNat)
  case atStart => exact ⟨0, by omega, by simp, by simpa using Hown.out, Hw2.out⟩
  case round =>
    obtain ⟨c, hc, rfl, hO, hW⟩ := hrel
    have HO := Lib.hid hO
    have HW := Lib.hid hW
    clear hO hW
    by_cases hlt : c < n
    · obtain ⟨j, hj⟩ : ∃ j : Nat, n - 1 - c = j := ⟨_, rfl⟩
      have hj1 : (n : Int) - 1 - (c : Int) = (j : Int) := by omega
      have hj2 : j ≤ 7 := by omega
      have hby := byteOf_int v j
      have hnx := putL_next v n c hlt
      rw [hj] at hnx
      rw [hj1]
      have Hj := Lib.hid hj
      have Hnx := Lib.hid hnx
      clear hj hj1 hnx
      have e : cellsB [byteOf v j] = #[.int .u8 ((v : Int) / 2 ^ (8 * j) % 256)] := by
        show #[Value.int .u8 ((byteOf v j).toNat : Int)] = _
        rw [hby]
      have hl := ByteSl.lit wr Empty [byteOf v j] 1 rfl (fun h => h) (by decide)
      rw [e] at hl
      have HL := Lib.hid hl
      have hO2 := own_alloc HO.out (.cells #[.int .u8 ((v : Int) / 2 ^ (8 * j) % 256)] 5)
      have HO2 := Lib.hid hO2
      have hW2 := HW.out.alloc (HW.out.size) (.cells #[.int .u8 ((v : Int) / 2 ^ (8 * j) % 256)] 5)
      have HW2 := Lib.hid hW2
      have hlt2 := hO2.lt
      have Hlt2 := Lib.hid hlt2
      clear e hl hO2 hby hW2 hlt2
      go_wp2_with (at_builtin; refine wpList_append_bytes rfl (.tmp 28) (.tmp 34) rfl w.heap.size _ rfl (m + c) (xs ++ (putL v n).take c) HO2.out (some ⟨wr.heap.size, 0, none⟩) 1 1 [byteOf v j] Empty rfl HL.out (fun h => by cases h) ?c4 ?c5 ?_)
      case c4 => omega
      case c5 => exact HW2.out.size
      intro v7 w7 hown7 hg7 _
      have HO7 := Lib.hid hown7
      have HW7 := Lib.hid (below_grown HW2.out HW2.out.size hg7 (fun q hq => (Hlt2.out q hq).1))
      clear hown7 hg7
      go_wp2
      go_roundw
      case rel => exact ⟨c + 1, by omega, by congr 1; have := Hj.out; omega, by rw [Hnx.out]; simp only [List.map_append, List.map_take, List.map_cons, List.map_nil]; exact HO7.out, HW7.out⟩
      case measure => simp [intOf]
    · obtain rfl : c = n := by omega
      have hneg : (c : Int) - 1 - (c : Int) = -1 := by omega
      rw [hneg]
      clear hneg
      go_wp2
      go_ret
      exact ⟨⟨_, rfl, by have h := HO.out; rw [List.take_of_length_le (by rw [putL_len]; omega)] at h; exact h⟩, HW.out⟩

set_option maxHeartbeats 1000000 in
theorem put_no (A : Option Addr) (m cap : Nat) (xs : List UInt8) (v : Nat) (n : Int) (w : World) (hB : ByteSl w Empty A m cap xs) (h : n < 1 ∨ 8 < n) (hm : m ≤ 1048576) :
    Calls Tryz.prog 93 #[.slice A m cap, .int .u64 (v : Int), .int .i64 n] w fun e w' => (∃ u, e = .returned u ∧ w'.ownsRow w.heap.size 5 1 u m (xs.map B8)) ∧ Below w.heap.size w w' := by
  have hmk := fun W => run_make_cap m m (by omega) (by omega) W
  obtain ⟨Z, hZ⟩ : ∃ Z, Z = List.replicate m (0 : UInt8) := ⟨_, rfl⟩
  rw [← hZ] at hmk
  have hZl : Z.length = m := by simp [hZ]
  have HZl := Lib.hid hZl
  clear hZ hZl
  go_enter Tryz.func93, Tryz.ntmps93
  go_wp2_with fail
  refine (isSize_no n _ h).mono ?_
  rintro e1 w1 ⟨rfl, rfl⟩
  have hblk : Blk (w.alloc (.cells (cellsB Z) 5)) w.heap.size 5 (Z.map B8).toArray := Blk.new _ _ _
  have hB1 : ByteSl (w.alloc (.cells (cellsB Z) 5)) Empty A m cap xs := hB.only ((Only.refl Empty w).alloc _) (fun _ _ h => h)
  have hbw : Below w.heap.size w (w.alloc (.cells (cellsB Z) 5)) := (Below.refl _ _).alloc (Nat.le_refl _) _
  have hlen := hB.1
  have Hlen := Lib.hid hlen
  have HB1 := Lib.hid hB1
  have Hblk := Lib.hid hblk
  have Hbw := Lib.hid hbw
  clear hblk hB1 hbw hlen hB h
  have hone : ∀ u ∈ xs.map B8, u.oneCell' = true := by
    intro u hu
    obtain ⟨z, _, rfl⟩ := List.mem_map.1 hu
    rfl
  have Hone := Lib.hid hone
  clear hone
  go_wp2_with (with_reducible refine wpList_copy_only rfl (.tmp 19) (.tmp 20) 22 22 rfl 5 Tryz.underlying22 Tryz.sizeU8 (some ⟨w.heap.size, 0, none⟩) A m m m cap rfl rfl w.heap.size 0 (Z.map B8) 5 Hblk.out (xs.map B8) ?c1 ?c2 ?c3 Hone.out ?_)
  case c1 => simp [Hlen.out]
  case c2 =>
    intro h0
    obtain ⟨ad, rfl, _, _, hc⟩ := HB1.out.2.2.2 (by simp [Hlen.out] at h0; exact h0)
    exact ⟨ad, rfl, hc⟩
  case c3 => simp [Hlen.out, HZl.out]
  intro w2 hb2 ho2
  have hb3 : Blk w2 w.heap.size 5 (cellsB (splice Z 0 xs)) := by
    have h := hb2.out
    rw [splice_map] at h
    exact h
  have hown : w2.ownsRow w.heap.size 5 1 (.slice (some ⟨w.heap.size, 0, none⟩) m m) m (xs.map B8) :=
    own_of_blk hb3 (Nat.le_refl _) (by rw [length_splice _ _ _ (by simp [Hlen.out, HZl.out]), HZl.out]) (by omega) (by unfold maxLen; omega) (by simp [splice, Hlen.out])
  have hw2 : Below w.heap.size w w2 := Hbw.out.trans (ho2.below (by simp) (by intro k hk e; omega))
  have Hown := Lib.hid hown
  have Hw2 := Lib.hid hw2
  clear hb2 hb3 ho2 hown hw2
  go_wp2
  go_loop [7, 8] (fun u i => u = .slice (some ⟨w.heap.size, 0, none⟩) m m ∧ i = .int .i64 (-1)) (fun _ i => (intOf i + 1).toNat)
  case atStart => exact ⟨rfl, rfl⟩
  case round =>
    obtain ⟨rfl, rfl⟩ := hrel
    go_wp2
    go_ret
    exact ⟨⟨_, rfl, Hown.out⟩, Hw2.out⟩

set_option maxHeartbeats 1000000 in
theorem refPut_no (A : Option Addr) (m cap : Nat) (xs : List UInt8) (v : Nat) (n : Int) (w : World) (hB : ByteSl w Empty A m cap xs) (hA : A = none → m = 0 ∧ cap = 0) (h : n < 1 ∨ 8 < n) (hm : m ≤ 1048576) :
    Calls Tryz.prog 104 #[.slice A m cap, .int .u64 (v : Int), .int .i64 n] w fun e w' => (∃ u, e = .returned u ∧ w'.ownsRow w.heap.size 5 1 u m (xs.map B8)) ∧ Below w.heap.size w w' := by
  have HO := Lib.hid (own_made w w.heap.size (Nat.le_refl _))
  have HB := Lib.hid (hB.only ((Only.refl Empty w).alloc (.cells #[] 5)) (fun _ _ h => h))
  have HW := Lib.hid ((Below.refl w.heap.size w).alloc (Nat.le_refl _) (.cells #[] 5))
  have HA := Lib.hid hA
  clear hB hA
  by_cases hs : n < 1
  all_goals
    go_enter Tryz.func104, Tryz.ntmps104
    go_wp2_with (at_builtin; refine wpList_append_bytes rfl (.tmp 9) (.tmp 10) rfl w.heap.size _ rfl 0 [] HO.out A m cap xs Empty rfl HB.out HA.out (by omega) HW.out.size ?_)
    intro v7 w7 hown7 hg7 _
    have HO7 := Lib.hid hown7
    have HW7 := Lib.hid (below_grown HW.out HW.out.size hg7 (fun q hq => by simp [Value.ownBlock] at hq; omega))
    clear hown7 hg7
    have hd : decide (8 < n) = true ∨ n < 1 := by simp; omega
    go_wp2
    go_ret
    exact ⟨⟨_, rfl, by have h := HO7.out; simpa using h⟩, HW7.out⟩

set_option maxHeartbeats 1000000 in
theorem refPut_yes (A : Option Addr) (m cap : Nat) (xs : List UInt8) (v n : Nat) (w : World) (hB : ByteSl w Empty A m cap xs) (hA : A = none → m = 0 ∧ cap = 0) (hv : v ≤ 18446744073709551615) (h1 : 1 ≤ n) (h2 : n ≤ 8) (hm : m ≤ 1048576) :
    Calls Tryz.prog 104 #[.slice A m cap, .int .u64 (v : Int), .int .i64 (n : Int)] w fun e w' => (∃ u, e = .returned u ∧ w'.ownsRow w.heap.size 5 1 u (m + n) ((xs ++ putL v n).map B8)) ∧ Below w.heap.size w w' := by
  have HO := Lib.hid (own_made w w.heap.size (Nat.le_refl _))
  have HB := Lib.hid (hB.only ((Only.refl Empty w).alloc (.cells #[] 5)) (fun _ _ h => h))
  have HW := Lib.hid ((Below.refl w.heap.size w).alloc (Nat.le_refl _) (.cells #[] 5))
  have HA := Lib.hid hA
  clear hB hA
  go_enter Tryz.func104, Tryz.ntmps104
  go_wp2_with (at_builtin; refine wpList_append_bytes rfl (.tmp 9) (.tmp 10) rfl w.heap.size _ rfl 0 [] HO.out A m cap xs Empty rfl HB.out HA.out (by omega) HW.out.size ?_)
  intro v7 w7 hown7 hg7 _
  have hown8 : w7.ownsRow w.heap.size 5 1 v7 m (xs.map B8) := by simpa using hown7
  have Hown := Lib.hid hown8
  have Hw2 := Lib.hid (below_grown HW.out HW.out.size hg7 (fun q hq => by simp [Value.ownBlock] at hq; omega))
  clear hown7 hg7 hown8
  go_wp2
  go_loopw [7, 8] (fun u i wr => ∃ c : Nat, c ≤ n ∧ i = .int .i64 ((n : Int) - 1 - (c : Int)) ∧ wr.ownsRow w.heap.size 5 1 u (m + c) ((xs ++ (putL v n).take c).map B8) ∧ Below w.heap.size w wr) (fun _ i _ => (intOf i + 1).toNat)
  case atStart => exact ⟨0, by omega, by simp, by simpa using Hown.out, Hw2.out⟩
  case round =>
    obtain ⟨c, hc, rfl, hO, hW⟩ := hrel
    have HO := Lib.hid hO
    have HW := Lib.hid hW
    clear hO hW
    by_cases hlt : c < n
    · obtain ⟨j, hj⟩ : ∃ j : Nat, n - 1 - c = j := ⟨_, rfl⟩
      have hj1 : (n : Int) - 1 - (c : Int) = (j : Int) := by omega
      have hj2 : j ≤ 7 := by omega
      have hby := byteOf_int v j
      have hnx := putL_next v n c hlt
      rw [hj] at hnx
      rw [hj1]
      have Hj := Lib.hid hj
      have Hnx := Lib.hid hnx
      clear hj hj1 hnx
      have e : cellsB [byteOf v j] = #[.int .u8 (((v : Int) / 2 ^ (8 * j)).tmod 256 % 256)] := by
        show #[Value.int .u8 ((byteOf v j).toNat : Int)] = _
        rw [hby, Int.tmod_eq_emod_of_nonneg (Int.ediv_nonneg (by omega) (Int.le_of_lt (Int.pow_pos (by decide)))), Int.emod_emod]
      have hl := ByteSl.lit wr Empty [byteOf v j] 1 rfl (fun h => h) (by decide)
      rw [e] at hl
      have HL := Lib.hid hl
      have hO2 := own_alloc HO.out (.cells #[.int .u8 (((v : Int) / 2 ^ (8 * j)).tmod 256 % 256)] 5)
      have HO2 := Lib.hid hO2
      have hW2 := HW.out.alloc (HW.out.size) (.cells #[.int .u8 (((v : Int) / 2 ^ (8 * j)).tmod 256 % 256)] 5)
      have HW2 := Lib.hid hW2
      have hlt2 := hO2.lt
      have Hlt2 := Lib.hid hlt2
      clear e hl hO2 hby hW2 hlt2
      go_wp2_with (at_builtin; refine wpList_append_bytes rfl (.tmp 25) (.tmp 33) rfl w.heap.size _ rfl (m + c) (xs ++ (putL v n).take c) HO2.out (some ⟨wr.heap.size, 0, none⟩) 1 1 [byteOf v j] Empty rfl HL.out (fun h => by cases h) (by omega) HW2.out.size ?_)
      intro v7 w7 hown7 hg7 _
      have HO7 := Lib.hid hown7
      have HW7 := Lib.hid (below_grown HW2.out HW2.out.size hg7 (fun q hq => (Hlt2.out q hq).1))
      clear hown7 hg7
      go_wp2
      go_roundw
      case rel => exact ⟨c + 1, by omega, by congr 1; have := Hj.out; omega, by rw [Hnx.out]; simp only [List.map_append, List.map_take, List.map_cons, List.map_nil]; exact HO7.out, HW7.out⟩
      case measure => simp [intOf]
    · obtain rfl : c = n := by omega
      have hneg : (c : Int) - 1 - (c : Int) = -1 := by omega
      rw [hneg]
      clear hneg
      go_wp2
      go_ret
      exact ⟨⟨_, rfl, by have h := HO.out; rw [List.take_of_length_le (by rw [putL_len]; omega)] at h; exact h⟩, HW.out⟩

end Go.Proofs.YtnhfmcijadficaaGreatDoor

/- The walks over num.Get and the document's Get. -/
namespace Go.Proofs.YtnhfmcijadficaaGreatDoor
set_option maxRecDepth 100000
open Go.RowKit

/-- Which number bytes are. -/
def getV (xs : List UInt8) : Nat := xs.foldl (fun v x => v * 256 + x.toNat) 0
theorem getV_snoc (xs : List UInt8) (x : UInt8) : getV (xs ++ [x]) = getV xs * 256 + x.toNat := by simp [getV]
theorem getV_fold (xs : List UInt8) (v k : Nat) (h : v < 256 ^ k) : xs.foldl (fun v x => v * 256 + x.toNat) v < 256 ^ (k + xs.length) := by
  induction xs generalizing v k with
  | nil => simpa using h
  | cons x xs ih =>
    have hx := x.toNat_lt
    have h2 := ih (v * 256 + x.toNat) (k + 1) (by rw [Nat.pow_succ]; omega)
    rw [List.foldl_cons, List.length_cons, show k + (xs.length + 1) = k + 1 + xs.length by omega]
    exact h2
theorem getV_lt (xs : List UInt8) : getV xs < 256 ^ xs.length := by
  have h := getV_fold xs 0 0 (by decide)
  rw [Nat.zero_add] at h
  exact h

theorem get_arg (A : Option Addr) (m cap : Nat) (a n : Int) (w : World) (h : n < 1 ∨ 8 < n) :
    Calls Tryz.prog 168 #[.slice A m cap, .int .i64 a, .int .i64 n] w fun e w' => e = .returned (.tuple #[.int .u64 0, .int .i64 1]) ∧ w = w' := by
  go_enter Tryz.func168, Tryz.ntmps168
  go_wp2_with fail
  refine (isSize_no n _ h).mono ?_
  rintro e1 w1 ⟨rfl, rfl⟩
  go_wp2
  go_ret2
  exact ⟨rfl, rfl⟩
theorem get_short (A : Option Addr) (m cap : Nat) (a n : Int) (w : World) (h1 : 1 ≤ n) (h2 : n ≤ 8) (hm : m ≤ 9223372036854775807) (h : a < 0 ∨ (m : Int) - n < a) :
    Calls Tryz.prog 168 #[.slice A m cap, .int .i64 a, .int .i64 n] w fun e w' => e = .returned (.tuple #[.int .u64 0, .int .i64 6]) ∧ w = w' := by
  have Hs := Lib.hid (isSize_yes n w h1 h2)
  by_cases h0 : a < 0
  · clear h
    go_enter Tryz.func168, Tryz.ntmps168
    go_wp2_with fail
    refine Hs.out.mono ?_
    rintro e1 w1 ⟨rfl, rfl⟩
    go_wp2
    go_ret2
    exact ⟨rfl, rfl⟩
  · have h3 : (m : Int) - n < a := by omega
    clear h
    go_enter Tryz.func168, Tryz.ntmps168
    go_wp2_with fail
    refine Hs.out.mono ?_
    rintro e1 w1 ⟨rfl, rfl⟩
    go_wp2
    go_ret2
    exact ⟨rfl, rfl⟩

theorem add_add (ad : Addr) (i j : Nat) : (ad.add i).add j = ad.add (i + j) := by
  unfold Addr.add
  by_cases hi : i = 0
  · subst hi; simp
  · by_cases hj : j = 0
    · subst hj; simp
    · rw [if_neg hj, if_neg hi, if_neg (by omega)]
      simp only [Nat.add_assoc]

theorem or256 (y x : Nat) (hy : y < 72057594037927936) (hx : x < 256) : bits .or .u64 (IntKind.u64.wrap ((y : Int) * 256)) (x : Int) = ((y * 256 + x : Nat) : Int) := by
  rw [show IntKind.u64.wrap ((y : Int) * 256) = ((y * 256 : Nat) : Int) by rw [IntKind.wrap_u64]; omega, u64_or_nat _ _ (by omega) (by omega), nat_join 8 _ _ (by omega) (by omega)]
theorem pow256 (k : Nat) (h : k ≤ 7) : 256 ^ k ≤ 72057594037927936 := Nat.pow_le_pow_right (n := 256) (by decide) h

set_option maxHeartbeats 1000000 in
theorem get_yes (A : Option Addr) (m cap a n : Nat) (xs : List UInt8) (w : World) (hB : ByteSl w Empty A m cap xs) (h1 : 1 ≤ n) (h2 : n ≤ 8) (hm : m ≤ 1048576) (ha : a + n ≤ m) :
    Calls Tryz.prog 168 #[.slice A m cap, .int .i64 (a : Int), .int .i64 (n : Int)] w fun e w' => e = .returned (.tuple #[.int .u64 (getV ((xs.drop a).take n) : Int), .int .i64 0]) ∧ w = w' := by
  have hc := hB.2.1
  have hc2 := hB.2.2.1
  unfold maxLen at hc2
  obtain ⟨ad, rfl, hbl, -, hcell⟩ := hB.2.2.2 (by omega)
  have Hcell := Lib.hid hcell
  have Hl := Lib.hid hB.1
  have Hs := Lib.hid (isSize_yes n w (by omega) (by omega))
  have h3 : (a : Int) ≤ (m : Int) - (n : Int) := by omega
  clear hcell hB
  go_enter Tryz.func168, Tryz.ntmps168
  go_wp2_with fail
  refine Hs.out.mono ?_
  rintro e1 w1 ⟨rfl, rfl⟩
  go_wp2
  go_loop [8, 31] (fun v i => ∃ k : Nat, k ≤ n ∧ i = .int .i64 (k : Int) ∧ v = .int .u64 (getV (((xs.drop a).take n).take k) : Int)) (fun _ i => n - (intOf i).toNat)
  case atStart => exact ⟨0, Nat.zero_le _, rfl, rfl⟩
  case round =>
    obtain ⟨k, hk, rfl, rfl⟩ := hrel
    by_cases hlt : k < n
    · have hlen := Hl.out
      have hk1 : a + k < xs.length := by omega
      obtain ⟨x, hx⟩ : ∃ x, xs[a + k]? = some x := ⟨_, List.getElem?_eq_getElem hk1⟩
      have hx2 : ((xs.drop a).take n)[k]? = some x := by rw [List.getElem?_take, if_pos hlt, List.getElem?_drop]; exact hx
      have hcl := Hcell.out (a + k) x hx
      rw [← add_add] at hcl
      have hsn := take_one _ k x hx2
      have hb1 := getV_lt (((xs.drop a).take n).take k)
      have hb2 := pow256 k (by omega)
      have hb3 : (((xs.drop a).take n).take k).length = k := by simp; omega
      rw [hb3] at hb1
      have hv : getV (((xs.drop a).take n).take (k + 1)) = getV (((xs.drop a).take n).take k) * 256 + x.toNat := by rw [hsn, getV_snoc]
      unfold B8 at hcl
      have Hv := Lib.hid hv
      have hy : getV (((xs.drop a).take n).take k) < 72057594037927936 := by omega
      clear hsn hb1 hb2 hb3 hv hx hx2 hk1 hlen
      generalize getV (((xs.drop a).take n).take k) = y at Hv hy ⊢
      have hm2 : x.toNat < 256 := x.toNat_lt
      generalize x.toNat = z at hcl Hv hm2
      have hor := or256 y z hy hm2
      clear hy
      go_wp2
      go_round
      case rel => exact ⟨k + 1, by omega, by go_num, by rw [Hv.out]; simp⟩
      case measure => simp [intOf]; omega
    · obtain rfl : k = n := by omega
      go_wp2
      go_ret2
      exact ⟨by rw [List.take_of_length_le (by simp; omega)]; rfl, rfl⟩


theorem getV_put (v n c : Nat) (hc : c ≤ n) : getV ((putL v n).take c) = v / 2 ^ (8 * (n - c)) % 2 ^ (8 * c) := by
  induction c with
  | zero => simp [getV, Nat.mod_one]
  | succ c ih =>
    rw [putL_next v n c (by omega), getV_snoc, ih (by omega)]
    have e1 : 2 ^ (8 * (n - c)) = 2 ^ (8 * (n - (c + 1))) * 256 := by
      rw [show 8 * (n - c) = 8 * (n - (c + 1)) + 8 by omega, Nat.pow_add]
    have e2 : 2 ^ (8 * (c + 1)) = 256 * 2 ^ (8 * c) := by
      rw [show 8 * (c + 1) = 8 + 8 * c by omega, Nat.pow_add]
    have e3 : (byteOf v (n - 1 - c)).toNat = v / 2 ^ (8 * (n - (c + 1))) % 256 := by
      unfold byteOf
      rw [UInt8.toNat_ofNat', show n - 1 - c = n - (c + 1) by omega]
    rw [e1, e2, e3, ← Nat.div_div_eq_div_mul, Nat.mod_mul]
    omega
theorem getV_putL (v n : Nat) : getV (putL v n) = v % 2 ^ (8 * n) := by
  have h := getV_put v n n (Nat.le_refl _)
  rw [List.take_of_length_le (by rw [putL_len]; omega)] at h
  simpa using h

end Go.Proofs.YtnhfmcijadficaaGreatDoor

/- Headers as plain data, the mark in memory, and the walks over page.Bytes and the document's Bytes. -/
namespace Go.Proofs.YtnhfmcijadficaaGreatDoor
set_option maxRecDepth 100000
open Go.RowKit

/-- The first six bytes of a header. -/
def head6 (s : Nat) : List UInt8 := [67, 66] ++ putL s 4
/-- What a header begins with: the mark, the number, their sum. -/
def headB (s : Nat) : List UInt8 := head6 s ++ putL (crc16 (head6 s)).toNat 2
theorem head6_len (s : Nat) : (head6 s).length = 6 := by simp [head6, putL_len]
theorem headB_len (s : Nat) : (headB s).length = 8 := by simp [headB, head6_len, putL_len]

/-- The program's mark lies where its initialiser laid it. -/
structure Mark (w : World) : Prop where
  c0 : w.cell? ⟨0, 0, none⟩ = some (.int .u8 67)
  c1 : w.cell? ⟨0, 1, none⟩ = some (.int .u8 66)
section
variable {w w' : World} {S : Nat → Prop} {B : Nat}
theorem Mark.pos (h : Mark w) : 0 < w.heap.size := cell_lt h.c0
theorem Mark.only (h : Mark w) (k : Only S w w') (h0 : ¬ S 0) : Mark w' := ⟨(k.cell (p := ⟨0, 0, none⟩) h.pos h0).trans h.c0, (k.cell (p := ⟨0, 1, none⟩) h.pos h0).trans h.c1⟩
theorem Mark.below (h : Mark w) (k : Below w.heap.size w w') : Mark w' := h.only (Only.of_below (S := Empty) k) (fun h => h)
end

/-- Bytes that a call made anew. -/
def GotB (w w' : World) (n : Nat) (xs : List UInt8) (e : Ending) : Prop := (∃ u, e = .returned u ∧ w'.ownsRow w.heap.size 5 1 u n (xs.map B8)) ∧ Below w.heap.size w w'

/-- Bytes that lie in a new block, whatever its type. -/
theorem ByteSl.lit_t (w : World) (S : Nat → Prop) (t : TypeId) (xs : List UInt8) (n : Nat) (hn : xs.length = n) (hS : ¬ S w.heap.size) (h : n ≤ maxLen) :
    ByteSl (w.alloc (.cells (cellsB xs) t)) S (some ⟨w.heap.size, 0, none⟩) n n xs := by
  refine ⟨hn, Nat.le_refl _, h, fun _ => ⟨_, rfl, by simp, hS, fun j x hx => ?_⟩⟩
  have ha : (⟨w.heap.size, 0, none⟩ : Addr).add j = ⟨w.heap.size, j, none⟩ := by unfold Addr.add; split <;> simp_all
  rw [ha, (Blk.new w t (cellsB xs)).cell, cellsB_get, hx]
  rfl

/-- A number's first six bytes, then their sum: what both Bytes do. -/
theorem head6_eq (s : Nat) : [67, 66] ++ putL s 4 = head6 s := rfl

set_option maxHeartbeats 1000000 in
theorem pgBytes_any (s : Nat) (w : World) (hs : s ≤ 4294967295) (hM : Mark w) : Calls Tryz.prog 203 #[.int .u32 (s : Int)] w fun e w' => GotB w w' 8 (headB s) e := by
  have c0 := hM.c0
  have c1 := hM.c1
  have hp := hM.pos
  clear hM
  go_enter Tryz.func203, Tryz.ntmps203
  go_wp2_with fail
  have hB : ByteSl (w.alloc (.cells #[.int .u8 67, .int .u8 66] 245)) Empty (some ⟨w.heap.size, 0, none⟩) 2 2 [67, 66] := ByteSl.lit_t w _ 245 [67, 66] 2 rfl (fun h => h) (by decide)
  clear c0 c1 hp
  refine (put_yes _ 2 2 [67, 66] s 4 _ hB (by omega) (by omega) (by omega) (by omega)).mono ?_
  rintro e1 w1 ⟨⟨u, rfl, hown⟩, hb⟩
  rw [head6_eq] at hown
  have hb1 : Below w.heap.size w w1 := ((Below.refl _ _).alloc (Nat.le_refl _) _).trans (hb.mono (by simp))
  obtain ⟨A1, cap1, rfl, hB1, -⟩ := ByteSl.of_own (S := Empty) hown (fun _ _ _ h => h)
  have Hb1 := Lib.hid hb1
  have HB1 := Lib.hid hB1
  clear hB hown hb hb1 hB1
  go_wp2_with fail
  refine (sum16_any A1 6 cap1 (head6 s) _ HB1.out).mono ?_
  rintro e1 w2 ⟨rfl, hb2⟩
  have HB2 := Lib.hid (HB1.out.only (Only.of_below (S := Empty) hb2) (fun _ _ h => h))
  have Hb2 := Lib.hid (Hb1.out.trans (hb2.mono Hb1.out.size))
  clear hb2
  unfold V16
  have hv := (crc16 (head6 s)).isLt
  obtain ⟨v, hve⟩ : ∃ v, v = (crc16 (head6 s)).toNat := ⟨_, rfl⟩
  rw [← hve] at hv ⊢
  have hv2 : v ≤ 65535 := by omega
  have Hve := Lib.hid hve
  clear hv hve
  go_wp2_with fail
  refine (put_yes A1 6 cap1 (head6 s) v 2 _ HB2.out (by omega) (by omega) (by omega) (by omega)).mono ?_
  rintro e1 w3 ⟨⟨u, rfl, hown⟩, hb⟩
  have Hown := Lib.hid hown
  have Hb3 := Lib.hid hb
  clear hown hb
  go_wp2
  go_ret
  refine ⟨⟨u, rfl, own_base ?_ Hb2.out.size⟩, Hb2.out.trans (Hb3.out.mono Hb2.out.size)⟩
  have h := Hown.out
  rw [Hve.out] at h
  exact h


end Go.Proofs.YtnhfmcijadficaaGreatDoor
