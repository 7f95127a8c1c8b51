/- The walks over num.Put and the document's Put. -/
import Derived.Test.YtcpcjcbeeeoabaaDoorNa
import Derived.Test.YtcpcjcbeeeoabaaDoorBy
namespace Go.Proofs.YtcpcjcbeeeoabaaDoor
set_option maxRecDepth 100000
open Go.RowKit

/-- A number's byte, counted from the lowest. -/
def byteOf (v i : Nat) : UInt8 := UInt8.ofNat (v / 2 ^ (8 * i))
/-- The lowest n bytes of a number, the highest first. -/
def putL (v n : Nat) : List UInt8 := (List.range n).map fun j => byteOf v (n - 1 - j)

theorem byteOf_int (v i : Nat) : ((byteOf v i).toNat : Int) = (v : Int) / 2 ^ (8 * i) % 256 := by
  unfold byteOf
  rw [UInt8.toNat_ofNat']
  simp
theorem putL_len (v n : Nat) : (putL v n).length = n := by simp [putL]
theorem putL_next (v n c : Nat) (h : c < n) : (putL v n).take (c + 1) = (putL v n).take c ++ [byteOf v (n - 1 - c)] := by
  rw [List.take_succ_eq_append_getElem (by rw [putL_len]; exact h)]
  simp [putL]

set_option maxHeartbeats 1000000 in
theorem put_yes (A : Option Addr) (m cap : Nat) (xs : List UInt8) (v n : Nat) (w : World) (hB : ByteSl w Empty A m cap xs) (hv : v ≤ 18446744073709551615) (h1 : 1 ≤ n) (h2 : n ≤ 8) (hm : m ≤ 1048576) :
    Calls Tryd.prog 39 #[.slice A m cap, .int .u64 (v : Int), .int .i64 (n : Int)] w fun e w' => (∃ u, e = .returned u ∧ w'.ownsRow w.heap.size 5 1 u (m + n) ((xs ++ putL v n).map B8)) ∧ Below w.heap.size w w' := by
  have hmk := fun W => run_make_cap m (m + n) (by omega) (by omega) W
  rw [show ((m + n : Nat) : Int) = (m : Int) + (n : Int) by simp] at hmk
  obtain ⟨Z, hZ⟩ : ∃ Z, Z = List.replicate (m + n) (0 : UInt8) := ⟨_, rfl⟩
  rw [← hZ] at hmk
  have hZl : Z.length = m + n := by simp [hZ]
  have HZl := Lib.hid hZl
  clear hZ hZl
  go_enter Tryd.func39, Tryd.ntmps39
  go_wp2_with fail
  refine (isSize_yes n _ (by omega) (by omega)).mono ?_
  rintro e1 w1 ⟨rfl, rfl⟩
  have hblk : Blk (w.alloc (.cells (cellsB Z) 5)) w.heap.size 5 (Z.map B8).toArray := Blk.new _ _ _
  have hB1 : ByteSl (w.alloc (.cells (cellsB Z) 5)) Empty A m cap xs := hB.only ((Only.refl Empty w).alloc _) (fun _ _ h => h)
  have hbw : Below w.heap.size w (w.alloc (.cells (cellsB Z) 5)) := (Below.refl _ _).alloc (Nat.le_refl _) _
  have hlen := hB.1
  have Hlen := Lib.hid hlen
  have HB1 := Lib.hid hB1
  have Hblk := Lib.hid hblk
  have Hbw := Lib.hid hbw
  clear hblk hB1 hbw hlen hB
  have hone : ∀ u ∈ xs.map B8, u.oneCell' = true := by
    intro u hu
    obtain ⟨z, _, rfl⟩ := List.mem_map.1 hu
    rfl
  have Hone := Lib.hid hone
  clear hone
  go_wp2_with (with_reducible refine wpList_copy_only rfl (.tmp 19) (.tmp 20) 25 25 rfl 5 Tryd.underlying25 Tryd.sizeU8 (some ⟨w.heap.size, 0, none⟩) A m (m + n) m cap rfl rfl w.heap.size 0 (Z.map B8) 5 Hblk.out (xs.map B8) ?c1 ?c2 ?c3 Hone.out ?_)
  case c1 => simp [Hlen.out]
  case c2 =>
    intro h0
    obtain ⟨ad, rfl, _, _, hc⟩ := HB1.out.2.2.2 (by simp [Hlen.out] at h0; exact h0)
    exact ⟨ad, rfl, hc⟩
  case c3 => simp [Hlen.out, HZl.out]
  intro w2 hb2 ho2
  have hb3 : Blk w2 w.heap.size 5 (cellsB (splice Z 0 xs)) := by
    have h := hb2.out
    rw [splice_map] at h
    exact h
  have hown : w2.ownsRow w.heap.size 5 1 (.slice (some ⟨w.heap.size, 0, none⟩) m (m + n)) m (xs.map B8) :=
    own_of_blk hb3 (Nat.le_refl _) (by rw [length_splice _ _ _ (by simp [Hlen.out, HZl.out]), HZl.out]) (by omega) (by unfold maxLen; omega) (by simp [splice, Hlen.out])
  have hw2 : Below w.heap.size w w2 := Hbw.out.trans (ho2.below (by simp) (by intro k hk e; omega))
  have Hown := Lib.hid hown
  have Hw2 := Lib.hid hw2
  clear hb2 hb3 ho2 hown hw2
  have hz : w.heap.size ≤ w2.heap.size := Hw2.out.size
  have Hz := Lib.hid hz
  clear hz
  go_wp2
  go_loopw [7, 8] (fun u i wr => ∃ c : Nat, c ≤ n ∧ i = .int .i64 ((n : Int) - 1 - (c : Int)) ∧ wr.ownsRow w.heap.size 5 1 u (m + c) ((xs ++ (putL v n).take c).map B8) ∧ Below w.heap.size w wr) (fun _ i _ => (intOf i + 1).toNat)
  case atStart => exact ⟨0, by omega, by simp, by simpa using Hown.out, Hw2.out⟩
  case round =>
    obtain ⟨c, hc, rfl, hO, hW⟩ := hrel
    have HO := Lib.hid hO
    have HW := Lib.hid hW
    clear hO hW
    by_cases hlt : c < n
    · obtain ⟨j, hj⟩ : ∃ j : Nat, n - 1 - c = j := ⟨_, rfl⟩
      have hj1 : (n : Int) - 1 - (c : Int) = (j : Int) := by omega
      have hj2 : j ≤ 7 := by omega
      have hby := byteOf_int v j
      have hnx := putL_next v n c hlt
      rw [hj] at hnx
      rw [hj1]
      have Hj := Lib.hid hj
      have Hnx := Lib.hid hnx
      clear hj hj1 hnx
      have e : cellsB [byteOf v j] = #[.int .u8 ((v : Int) / 2 ^ (8 * j) % 256)] := by
        show #[Value.int .u8 ((byteOf v j).toNat : Int)] = _
        rw [hby]
      have hl := ByteSl.lit wr Empty [byteOf v j] 1 rfl (fun h => h) (by decide)
      rw [e] at hl
      have HL := Lib.hid hl
      have hO2 := own_alloc HO.out (.cells #[.int .u8 ((v : Int) / 2 ^ (8 * j) % 256)] 5)
      have HO2 := Lib.hid hO2
      have hW2 := HW.out.alloc (HW.out.size) (.cells #[.int .u8 ((v : Int) / 2 ^ (8 * j) % 256)] 5)
      have HW2 := Lib.hid hW2
      have hlt2 := hO2.lt
      have Hlt2 := Lib.hid hlt2
      clear e hl hO2 hby hW2 hlt2
      go_wp2_with (at_builtin; refine wpList_append_bytes rfl (.tmp 28) (.tmp 34) rfl w.heap.size _ rfl (m + c) (xs ++ (putL v n).take c) HO2.out (some ⟨wr.heap.size, 0, none⟩) 1 1 [byteOf v j] Empty rfl HL.out (fun h => by cases h) ?c4 ?c5 ?_)
      case c4 => omega
      case c5 => exact HW2.out.size
      intro v7 w7 hown7 hg7 _
      have HO7 := Lib.hid hown7
      have HW7 := Lib.hid (below_grown HW2.out HW2.out.size hg7 (fun q hq => (Hlt2.out q hq).1))
      clear hown7 hg7
      go_wp2
      go_roundw
      case rel => exact ⟨c + 1, by omega, by congr 1; have := Hj.out; omega, by rw [Hnx.out]; simp only [List.map_append, List.map_take, List.map_cons, List.map_nil]; exact HO7.out, HW7.out⟩
      case measure => simp [intOf]
    · obtain rfl : c = n := by omega
      have hneg : (c : Int) - 1 - (c : Int) = -1 := by omega
      rw [hneg]
      clear hneg
      go_wp2
      go_ret
      exact ⟨⟨_, rfl, by have h := HO.out; rw [List.take_of_length_le (by rw [putL_len]; omega)] at h; exact h⟩, HW.out⟩

set_option maxHeartbeats 1000000 in
theorem put_no (A : Option Addr) (m cap : Nat) (xs : List UInt8) (v : Nat) (n : Int) (w : World) (hB : ByteSl w Empty A m cap xs) (h : n < 1 ∨ 8 < n) (hm : m ≤ 1048576) :
    Calls Tryd.prog 39 #[.slice A m cap, .int .u64 (v : Int), .int .i64 n] w fun e w' => (∃ u, e = .returned u ∧ w'.ownsRow w.heap.size 5 1 u m (xs.map B8)) ∧ Below w.heap.size w w' := by
  have hmk := fun W => run_make_cap m m (by omega) (by omega) W
  obtain ⟨Z, hZ⟩ : ∃ Z, Z = List.replicate m (0 : UInt8) := ⟨_, rfl⟩
  rw [← hZ] at hmk
  have hZl : Z.length = m := by simp [hZ]
  have HZl := Lib.hid hZl
  clear hZ hZl
  go_enter Tryd.func39, Tryd.ntmps39
  go_wp2_with fail
  refine (isSize_no n _ h).mono ?_
  rintro e1 w1 ⟨rfl, rfl⟩
  have hblk : Blk (w.alloc (.cells (cellsB Z) 5)) w.heap.size 5 (Z.map B8).toArray := Blk.new _ _ _
  have hB1 : ByteSl (w.alloc (.cells (cellsB Z) 5)) Empty A m cap xs := hB.only ((Only.refl Empty w).alloc _) (fun _ _ h => h)
  have hbw : Below w.heap.size w (w.alloc (.cells (cellsB Z) 5)) := (Below.refl _ _).alloc (Nat.le_refl _) _
  have hlen := hB.1
  have Hlen := Lib.hid hlen
  have HB1 := Lib.hid hB1
  have Hblk := Lib.hid hblk
  have Hbw := Lib.hid hbw
  clear hblk hB1 hbw hlen hB h
  have hone : ∀ u ∈ xs.map B8, u.oneCell' = true := by
    intro u hu
    obtain ⟨z, _, rfl⟩ := List.mem_map.1 hu
    rfl
  have Hone := Lib.hid hone
  clear hone
  go_wp2_with (with_reducible refine wpList_copy_only rfl (.tmp 19) (.tmp 20) 25 25 rfl 5 Tryd.underlying25 Tryd.sizeU8 (some ⟨w.heap.size, 0, none⟩) A m m m cap rfl rfl w.heap.size 0 (Z.map B8) 5 Hblk.out (xs.map B8) ?c1 ?c2 ?c3 Hone.out ?_)
  case c1 => simp [Hlen.out]
  case c2 =>
    intro h0
    obtain ⟨ad, rfl, _, _, hc⟩ := HB1.out.2.2.2 (by simp [Hlen.out] at h0; exact h0)
    exact ⟨ad, rfl, hc⟩
  case c3 => simp [Hlen.out, HZl.out]
  intro w2 hb2 ho2
  have hb3 : Blk w2 w.heap.size 5 (cellsB (splice Z 0 xs)) := by
    have h := hb2.out
    rw [splice_map] at h
    exact h
  have hown : w2.ownsRow w.heap.size 5 1 (.slice (some ⟨w.heap.size, 0, none⟩) m m) m (xs.map B8) :=
    own_of_blk hb3 (Nat.le_refl _) (by rw [length_splice _ _ _ (by simp [Hlen.out, HZl.out]), HZl.out]) (by omega) (by unfold maxLen; omega) (by simp [splice, Hlen.out])
  have hw2 : Below w.heap.size w w2 := Hbw.out.trans (ho2.below (by simp) (by intro k hk e; omega))
  have Hown := Lib.hid hown
  have Hw2 := Lib.hid hw2
  clear hb2 hb3 ho2 hown hw2
  go_wp2
  go_loop [7, 8] (fun u i => u = .slice (some ⟨w.heap.size, 0, none⟩) m m ∧ i = .int .i64 (-1)) (fun _ i => (intOf i + 1).toNat)
  case atStart => exact ⟨rfl, rfl⟩
  case round =>
    obtain ⟨rfl, rfl⟩ := hrel
    go_wp2
    go_ret
    exact ⟨⟨_, rfl, Hown.out⟩, Hw2.out⟩

set_option maxHeartbeats 1000000 in
theorem refPut_no (A : Option Addr) (m cap : Nat) (xs : List UInt8) (v : Nat) (n : Int) (w : World) (hB : ByteSl w Empty A m cap xs) (hA : A = none → m = 0 ∧ cap = 0) (h : n < 1 ∨ 8 < n) (hm : m ≤ 1048576) :
    Calls Tryd.prog 28 #[.slice A m cap, .int .u64 (v : Int), .int .i64 n] w fun e w' => (∃ u, e = .returned u ∧ w'.ownsRow w.heap.size 5 1 u m (xs.map B8)) ∧ Below w.heap.size w w' := by
  have HO := Lib.hid (own_made w w.heap.size (Nat.le_refl _))
  have HB := Lib.hid (hB.only ((Only.refl Empty w).alloc (.cells #[] 5)) (fun _ _ h => h))
  have HW := Lib.hid ((Below.refl w.heap.size w).alloc (Nat.le_refl _) (.cells #[] 5))
  have HA := Lib.hid hA
  clear hB hA
  by_cases hs : n < 1
  all_goals
    go_enter Tryd.func28, Tryd.ntmps28
    go_wp2_with (at_builtin; refine wpList_append_bytes rfl (.tmp 9) (.tmp 10) rfl w.heap.size _ rfl 0 [] HO.out A m cap xs Empty rfl HB.out HA.out (by omega) HW.out.size ?_)
    intro v7 w7 hown7 hg7 _
    have HO7 := Lib.hid hown7
    have HW7 := Lib.hid (below_grown HW.out HW.out.size hg7 (fun q hq => by simp [Value.ownBlock] at hq; omega))
    clear hown7 hg7
    have hd : decide (8 < n) = true ∨ n < 1 := by simp; omega
    go_wp2
    go_ret
    exact ⟨⟨_, rfl, by have h := HO7.out; simpa using h⟩, HW7.out⟩

set_option maxHeartbeats 1000000 in
theorem refPut_yes (A : Option Addr) (m cap : Nat) (xs : List UInt8) (v n : Nat) (w : World) (hB : ByteSl w Empty A m cap xs) (hA : A = none → m = 0 ∧ cap = 0) (hv : v ≤ 18446744073709551615) (h1 : 1 ≤ n) (h2 : n ≤ 8) (hm : m ≤ 1048576) :
    Calls Tryd.prog 28 #[.slice A m cap, .int .u64 (v : Int), .int .i64 (n : Int)] w fun e w' => (∃ u, e = .returned u ∧ w'.ownsRow w.heap.size 5 1 u (m + n) ((xs ++ putL v n).map B8)) ∧ Below w.heap.size w w' := by
  have HO := Lib.hid (own_made w w.heap.size (Nat.le_refl _))
  have HB := Lib.hid (hB.only ((Only.refl Empty w).alloc (.cells #[] 5)) (fun _ _ h => h))
  have HW := Lib.hid ((Below.refl w.heap.size w).alloc (Nat.le_refl _) (.cells #[] 5))
  have HA := Lib.hid hA
  clear hB hA
  go_enter Tryd.func28, Tryd.ntmps28
  go_wp2_with (at_builtin; refine wpList_append_bytes rfl (.tmp 9) (.tmp 10) rfl w.heap.size _ rfl 0 [] HO.out A m cap xs Empty rfl HB.out HA.out (by omega) HW.out.size ?_)
  intro v7 w7 hown7 hg7 _
  have hown8 : w7.ownsRow w.heap.size 5 1 v7 m (xs.map B8) := by simpa using hown7
  have Hown := Lib.hid hown8
  have Hw2 := Lib.hid (below_grown HW.out HW.out.size hg7 (fun q hq => by simp [Value.ownBlock] at hq; omega))
  clear hown7 hg7 hown8
  go_wp2
  go_loopw [7, 8] (fun u i wr => ∃ c : Nat, c ≤ n ∧ i = .int .i64 ((n : Int) - 1 - (c : Int)) ∧ wr.ownsRow w.heap.size 5 1 u (m + c) ((xs ++ (putL v n).take c).map B8) ∧ Below w.heap.size w wr) (fun _ i _ => (intOf i + 1).toNat)
  case atStart => exact ⟨0, by omega, by simp, by simpa using Hown.out, Hw2.out⟩
  case round =>
    obtain ⟨c, hc, rfl, hO, hW⟩ := hrel
    have HO := Lib.hid hO
    have HW := Lib.hid hW
    clear hO hW
    by_cases hlt : c < n
    · obtain ⟨j, hj⟩ : ∃ j : Nat, n - 1 - c = j := ⟨_, rfl⟩
      have hj1 : (n : Int) - 1 - (c : Int) = (j : Int) := by omega
      have hj2 : j ≤ 7 := by omega
      have hby := byteOf_int v j
      have hnx := putL_next v n c hlt
      rw [hj] at hnx
      rw [hj1]
      have Hj := Lib.hid hj
      have Hnx := Lib.hid hnx
      clear hj hj1 hnx
      have e : cellsB [byteOf v j] = #[.int .u8 (((v : Int) / 2 ^ (8 * j)).tmod 256 % 256)] := by
        show #[Value.int .u8 ((byteOf v j).toNat : Int)] = _
        rw [hby, Int.tmod_eq_emod_of_nonneg (Int.ediv_nonneg (by omega) (Int.le_of_lt (Int.pow_pos (by decide)))), Int.emod_emod]
      have hl := ByteSl.lit wr Empty [byteOf v j] 1 rfl (fun h => h) (by decide)
      rw [e] at hl
      have HL := Lib.hid hl
      have hO2 := own_alloc HO.out (.cells #[.int .u8 (((v : Int) / 2 ^ (8 * j)).tmod 256 % 256)] 5)
      have HO2 := Lib.hid hO2
      have hW2 := HW.out.alloc (HW.out.size) (.cells #[.int .u8 (((v : Int) / 2 ^ (8 * j)).tmod 256 % 256)] 5)
      have HW2 := Lib.hid hW2
      have hlt2 := hO2.lt
      have Hlt2 := Lib.hid hlt2
      clear e hl hO2 hby hW2 hlt2
      go_wp2_with (at_builtin; refine wpList_append_bytes rfl (.tmp 25) (.tmp 33) rfl w.heap.size _ rfl (m + c) (xs ++ (putL v n).take c) HO2.out (some ⟨wr.heap.size, 0, none⟩) 1 1 [byteOf v j] Empty rfl HL.out (fun h => by cases h) (by omega) HW2.out.size ?_)
      intro v7 w7 hown7 hg7 _
      have HO7 := Lib.hid hown7
      have HW7 := Lib.hid (below_grown HW2.out HW2.out.size hg7 (fun q hq => (Hlt2.out q hq).1))
      clear hown7 hg7
      go_wp2
      go_roundw
      case rel => exact ⟨c + 1, by omega, by congr 1; have := Hj.out; omega, by rw [Hnx.out]; simp only [List.map_append, List.map_take, List.map_cons, List.map_nil]; exact HO7.out, HW7.out⟩
      case measure => simp [intOf]
    · obtain rfl : c = n := by omega
      have hneg : (c : Int) - 1 - (c : Int) = -1 := by omega
      rw [hneg]
      clear hneg
      go_wp2
      go_ret
      exact ⟨⟨_, rfl, by have h := HO.out; rw [List.take_of_length_le (by rw [putL_len]; omega)] at h; exact h⟩, HW.out⟩

end Go.Proofs.YtcpcjcbeeeoabaaDoor
