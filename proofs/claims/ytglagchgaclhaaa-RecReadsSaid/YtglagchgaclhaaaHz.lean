/- The walk over RecReads. -/
import Derived.Test.YtglagchgaclhaaaHw
import Derived.Test.YtglagchgaclhaaaHj
import Derived.Test.YtglagchgaclhaaaHk
namespace Go.Proofs.Ytglagchgaclhaaa
open Go.RowKit

/-- The first k bytes with their lowest bit turned. -/
def flipK (k : Nat) (zs : List UInt8) : List UInt8 := (zs.take k).map (· ^^^ 1) ++ zs.drop k
theorem flipK_zero (zs : List UInt8) : flipK 0 zs = zs := by simp [flipK]
theorem flipK_get {k : Nat} {zs : List UInt8} {z : UInt8} (h : zs[k]? = some z) : (flipK k zs)[k]? = some z := by
  have hl : k < zs.length := (List.getElem?_eq_some_iff.1 h).1
  unfold flipK
  rw [List.getElem?_append_right (by simp; omega)]
  simp only [List.length_map, List.length_take, List.getElem?_drop]
  rw [← h]
  congr 1
  omega
theorem flipK_next {k : Nat} {zs : List UInt8} {z : UInt8} (h : zs[k]? = some z) : (flipK k zs).set k (z ^^^ 1) = flipK (k + 1) zs := by
  have hl : k < zs.length := (List.getElem?_eq_some_iff.1 h).1
  have he := (List.getElem?_eq_some_iff.1 h).2
  unfold flipK
  rw [List.set_append_right _ _ (by simp; omega), take_one zs k z h, List.map_append, List.append_assoc]
  congr 1
  rw [List.drop_eq_getElem_cons hl, he]
  have hk : k - ((zs.take k).map (· ^^^ 1)).length = 0 := by simp; omega
  rw [hk]
  rfl
theorem flipK_all (zs : List UInt8) : flipK zs.length zs = zs.map (· ^^^ 1) := by simp [flipK]
theorem flip_back (zs : List UInt8) : (zs.map (· ^^^ 1)).map (· ^^^ 1) = zs := by
  rw [List.map_map]
  have e : ((fun x : UInt8 => x ^^^ 1) ∘ fun x => x ^^^ 1) = id := by
    funext x
    simp [UInt8.xor_assoc]
  rw [e, List.map_id]
theorem flip_one (v : UInt8) : Value.int .u8 (bits .xor .u8 (v.toNat : Int) 1) = B8 (v ^^^ 1) := by
  have h := u8_xor_nat v.toNat 1 v.toNat_lt (by omega)
  unfold B8
  rw [UInt8.toNat_xor]
  exact congrArg (Value.int .u8) h

set_option maxRecDepth 100000 in
set_option maxHeartbeats 4000000 in
theorem recReads_calls (A : Option Addr) (n cap : Nat) (xs : List UInt8) (w : World) (hB0 : ByteSl w (fun q => w.heap.size ≤ q) A n cap xs) (hA : A = none → n = 0 ∧ cap = 0) :
    Calls Try.prog 4 #[.slice A n cap] w fun e w' => e = .returned (.bool true) ∧ Below w.heap.size w w' := by
  have hB := hB0.mono (T := Empty) (fun _ _ h => h.elim)
  have hn9 : n ≤ 9223372036854775807 := by have := hB.2.1; have := hB.2.2.1; unfold maxLen at this; omega
  have HB0 := Lib.hid hB0
  have HB := Lib.hid hB
  have HA := Lib.hid hA
  clear hB0 hB hA
  by_cases h5 : n ≤ 5000
  · obtain ⟨ok, ot, key, blob, oc, osz, wh, er, hout⟩ : ∃ ok ot key blob oc osz wh er, out xs = ⟨ok, ot, key, blob, oc, osz, wh, er⟩ := ⟨_, _, _, _, _, _, _, _, rfl⟩
    have P1 : Hid (∀ A n cap W, ByteSl W Empty A n cap xs → n ≤ 1048576 → Calls Try.prog 9 #[.slice A n cap] W fun e W' => (∃ A' cap', e = .returned (.tuple #[.agg #[.int .i64 (ok : Int), .int .u32 (ot : Int), .string (strB key), .slice A' blob.length cap', .int .i64 (oc : Int)], .int .i64 (osz : Int), .bool wh, .int .i64 er]) ∧ Got W.heap.size W' A' blob.length cap' blob) ∧ Below W.heap.size W W') := Lib.hid (fun A n cap W h hm =>
      (rcParse_any A n cap xs W h hm).mono fun e W' ⟨⟨A', n', cap', he, hg⟩, hb⟩ => by
        rw [hout] at he hg
        have hn' : n' = blob.length := hg.bytes.1.symm
        subst hn'
        exact ⟨⟨A', cap', he, hg⟩, hb⟩)
    have P2 : Hid (∀ A n cap W, ByteSl W Empty A n cap xs → n ≤ 1048576 → Calls Try.prog 14 #[.slice A n cap] W fun e W' => (∃ A' cap', e = .returned (.tuple #[.agg #[.int .i64 (ok : Int), .int .u32 (ot : Int), .string (strB key), .slice A' blob.length cap', .int .i64 (oc : Int)], .int .i64 (osz : Int), .bool wh, .int .i64 er]) ∧ Got W.heap.size W' A' blob.length cap' blob) ∧ Below W.heap.size W W') := Lib.hid (fun A n cap W h hm =>
      (refParse_any A n cap xs W h hm).mono fun e W' ⟨⟨A', n', cap', he, hg⟩, hb⟩ => by
        rw [hout] at he hg
        have hn' : n' = blob.length := hg.bytes.1.symm
        subst hn'
        exact ⟨⟨A', cap', he, hg⟩, hb⟩)
    clear hout
    obtain ⟨n3, hn3⟩ : ∃ n3, n3 = blob.length := ⟨_, rfl⟩
    rw [← hn3] at P1 P2
    have Hn3 := Lib.hid hn3
    clear hn3
    go_enter Try.func4, Try.ntmps4
    go_wp2_with fail
    refine (fixed5_any _).mono ?_
    rintro e1 w1 ⟨rfl, hb1⟩
    have HW1 := Lib.hid hb1
    have O1 := Lib.hid (own_made w1 w1.heap.size (Nat.le_refl _))
    have B1 := Lib.hid (HB.out.only (((Only.of_below (S := Empty) hb1)).alloc (.cells #[] 5)) (fun _ _ h => h))
    have L1 : Hid (w1.heap.size ≤ (w1.alloc (.cells #[] 5)).heap.size) := Lib.hid (by simp)
    clear hb1
    go_wp2_with (at_builtin; refine wpList_append_bytes rfl (.tmp 20) (.tmp 21) rfl w1.heap.size _ rfl 0 [] O1.out A n cap xs Empty rfl B1.out HA.out (by omega) L1.out ?_)
    intro v2 w2 hown2 hg2 hnn2
    have hown2' : w2.ownsRow w1.heap.size 5 1 v2 n (xs.map B8) := by simpa using hown2
    have hlt := O1.out.lt
    have HW2 : Hid (Below w.heap.size w w2) := Lib.hid (below_grown (HW1.out.alloc HW1.out.size (.cells #[] 5)) (Nat.le_trans HW1.out.size L1.out) hg2 (fun q hq => Nat.le_trans HW1.out.size (hlt q hq).1))
    obtain ⟨A2, c2, rfl, hG2⟩ := Got.of_own hown2'
    have G2 := Lib.hid hG2
    clear hown2 hown2' hg2 hnn2 hlt hG2
    go_wp2_with fail
    refine (P1.out A2 n c2 _ G2.out.bytes (by omega)).mono ?_
    rintro e3 w3 ⟨⟨A3, c3, rfl, hG3⟩, hb3⟩
    have HW3 := Lib.hid (HW2.out.trans (hb3.mono HW2.out.size))
    have hz23 : w2.heap.size ≤ w3.heap.size := hb3.size
    have G3 := Lib.hid hG3
    -- its own bytes stand in blocks that were made ahead of Parse
    have X3 := Lib.hid ((G2.out.bytes.mono (T := fun q => w2.heap.size ≤ q) (fun q h1 h2 => by omega)).only (Only.of_below (S := Empty) hb3) (fun _ _ h => h.elim))
    clear hb3 hG3
    go_wp2_with fail
    have hz1 : w.heap.size ≤ w2.heap.size := HW2.out.size
    have HB4 := Lib.hid (HB.out.only ((Only.of_below (S := Empty) HW3.out).alloc (.cells #[.int .i64 (ok : Int), .int .u32 (ot : Int), .string (strB key), .slice A3 n3 c3, .int .i64 (oc : Int)] 25)) (fun _ _ h => h))
    refine (P2.out A n cap _ HB4.out (by omega)).mono ?_
    rintro e4 w4 ⟨⟨A4, c4, rfl, hG4⟩, hb4⟩
    have hz34 : w3.heap.size < w4.heap.size := by have := hb4.size; simp at this; omega
    have hs3 : (w3.alloc (.cells #[.int .i64 (ok : Int), .int .u32 (ot : Int), .string (strB key), .slice A3 n3 c3, .int .i64 (oc : Int)] 25)).heap.size = w3.heap.size + 1 := by simp
    rw [hs3] at hG4
    have HT4 := Lib.hid (((Only.refl Empty w3).alloc (.cells #[.int .i64 (ok : Int), .int .u32 (ot : Int), .string (strB key), .slice A3 n3 c3, .int .i64 (oc : Int)] 25)).trans (Only.of_below (S := Empty) hb4))
    have KX4 := Lib.hid ((Blk.new w3 25 #[.int .i64 (ok : Int), .int .u32 (ot : Int), .string (strB key), .slice A3 n3 c3, .int .i64 (oc : Int)]).of (hb4.block w3.heap.size (by simp)))
    have Y4 : Hid (ByteSl w4 (fun q => q < w3.heap.size) A4 n3 c4 blob) := Lib.hid (by
      obtain ⟨A', c', e, hb, -⟩ := ByteSl.of_own (S := fun q => q < w3.heap.size) hG4.own (fun q h1 h2 h3 => by omega)
      cases e
      exact hb)
    clear hs3 hG4 hb4
    have kx4 := KX4.out.cell 3
    simp at kx4
    go_wp2_with fail
    clear kx4
    have HT5 := Lib.hid (HT4.out.alloc (.cells #[.int .i64 (ok : Int), .int .u32 (ot : Int), .string (strB key), .slice A4 n3 c4, .int .i64 (oc : Int)] 25))
    have KX5 := Lib.hid (KX4.out.alloc (.cells #[.int .i64 (ok : Int), .int .u32 (ot : Int), .string (strB key), .slice A4 n3 c4, .int .i64 (oc : Int)] 25))
    have KY5 := Lib.hid (Blk.new w4 25 #[.int .i64 (ok : Int), .int .u32 (ot : Int), .string (strB key), .slice A4 n3 c4, .int .i64 (oc : Int)])
    have Y5 := Lib.hid (Y4.out.only ((Only.refl Empty w4).alloc (.cells #[.int .i64 (ok : Int), .int .u32 (ot : Int), .string (strB key), .slice A4 n3 c4, .int .i64 (oc : Int)] 25)) (fun _ _ h => h.elim))
    obtain ⟨w5, hw5⟩ : ∃ w5, w5 = w4.alloc (.cells #[.int .i64 (ok : Int), .int .u32 (ot : Int), .string (strB key), .slice A4 n3 c4, .int .i64 (oc : Int)] 25) := ⟨_, rfl⟩
    rw [← hw5] at HT5 KX5 KY5 Y5 ⊢
    clear hw5
    have HW5 : Hid (Below w.heap.size w w5) := Lib.hid (HW3.out.trans (HT5.out.below (B := w.heap.size) HW3.out.size (fun _ _ h => h)))
    have X5 := Lib.hid (X3.out.only HT5.out (fun _ _ h => h.elim))
    have B5 : Hid (ByteSl w5 (fun q => w.heap.size ≤ q) A n cap xs) := Lib.hid (HB0.out.only (Only.of_below (S := Empty) HW5.out) (fun _ _ h => h.elim))
    have G5 : Hid (ByteSl w5 Empty A3 n3 c3 blob) := Lib.hid (G3.out.bytes.only HT5.out (fun _ _ h => h))
    have hz35 : w3.heap.size ≤ w5.heap.size := HT5.out.size
    have hn3b : n3 ≤ 9223372036854775807 := by have h1 := G3.out.bytes.2.1; have h2 := G3.out.bytes.2.2.1; unfold maxLen at h2; omega
    rcases Nat.eq_zero_or_pos n3 with hn0 | hn0
    · subst hn0
      go_loopw [40] (fun i wr => i = .int .i64 0 ∧ w5 = wr) (fun _ _ => 0)
      case atStart => exact ⟨rfl, rfl⟩
      case round =>
        obtain ⟨rfl, rfl⟩ := hrel
        have hx6 := conv_bytes (X5.out.mono (T := Empty) (fun _ _ h => h.elim))
        have hb6 := conv_bytes (B5.out.mono (T := Empty) (fun _ _ h => h.elim))
        have kx5 := KX5.out.cell 3
        simp at kx5
        go_wp2
        go_loopw [59] (fun i wr => i = .int .i64 0 ∧ w5 = wr) (fun _ _ => 0)
        case atStart => exact ⟨rfl, rfl⟩
        case round =>
          obtain ⟨rfl, rfl⟩ := hrel
          clear hx6 hb6 kx5
          have Y6 := Lib.hid (Y5.out.mono (T := Empty) (fun _ _ h => h.elim))
          have x0 := KX5.out.cell 0
          have x1 := KX5.out.cell 1
          have x2 := KX5.out.cell 2
          have x3 := KX5.out.cell 3
          have x4 := KX5.out.cell 4
          have y0 := KY5.out.cell 0
          have y1 := KY5.out.cell 1
          have y2 := KY5.out.cell 2
          have y3 := KY5.out.cell 3
          have y4 := KY5.out.cell 4
          simp at x0 x1 x2 x3 x4 y0 y1 y2 y3 y4
          go_wp2_with fail
          refine (same_yes (ok : Int) (ot : Int) (oc : Int) (strB key) _ _ _ _ _ _ blob _ G5.out Y6.out).mono ?_
          rintro e9 w9 ⟨rfl, hb9⟩
          have Hend9 := Lib.hid (HW5.out.trans (hb9.mono HW5.out.size))
          clear hb9
          go_wp2
          go_ret
          exact ⟨rfl, Hend9.out⟩
    · obtain ⟨g3, cp3, e3, hg1, hO3⟩ := OwnB.of_row G3.out.own (fun e => by cases e; omega)
      cases e3
      have hg2 : g3 < w3.heap.size := hO3.lt
      have hg0 : w.heap.size ≤ g3 := by omega
      have O5 := Lib.hid (hO3.of (HT5.out.block g3 hg2 (fun h => h)))
      clear hO3
      go_loopw [40] (fun i wr => ∃ k : Nat, k ≤ n3 ∧ i = .int .i64 (k : Int) ∧ OwnB wr g3 n3 c3 (flipK k blob) ∧ Only (· = g3) w5 wr) (fun i _ => n3 - (intOf i).toNat)
      case atStart => exact ⟨0, Nat.zero_le _, rfl, by rw [flipK_zero]; exact O5.out, Only.refl _ _⟩
      case round =>
        obtain ⟨k, hk, rfl, hO, hW⟩ := hrel
        have HO2 := Lib.hid hO
        have HW2' := Lib.hid hW
        have kxr := (hW.blk KX5.out (by omega)).cell 3
        simp at kxr
        clear hO hW
        by_cases hlt : k < n3
        · obtain ⟨v, hv⟩ : ∃ v, (blob)[k]? = some v := ⟨_, List.getElem?_eq_getElem (by have := Hn3.out; omega)⟩
          have hcell : wr.cell? ⟨g3, k, none⟩ = some (.int .u8 (v.toNat : Int)) := HO2.out.cell (flipK_get hv)
          have hfr := HO2.out.frozen k
          have Hv := Lib.hid hv
          clear hv
          have hvb : v.toNat < 256 := v.toNat_lt
          go_wp2
          go_roundw
          case rel =>
            rw [flip_one v]
            refine ⟨k + 1, by omega, by go_num, ?_, HW2'.out.setCell (p := ⟨g3, k, none⟩) (Or.inl rfl) _⟩
            have h := HO2.out.set_ k (v ^^^ 1)
            rw [flipK_next Hv.out] at h
            exact h
          case measure => simp [intOf]; omega
        · obtain rfl : k = n3 := by omega
          have hO6 : OwnB wr g3 k c3 (blob.map (· ^^^ 1)) := by
            have h := HO2.out
            rw [show flipK k blob = blob.map (· ^^^ 1) by rw [Hn3.out, flipK_all]] at h
            exact h
          have O6 := Lib.hid hO6
          have T6 := HW2'
          have hl6 : (blob.map (· ^^^ 1)).length = k := hO6.1
          have KX6 := Lib.hid (T6.out.blk KX5.out (by omega))
          have hx6 := conv_bytes ((X5.out.only T6.out (fun q h1 h2 => by subst h2; exact hg1)).mono (T := Empty) (fun _ _ h => h.elim))
          have hb6 := conv_bytes ((B5.out.only T6.out (fun q h1 h2 => by subst h2; exact hg0)).mono (T := Empty) (fun _ _ h => h.elim))
          have Hl6 := Lib.hid hl6
          clear hO6 hl6
          go_wp2
          go_loopw [59] (fun i wr2 => ∃ q : Nat, q ≤ k ∧ i = .int .i64 (q : Int) ∧ OwnB wr2 g3 k c3 (flipK q (blob.map (· ^^^ 1))) ∧ Only (· = g3) wr wr2) (fun i _ => k - (intOf i).toNat)
          case atStart => exact ⟨0, Nat.zero_le _, rfl, by rw [flipK_zero]; exact O6.out, Only.refl _ _⟩
          case round =>
            obtain ⟨q, hq, rfl, hO, hW⟩ := hrel
            have HO7 := Lib.hid hO
            have HW7 := Lib.hid hW
            have kxr7 := (hW.blk KX6.out (by omega)).cell 3
            simp at kxr7
            clear hO hW hx6 hb6 kxr
            by_cases hlt2 : q < k
            · obtain ⟨v, hv⟩ : ∃ v, (blob.map (· ^^^ 1))[q]? = some v := ⟨_, List.getElem?_eq_getElem (by have := Hl6.out; omega)⟩
              have hcell : wr.cell? ⟨g3, q, none⟩ = some (.int .u8 (v.toNat : Int)) := HO7.out.cell (flipK_get hv)
              have hfr := HO7.out.frozen q
              have Hv := Lib.hid hv
              clear hv
              have hvb : v.toNat < 256 := v.toNat_lt
              go_wp2
              go_roundw
              case rel =>
                rw [flip_one v]
                refine ⟨q + 1, by omega, by go_num, ?_, HW7.out.setCell (p := ⟨g3, q, none⟩) (Or.inl rfl) _⟩
                have h := HO7.out.set_ q (v ^^^ 1)
                rw [flipK_next Hv.out] at h
                exact h
              case measure => simp [intOf]; omega
            · obtain rfl : q = k := by omega
              have hO8 := HO7.out
              rw [show flipK q (blob.map (· ^^^ 1)) = blob by rw [← Hl6.out, flipK_all, flip_back]] at hO8
              have T8 := Lib.hid (T6.out.trans HW7.out)
              have hx8 := hO8.bytes Empty (fun h => h)
              have hy8 := (Y5.out.only T8.out (fun r h1 h2 => by subst h2; omega)).mono (T := Empty) (fun _ _ h => h.elim)
              have HXY := Lib.hid (And.intro hx8 hy8)
              have kx := T8.out.blk KX5.out (by omega)
              have ky := T8.out.blk KY5.out (by omega)
              have Hend : Hid (Below w.heap.size w wr) := Lib.hid (HW5.out.trans (T8.out.below (B := w.heap.size) HW5.out.size (fun r h1 h2 => by omega)))
              have x0 := kx.cell 0
              have x1 := kx.cell 1
              have x2 := kx.cell 2
              have x3 := kx.cell 3
              have x4 := kx.cell 4
              have y0 := ky.cell 0
              have y1 := ky.cell 1
              have y2 := ky.cell 2
              have y3 := ky.cell 3
              have y4 := ky.cell 4
              simp at x0 x1 x2 x3 x4 y0 y1 y2 y3 y4
              clear hx8 hy8 kx ky hO8 kxr7
              go_wp2_with fail
              refine (same_yes (ok : Int) (ot : Int) (oc : Int) (strB key) _ _ _ _ _ _ blob _ HXY.out.1 HXY.out.2).mono ?_
              rintro e9 w9 ⟨rfl, hb9⟩
              have Hend9 := Lib.hid (Hend.out.trans (hb9.mono Hend.out.size))
              clear hb9
              go_wp2
              go_ret
              exact ⟨rfl, Hend9.out⟩
  · go_enter Try.func4, Try.ntmps4
    go_wp2_with fail
    refine (fixed5_any _).mono ?_
    rintro e1 w1 ⟨rfl, hb1⟩
    go_wp2
    go_ret
    exact ⟨rfl, hb1⟩

end Go.Proofs.Ytglagchgaclhaaa
