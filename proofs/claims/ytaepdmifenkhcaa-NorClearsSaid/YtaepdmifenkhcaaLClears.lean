/- Proved: whatever its seven arguments are, NorClears returns true and leaves them as they were. Conditions: none but the row's own (the arguments can be read as data). -/
import Derived.Test.YtaepdmifenkhcaaC1
import Derived.Test.YtaepdmifenkhcaaLaw
namespace Go.Proofs.Ytaepdmifenkhcaa
open Go.ChangeShapes Go.WideShapes Go.ChangeAt Go.RowKit Go.Joins

set_option maxRecDepth 100000 in
set_option maxHeartbeats 4000000 in
theorem norClears_long (a b t : Int) (tn : Bool) (k0 : Int) (m0 : UInt8) (A A2 : Option Addr) (n cap n2 cap2 : Nat) (w : World) (h : 200 < n ∨ 200 < n2) (hn : n ≤ maxLen) (hn2 : n2 ≤ maxLen) :
    Calls Try.prog 4 #[.int .u8 a, .int .u8 b, .slice A n cap, .int .u16 t, .slice A2 n2 cap2, .bool tn, .agg #[.int .i64 k0, B8 m0]] w fun e w' => e = .returned (.bool true) ∧ Below w.heap.size w w' := by
  unfold maxLen at hn hn2
  have h0 : Below w.heap.size w (w.alloc (.cells #[.int .i64 k0, B8 m0] 36)) := (Below.refl _ _).alloc (Nat.le_refl _) _
  by_cases h1 : 200 < n
  · go_enter Try.func4, Try.ntmps4
    go_wp2_with fail
    refine (fixed_any _).mono ?_
    rintro e1 w1 ⟨rfl, hb1⟩
    go_wp2
    go_ret
    exact ⟨rfl, h0.trans (hb1.mono (by simp))⟩
  · go_enter Try.func4, Try.ntmps4
    go_wp2_with fail
    refine (fixed_any _).mono ?_
    rintro e1 w1 ⟨rfl, hb1⟩
    go_wp2
    go_ret
    exact ⟨rfl, h0.trans (hb1.mono (by simp))⟩

set_option maxRecDepth 100000 in
set_option maxHeartbeats 40000000 in
theorem norClears_plain (a b : Int) (t : Nat) (k0 : Int) (m0 : UInt8) (A A2 : Option Addr) (n cap n2 cap2 : Nat) (xs ys : List UInt8) (w : World) (a1 : 0 ≤ a) (a2 : a ≤ 255) (b1 : 0 ≤ b) (b2 : b ≤ 255) (t2 : t ≤ 65535)
    (hx : ByteSl w (fun k => w.heap.size ≤ k) A n cap xs) (hy : ByteSl w (fun k => w.heap.size ≤ k) A2 n2 cap2 ys) (hn : n ≤ 200) (hn2 : n2 ≤ 200) :
    Calls Try.prog 4 #[.int .u8 a, .int .u8 b, .slice A n cap, .int .u16 (t : Int), .slice A2 n2 cap2, .bool false, .agg #[.int .i64 k0, B8 m0]] w fun e w' => e = .returned (.bool true) ∧ Below w.heap.size w w' := by
  obtain ⟨S, hS⟩ := Int.eq_ofNat_of_zero_le (show 0 ≤ 1 + a % 5 by omega)
  obtain ⟨Z, hZ⟩ := Int.eq_ofNat_of_zero_le (show 0 ≤ 64 + b % 80 by omega)
  have s1 : 1 ≤ S ∧ S ≤ 5 := by omega
  have z1 : 64 ≤ Z ∧ Z ≤ 143 := by omega
  have hsm := fun W => small_any a b 9 S Z 4 W a1 a2 b1 b2 (by omega) (by omega) hS hZ (by omega)
  have Hsm := Lib.hid hsm
  clear hsm hS hZ
  have hSZ : S * Z ≤ 5 * 143 := Nat.mul_le_mul s1.2 z1.2
  have hSZ1 : 1 * 64 ≤ S * Z := Nat.mul_le_mul s1.1 z1.1
  obtain ⟨T, hT⟩ : ∃ T, T = S * Z := ⟨_, rfl⟩
  have hTi : wrap64 ((S : Int) * (Z : Int)) = (T : Int) := by
    have : (S : Int) * (Z : Int) = ((S * Z : Nat) : Int) := by simp
    rw [this, ← hT]
    unfold wrap64
    omega
  rw [← hT] at hSZ hSZ1
  obtain ⟨k, hk⟩ : ∃ k, k = t % T := ⟨_, rfl⟩
  have hkT : k < T := by rw [hk]; exact Nat.mod_lt _ (by omega)
  have hki : (t : Int) % (T : Int) = (k : Int) := by rw [hk]; simp
  have Hki := Lib.hid hki
  have HT := Lib.hid hT
  have HTi := Lib.hid hTi
  clear hk hki hT hTi
  have h0 : Below w.heap.size w (w.alloc (.cells #[.int .i64 k0, B8 m0] 36)) := (Below.refl _ _).alloc (Nat.le_refl _) _
  go_enter Try.func4, Try.ntmps4
  go_wp2_with fail
  refine (fixed_any _).mono ?_
  rintro e1 w1 ⟨rfl, hb1⟩
  go_wp2_with fail
  refine (Hsm.out _).mono ?_
  rintro e1 w2 ⟨rfl, hb2⟩
  go_wp2_with fail
  have hs1 := hb1.size
  simp at hs1
  have hb12 : Below w.heap.size w w2 := (h0.trans (hb1.mono (by simp))).trans (hb2.mono (by omega))
  refine (new_yes S Z 4 _ ⟨by omega, by omega, by omega, by omega, by omega, by omega⟩).mono ?_
  rintro e1 w3 ⟨p, cb, er, rfl, hf3, hb3, hp, hc, he⟩
  have hg3 : Blk w3 w2.heap.size 23 #[.int .i64 (S : Int), .int .i64 (Z : Int), .int .i64 ((4 : Nat) : Int)] := (Blk.new w2 _ _).of (hb3.block _ (by simp))
  have h4 := hb12.size
  simp at hp hc he
  have hbw : Below w.heap.size w w3 := (hb12.alloc hb12.size _).trans (hb3.mono (by simp; omega))
  have hthree : ∀ i, i < w3.heap.size → Three p cb er i → w.heap.size ≤ i := by
    intro i _ h3
    unfold Three at h3
    omega
  have hx3 : ByteSl w3 (Three p cb er) A n cap xs := ByteSl.mono (hx.only (Only.of_below (S := Empty) hbw) (fun _ _ h => h.elim)) hthree
  have hy3 : ByteSl w3 (Three p cb er) A2 n2 cap2 ys := ByteSl.mono (hy.only (Only.of_below (S := Empty) hbw) (fun _ _ h => h.elim)) hthree
  have g0 : w3.cell? ⟨w2.heap.size, 0, none⟩ = some (.int .i64 (S : Int)) := hg3.cell 0
  have g1 : w3.cell? ⟨w2.heap.size, 1, none⟩ = some (.int .i64 (Z : Int)) := hg3.cell 1
  have hp' : w.heap.size ≤ p := by omega
  have hc' : w.heap.size ≤ cb := by omega
  have he' : w.heap.size ≤ er := by omega
  clear hb1 hb2 hb3 hb12 hx hy hthree hg3 hp hc he h4 hs1 h0
  go_wp2_with fail
  rw [HTi.out]
  clear g0 g1
  refine (first_any p cb er n cap S Z 4 xs A w3 hf3 hx3 hx3.1).mono ?_
  rintro e1 w4 ⟨⟨r0, rfl⟩, fl1, hf4, hsh, hfu, ho4⟩
  have hb4 : Below w.heap.size w w4 := hbw.trans (ho4.below hbw.size (by intro i hi h3; unfold Three at h3; omega))
  have hy4 := hy3.only ho4 (fun _ _ h => h)
  clear hf3 hbw hx3 hy3 ho4
  go_wp2_with fail
  refine (read_in p cb er 0 T fl1 w4 hf4 hsh.up (by rw [hsh.s, hsh.z, ← HT.out]; omega)).mono ?_
  rintro e1 w5 ⟨v0, rfl, hown0, hb5⟩
  have hl1 : fl1.bs.length = T := by rw [hf4.ok.bl, hsh.s, hsh.z, ← HT.out]
  rw [List.drop_zero, List.take_of_length_le (by rw [hl1]; exact Nat.le_refl _)] at hown0
  obtain ⟨A0, cap0, rfl, hB0, hg0⟩ := ByteSl.of_own (S := Three p cb er) hown0 (fun j h _ h3 => by have := hf4.hd.lt; have := hf4.ce.lt; have := hf4.er.lt; unfold Three at h3; omega)
  obtain ⟨g0, rfl, -, -⟩ := hg0 (by omega)
  have hf5 : FlashAt w5 p cb er fl1 := hf4.of (Only.of_below (S := Empty) hb5) (fun h => h) (fun h => h) (fun h => h)
  have hb5' : Below w.heap.size w w5 := hb4.trans (hb5.mono hb4.size)
  have hy5 := hy4.only (Only.of_below (S := Empty) hb5) (fun _ _ h => h.elim)
  clear hf4 hb4 hy4 hown0 hb5
  go_wp2_with fail
  rw [Hki.out]
  refine (second_any false p cb er k n2 cap2 S Z fl1 ys A2 w5 hf5 hsh (by simpa using hfu) hy5 (by rw [← HT.out]; omega)).mono ?_
  rintro e1 w6 ⟨r, fl', rfl, hf6, hs6, hz6, ho6, hclr, hcase⟩
  have hb6 : Below w.heap.size w w6 := hb5'.trans (ho6.below hb5'.size (by intro i hi h3; unfold Three at h3; omega))
  have hB6 := hB0.only ho6 (fun _ _ h => h)
  have hy6 := hy5.only ho6 (fun _ _ h => h)
  clear hf5 hb5' hy5 hB0 ho6
  have Hcase := Lib.hid hcase
  have Hclr := Lib.hid hclr
  have Hl1 := Lib.hid hl1
  clear hcase hclr hfu hl1
  go_wp2_with fail
  refine (reset_any p cb er fl' w6 hf6).mono ?_
  rintro e1 w7 ⟨rfl, hf7, ho7⟩
  have hb7 : Below w.heap.size w w7 := hb6.trans (ho7.below hb6.size (by intro i hi h3; omega))
  have hB7 := hB6.only ho7 (fun i _ h => Or.inl h)
  have hy7 := hy6.only ho7 (fun i _ h => Or.inl h)
  clear hf6 hb6 hB6 hy6 ho7
  go_wp2_with fail
  refine (read_in p cb er 0 T fl'.reset w7 hf7 rfl (by show 0 + T ≤ fl'.S * fl'.Z; rw [hs6, hz6, ← HT.out]; omega)).mono ?_
  rintro e1 w8 ⟨v1, rfl, hown1, hb8⟩
  have hl2 : fl'.bs.length = T := Hclr.out.1.trans Hl1.out
  rw [show fl'.reset.bs = fl'.bs from rfl, List.drop_zero, List.take_of_length_le (by rw [hl2]; exact Nat.le_refl _)] at hown1
  obtain ⟨A1, cap1, rfl, hB1, hg1⟩ := ByteSl.of_own (S := Empty) hown1 (fun j h _ h3 => h3)
  obtain ⟨g1, rfl, -, -⟩ := hg1 (by omega)
  have hB8 := hB7.only (Only.of_below (S := Empty) hb8) (fun _ _ h => h.elim)
  have hy8 := hy7.only (Only.of_below (S := Empty) hb8) (fun _ _ h => h.elim)
  have hbel : Below w.heap.size w w8 := hb7.trans (hb8.mono hb7.size)
  clear hf7 hb7 hB7 hy7 hown1 hb8
  have Hl2 := Lib.hid hl2
  clear hl2
  have hcap1 := hB1.2.1
  have hcap1m := hB1.2.2.1
  have hsum : IntKind.i64.wrap ((k : Int) + (n2 : Int)) = (k : Int) + (n2 : Int) := by rw [IntKind.wrap_i64]; omega
  have Hsum := Lib.hid hsum
  clear hsum
  rcases Hcase.out with ⟨rfl, -, hkn, hpc⟩ | ⟨rfl, hsame⟩ | ⟨rfl, hsame⟩ | ⟨_, hno⟩
  · have Hpc := Lib.hid hpc
    have Hkn := Lib.hid hkn
    clear hpc hkn
    go_wp2_with fail
    go_loopw [104] (fun v wr => ∃ i m : Nat, i ≤ T ∧ v = .int .i64 (i : Int) ∧ wr = w8.drewN m) (fun v _ => T - (intOf v).toNat)
    case atStart => exact ⟨0, 0, Nat.zero_le _, rfl, rfl⟩
    case round =>
      obtain ⟨i, m, hi, rfl, rfl⟩ := hrel
      by_cases hlt : i < T
      · obtain ⟨x, hxe⟩ : ∃ x, fl1.bs[i]? = some x := ⟨_, List.getElem?_eq_getElem (by rw [Hl1.out]; exact hlt)⟩
        obtain ⟨y, hye⟩ : ∃ y, fl'.bs[i]? = some y := ⟨_, List.getElem?_eq_getElem (by rw [Hl2.out]; exact hlt)⟩
        have hcx : w8.cell? ⟨g0, i, none⟩ = some (.int .u8 (x.toNat : Int)) := hB8.cell_ hxe
        have hcy : w8.cell? ⟨g1, i, none⟩ = some (.int .u8 (y.toNat : Int)) := hB1.cell_ hye
        obtain ⟨hyx, hfar⟩ := Hclr.out.2 i x y hxe hye
        have h1 : (bits .and .u8 (y.toNat : Int) (x.toNat : Int) != (y.toNat : Int)) = false := by rw [b_and, hyx]; simp
        have hi0 : (0 : Int) ≤ (i : Int) := by omega
        have hi1 : (i : Int) < (T : Int) := by omega
        clear hxe hye hyx hB1 hB8 hy8
        have hsum := Hsum.out
        by_cases he : y = x
        · have h2 : ((y.toNat : Int) != (x.toNat : Int)) = false := by rw [he]; simp
          clear hfar he
          go_wp2_with fail
          go_quiet (fail)
          clear hsum
          go_wp2
          go_roundw
          case rel => exact ⟨i + 1, _, by omega, by go_num, rfl⟩
          case measure => simp [intOf]; omega
        · have h2 : ((y.toNat : Int) != (x.toNat : Int)) = true := by
            rw [bne_iff_ne]
            intro h
            exact he (UInt8.toNat_inj.1 (by omega))
          obtain ⟨hf1, hf2⟩ := hfar he
          have h3 : decide ((i : Int) < (k : Int)) = false := by simp; omega
          have h4 : decide ((k : Int) + (n2 : Int) ≤ (i : Int)) = false := by simp; omega
          have h5 : decide (i < k) = false := by simp; omega
          clear he
          go_wp2_with fail
          go_quiet (fail)
          clear hsum
          go_wp2
          go_roundw
          case rel => exact ⟨i + 1, _, by omega, by go_num, rfl⟩
          case measure => simp [intOf]; omega
      · obtain rfl : i = T := by omega
        have hkn := Hkn.out
        rw [← HT.out] at hkn
        have hcv1 : ∀ q, (convert 34 9 (.slice (some ⟨g1, k, none⟩) n2 (cap1 - k))).run Try.prog (w8.drewN q) = .ok (.string (strB ys)) (w8.drewN q) := fun q => by
          have h := (hB1.piece (k := k) (m := n2) (c := cap1 - k) hkn (by omega) (by unfold maxLen at *; omega)).only ((Only.refl Empty w8).drewN q) (fun _ _ h => h)
          rw [Hpc.out] at h
          exact conv_bytes h
        have hcv2 : ∀ q, (convert 34 9 (.slice A2 n2 cap2)).run Try.prog (w8.drewN q) = .ok (.string (strB ys)) (w8.drewN q) := fun q => conv_bytes (hy8.only ((Only.refl Empty w8).drewN q) (fun _ _ h => h.elim))
        have hk0 : (0 : Int) ≤ (k : Int) := by omega
        have hn0 : (0 : Int) ≤ (n2 : Int) := by omega
        have hkc : (k : Int) + (n2 : Int) ≤ (cap1 : Int) := by omega
        have hck : ¬ cap1 = k := by omega
        have hsum := Hsum.out
        clear hB1 hB8 hy8
        go_wp2_with fail
        go_quiet (fail)
        clear hsum
        go_wp2
        go_ret
        exact ⟨rfl, (hbel.drewN m).drewN nq⟩
  · have Hsame := Lib.hid hsame
    clear hsame
    go_wp2_with fail
    go_loopw [104] (fun v wr => ∃ i m : Nat, i ≤ T ∧ v = .int .i64 (i : Int) ∧ wr = w8.drewN m) (fun v _ => T - (intOf v).toNat)
    case atStart => exact ⟨0, 0, Nat.zero_le _, rfl, rfl⟩
    case round =>
      obtain ⟨i, m, hi, rfl, rfl⟩ := hrel
      by_cases hlt : i < T
      · obtain ⟨x, hxe⟩ : ∃ x, fl1.bs[i]? = some x := ⟨_, List.getElem?_eq_getElem (by rw [Hl1.out]; exact hlt)⟩
        obtain ⟨y, hye⟩ : ∃ y, fl'.bs[i]? = some y := ⟨_, List.getElem?_eq_getElem (by rw [Hl2.out]; exact hlt)⟩
        have hcx : w8.cell? ⟨g0, i, none⟩ = some (.int .u8 (x.toNat : Int)) := hB8.cell_ hxe
        have hcy : w8.cell? ⟨g1, i, none⟩ = some (.int .u8 (y.toNat : Int)) := hB1.cell_ hye
        obtain ⟨hyx, hfar⟩ := Hclr.out.2 i x y hxe hye
        have h1 : (bits .and .u8 (y.toNat : Int) (x.toNat : Int) != (y.toNat : Int)) = false := by rw [b_and, hyx]; simp
        have hi0 : (0 : Int) ≤ (i : Int) := by omega
        have hi1 : (i : Int) < (T : Int) := by omega
        clear hxe hye hyx hB1 hB8 hy8
        have hsum := Hsum.out
        by_cases he : y = x
        · have h2 : ((y.toNat : Int) != (x.toNat : Int)) = false := by rw [he]; simp
          clear hfar he
          go_wp2_with fail
          go_quiet (fail)
          clear hsum
          go_wp2
          go_roundw
          case rel => exact ⟨i + 1, _, by omega, by go_num, rfl⟩
          case measure => simp [intOf]; omega
        · have h2 : ((y.toNat : Int) != (x.toNat : Int)) = true := by
            rw [bne_iff_ne]
            intro h
            exact he (UInt8.toNat_inj.1 (by omega))
          obtain ⟨hf1, hf2⟩ := hfar he
          have h3 : decide ((i : Int) < (k : Int)) = false := by simp; omega
          have h4 : decide ((k : Int) + (n2 : Int) ≤ (i : Int)) = false := by simp; omega
          have h5 : decide (i < k) = false := by simp; omega
          clear he
          go_wp2_with fail
          go_quiet (fail)
          clear hsum
          go_wp2
          go_roundw
          case rel => exact ⟨i + 1, _, by omega, by go_num, rfl⟩
          case measure => simp [intOf]; omega
      · obtain rfl : i = T := by omega
        have hcv1 : ∀ q, (convert 34 9 (.slice (some ⟨g1, 0, none⟩) i cap1)).run Try.prog (w8.drewN q) = .ok (.string (strB fl'.bs)) (w8.drewN q) := fun q => conv_bytes (hB1.only ((Only.refl Empty w8).drewN q) (fun _ _ h => h.elim))
        have hcv2 : ∀ q, (convert 34 9 (.slice (some ⟨g0, 0, none⟩) i cap0)).run Try.prog (w8.drewN q) = .ok (.string (strB fl'.bs)) (w8.drewN q) := fun q => by
          rw [Hsame.out]
          exact conv_bytes (hB8.only ((Only.refl Empty w8).drewN q) (fun _ _ h => h.elim))
        clear hB1 hB8 hy8
        go_wp2_with fail
        go_quiet (fail)
        go_wp2
        go_ret
        exact ⟨rfl, (hbel.drewN m).drewN nq⟩
  · have Hsame := Lib.hid hsame
    clear hsame
    go_wp2_with fail
    go_loopw [104] (fun v wr => ∃ i m : Nat, i ≤ T ∧ v = .int .i64 (i : Int) ∧ wr = w8.drewN m) (fun v _ => T - (intOf v).toNat)
    case atStart => exact ⟨0, 0, Nat.zero_le _, rfl, rfl⟩
    case round =>
      obtain ⟨i, m, hi, rfl, rfl⟩ := hrel
      by_cases hlt : i < T
      · obtain ⟨x, hxe⟩ : ∃ x, fl1.bs[i]? = some x := ⟨_, List.getElem?_eq_getElem (by rw [Hl1.out]; exact hlt)⟩
        obtain ⟨y, hye⟩ : ∃ y, fl'.bs[i]? = some y := ⟨_, List.getElem?_eq_getElem (by rw [Hl2.out]; exact hlt)⟩
        have hcx : w8.cell? ⟨g0, i, none⟩ = some (.int .u8 (x.toNat : Int)) := hB8.cell_ hxe
        have hcy : w8.cell? ⟨g1, i, none⟩ = some (.int .u8 (y.toNat : Int)) := hB1.cell_ hye
        obtain ⟨hyx, hfar⟩ := Hclr.out.2 i x y hxe hye
        have h1 : (bits .and .u8 (y.toNat : Int) (x.toNat : Int) != (y.toNat : Int)) = false := by rw [b_and, hyx]; simp
        have hi0 : (0 : Int) ≤ (i : Int) := by omega
        have hi1 : (i : Int) < (T : Int) := by omega
        clear hxe hye hyx hB1 hB8 hy8
        have hsum := Hsum.out
        by_cases he : y = x
        · have h2 : ((y.toNat : Int) != (x.toNat : Int)) = false := by rw [he]; simp
          clear hfar he
          go_wp2_with fail
          go_quiet (fail)
          clear hsum
          go_wp2
          go_roundw
          case rel => exact ⟨i + 1, _, by omega, by go_num, rfl⟩
          case measure => simp [intOf]; omega
        · have h2 : ((y.toNat : Int) != (x.toNat : Int)) = true := by
            rw [bne_iff_ne]
            intro h
            exact he (UInt8.toNat_inj.1 (by omega))
          obtain ⟨hf1, hf2⟩ := hfar he
          have h3 : decide ((i : Int) < (k : Int)) = false := by simp; omega
          have h4 : decide ((k : Int) + (n2 : Int) ≤ (i : Int)) = false := by simp; omega
          have h5 : decide (i < k) = false := by simp; omega
          clear he
          go_wp2_with fail
          go_quiet (fail)
          clear hsum
          go_wp2
          go_roundw
          case rel => exact ⟨i + 1, _, by omega, by go_num, rfl⟩
          case measure => simp [intOf]; omega
      · obtain rfl : i = T := by omega
        have hcv1 : ∀ q, (convert 34 9 (.slice (some ⟨g1, 0, none⟩) i cap1)).run Try.prog (w8.drewN q) = .ok (.string (strB fl'.bs)) (w8.drewN q) := fun q => conv_bytes (hB1.only ((Only.refl Empty w8).drewN q) (fun _ _ h => h.elim))
        have hcv2 : ∀ q, (convert 34 9 (.slice (some ⟨g0, 0, none⟩) i cap0)).run Try.prog (w8.drewN q) = .ok (.string (strB fl'.bs)) (w8.drewN q) := fun q => by
          rw [Hsame.out]
          exact conv_bytes (hB8.only ((Only.refl Empty w8).drewN q) (fun _ _ h => h.elim))
        clear hB1 hB8 hy8
        go_wp2_with fail
        go_quiet (fail)
        go_wp2
        go_ret
        exact ⟨rfl, (hbel.drewN m).drewN nq⟩
  · cases hno

end Go.Proofs.Ytaepdmifenkhcaa
