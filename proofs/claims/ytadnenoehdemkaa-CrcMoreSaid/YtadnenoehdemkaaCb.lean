/- Proved: whatever its arguments are, CrcMore returns true and leaves them as they were. Conditions: none but the row's own (the arguments can be read as data). -/
import Derived.Test.YtadnenoehdemkaaCl
namespace Go.Proofs.Ytadnenoehdemkaa
open Go.ChangeShapes Go.WideShapes Go.ChangeAt Go.RowKit Go.Joins

theorem crc16_append (xs ys : List UInt8) : way16.sum (crc16 xs) ys = crc16 (xs ++ ys) := (way16.sum_append _ _ _).symm

set_option maxHeartbeats 1000000 in
theorem crcMore_calls (s : BitVec 16) (A A2 : Option Addr) (n cap n2 cap2 : Nat) (xs ys : List UInt8) (w : World) (hX0 : ByteSl w (fun k => w.heap.size ≤ k) A n cap xs) (hY0 : ByteSl w (fun k => w.heap.size ≤ k) A2 n2 cap2 ys)
    (hXn : A = none → n = 0 ∧ cap = 0) (hYn : A2 = none → n2 = 0 ∧ cap2 = 0) :
    Calls Try.prog 9 #[V16 s, .slice A n cap, .slice A2 n2 cap2] w fun e w' => e = .returned (.bool true) ∧ Below w.heap.size w w' := by
  have hX := hX0.mono (T := Empty) (fun _ _ h => h.elim)
  have hY := hY0.mono (T := Empty) (fun _ _ h => h.elim)
  have hn : n ≤ 9223372036854775807 := by have := hX.2.1; have := hX.2.2.1; unfold maxLen at this; omega
  have hn2 : n2 ≤ 9223372036854775807 := by have := hY.2.1; have := hY.2.2.1; unfold maxLen at this; omega
  clear hX0 hY0
  have HXn := Lib.hid hXn
  have HYn := Lib.hid hYn
  clear hXn hYn
  by_cases h3 : n ≤ 1500
  · by_cases h4 : n2 ≤ 1500
    · go_enter Try.func9, Try.ntmps9
      go_wp2_with fail
      refine (fixed_any _).mono ?_
      rintro e1 w1 ⟨rfl, hb1⟩
      have hX1 := hX.only (Only.of_below (S := Empty) hb1) (fun _ _ h => h)
      have hY1 := hY.only (Only.of_below (S := Empty) hb1) (fun _ _ h => h)
      clear hX hY
      go_wp2_with fail
      refine (more16_any s A n cap xs _ hX1).mono ?_
      rintro e1 w2 ⟨rfl, hb2⟩
      have hX2 := hX1.only (Only.of_below (S := Empty) hb2) (fun _ _ h => h)
      have hY2 := hY1.only (Only.of_below (S := Empty) hb2) (fun _ _ h => h)
      have hw2 := hb1.trans (hb2.mono hb1.size)
      clear hX1 hY1 hb1 hb2
      go_wp2_with fail
      refine (refMore16_any s A n cap xs _ hX2).mono ?_
      rintro e1 w3 ⟨rfl, rfl⟩
      unfold V16
      go_wp2_with fail
      refine (sum16_any A n cap xs _ hX2).mono ?_
      rintro e1 w3 ⟨rfl, hb3⟩
      have hX3 := hX2.only (Only.of_below (S := Empty) hb3) (fun _ _ h => h)
      have hY3 := hY2.only (Only.of_below (S := Empty) hb3) (fun _ _ h => h)
      have hw3 := hw2.trans (hb3.mono hw2.size)
      clear hX2 hY2 hb3 hw2
      go_wp2_with fail
      refine (more16_any (crc16 xs) A2 n2 cap2 ys _ hY3).mono ?_
      rintro e1 w4 ⟨rfl, hb4⟩
      rw [crc16_append]
      have hX4 := hX3.only (Only.of_below (S := Empty) hb4) (fun _ _ h => h)
      have hY4 := hY3.only (Only.of_below (S := Empty) hb4) (fun _ _ h => h)
      have hw4 := hw3.trans (hb4.mono hw3.size)
      clear hX3 hY3 hb4 hw3
      have hown := own_made w4 w.heap.size hw4.size
      have hX5 := hX4.only ((Only.refl Empty w4).alloc (.cells #[] 5)) (fun _ _ h => h)
      have hY5 := hY4.only ((Only.refl Empty w4).alloc (.cells #[] 5)) (fun _ _ h => h)
      have hw5 : Below w.heap.size w (w4.alloc (.cells #[] 5)) := hw4.alloc hw4.size _
      unfold V16
      go_wp2_with (at_builtin; refine wpList_unguard rfl ?_; refine wpList_append_bytes rfl (.tmp 29) (.tmp 30) rfl w.heap.size (.slice (some ⟨w4.heap.size, 0, none⟩) 0 0) rfl 0 [] hown A n cap xs Empty rfl hX5 HXn.out (by omega) hw5.size ?_)
      intro v6 w6 hown6 hg6
      have hown6' : w6.ownsRow w.heap.size 5 1 v6 n (xs.map B8) := by simpa using hown6
      have hv6 : ∀ q, v6.ownBlock = some q → w.heap.size ≤ q := fun q hq => by
        rcases hown6.2 with ⟨rfl, _⟩ | ⟨g, cp, cur, rfl, hb, _⟩
        · cases hq
        · simp [Value.ownBlock] at hq; omega
      have hg5 : ∀ q, (Value.slice (some ⟨w4.heap.size, 0, none⟩) 0 0).ownBlock = some q → w.heap.size ≤ q := fun q hq => by
        have := hw4.size
        simp [Value.ownBlock] at hq; omega
      have hw6 := below_grown hw5 hw5.size hg6 hg5
      have hY5' : ByteSl (w4.alloc (.cells #[] 5)) (fun q => w4.heap.size ≤ q) A2 n2 cap2 ys := (hY4.mono (T := fun q => w4.heap.size ≤ q) (fun q h1 h2 => by omega)).only ((Only.refl Empty w4).alloc (.cells #[] 5)) (fun _ _ h => h.elim)
      have hY6 := (hY5'.only (Only.of_grown (S := fun q => w4.heap.size ≤ q) hg6 (fun q hq _ => by simp [Value.ownBlock] at hq; omega)) (fun _ _ h => h)).mono (T := Empty) (fun _ _ h => h.elim)
      go_wp2_with (at_builtin; refine wpList_unguard rfl ?_; refine wpList_append_bytes rfl (.tmp 31) (.tmp 32) rfl w.heap.size v6 rfl n xs hown6' A2 n2 cap2 ys Empty rfl hY6 HYn.out (by omega) hw6.size ?_)
      intro v7 w7 hown7 hg7
      rw [← List.map_append] at hown7
      have hw7 := below_grown hw6 hw6.size hg7 hv6
      obtain ⟨A7, cap7, rfl, hB7, -⟩ := ByteSl.of_own (S := Empty) hown7 (fun _ _ _ h => h)
      clear hown7 hg7 hown6 hg6 hw6 hY6 hX5 hY5 hw5 hX4 hY4 hw4 hown hv6 hg5
      go_wp2_with fail
      refine (sum16_any A7 (n + n2) cap7 (xs ++ ys) _ hB7).mono ?_
      rintro e1 w8 ⟨rfl, hb8⟩
      unfold V16
      go_wp2
      go_ret
      exact ⟨rfl, hw7.trans (hb8.mono hw7.size)⟩
    · go_enter Try.func9, Try.ntmps9
      go_wp2_with fail
      refine (fixed_any _).mono ?_
      rintro e1 w1 ⟨rfl, hb1⟩
      unfold V16
      go_wp2
      go_ret
      exact ⟨rfl, hb1⟩
  · go_enter Try.func9, Try.ntmps9
    go_wp2_with fail
    refine (fixed_any _).mono ?_
    rintro e1 w1 ⟨rfl, hb1⟩
    unfold V16
    go_wp2
    go_ret
    exact ⟨rfl, hb1⟩

theorem v16_of (z : Int) (h1 : 0 ≤ z) (h2 : z ≤ 65535) : Value.int .u16 z = V16 (BitVec.ofNat 16 z.toNat) := by
  unfold V16
  rw [BitVec.toNat_ofNat]
  congr 1
  omega

theorem crcMore_calls_int (z : Int) (A A2 : Option Addr) (n cap n2 cap2 : Nat) (xs ys : List UInt8) (w : World) (z1 : 0 ≤ z) (z2 : z ≤ 65535) (hX0 : ByteSl w (fun k => w.heap.size ≤ k) A n cap xs) (hY0 : ByteSl w (fun k => w.heap.size ≤ k) A2 n2 cap2 ys)
    (hXn : A = none → n = 0 ∧ cap = 0) (hYn : A2 = none → n2 = 0 ∧ cap2 = 0) :
    Calls Try.prog 9 #[.int .u16 z, .slice A n cap, .slice A2 n2 cap2] w fun e w' => e = .returned (.bool true) ∧ Below w.heap.size w w' := by
  rw [v16_of z z1 z2]
  exact crcMore_calls _ A A2 n cap n2 cap2 xs ys w hX0 hY0 hXn hYn

set_option maxRecDepth 100000 in
theorem crcMore_lifted (os : Os) (started : os.Started) (H : Type) (enc : TypeId × Value → H) :
    ReturnsInHanded {} Try.checked os 9 .any (Rows.crcMoreSpec.pre6 enc Try.prog Try.f9 Rows.crcMoreRow.domain false) (Rows.crcMoreSpec.post enc Try.prog Try.f9 false true false false) := by
  refine returnsInHanded_of_change (C := Try.checked) Try.ownKnobs started (by kernel_rfl) Try.func9
    (ChangeSpec.witness6 (enc := enc) (C := Try.checked) false ⟨#[], #[.int .u16 0, .slice none 0 0, .slice none 0 0], []⟩ 8 (by kernel_rfl) (by kernel_rfl) (by kernel_rfl) (by kernel_rfl)) ?_
  intro W base args ds gs before hval0 hW hcnd _
  have hval : ∀ (j : Nat) t v, Try.f9.params[j]? = some t → args[j]? = some v → Value.okWide Try.prog W .any base t v := hval0
  have hW' := hW
  obtain ⟨p, q, hA0, hV, rfl, hfz, hnd⟩ := hW
  have hA : DataW.TrodAll enc Try.prog W 0 (fun _ => true) true Try.f9.params.toList args.toList ds p := hA0
  rw [Try.params9] at hA hval
  obtain ⟨v0, vs0, d0, ds0, p0, q0, hargs, rfl, rfl, h0, r0⟩ := trodAll_cons hA
  obtain ⟨v1, vs1, d1, ds1, p1, q1, rfl, rfl, rfl, h1, r1⟩ := trodAll_cons r0
  obtain ⟨v2, vs2, d2, ds2, p2, q2, rfl, rfl, rfl, h2, r2⟩ := trodAll_cons r1
  obtain ⟨rfl, rfl, rfl⟩ := trodAll_nil r2
  obtain rfl : args = #[v0, v1, v2] := by cases args; simp_all
  obtain ⟨rfl, rfl⟩ := trodVars_none hV
  obtain ⟨z, rfl, z1, z2⟩ := open_u16_ (hval 0 41 v0 rfl rfl) h0
  obtain ⟨A, n, cap, xs, rfl, hX, hXn⟩ := open_bytes (hval 1 22 v1 rfl rfl) h1
  obtain ⟨A2, n2, cap2, ys, rfl, hY, hYn⟩ := open_bytes (hval 2 22 v2 rfl rfl) h2
  refine (crcMore_calls_int z A A2 n cap n2 cap2 xs ys W z1 z2 hX hY hXn hYn).mono fun e W' ⟨he, hb⟩ => ?_
  subst he
  exact ⟨_, rfl, law_post Try.allLaid (of_decide_eq_true (by kernel_rfl)) rfl Try.underlying4 rfl hW' rfl rfl rfl hb⟩

/-- The statement: CrcMore returns true, and its arguments read as they did. -/
theorem crcMore_holds : Rows.CrcMoreSaid :=
  OpenClaim.holds_of_wide 9 Try.f9 rfl rfl rfl rfl rfl rfl rfl ⟨rfl, rfl, rfl, rfl, rfl⟩ rfl rfl rfl rfl rfl (by kernel_rfl) Try.func9 (by kernel_rfl)
    (of_decide_eq_true (by kernel_rfl)) (by unfold Func.isWrapper; first | (rw [if_pos (by decide +kernel)]; kernel_rfl) | (rw [if_neg (by decide +kernel)]; exact ⟨rfl, rfl⟩))
    (fun os started H enc _ => crcMore_lifted os started H enc)

end Go.Proofs.Ytadnenoehdemkaa
