/- Proved: whatever its arguments are, CrcTurned32 returns true and leaves them as they were. Conditions: none but the row's own (the arguments can be read as data). -/
import Derived.Test.YtadnenoehdemkaaCl
namespace Go.Proofs.Ytadnenoehdemkaa
open Go.ChangeShapes Go.WideShapes Go.ChangeAt Go.RowKit Go.Joins

theorem flip32 (v : UInt8) (j : Nat) (h : j < 8) : Value.int .u8 (bits .xor .u8 (v.toNat : Int) (2 ^ j % 256)) = B8 (v ^^^ way32.bit j) := by
  have e : ∀ j, j < 8 → (way32.bit j).toNat = 2 ^ j := by decide
  have e3 : ∀ j, j < 8 → (2 ^ j % 256 : Nat) = 2 ^ j := by decide
  have e2 : (2 : Int) ^ j % 256 = (((way32.bit j).toNat : Nat) : Int) := by
    have := e3 j h
    rw [e j h, ← this]
    simp
  unfold B8
  rw [e2, u8_xor_nat _ _ v.toNat_lt (way32.bit j).toNat_lt, UInt8.toNat_xor]

set_option maxHeartbeats 1000000 in
theorem crcTurned32_calls (z y : Nat) (A : Option Addr) (n cap : Nat) (xs : List UInt8) (w : World) (hz : z ≤ 65535) (hy : y ≤ 4294967295) (hX0 : ByteSl w (fun k => w.heap.size ≤ k) A n cap xs)
    (hXn : A = none → n = 0 ∧ cap = 0) :
    Calls Try.prog 11 #[.slice A n cap, .int .u16 (z : Int), .int .u32 (y : Int)] w fun e w' => e = .returned (.bool true) ∧ Below w.heap.size w w' := by
  have hX := hX0.mono (T := Empty) (fun _ _ h => h.elim)
  have hn : n ≤ 9223372036854775807 := by have := hX.2.1; have := hX.2.2.1; unfold maxLen at this; omega
  clear hX0
  have HXn := Lib.hid hXn
  clear hXn
  by_cases h3 : n ≤ 2000
  · go_enter Try.func11, Try.ntmps11
    go_wp2_with fail
    refine (fixed_any _).mono ?_
    rintro e1 w1 ⟨rfl, hb1⟩
    have hX1 := hX.only (Only.of_below (S := Empty) hb1) (fun _ _ h => h)
    clear hX
    have hown := own_made w1 w1.heap.size (Nat.le_refl _)
    have hX5 : ByteSl (w1.alloc (.cells #[] 5)) (fun q => w1.heap.size ≤ q) A n cap xs := (hX1.mono (T := fun q => w1.heap.size ≤ q) (fun q h1 h2 => by omega)).only ((Only.refl Empty w1).alloc (.cells #[] 5)) (fun _ _ h => h.elim)
    have hw5 : Below w.heap.size w (w1.alloc (.cells #[] 5)) := hb1.alloc hb1.size _
    go_wp2_with (at_builtin; refine wpList_append_bytes rfl (.tmp 16) (.tmp 17) rfl w1.heap.size (.slice (some ⟨w1.heap.size, 0, none⟩) 0 0) rfl 0 [] hown A n cap xs _ rfl hX5 HXn.out (by omega) (by simp) ?_)
    intro v6 w6 hown6 hg6 hnn
    have hown7 : w6.ownsRow w1.heap.size 5 1 v6 n (xs.map B8) := by simpa using hown6
    obtain ⟨g, cp, rfl, hgb, hO⟩ := OwnB.of_row hown7 (fun e => by cases hnn e)
    have hw6 := below_grown hw5 hw5.size hg6 (fun q hq => by have := hb1.size; simp [Value.ownBlock] at hq; omega)
    have hX6 : ByteSl w6 (fun q => w1.heap.size ≤ q) A n cap xs := hX5.only (Only.of_grown (S := fun q => w1.heap.size ≤ q) hg6 (fun q hq _ => by simp [Value.ownBlock] at hq; omega)) (fun _ _ h => h)
    clear hown hX5 hw5 hown6 hg6 hnn hown7 hX1
    have HO := Lib.hid hO
    clear hO
    go_wp2
    go_loopw [8, 19] (fun t i wr => ∃ (k : Nat) (b : Bool) (zs : List UInt8), k ≤ 32 ∧ i = .int .i64 (k : Int) ∧ t = .bool b ∧ OwnB wr g n cp zs ∧ way32.Turned xs zs z k b ∧ Only (· = g) w6 wr) (fun _ i _ => 32 - (intOf i).toNat)
    case atStart => exact ⟨0, false, xs, by omega, rfl, rfl, HO.out, Way.Turned.at_zero _ _, Only.refl _ _⟩
    case round =>
      obtain ⟨k, b, zs, hk, rfl, rfl, hO, hT, hW⟩ := hrel
      have HO2 := Lib.hid hO
      have HT := Lib.hid hT
      have HW := Lib.hid hW
      clear hO hT hW
      by_cases hlt : k < 32
      · by_cases hin : z + k < 8 * n
        · obtain ⟨v, hv⟩ : ∃ v, zs[(z + k) / 8]? = some v := ⟨_, List.getElem?_eq_getElem (by have := HO2.out.1; omega)⟩
          have hcell : wr.cell? ⟨g, (z + k) / 8, none⟩ = some (.int .u8 (v.toNat : Int)) := HO2.out.cell hv
          have hfr := HO2.out.frozen ((z + k) / 8)
          have Hv := Lib.hid hv
          clear hv
          have hvb : v.toNat < 256 := v.toNat_lt
          obtain ⟨j, hj⟩ : ∃ j, j = (z + k) % 8 := ⟨_, rfl⟩
          have hj2 : ((z : Int) + (k : Int)) % 8 = (j : Int) := by omega
          have hj3 : j < 8 := by omega
          have Hj := Lib.hid hj
          clear hj
          go_wp2
          · go_roundw
            case rel =>
              rw [flip32 v j hj3]
              refine ⟨k + 1, true, _, by omega, by go_num, rfl, HO2.out.set_ _ _, ?_, HW.out.setCell (p := ⟨g, (z + k) / 8, none⟩) (Or.inl rfl) _⟩
              rw [Hj.out]
              exact HT.out.flip hlt (by have := HT.out.1; have := HO2.out.1; omega) v Hv.out
            case measure => simp [intOf]; omega
          · go_roundw
            case rel => exact ⟨k + 1, b, zs, by omega, by go_num, rfl, HO2.out, HT.out.skip, HW.out⟩
            case measure => simp [intOf]; omega
        · go_wp2
          · go_roundw
            case rel => exact ⟨k + 1, b, zs, by omega, by go_num, rfl, HO2.out, HT.out.skip, HW.out⟩
            case measure => simp [intOf]; omega
          · go_roundw
            case rel => exact ⟨k + 1, b, zs, by omega, by go_num, rfl, HO2.out, HT.out.skip, HW.out⟩
            case measure => simp [intOf]; omega
      · obtain rfl : k = 32 := by omega
        have hC := HO2.out.bytes Empty (fun h => h)
        have hX7 := (hX6.only HW.out (fun q _ h => by subst h; exact hgb)).mono (T := Empty) (fun _ _ h => h.elim)
        have hw7 := hw6.trans (HW.out.below hw6.size (fun q hq h => by subst h; have := hb1.size; omega))
        have hd := HT.out.done (BitVec.allOnes 32)
        have Hd := Lib.hid hd
        clear hd
        go_wp2_with fail
        refine (sum32_any _ n cp zs _ hC).mono ?_
        rintro e1 w8 ⟨rfl, hb8⟩
        have hX8 := hX7.only (Only.of_below (S := Empty) hb8) (fun _ _ h => h)
        have hw8 := hw7.trans (hb8.mono hw7.size)
        go_wp2_with fail
        refine (sum32_any A n cap xs _ hX8).mono ?_
        rintro e1 w9 ⟨rfl, hb9⟩
        have hw9 := hw8.trans (hb9.mono hw8.size)
        unfold V32
        cases b with
        | true =>
          have hne : (crc32 zs).toNat ≠ (crc32 xs).toNat := fun e => Hd.out.2 rfl (BitVec.not_inj.1 (BitVec.eq_of_toNat_eq e))
          clear hC hX7 hX8
          generalize (crc32 zs).toNat = p1 at hne ⊢
          generalize (crc32 xs).toNat = p2 at hne ⊢
          have hq1 : (((p1 : Int)) == (p2 : Int)) = false := by simp; omega
          have hq2 : (((p1 : Int)) != (p2 : Int)) = true := by simp; omega
          clear hne
          go_wp2
          go_ret
          exact ⟨rfl, hw9⟩
        | false =>
          have he : (crc32 zs).toNat = (crc32 xs).toNat := by
            have h1 : ¬ (way32.sum (BitVec.allOnes 32) zs ≠ way32.sum (BitVec.allOnes 32) xs) := fun h => by cases Hd.out.1 h
            have h2 : way32.sum (BitVec.allOnes 32) zs = way32.sum (BitVec.allOnes 32) xs := Classical.not_not.1 h1
            exact congrArg (fun v : BitVec 32 => (~~~v).toNat) h2
          rw [he]
          clear he hC hX7 hX8
          go_wp2
          go_ret
          exact ⟨rfl, hw9⟩
  · go_enter Try.func11, Try.ntmps11
    go_wp2_with fail
    refine (fixed_any _).mono ?_
    rintro e1 w1 ⟨rfl, hb1⟩
    go_wp2
    go_ret
    exact ⟨rfl, hb1⟩

theorem crcTurned32_calls_int (z y : Int) (A : Option Addr) (n cap : Nat) (xs : List UInt8) (w : World) (z1 : 0 ≤ z) (z2 : z ≤ 65535) (y1 : 0 ≤ y) (y2 : y ≤ 4294967295) (hX0 : ByteSl w (fun k => w.heap.size ≤ k) A n cap xs)
    (hXn : A = none → n = 0 ∧ cap = 0) :
    Calls Try.prog 11 #[.slice A n cap, .int .u16 z, .int .u32 y] w fun e w' => e = .returned (.bool true) ∧ Below w.heap.size w w' := by
  obtain ⟨z', rfl⟩ := Int.eq_ofNat_of_zero_le z1
  obtain ⟨y', rfl⟩ := Int.eq_ofNat_of_zero_le y1
  exact crcTurned32_calls z' y' A n cap xs w (by omega) (by omega) hX0 hXn

set_option maxRecDepth 100000 in
theorem crcTurned32_lifted (os : Os) (started : os.Started) (H : Type) (enc : TypeId × Value → H) :
    ReturnsInHanded {} Try.checked os 11 .any (Rows.crcTurned32Spec.pre6 enc Try.prog Try.f11 Rows.crcTurned32Row.domain false) (Rows.crcTurned32Spec.post enc Try.prog Try.f11 false true false false) := by
  refine returnsInHanded_of_change (C := Try.checked) Try.ownKnobs started (by kernel_rfl) Try.func11
    (ChangeSpec.witness6 (enc := enc) (C := Try.checked) false ⟨#[], #[.slice none 0 0, .int .u16 0, .int .u32 0], []⟩ 8 (by kernel_rfl) (by kernel_rfl) (by kernel_rfl) (by kernel_rfl)) ?_
  intro W base args ds gs before hval0 hW hcnd _
  have hval : ∀ (j : Nat) t v, Try.f11.params[j]? = some t → args[j]? = some v → Value.okWide Try.prog W .any base t v := hval0
  have hW' := hW
  obtain ⟨p, q, hA0, hV, rfl, hfz, hnd⟩ := hW
  have hA : DataW.TrodAll enc Try.prog W 0 (fun _ => true) true Try.f11.params.toList args.toList ds p := hA0
  rw [Try.params11] at hA hval
  obtain ⟨v0, vs0, d0, ds0, p0, q0, hargs, rfl, rfl, h0, r0⟩ := trodAll_cons hA
  obtain ⟨v1, vs1, d1, ds1, p1, q1, rfl, rfl, rfl, h1, r1⟩ := trodAll_cons r0
  obtain ⟨v2, vs2, d2, ds2, p2, q2, rfl, rfl, rfl, h2, r2⟩ := trodAll_cons r1
  obtain ⟨rfl, rfl, rfl⟩ := trodAll_nil r2
  obtain rfl : args = #[v0, v1, v2] := by cases args; simp_all
  obtain ⟨rfl, rfl⟩ := trodVars_none hV
  obtain ⟨A, n, cap, xs, rfl, hX, hXn⟩ := open_bytes (hval 0 22 v0 rfl rfl) h0
  obtain ⟨z, rfl, z1, z2⟩ := open_u16_ (hval 1 41 v1 rfl rfl) h1
  obtain ⟨y, rfl, y1, y2⟩ := open_u32_ (hval 2 43 v2 rfl rfl) h2
  refine (crcTurned32_calls_int z y A n cap xs W z1 z2 y1 y2 hX hXn).mono fun e W' ⟨he, hb⟩ => ?_
  subst he
  exact ⟨_, rfl, law_post Try.allLaid (of_decide_eq_true (by kernel_rfl)) rfl Try.underlying4 rfl hW' rfl rfl rfl hb⟩

/-- The statement: CrcTurned32 returns true, and its arguments read as they did. -/
theorem crcTurned32_holds : Rows.CrcTurned32Said :=
  OpenClaim.holds_of_wide 11 Try.f11 rfl rfl rfl rfl rfl rfl rfl ⟨rfl, rfl, rfl, rfl, rfl⟩ rfl rfl rfl rfl rfl (by kernel_rfl) Try.func11 (by kernel_rfl)
    (of_decide_eq_true (by kernel_rfl)) (by unfold Func.isWrapper; first | (rw [if_pos (by decide +kernel)]; kernel_rfl) | (rw [if_neg (by decide +kernel)]; exact ⟨rfl, rfl⟩))
    (fun os started H enc _ => crcTurned32_lifted os started H enc)

end Go.Proofs.Ytadnenoehdemkaa
