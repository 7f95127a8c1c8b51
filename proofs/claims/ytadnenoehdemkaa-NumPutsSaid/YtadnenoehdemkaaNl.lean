/- Proved: whatever its arguments are, NumPuts returns true and leaves them as they were. Conditions: none but the row's own (the arguments can be read as data). -/
import Derived.Test.YtadnenoehdemkaaNi
import Derived.Deep.RegionHeld3
namespace Go.Proofs.Ytadnenoehdemkaa
open Go.ChangeShapes Go.WideShapes Go.ChangeAt Go.RowKit Go.Joins

/-- What Put lays behind the bytes. -/
def putOut (v : Nat) (n : Int) : List UInt8 := if n < 1 ∨ 8 < n then [] else putL v n.toNat
def sgnOut (v : Nat) (n : Int) : Int := if n < 1 ∨ 8 < n then 0 else sgn v n.toNat

theorem put_out (A : Option Addr) (m cap : Nat) (xs : List UInt8) (v : Nat) (n : Int) (w : World) (hB : ByteSl w Empty A m cap xs) (hv : v ≤ 18446744073709551615) (hm : m ≤ 1048576) :
    Calls Try.prog 13 #[.slice A m cap, .int .u64 (v : Int), .int .i64 n] w fun e w' => (∃ u, e = .returned u ∧ w'.ownsRow w.heap.size 5 1 u (m + (putOut v n).length) ((xs ++ putOut v n).map B8)) ∧ Below w.heap.size w w' := by
  unfold putOut
  by_cases h : n < 1 ∨ 8 < n
  · rw [if_pos h, List.append_nil]
    exact put_no A m cap xs v n w hB h hm
  · rw [if_neg h, putL_len]
    have hr := put_yes A m cap xs v n.toNat w hB hv (by omega) (by omega) hm
    rw [show ((n.toNat : Nat) : Int) = n by omega] at hr
    exact hr
theorem refPut_out (A : Option Addr) (m cap : Nat) (xs : List UInt8) (v : Nat) (n : Int) (w : World) (hB : ByteSl w Empty A m cap xs) (hA : A = none → m = 0 ∧ cap = 0) (hv : v ≤ 18446744073709551615) (hm : m ≤ 1048576) :
    Calls Try.prog 14 #[.slice A m cap, .int .u64 (v : Int), .int .i64 n] w fun e w' => (∃ u, e = .returned u ∧ w'.ownsRow w.heap.size 5 1 u (m + (putOut v n).length) ((xs ++ putOut v n).map B8)) ∧ Below w.heap.size w w' := by
  unfold putOut
  by_cases h : n < 1 ∨ 8 < n
  · rw [if_pos h, List.append_nil]
    exact refPut_no A m cap xs v n w hB hA h hm
  · rw [if_neg h, putL_len]
    have hr := refPut_yes A m cap xs v n.toNat w hB hA hv (by omega) (by omega) hm
    rw [show ((n.toNat : Nat) : Int) = n by omega] at hr
    exact hr
theorem sign_out (v : Nat) (n : Int) (w : World) (hv : v ≤ 18446744073709551615) : Calls Try.prog 15 #[.int .u64 (v : Int), .int .i64 n] w fun e w' => e = .returned (.int .i64 (sgnOut v n)) ∧ w = w' := by
  unfold sgnOut
  by_cases h : n < 1 ∨ 8 < n
  · rw [if_pos h]
    exact sign_no v n w h
  · rw [if_neg h]
    have hr := sign_yes v n.toNat w hv (by omega) (by omega)
    rw [show ((n.toNat : Nat) : Int) = n by omega] at hr
    exact hr
theorem refSign_out (v : Nat) (n : Int) (w : World) (hv : v ≤ 18446744073709551615) : Calls Try.prog 16 #[.int .u64 (v : Int), .int .i64 n] w fun e w' => e = .returned (.int .i64 (sgnOut v n)) ∧ w = w' := by
  unfold sgnOut
  by_cases h : n < 1 ∨ 8 < n
  · rw [if_pos h]
    exact refSign_no v n w h
  · rw [if_neg h]
    have hr := refSign_yes v n.toNat w hv (by omega) (by omega)
    rw [show ((n.toNat : Nat) : Int) = n by omega] at hr
    exact hr

theorem getV_put (v n c : Nat) (hc : c ≤ n) : getV ((putL v n).take c) = v / 2 ^ (8 * (n - c)) % 2 ^ (8 * c) := by
  induction c with
  | zero => simp [getV, Nat.mod_one]
  | succ c ih =>
    rw [putL_next v n c (by omega), getV_snoc, ih (by omega)]
    have e1 : 2 ^ (8 * (n - c)) = 2 ^ (8 * (n - (c + 1))) * 256 := by
      rw [show 8 * (n - c) = 8 * (n - (c + 1)) + 8 by omega, Nat.pow_add]
    have e2 : 2 ^ (8 * (c + 1)) = 256 * 2 ^ (8 * c) := by
      rw [show 8 * (c + 1) = 8 + 8 * c by omega, Nat.pow_add]
    have e3 : (byteOf v (n - 1 - c)).toNat = v / 2 ^ (8 * (n - (c + 1))) % 256 := by
      unfold byteOf
      rw [UInt8.toNat_ofNat', show n - 1 - c = n - (c + 1) by omega]
    rw [e1, e2, e3, ← Nat.div_div_eq_div_mul, Nat.mod_mul]
    omega
theorem getV_putL (v n : Nat) : getV (putL v n) = v % 2 ^ (8 * n) := by
  have h := getV_put v n n (Nat.le_refl _)
  rw [List.take_of_length_le (by rw [putL_len]; omega)] at h
  simpa using h

theorem ByteSl.take_ {w : World} {S : Nat → Prop} {A : Option Addr} {n cap : Nat} {xs : List UInt8} (h : ByteSl w S A n cap xs) (k : Nat) (hk : k ≤ n) : ByteSl w S A k cap (xs.take k) := by
  refine ⟨by rw [List.length_take, h.1]; omega, Nat.le_trans hk h.2.1, h.2.2.1, fun h0 => ?_⟩
  obtain ⟨ad, e, hb, hs, hc⟩ := h.2.2.2 (by omega)
  refine ⟨ad, e, hb, hs, fun j x hx => ?_⟩
  rw [List.getElem?_take] at hx
  by_cases hj : j < k
  · rw [if_pos hj] at hx
    exact hc j x hx
  · rw [if_neg hj] at hx
    cases hx

theorem strB_cat (xs ys : List UInt8) : strB xs ++ strB ys = strB (xs ++ ys) := by
  apply ByteArray.ext
  simp [strB]

set_option maxRecDepth 100000 in
set_option maxHeartbeats 2000000 in
theorem numPuts_calls (A : Option Addr) (m cap : Nat) (xs : List UInt8) (v : Nat) (n : Int) (w : World) (hB0 : ByteSl w (fun k => w.heap.size ≤ k) A m cap xs) (hA : A = none → m = 0 ∧ cap = 0) (hv : v ≤ 18446744073709551615) :
    Calls Try.prog 3 #[.slice A m cap, .int .u64 (v : Int), .int .i64 n] w fun e w' => e = .returned (.bool true) ∧ Below w.heap.size w w' := by
  have hB := hB0.mono (T := Empty) (fun _ _ h => h.elim)
  have hm9 : m ≤ 9223372036854775807 := by have := hB.2.1; have := hB.2.2.1; unfold maxLen at this; omega
  clear hB0
  have HA := Lib.hid hA
  have HV := Lib.hid hv
  clear hA hv
  by_cases h3 : m ≤ 2000
  · go_enter Try.func3, Try.ntmps3
    go_wp2_with fail
    refine (fixed2_any w).mono ?_
    rintro e1 w1 ⟨rfl, hb1⟩
    have hB1 := hB.only (Only.of_below (S := Empty) hb1) (fun _ _ h => h)
    have hO1 := own_made w1 w1.heap.size (Nat.le_refl _)
    have hB2 : ByteSl (w1.alloc (.cells #[] 5)) (fun q => w1.heap.size ≤ q) A m cap xs := (hB1.mono (T := fun q => w1.heap.size ≤ q) (fun q h1 h2 => by omega)).only ((Only.refl Empty w1).alloc (.cells #[] 5)) (fun _ _ h => h.elim)
    have hw2 : Below w.heap.size w (w1.alloc (.cells #[] 5)) := hb1.alloc hb1.size _
    have HB2 := Lib.hid hB2
    have HO1 := Lib.hid hO1
    have HW2 := Lib.hid hw2
    have Hz1 := Lib.hid hb1.size
    clear hB hB1 hO1 hB2 hw2 hb1
    go_wp2_with (at_builtin; refine wpList_append_bytes rfl (.tmp 16) (.tmp 17) rfl w1.heap.size _ rfl 0 [] HO1.out A m cap xs _ rfl HB2.out HA.out (by omega) (by simp) ?_)
    intro v6 w6 hown6 hg6 hnn
    have hown6' : w6.ownsRow w1.heap.size 5 1 v6 m (xs.map B8) := by simpa using hown6
    have hw6 := below_grown HW2.out HW2.out.size hg6 (fun q hq => by have := Hz1.out; simp [Value.ownBlock] at hq; omega)
    have hB6 : ByteSl w6 (fun q => w1.heap.size ≤ q) A m cap xs := HB2.out.only (Only.of_grown (S := fun q => w1.heap.size ≤ q) hg6 (fun q hq _ => by simp [Value.ownBlock] at hq; omega)) (fun _ _ h => h)
    have hgrow : w1.heap.size ≤ w6.heap.size := by have := hg6.size; simp at this; omega
    have hl := ByteSl.lit w6 (fun q => q < w6.heap.size) [7, 8, 9] 3 rfl (by omega) (by decide)
    have hown7 := own_alloc hown6' (.cells (cellsB [7, 8, 9]) 5)
    have hw7 := hw6.alloc hw6.size (.cells (cellsB [7, 8, 9]) 5)
    have hB7 : ByteSl (w6.alloc (.cells (cellsB [7, 8, 9]) 5)) (fun q => w1.heap.size ≤ q) A m cap xs := hB6.only ((Only.refl Empty w6).alloc _) (fun _ _ h => h.elim)
    have HL := Lib.hid hl
    have HO7 := Lib.hid hown7
    have HW7 := Lib.hid hw7
    have HB7 := Lib.hid hB7
    have Hgr := Lib.hid hgrow
    have Hv6 := Lib.hid fun q (hq : v6.ownBlock = some q) => hown6'.lt q hq
    clear hown6 hg6 hown6' hw6 hB6 hgrow hl hown7 hw7 hB7 hnn
    go_wp2_with (at_builtin; refine wpList_append_bytes rfl (.tmp 18) (.tmp 19) rfl w1.heap.size _ rfl m xs HO7.out (some ⟨w6.heap.size, 0, none⟩) 3 3 [7, 8, 9] _ rfl HL.out (fun h => by cases h) (by omega) (by have := Hgr.out; simp; omega) ?_)
    intro v8 w8 hown8 hg8 _
    have hown8' : w8.ownsRow w1.heap.size 5 1 v8 (m + 3) ((xs ++ [7, 8, 9]).map B8) := by rw [List.map_append]; simpa using hown8
    obtain ⟨g, cp, rfl, hgb, hO⟩ := OwnB.of_row hown8' (fun e => by
      rcases hown8'.2 with ⟨_, h⟩ | ⟨_, _, _, h, _⟩
      · omega
      · rw [e] at h; cases h)
    have hw8 := below_grown HW7.out HW7.out.size hg8 (fun q hq => by have := (Hv6.out q hq).1; have := Hz1.out; omega)
    have hB8 : ByteSl w8 Empty A m cap xs := (HB7.out.only (Only.of_grown (S := fun q => w1.heap.size ≤ q) hg8 (fun q hq _ => (Hv6.out q hq).1)) (fun _ _ h => h)).mono (T := Empty) (fun _ _ h => h.elim)
    have hxl := hB8.1
    have hBo := hO.bytes Empty (fun h => h)
    have hBp : ByteSl w8 Empty (some ⟨g, 0, none⟩) m cp xs := by
      have h := hBo.take_ m (by omega)
      rw [List.take_left' hxl] at h
      exact h
    have hput := put_out (some ⟨g, 0, none⟩) m cp xs v n w8 hBp HV.out (by omega)
    have Hput := Lib.hid hput
    have hcp : m + 3 ≤ cp := hO.2.1
    have hcp2 : cp ≤ 9223372036854775807 := by have := hO.2.2.1; unfold maxLen at this; omega
    have HBo := Lib.hid hBo
    have HB8 := Lib.hid hB8
    have HW8 := Lib.hid hw8
    clear hown8 hg8 hown8' hw8 hB8 hxl hBo hBp hput hO
    go_wp2_with fail
    refine Hput.out.mono ?_
    rintro e1 w9 ⟨⟨u9, rfl, hown9⟩, hb9⟩
    obtain ⟨A9, c9, rfl, hB9, -⟩ := ByteSl.of_own (S := Empty) hown9 (fun _ _ _ h => h)
    have hI : ∀ W, Only Empty w9 W → (convert 22 9 (.slice (some ⟨g, 0, none⟩) (m + 3) cp)).run Try.prog W = .ok (.string (strB (xs ++ [7, 8, 9]))) W ∧ (convert 22 9 (.slice A m cap)).run Try.prog W = .ok (.string (strB xs)) W ∧
        (convert 22 9 (.slice A9 (m + (putOut v n).length) c9)).run Try.prog W = .ok (.string (strB (xs ++ putOut v n))) W := fun W hW =>
      ⟨conv_bytes ((HBo.out.only (Only.of_below (S := Empty) hb9) (fun _ _ h => h)).only hW (fun _ _ h => h)), conv_bytes ((HB8.out.only (Only.of_below (S := Empty) hb9) (fun _ _ h => h)).only hW (fun _ _ h => h)), conv_bytes (hB9.only hW (fun _ _ h => h))⟩
    have hput2 : ∀ W, Only Empty w9 W → Calls Try.prog 14 #[.slice A m cap, .int .u64 (v : Int), .int .i64 n] W fun e W' => (∃ u, e = .returned u ∧ ∀ W2, Only Empty W' W2 → (convert 22 9 u).run Try.prog W2 = .ok (.string (strB (xs ++ putOut v n))) W2) ∧ Only Empty w9 W' := fun W hW =>
      (refPut_out A m cap xs v n W ((HB8.out.only (Only.of_below (S := Empty) hb9) (fun _ _ h => h)).only hW (fun _ _ h => h)) HA.out HV.out (by omega)).mono fun e W' ⟨⟨u, he, ho⟩, hb⟩ => ⟨⟨u, he, fun W2 hW2 => by
        obtain ⟨A2, c2, rfl, hB2, -⟩ := ByteSl.of_own (S := Empty) ho (fun _ _ _ h => h)
        exact conv_bytes (hB2.only hW2 (fun _ _ h => h))⟩, hW.trans (Only.of_below hb)⟩
    have HI := Lib.hid hI
    have Hput2 := Lib.hid hput2
    have HB9 := Lib.hid hB9
    have HW9 := Lib.hid (HW8.out.trans (hb9.mono HW8.out.size))
    clear hI hput2 hB9 hown9 hb9
    have hO0 : Only Empty w9 w9 := Only.refl _ _
    have hO1 : Only Empty w9 w9.drew := hO0.drew
    have hs0 := HI.out _ hO0
    have hs1 := HI.out _ hO1
    have hsz : ((strB xs).size : Int) ≤ 8388608 := by
      have h := HB8.out.1
      have h2 : (strB xs).size = xs.length := by simp [strB, ByteArray.size]
      omega
    have hadd : ∀ W, (Op.stringOp .add (strB xs) ⟨#[7, 8, 9]⟩).run Try.prog W = .ok (.string (strB (xs ++ [7, 8, 9]))) W := fun W => by
      rw [run_string_add W (strB xs) ⟨#[7, 8, 9]⟩ hsz (by decide)]
      exact congrArg (fun b => Result.ok (Value.string b) W) (strB_cat xs [7, 8, 9])
    have hcat : strB xs ++ ⟨#[7, 8, 9]⟩ = strB (xs ++ [7, 8, 9]) := strB_cat xs [7, 8, 9]
    go_wp2_with fail
    go_region_held (fun W => (convert 22 9 (.slice (some ⟨g, 0, none⟩) (m + 3) cp)).run Try.prog W = .ok (.string (strB (xs ++ [7, 8, 9]))) W ∧ (convert 22 9 (.slice A m cap)).run Try.prog W = .ok (.string (strB xs)) W ∧
        (convert 22 9 (.slice A9 (m + (putOut v n).length) c9)).run Try.prog W = .ok (.string (strB (xs ++ putOut v n))) W) (first | exact hs0 | exact hs1 | exact hs10)
      (first | (go_at_call 14; refine (Hput2.out _ hO1).mono ?_; rintro e10 w10 ⟨⟨u10, rfl, hcv10⟩, hO10⟩; have hs10 := HI.out _ hO10; have hc10 := hcv10 _ (Only.refl _ _); clear hcv10) | (go_at_call 15; refine (sign_out v n _ HV.out).mono ?_; rintro e11 w11 ⟨rfl, rfl⟩) | (go_at_call 16; refine (refSign_out v n _ HV.out).mono ?_; rintro e11 w11 ⟨rfl, rfl⟩))
    have HO10 := Lib.hid hO10
    clear hs0 hs1 hcat hadd hsz hs10 hc10 hO0 hO1 hO10
    have hend : Below w.heap.size w w10 := HW9.out.trans (HO10.out.below HW9.out.size (fun _ _ h => h))
    have Hend := Lib.hid hend
    clear hend
    by_cases hb1 : n < 1
    · go_wp2
      go_ret
      exact ⟨rfl, Hend.out⟩
    · by_cases hb8 : 8 < n
      · go_wp2
        go_ret
        exact ⟨rfl, Hend.out⟩
      · obtain ⟨nn, rfl⟩ := Int.eq_ofNat_of_zero_le (show 0 ≤ n by omega)
        have hpo : putOut v (nn : Int) = putL v nn := by unfold putOut; rw [if_neg (by omega)]; simp
        have hget := get_yes A9 (m + (putOut v (nn : Int)).length) c9 m nn (xs ++ putOut v (nn : Int)) w10 (HB9.out.only HO10.out (fun _ _ h => h)) (by omega) (by omega) (by rw [hpo, putL_len]; omega) (by rw [hpo, putL_len]; omega)
        have hxl : xs.length = m := HB8.out.1
        have hgv : getV (((xs ++ putOut v (nn : Int)).drop m).take nn) = v % 2 ^ (8 * nn) := by
          rw [List.drop_left' hxl, hpo, List.take_of_length_le (by rw [putL_len]; omega), getV_putL]
        rw [hgv] at hget
        have Hget := Lib.hid hget
        clear hget hgv hpo hxl
        by_cases h8 : nn = 8
        · have hq : ((nn : Int) == 8) = true := by simp; omega
          have hvv : v % 2 ^ (8 * nn) = v := by subst h8; have := HV.out; omega
          rw [hvv] at Hget
          clear hvv h8
          go_wp2_with fail
          refine Hget.out.mono ?_
          rintro e1 w11 ⟨rfl, rfl⟩
          go_wp2
          go_ret
          exact ⟨rfl, Hend.out⟩
        · have hq : ((nn : Int) == 8) = false := by simp; omega
          obtain ⟨p1, p2, p3⟩ := pow_small nn (by omega) (by omega)
          have hm0 : IntKind.u64.wrap (2 ^ (8 * nn)) = ((2 ^ (8 * nn) : Nat) : Int) := by
            rw [IntKind.wrap_u64]
            have : ((2 ^ (8 * nn) : Nat) : Int) = (2 : Int) ^ (8 * nn) := by simp
            rw [← this]
            omega
          obtain ⟨q, hqe⟩ : ∃ q, 2 ^ (8 * nn) = q := ⟨_, rfl⟩
          rw [hqe] at p1 p2 hm0 Hget
          have hd0 : ((q : Int) == 0) = false := by simp; omega
          have hu : ((v : Int) % (q : Int)) = ((v % q : Nat) : Int) := by simp
          obtain ⟨r, hr⟩ : ∃ r, v % q = r := ⟨_, rfl⟩
          rw [hr] at hu Hget
          have hlt8 : nn < 8 := by omega
          clear hqe p3 hr h8
          go_wp2_with fail
          refine Hget.out.mono ?_
          rintro e1 w11 ⟨rfl, rfl⟩
          go_wp2
          go_ret
          exact ⟨rfl, Hend.out⟩
  · clear hB
    go_enter Try.func3, Try.ntmps3
    go_wp2_with fail
    refine (fixed2_any w).mono ?_
    rintro e1 w1 ⟨rfl, hb1⟩
    go_wp2
    go_ret
    exact ⟨rfl, hb1⟩

theorem numPuts_calls_int (A : Option Addr) (m cap : Nat) (xs : List UInt8) (v n : Int) (w : World) (hB0 : ByteSl w (fun k => w.heap.size ≤ k) A m cap xs) (hA : A = none → m = 0 ∧ cap = 0) (v1 : 0 ≤ v) (v2 : v ≤ 18446744073709551615) :
    Calls Try.prog 3 #[.slice A m cap, .int .u64 v, .int .i64 n] w fun e w' => e = .returned (.bool true) ∧ Below w.heap.size w w' := by
  obtain ⟨v', rfl⟩ := Int.eq_ofNat_of_zero_le v1
  exact numPuts_calls A m cap xs v' n w hB0 hA (by omega)

set_option maxRecDepth 100000 in
theorem numPuts_lifted (os : Os) (started : os.Started) (H : Type) (enc : TypeId × Value → H) :
    ReturnsInHanded {} Try.checked os 3 .any (Rows.numPutsSpec.pre6 enc Try.prog Try.f3 Rows.numPutsRow.domain false) (Rows.numPutsSpec.post enc Try.prog Try.f3 false true false false) := by
  refine returnsInHanded_of_change (C := Try.checked) Try.ownKnobs started (by kernel_rfl) Try.func3
    (ChangeSpec.witness6 (enc := enc) (C := Try.checked) false ⟨#[], #[.slice none 0 0, .int .u64 0, .int .i64 0], []⟩ 8 (by kernel_rfl) (by kernel_rfl) (by kernel_rfl) (by kernel_rfl)) ?_
  intro W base args ds gs before hval0 hW hcnd _
  have hval : ∀ (j : Nat) t v, Try.f3.params[j]? = some t → args[j]? = some v → Value.okWide Try.prog W .any base t v := hval0
  have hW' := hW
  obtain ⟨p, q, hA0, hV, rfl, hfz, hnd⟩ := hW
  have hA : DataW.TrodAll enc Try.prog W 0 (fun _ => true) true Try.f3.params.toList args.toList ds p := hA0
  rw [Try.params3] at hA hval
  obtain ⟨v0, vs0, d0, ds0, p0, q0, hargs, rfl, rfl, h0, r0⟩ := trodAll_cons hA
  obtain ⟨v1, vs1, d1, ds1, p1, q1, rfl, rfl, rfl, h1, r1⟩ := trodAll_cons r0
  obtain ⟨v2, vs2, d2, ds2, p2, q2, rfl, rfl, rfl, h2, r2⟩ := trodAll_cons r1
  obtain ⟨rfl, rfl, rfl⟩ := trodAll_nil r2
  obtain rfl : args = #[v0, v1, v2] := by cases args; simp_all
  obtain ⟨rfl, rfl⟩ := trodVars_none hV
  obtain ⟨A, m, cap, xs, rfl, hB, hNil⟩ := open_bytes (hval 0 22 v0 rfl rfl) h0
  obtain ⟨v, rfl, vb1, vb2⟩ := open_u64_ (hval 1 23 v1 rfl rfl) h1
  obtain ⟨n, rfl, -, -⟩ := open_int_ (hval 2 3 v2 rfl rfl) h2
  refine (numPuts_calls_int A m cap xs v n W hB hNil vb1 vb2).mono fun e W' ⟨he, hb⟩ => ?_
  subst he
  exact ⟨_, rfl, law_post Try.allLaid (of_decide_eq_true (by kernel_rfl)) rfl Try.underlying4 rfl hW' rfl rfl rfl hb⟩

/-- The statement: NumPuts returns true, and its arguments read as they did. -/
theorem numPuts_holds : Rows.NumPutsSaid :=
  OpenClaim.holds_of_wide 3 Try.f3 rfl rfl rfl rfl rfl rfl rfl ⟨rfl, rfl, rfl, rfl, rfl⟩ rfl rfl rfl rfl rfl (by kernel_rfl) Try.func3 (by kernel_rfl)
    (of_decide_eq_true (by kernel_rfl)) (by unfold Func.isWrapper; first | (rw [if_pos (by decide +kernel)]; kernel_rfl) | (rw [if_neg (by decide +kernel)]; exact ⟨rfl, rfl⟩))
    (fun os started H enc _ => numPuts_lifted os started H enc)

end Go.Proofs.Ytadnenoehdemkaa
