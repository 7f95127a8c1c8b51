/- The walks over flow's small functions: isPlace, Ends, isLong, isUpTo, isBranch, hasEnd, isRight. -/
import Derived.Test.YtkcjgcogoicffaaDoorOa
import Derived.Test.YtkcjgcogoicffaaDoorOc
import Derived.Test.YtkcjgcogoicffaaDoorOz
import Derived.WalkLawsBesides
namespace Go.Proofs.YtkcjgcogoicffaaDoor
set_option maxRecDepth 100000
open Go.RowKit

theorem u8_beq (o : UInt8) (k : Nat) (hk : k < 256) : (o == UInt8.ofNat k) = ((o.toNat : Int) == (k : Int)) := by
  rw [Bool.eq_iff_iff, beq_iff_eq, beq_iff_eq]
  constructor
  · rintro rfl
    simp; omega
  · intro h
    apply UInt8.toNat_inj.1
    rw [UInt8.toNat_ofNat']
    omega
theorem endsB_int (o : UInt8) : endsB o = ((o.toNat : Int) == 167 || (o.toNat : Int) == 172 || (o.toNat : Int) == 173 || (o.toNat : Int) == 176 || (o.toNat : Int) == 177 || (o.toNat : Int) == 191) := by
  unfold endsB
  rw [show (o == 167) = ((o.toNat : Int) == 167) from u8_beq o 167 (by decide), show (o == 172) = ((o.toNat : Int) == 172) from u8_beq o 172 (by decide), show (o == 173) = ((o.toNat : Int) == 173) from u8_beq o 173 (by decide), show (o == 176) = ((o.toNat : Int) == 176) from u8_beq o 176 (by decide), show (o == 177) = ((o.toNat : Int) == 177) from u8_beq o 177 (by decide), show (o == 191) = ((o.toNat : Int) == 191) from u8_beq o 191 (by decide)]
theorem longB_int (o : UInt8) : longB o = ((o.toNat : Int) == 22 || (o.toNat : Int) == 55) := by
  unfold longB
  rw [show (o == 22) = ((o.toNat : Int) == 22) from u8_beq o 22 (by decide), show (o == 55) = ((o.toNat : Int) == 55) from u8_beq o 55 (by decide)]
theorem flEnds_any (o : UInt8) (w : World) : Calls Tryd.prog 8 #[.int .u8 (o.toNat : Int)] w fun e w' => e = .returned (.bool (endsB o)) ∧ w = w' := by
  have H := Lib.hid (endsB_int o)
  have hx1 : (o.toNat : Int) < 256 := by have := o.toNat_lt; omega
  generalize endsB o = b at *
  generalize (o.toNat : Int) = x at *
  go_enter Tryd.func8, Tryd.ntmps8
  go_wp2
  all_goals (go_ret; exact ⟨by rw [H.out]; simp_all, rfl⟩)
theorem flPlaceI_any (a n : Int) (w : World) : Calls Tryd.prog 14 #[.int .i64 a, .int .i64 n] w fun e w' => e = .returned (.bool (inI a n)) ∧ w = w' := by
  unfold inI
  by_cases h : 0 ≤ a
  · go_enter Tryd.func14, Tryd.ntmps14
    go_wp2
    go_ret
    exact ⟨by simp [h], rfl⟩
  · go_enter Tryd.func14, Tryd.ntmps14
    go_wp2
    go_ret
    exact ⟨by simp; omega, rfl⟩
theorem flPlaceL_any (a n : Int) (w : World) (hn : -9223372036854775808 ≤ n ∧ n ≤ 9223372036854775807) : Calls Tryd.prog 16 #[.int .i64 a, .int .i64 n] w fun e w' => e = .returned (.bool (inI a n)) ∧ w = w' := by
  obtain ⟨h1, h2⟩ := hn
  unfold inI
  by_cases h : 0 ≤ a
  · go_enter Tryd.func16, Tryd.ntmps16
    go_wp2
    go_ret
    exact ⟨by simp [h], rfl⟩
  · go_enter Tryd.func16, Tryd.ntmps16
    go_wp2
    go_ret
    exact ⟨by simp; omega, rfl⟩
theorem flLong_any (o : UInt8) (w : World) : Calls Tryd.prog 39 #[.int .u8 (o.toNat : Int)] w fun e w' => e = .returned (.bool (longB o)) ∧ w = w' := by
  have H := Lib.hid (longB_int o)
  generalize longB o = b at *
  generalize (o.toNat : Int) = x at *
  by_cases h : x = 22
  · go_enter Tryd.func39, Tryd.ntmps39
    go_wp2
    go_ret
    exact ⟨by rw [H.out]; simp_all, rfl⟩
  · have h1 : (x == 22) = false := by simpa using h
    go_enter Tryd.func39, Tryd.ntmps39
    go_wp2
    go_ret
    exact ⟨by rw [H.out]; simp_all, rfl⟩
theorem flUpTo_any (a : Int) (n : Int) (w : World) (hn : n = 64) : Calls Tryd.prog 23 #[.int .i64 a, .int .i64 n] w fun e w' => e = .returned (.bool (inI a 65)) ∧ w = w' := by
  subst hn
  have C := Lib.hid (flPlaceI_any a 65 w)
  go_enter Tryd.func23, Tryd.ntmps23
  go_wp2_with fail
  refine C.out.mono ?_
  rintro e w1 ⟨rfl, rfl⟩
  go_wp2
  go_ret
  exact ⟨rfl, rfl⟩
theorem branchB_int (o : UInt8) : branchB o = ((formN o.toNat : Int) == 7) := by
  unfold branchB
  rw [Bool.eq_iff_iff, beq_iff_eq, beq_iff_eq]
  omega
theorem flBranch_any (o : UInt8) (w : World) (hT : Spans w) : Calls Tryd.prog 15 #[.int .u8 (o.toNat : Int)] w fun e w' => e = .returned (.bool (branchB o)) ∧ Below w.heap.size w w' := by
  have C := Lib.hid (oFormS_any o.toNat o.toNat_lt w hT)
  have H := Lib.hid (branchB_int o)
  clear hT
  generalize branchB o = b at *
  generalize formN o.toNat = f at *
  go_enter Tryd.func15, Tryd.ntmps15
  go_wp2_with fail
  refine C.out.mono ?_
  rintro e w1 ⟨rfl, hb⟩
  go_wp2
  go_ret
  exact ⟨by rw [H.out]; rfl, hb⟩

/-- A row of instructions. -/
abbrev InRow (w : World) (A : Option Addr) (n c : Nat) (l : List InD) : Prop := RowS inT w Empty A n c l
theorem inRow_at {w : World} {A : Option Addr} {n c : Nat} {l : List InD} (h : InRow w A n c l) {k : Nat} (hk : k < n) : ∃ b o x, A = some ⟨b, o, none⟩ ∧ b < w.heap.size ∧ l[k]? = some x ∧ w.cell? ⟨b, o + k * 7, none⟩ = some (.int .u8 (x.op.toNat : Int)) ∧ w.cell? ⟨b, o + k * 7 + 1, none⟩ = some (.int .i64 x.n) ∧ w.cell? ⟨b, o + k * 7 + 2, none⟩ = some (.int .i64 x.m) ∧ w.cell? ⟨b, o + k * 7 + 3, none⟩ = some (.string (strB x.cls)) ∧ w.cell? ⟨b, o + k * 7 + 4, none⟩ = some (.string (strB x.name)) ∧ w.cell? ⟨b, o + k * 7 + 5, none⟩ = some (.string (strB x.desc)) ∧ w.cell? ⟨b, o + k * 7 + 6, none⟩ = some (.string (strB x.text)) := by
  obtain ⟨b, o, x, cs, rfl, hb, _, hx, hcl, hcs, hr⟩ := RowS.at_ h hk
  obtain rfl := (show cs = [.int .u8 (x.op.toNat : Int), .int .i64 x.n, .int .i64 x.m, .string (strB x.cls), .string (strB x.name), .string (strB x.desc), .string (strB x.text)] from hr)
  change ∀ j' v, [.int .u8 (x.op.toNat : Int), .int .i64 x.n, .int .i64 x.m, .string (strB x.cls), .string (strB x.name), .string (strB x.desc), .string (strB x.text)][j']? = some v → w.cell? ⟨b, o + k * 7 + j', none⟩ = some v at hcs
  exact ⟨b, o, x, rfl, hb, hx, by have := hcs 0 _ rfl; simpa using this, hcs 1 _ rfl, hcs 2 _ rfl, hcs 3 _ rfl, hcs 4 _ rfl, hcs 5 _ rfl, hcs 6 _ rfl⟩
theorem flHasEnd_any (A : Option Addr) (n c : Nat) (l : List InD) (w : World) (h : InRow w A n c l) : Calls Tryd.prog 24 #[.slice A n c] w fun e w' => e = .returned (.bool (endB l)) ∧ w = w' := by
  have hc := h.2.1
  have hm := h.2.2.1
  have hl := h.1
  unfold maxLen at hm
  rcases Nat.eq_zero_or_pos n with h0 | h0
  · subst h0
    have : l = [] := List.eq_nil_of_length_eq_zero hl
    subst this
    clear h hl
    go_enter Tryd.func24, Tryd.ntmps24
    go_wp2
    go_ret
    exact ⟨rfl, rfl⟩
  · obtain ⟨k, rfl⟩ : ∃ k, n = k + 1 := ⟨n - 1, by omega⟩
    obtain ⟨b, o, x, rfl, hb, hx, d0, _⟩ := inRow_at h (k := k) (by omega)
    have HE : Hid (endB l = endsB x.op) := Lib.hid (by
      unfold endB
      rw [List.getLast?_eq_getElem?, hl, show k + 1 - 1 = k by omega, hx])
    have C := Lib.hid (flEnds_any x.op w)
    clear h hl hx
    go_enter Tryd.func24, Tryd.ntmps24
    go_wp2_with fail
    refine C.out.mono ?_
    rintro e w1 ⟨rfl, rfl⟩
    go_wp2
    go_ret
    exact ⟨by rw [HE.out]; rfl, rfl⟩

/-- An instruction's value. -/
def inV (x : InD) : Value := .agg #[.int .u8 (x.op.toNat : Int), .int .i64 x.n, .int .i64 x.m, .string (strB x.cls), .string (strB x.name), .string (strB x.desc), .string (strB x.text)]
def inA (x : InD) : Array Value := #[.int .u8 (x.op.toNat : Int), .int .i64 x.n, .int .i64 x.m, .string (strB x.cls), .string (strB x.name), .string (strB x.desc), .string (strB x.text)]
set_option maxHeartbeats 1000000 in
theorem flRight_any (x : InD) (lo : Int) (w : World) (hlo : 0 ≤ lo ∧ lo ≤ 64) (hT : Spans w) : Calls Tryd.prog 26 #[inV x, .int .i64 lo] w fun e w' => e = .returned (.bool (rightB x lo)) ∧ Below w.heap.size w w' := by
  obtain ⟨W1, hW1⟩ : ∃ W1, w.alloc (.cells (inA x) 32) = W1 := ⟨_, rfl⟩
  have hbb : Below w.heap.size w W1 := by rw [← hW1]; exact (Below.refl _ _).alloc (Nat.le_refl _) _
  have k0 : Blk W1 w.heap.size 32 (inA x) := by rw [← hW1]; exact Blk.new w _ _
  have hsz : w.heap.size < W1.heap.size := k0.lt
  have K1 : Hid (∀ W : World, Below W1.heap.size W1 W → W.cell? ⟨w.heap.size, 0, none⟩ = some (.int .u8 (x.op.toNat : Int)) ∧ W.cell? ⟨w.heap.size, 1, none⟩ = some (.int .i64 x.n)) := Lib.hid (fun W h => ⟨(k0.of (h.block _ hsz)).cell 0, (k0.of (h.block _ hsz)).cell 1⟩)
  have C1 := Lib.hid (oFormS_any x.op.toNat x.op.toNat_lt W1 (hT.below hbb))
  have CL := Lib.hid (fun (W : World) => flLong_any x.op W)
  have CP := Lib.hid (fun (W : World) => flPlaceL_any x.n lo W (by omega))
  have CP2 := Lib.hid (fun (W : World) => flPlaceL_any (x.n + 1) lo W (by omega))
  obtain ⟨p0, p1⟩ := K1.out _ (Below.refl _ _)
  have HBB := Lib.hid hbb
  have HW1 := Lib.hid hW1
  unfold inA at HW1
  obtain ⟨f, hf⟩ : ∃ f, formN x.op.toNat = f := ⟨_, rfl⟩
  have HR : Hid (rightB x lo = if f = 0 then false else if f = 2 ∨ f = 8 then inI x.n lo && (!longB x.op || inI (x.n + 1) lo) else true) := Lib.hid (by unfold rightB; rw [hf])
  rw [hf] at C1
  unfold inV
  clear k0 hbb hW1 hT hf
  by_cases f0 : f = 0
  · subst f0
    go_enter Tryd.func26, Tryd.ntmps26
    go_wp2_with fail
    rw [HW1.out]
    go_wp2_with fail
    refine C1.out.mono ?_
    rintro e w1 ⟨rfl, hb⟩
    have HB1 := Lib.hid (HBB.out.trans (hb.mono HBB.out.size))
    clear p0 p1 hb
    go_wp2
    go_ret
    exact ⟨by rw [HR.out]; rfl, HB1.out⟩
  by_cases f2 : f = 2 ∨ f = 8
  · have HR2 : Hid (rightB x lo = (inI x.n lo && (!longB x.op || inI (x.n + 1) lo))) := Lib.hid (by rw [HR.out, if_neg f0, if_pos f2])
    clear HR
    rcases f2 with rfl | rfl
    · go_enter Tryd.func26, Tryd.ntmps26
      go_wp2_with fail
      rw [HW1.out]
      go_wp2_with fail
      refine C1.out.mono ?_
      rintro e w1 ⟨rfl, hb⟩
      obtain ⟨q0, q1⟩ := K1.out _ hb
      have HB1 := Lib.hid (HBB.out.trans (hb.mono HBB.out.size))
      have hs1 := Nat.lt_of_lt_of_le hsz hb.size
      clear p0 p1 hb C1
      cases hi : inI x.n lo with
      | false =>
        rw [hi] at CP HR2
        go_wp2_with fail
        refine (CP.out _).mono ?_
        rintro e w2 ⟨rfl, rfl⟩
        go_wp2
        go_ret
        exact ⟨by rw [HR2.out]; rfl, HB1.out⟩
      | true =>
        have hi2 := hi
        unfold inI at hi2
        simp only [Bool.and_eq_true, decide_eq_true_eq] at hi2
        obtain ⟨i1, i2⟩ := hi2
        rw [hi] at CP HR2
        clear hi
        cases hl : longB x.op with
        | false =>
          rw [hl] at CL HR2
          clear hl
          go_wp2_with fail
          refine (CP.out _).mono ?_
          rintro e w2 ⟨rfl, rfl⟩
          go_wp2_with fail
          refine (CL.out _).mono ?_
          rintro e w2 ⟨rfl, rfl⟩
          go_wp2
          go_ret
          exact ⟨by rw [HR2.out]; rfl, HB1.out⟩
        | true =>
          rw [hl] at CL HR2
          clear hl
          go_wp2_with fail
          refine (CP.out _).mono ?_
          rintro e w2 ⟨rfl, rfl⟩
          go_wp2_with fail
          refine (CL.out _).mono ?_
          rintro e w2 ⟨rfl, rfl⟩
          go_wp2_with fail
          refine (CP2.out _).mono ?_
          rintro e w2 ⟨rfl, rfl⟩
          go_wp2
          go_ret
          exact ⟨by rw [HR2.out]; rfl, HB1.out⟩
    · go_enter Tryd.func26, Tryd.ntmps26
      go_wp2_with fail
      rw [HW1.out]
      go_wp2_with fail
      refine C1.out.mono ?_
      rintro e w1 ⟨rfl, hb⟩
      obtain ⟨q0, q1⟩ := K1.out _ hb
      have HB1 := Lib.hid (HBB.out.trans (hb.mono HBB.out.size))
      have hs1 := Nat.lt_of_lt_of_le hsz hb.size
      clear p0 p1 hb C1
      cases hi : inI x.n lo with
      | false =>
        rw [hi] at CP HR2
        go_wp2_with fail
        refine (CP.out _).mono ?_
        rintro e w2 ⟨rfl, rfl⟩
        go_wp2
        go_ret
        exact ⟨by rw [HR2.out]; rfl, HB1.out⟩
      | true =>
        have hi2 := hi
        unfold inI at hi2
        simp only [Bool.and_eq_true, decide_eq_true_eq] at hi2
        obtain ⟨i1, i2⟩ := hi2
        rw [hi] at CP HR2
        clear hi
        cases hl : longB x.op with
        | false =>
          rw [hl] at CL HR2
          clear hl
          go_wp2_with fail
          refine (CP.out _).mono ?_
          rintro e w2 ⟨rfl, rfl⟩
          go_wp2_with fail
          refine (CL.out _).mono ?_
          rintro e w2 ⟨rfl, rfl⟩
          go_wp2
          go_ret
          exact ⟨by rw [HR2.out]; rfl, HB1.out⟩
        | true =>
          rw [hl] at CL HR2
          clear hl
          go_wp2_with fail
          refine (CP.out _).mono ?_
          rintro e w2 ⟨rfl, rfl⟩
          go_wp2_with fail
          refine (CL.out _).mono ?_
          rintro e w2 ⟨rfl, rfl⟩
          go_wp2_with fail
          refine (CP2.out _).mono ?_
          rintro e w2 ⟨rfl, rfl⟩
          go_wp2
          go_ret
          exact ⟨by rw [HR2.out]; rfl, HB1.out⟩
  · have HR2 : Hid (rightB x lo = true) := Lib.hid (by rw [HR.out, if_neg f0, if_neg f2])
    have g0 : ((f : Int) == 0) = false := by simpa using f0
    have g2 : ((f : Int) == 2) = false := by simp; omega
    have g8 : ((f : Int) == 8) = false := by simp; omega
    clear f0 f2
    go_enter Tryd.func26, Tryd.ntmps26
    go_wp2_with fail
    rw [HW1.out]
    go_wp2_with fail
    refine C1.out.mono ?_
    rintro e w1 ⟨rfl, hb⟩
    have HB1 := Lib.hid (HBB.out.trans (hb.mono HBB.out.size))
    clear p0 p1 hb
    go_wp2
    go_ret
    exact ⟨by rw [HR2.out]; rfl, HB1.out⟩

end Go.Proofs.YtkcjgcogoicffaaDoor
