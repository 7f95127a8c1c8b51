/- Units as they lie in memory. -/
import Derived.Test.YtdkkpcbebhgbiaaGreatDoorZaq
import Derived.Test.YtdkkpcbebhgbiaaGreatDoorZaa
import Derived.Test.YtdkkpcbebhgbiaaGreatDoorZah
import Derived.Test.YtdkkpcbebhgbiaaGreatDoorZad
import Derived.Test.YtdkkpcbebhgbiaaGreatDoorZaf
import Derived.WalkLawsBesides
import Derived.SizedLaws
namespace Go.Proofs.YtdkkpcbebhgbiaaGreatDoor
set_option maxRecDepth 100000
open Go.RowKit

def strT : RepT Bs where
  k := 1
  rep _ _ cs v := cs = [.string (strB v)]
  len h := by rw [h]; rfl
  next h _ _ := h
def fdT : RepT FdD where
  k := 3
  rep _ _ cs v := cs = [.bool v.static, .string (strB v.name), .string (strB v.desc)]
  len h := by rw [h]; rfl
  next h _ _ := h
def trT : RepT TrD where
  k := 4
  rep _ _ cs v := cs = [.int .i64 v.a, .int .i64 v.b, .int .i64 v.c, .string (strB v.cls)]
  len h := by rw [h]; rfl
  next h _ _ := h
def inT : RepT InD where
  k := 7
  rep _ _ cs v := cs = [.int .u8 (v.op.toNat : Int), .int .i64 v.n, .int .i64 v.m, .string (strB v.cls), .string (strB v.name), .string (strB v.desc), .string (strB v.text)]
  len h := by rw [h]; rfl
  next h _ _ := h
def mpT : RepT MpD where
  k := 3
  rep w Z cs v := ∃ a b, cs = [.int .i64 v.at_, a, b] ∧ (rowT strT).rep w Z [a] v.locals ∧ (rowT strT).rep w Z [b] v.stack
  len h := by obtain ⟨_, _, rfl, _⟩ := h; rfl
  next h k hZ := by
    obtain ⟨a, b, rfl, h1, h2⟩ := h
    exact ⟨a, b, rfl, (rowT strT).next h1 k hZ, (rowT strT).next h2 k hZ⟩
/-- A method; its codes and maps are looked at where 'full' says so. -/
def meT (full : Bool) : RepT MeD where
  k := 8
  rep w Z cs v := ∃ Ac nc cc At nt ct Ap np cp, cs = [.bool v.static, .string (strB v.name), .string (strB v.desc), .int .i64 v.stack, .int .i64 v.locals, .slice Ac nc cc, .slice At nt ct, .slice Ap np cp] ∧
    RowS trT w Z At nt ct v.traps ∧ (full = true → RowS inT w Z Ac nc cc v.code ∧ RowS mpT w Z Ap np cp v.maps)
  len h := by obtain ⟨_, _, _, _, _, _, _, _, _, rfl, _⟩ := h; rfl
  next h k hZ := by
    obtain ⟨Ac, nc, cc, At, nt, ct, Ap, np, cp, rfl, h1, h2⟩ := h
    exact ⟨Ac, nc, cc, At, nt, ct, Ap, np, cp, rfl, h1.next k hZ, fun hf => ⟨(h2 hf).1.next k hZ, (h2 hf).2.next k hZ⟩⟩
def unT (full : Bool) : RepT UnD where
  k := 4
  rep w Z cs v := ∃ Af nf cf Am nm cm, cs = [.string (strB v.name), .string (strB v.super), .slice Af nf cf, .slice Am nm cm] ∧ RowS fdT w Z Af nf cf v.fields ∧ RowS (meT full) w Z Am nm cm v.meths
  len h := by obtain ⟨_, _, _, _, _, _, rfl, _⟩ := h; rfl
  next h k hZ := by
    obtain ⟨Af, nf, cf, Am, nm, cm, rfl, h1, h2⟩ := h
    exact ⟨Af, nf, cf, Am, nm, cm, rfl, h1.next k hZ, h2.next k hZ⟩
/-- A method, a unit, whose codes and maps aren't looked at; and read whole. -/
abbrev meW : RepT MeD := meT false
abbrev unW : RepT UnD := unT false
abbrev meF : RepT MeD := meT true
abbrev unF : RepT UnD := unT true
theorem meW_of {w : World} {Z : Nat → Prop} {cs : List Value} {x : MeD} (h : meF.rep w Z cs x) : meW.rep w Z cs x := by
  obtain ⟨Ac, nc, cc, At, nt, ct, Ap, np, cp, rfl, h1, _⟩ := h
  exact ⟨Ac, nc, cc, At, nt, ct, Ap, np, cp, rfl, h1, fun h => by cases h⟩
theorem unW_of {w : World} {Z : Nat → Prop} {cs : List Value} {x : UnD} (h : unF.rep w Z cs x) : unW.rep w Z cs x := by
  obtain ⟨Af, nf, cf, Am, nm, cm, rfl, h1, h2⟩ := h
  exact ⟨Af, nf, cf, Am, nm, cm, rfl, h1, h2.weak rfl (fun _ _ h => meW_of h)⟩

/-- How great units may be. -/
structure SmallUn (u : UnD) : Prop where
  name : u.name.length ≤ 1000000
  super : u.super.length ≤ 1000000
  fields : u.fields.length ≤ 1000
  meths : u.meths.length ≤ 1000
  fld : ∀ f ∈ u.fields, f.name.length ≤ 1000000 ∧ f.desc.length ≤ 1000000
  mth : ∀ m ∈ u.meths, m.name.length ≤ 1000000 ∧ m.desc.length ≤ 1000000
  trap : ∀ m ∈ u.meths, m.traps.length ≤ 1000000 ∧ ∀ t ∈ m.traps, t.cls.length ≤ 1000000

/-- A unit's value. -/
def unV4 (x : UnD) (Af : Option Addr) (nf cf : Nat) (Am : Option Addr) (nm cm : Nat) : Value := .agg #[.string (strB x.name), .string (strB x.super), .slice Af nf cf, .slice Am nm cm]
end Go.Proofs.YtdkkpcbebhgbiaaGreatDoor

/- The walks over flow's small functions: isPlace, Ends, isLong, isUpTo, isBranch, hasEnd, isRight. -/
namespace Go.Proofs.YtdkkpcbebhgbiaaGreatDoor
set_option maxRecDepth 100000
open Go.RowKit

theorem u8_beq (o : UInt8) (k : Nat) (hk : k < 256) : (o == UInt8.ofNat k) = ((o.toNat : Int) == (k : Int)) := by
  rw [Bool.eq_iff_iff, beq_iff_eq, beq_iff_eq]
  constructor
  · rintro rfl
    simp; omega
  · intro h
    apply UInt8.toNat_inj.1
    rw [UInt8.toNat_ofNat']
    omega
theorem endsB_int (o : UInt8) : endsB o = ((o.toNat : Int) == 167 || (o.toNat : Int) == 172 || (o.toNat : Int) == 173 || (o.toNat : Int) == 176 || (o.toNat : Int) == 177 || (o.toNat : Int) == 191) := by
  unfold endsB
  rw [show (o == 167) = ((o.toNat : Int) == 167) from u8_beq o 167 (by decide), show (o == 172) = ((o.toNat : Int) == 172) from u8_beq o 172 (by decide), show (o == 173) = ((o.toNat : Int) == 173) from u8_beq o 173 (by decide), show (o == 176) = ((o.toNat : Int) == 176) from u8_beq o 176 (by decide), show (o == 177) = ((o.toNat : Int) == 177) from u8_beq o 177 (by decide), show (o == 191) = ((o.toNat : Int) == 191) from u8_beq o 191 (by decide)]
theorem longB_int (o : UInt8) : longB o = ((o.toNat : Int) == 22 || (o.toNat : Int) == 55) := by
  unfold longB
  rw [show (o == 22) = ((o.toNat : Int) == 22) from u8_beq o 22 (by decide), show (o == 55) = ((o.toNat : Int) == 55) from u8_beq o 55 (by decide)]
theorem flEnds_any (o : UInt8) (w : World) : Calls Tryz.prog 40 #[.int .u8 (o.toNat : Int)] w fun e w' => e = .returned (.bool (endsB o)) ∧ w = w' := by
  have H := Lib.hid (endsB_int o)
  have hx1 : (o.toNat : Int) < 256 := by have := o.toNat_lt; omega
  generalize endsB o = b at *
  generalize (o.toNat : Int) = x at *
  go_enter Tryz.func40, Tryz.ntmps40
  go_wp2
  all_goals (go_ret; exact ⟨by rw [H.out]; simp_all, rfl⟩)
theorem flPlaceI_any (a n : Int) (w : World) : Calls Tryz.prog 88 #[.int .i64 a, .int .i64 n] w fun e w' => e = .returned (.bool (inI a n)) ∧ w = w' := by
  unfold inI
  by_cases h : 0 ≤ a
  · go_enter Tryz.func88, Tryz.ntmps88
    go_wp2
    go_ret
    exact ⟨by simp [h], rfl⟩
  · go_enter Tryz.func88, Tryz.ntmps88
    go_wp2
    go_ret
    exact ⟨by simp; omega, rfl⟩
theorem flPlaceL_any (a n : Int) (w : World) (hn : -9223372036854775808 ≤ n ∧ n ≤ 9223372036854775807) : Calls Tryz.prog 90 #[.int .i64 a, .int .i64 n] w fun e w' => e = .returned (.bool (inI a n)) ∧ w = w' := by
  obtain ⟨h1, h2⟩ := hn
  unfold inI
  by_cases h : 0 ≤ a
  · go_enter Tryz.func90, Tryz.ntmps90
    go_wp2
    go_ret
    exact ⟨by simp [h], rfl⟩
  · go_enter Tryz.func90, Tryz.ntmps90
    go_wp2
    go_ret
    exact ⟨by simp; omega, rfl⟩
theorem flLong_any (o : UInt8) (w : World) : Calls Tryz.prog 204 #[.int .u8 (o.toNat : Int)] w fun e w' => e = .returned (.bool (longB o)) ∧ w = w' := by
  have H := Lib.hid (longB_int o)
  generalize longB o = b at *
  generalize (o.toNat : Int) = x at *
  by_cases h : x = 22
  · go_enter Tryz.func204, Tryz.ntmps204
    go_wp2
    go_ret
    exact ⟨by rw [H.out]; simp_all, rfl⟩
  · have h1 : (x == 22) = false := by simpa using h
    go_enter Tryz.func204, Tryz.ntmps204
    go_wp2
    go_ret
    exact ⟨by rw [H.out]; simp_all, rfl⟩
theorem flUpTo_any (a : Int) (n : Int) (w : World) (hn : n = 64) : Calls Tryz.prog 152 #[.int .i64 a, .int .i64 n] w fun e w' => e = .returned (.bool (inI a 65)) ∧ w = w' := by
  subst hn
  have C := Lib.hid (flPlaceI_any a 65 w)
  go_enter Tryz.func152, Tryz.ntmps152
  go_wp2_with fail
  refine C.out.mono ?_
  rintro e w1 ⟨rfl, rfl⟩
  go_wp2
  go_ret
  exact ⟨rfl, rfl⟩
theorem branchB_int (o : UInt8) : branchB o = ((formN o.toNat : Int) == 7) := by
  unfold branchB
  rw [Bool.eq_iff_iff, beq_iff_eq, beq_iff_eq]
  omega
theorem flBranch_any (o : UInt8) (w : World) (hT : Spans w) : Calls Tryz.prog 89 #[.int .u8 (o.toNat : Int)] w fun e w' => e = .returned (.bool (branchB o)) ∧ Below w.heap.size w w' := by
  have C := Lib.hid (oFormS_any o.toNat o.toNat_lt w hT)
  have H := Lib.hid (branchB_int o)
  clear hT
  generalize branchB o = b at *
  generalize formN o.toNat = f at *
  go_enter Tryz.func89, Tryz.ntmps89
  go_wp2_with fail
  refine C.out.mono ?_
  rintro e w1 ⟨rfl, hb⟩
  go_wp2
  go_ret
  exact ⟨by rw [H.out]; rfl, hb⟩

/-- A row of instructions. -/
abbrev InRow (w : World) (A : Option Addr) (n c : Nat) (l : List InD) : Prop := RowS inT w Empty A n c l
theorem inRow_at {w : World} {A : Option Addr} {n c : Nat} {l : List InD} (h : InRow w A n c l) {k : Nat} (hk : k < n) : ∃ b o x, A = some ⟨b, o, none⟩ ∧ b < w.heap.size ∧ l[k]? = some x ∧ w.cell? ⟨b, o + k * 7, none⟩ = some (.int .u8 (x.op.toNat : Int)) ∧ w.cell? ⟨b, o + k * 7 + 1, none⟩ = some (.int .i64 x.n) ∧ w.cell? ⟨b, o + k * 7 + 2, none⟩ = some (.int .i64 x.m) ∧ w.cell? ⟨b, o + k * 7 + 3, none⟩ = some (.string (strB x.cls)) ∧ w.cell? ⟨b, o + k * 7 + 4, none⟩ = some (.string (strB x.name)) ∧ w.cell? ⟨b, o + k * 7 + 5, none⟩ = some (.string (strB x.desc)) ∧ w.cell? ⟨b, o + k * 7 + 6, none⟩ = some (.string (strB x.text)) := by
  obtain ⟨b, o, x, cs, rfl, hb, _, hx, hcl, hcs, hr⟩ := RowS.at_ h hk
  obtain rfl := (show cs = [.int .u8 (x.op.toNat : Int), .int .i64 x.n, .int .i64 x.m, .string (strB x.cls), .string (strB x.name), .string (strB x.desc), .string (strB x.text)] from hr)
  change ∀ j' v, [.int .u8 (x.op.toNat : Int), .int .i64 x.n, .int .i64 x.m, .string (strB x.cls), .string (strB x.name), .string (strB x.desc), .string (strB x.text)][j']? = some v → w.cell? ⟨b, o + k * 7 + j', none⟩ = some v at hcs
  exact ⟨b, o, x, rfl, hb, hx, by have := hcs 0 _ rfl; simpa using this, hcs 1 _ rfl, hcs 2 _ rfl, hcs 3 _ rfl, hcs 4 _ rfl, hcs 5 _ rfl, hcs 6 _ rfl⟩
theorem flHasEnd_any (A : Option Addr) (n c : Nat) (l : List InD) (w : World) (h : InRow w A n c l) : Calls Tryz.prog 153 #[.slice A n c] w fun e w' => e = .returned (.bool (endB l)) ∧ w = w' := by
  have hc := h.2.1
  have hm := h.2.2.1
  have hl := h.1
  unfold maxLen at hm
  rcases Nat.eq_zero_or_pos n with h0 | h0
  · subst h0
    have : l = [] := List.eq_nil_of_length_eq_zero hl
    subst this
    clear h hl
    go_enter Tryz.func153, Tryz.ntmps153
    go_wp2
    go_ret
    exact ⟨rfl, rfl⟩
  · obtain ⟨k, rfl⟩ : ∃ k, n = k + 1 := ⟨n - 1, by omega⟩
    obtain ⟨b, o, x, rfl, hb, hx, d0, _⟩ := inRow_at h (k := k) (by omega)
    have HE : Hid (endB l = endsB x.op) := Lib.hid (by
      unfold endB
      rw [List.getLast?_eq_getElem?, hl, show k + 1 - 1 = k by omega, hx])
    have C := Lib.hid (flEnds_any x.op w)
    clear h hl hx
    go_enter Tryz.func153, Tryz.ntmps153
    go_wp2_with fail
    refine C.out.mono ?_
    rintro e w1 ⟨rfl, rfl⟩
    go_wp2
    go_ret
    exact ⟨by rw [HE.out]; rfl, rfl⟩

/-- An instruction's value. -/
def inV (x : InD) : Value := .agg #[.int .u8 (x.op.toNat : Int), .int .i64 x.n, .int .i64 x.m, .string (strB x.cls), .string (strB x.name), .string (strB x.desc), .string (strB x.text)]
def inA (x : InD) : Array Value := #[.int .u8 (x.op.toNat : Int), .int .i64 x.n, .int .i64 x.m, .string (strB x.cls), .string (strB x.name), .string (strB x.desc), .string (strB x.text)]
set_option maxHeartbeats 1000000 in
theorem flRight_any (x : InD) (lo : Int) (w : World) (hlo : 0 ≤ lo ∧ lo ≤ 64) (hT : Spans w) : Calls Tryz.prog 155 #[inV x, .int .i64 lo] w fun e w' => e = .returned (.bool (rightB x lo)) ∧ Below w.heap.size w w' := by
  obtain ⟨W1, hW1⟩ : ∃ W1, w.alloc (.cells (inA x) 98) = W1 := ⟨_, rfl⟩
  have hbb : Below w.heap.size w W1 := by rw [← hW1]; exact (Below.refl _ _).alloc (Nat.le_refl _) _
  have k0 : Blk W1 w.heap.size 98 (inA x) := by rw [← hW1]; exact Blk.new w _ _
  have hsz : w.heap.size < W1.heap.size := k0.lt
  have K1 : Hid (∀ W : World, Below W1.heap.size W1 W → W.cell? ⟨w.heap.size, 0, none⟩ = some (.int .u8 (x.op.toNat : Int)) ∧ W.cell? ⟨w.heap.size, 1, none⟩ = some (.int .i64 x.n)) := Lib.hid (fun W h => ⟨(k0.of (h.block _ hsz)).cell 0, (k0.of (h.block _ hsz)).cell 1⟩)
  have C1 := Lib.hid (oFormS_any x.op.toNat x.op.toNat_lt W1 (hT.below hbb))
  have CL := Lib.hid (fun (W : World) => flLong_any x.op W)
  have CP := Lib.hid (fun (W : World) => flPlaceL_any x.n lo W (by omega))
  have CP2 := Lib.hid (fun (W : World) => flPlaceL_any (x.n + 1) lo W (by omega))
  obtain ⟨p0, p1⟩ := K1.out _ (Below.refl _ _)
  have HBB := Lib.hid hbb
  have HW1 := Lib.hid hW1
  unfold inA at HW1
  obtain ⟨f, hf⟩ : ∃ f, formN x.op.toNat = f := ⟨_, rfl⟩
  have HR : Hid (rightB x lo = if f = 0 then false else if f = 2 ∨ f = 8 then inI x.n lo && (!longB x.op || inI (x.n + 1) lo) else true) := Lib.hid (by unfold rightB; rw [hf])
  rw [hf] at C1
  unfold inV
  clear k0 hbb hW1 hT hf
  by_cases f0 : f = 0
  · subst f0
    go_enter Tryz.func155, Tryz.ntmps155
    go_wp2_with fail
    rw [HW1.out]
    go_wp2_with fail
    refine C1.out.mono ?_
    rintro e w1 ⟨rfl, hb⟩
    have HB1 := Lib.hid (HBB.out.trans (hb.mono HBB.out.size))
    clear p0 p1 hb
    go_wp2
    go_ret
    exact ⟨by rw [HR.out]; rfl, HB1.out⟩
  by_cases f2 : f = 2 ∨ f = 8
  · have HR2 : Hid (rightB x lo = (inI x.n lo && (!longB x.op || inI (x.n + 1) lo))) := Lib.hid (by rw [HR.out, if_neg f0, if_pos f2])
    clear HR
    rcases f2 with rfl | rfl
    · go_enter Tryz.func155, Tryz.ntmps155
      go_wp2_with fail
      rw [HW1.out]
      go_wp2_with fail
      refine C1.out.mono ?_
      rintro e w1 ⟨rfl, hb⟩
      obtain ⟨q0, q1⟩ := K1.out _ hb
      have HB1 := Lib.hid (HBB.out.trans (hb.mono HBB.out.size))
      have hs1 := Nat.lt_of_lt_of_le hsz hb.size
      clear p0 p1 hb C1
      cases hi : inI x.n lo with
      | false =>
        rw [hi] at CP HR2
        go_wp2_with fail
        refine (CP.out _).mono ?_
        rintro e w2 ⟨rfl, rfl⟩
        go_wp2
        go_ret
        exact ⟨by rw [HR2.out]; rfl, HB1.out⟩
      | true =>
        have hi2 := hi
        unfold inI at hi2
        simp only [Bool.and_eq_true, decide_eq_true_eq] at hi2
        obtain ⟨i1, i2⟩ := hi2
        rw [hi] at CP HR2
        clear hi
        cases hl : longB x.op with
        | false =>
          rw [hl] at CL HR2
          clear hl
          go_wp2_with fail
          refine (CP.out _).mono ?_
          rintro e w2 ⟨rfl, rfl⟩
          go_wp2_with fail
          refine (CL.out _).mono ?_
          rintro e w2 ⟨rfl, rfl⟩
          go_wp2
          go_ret
          exact ⟨by rw [HR2.out]; rfl, HB1.out⟩
        | true =>
          rw [hl] at CL HR2
          clear hl
          go_wp2_with fail
          refine (CP.out _).mono ?_
          rintro e w2 ⟨rfl, rfl⟩
          go_wp2_with fail
          refine (CL.out _).mono ?_
          rintro e w2 ⟨rfl, rfl⟩
          go_wp2_with fail
          refine (CP2.out _).mono ?_
          rintro e w2 ⟨rfl, rfl⟩
          go_wp2
          go_ret
          exact ⟨by rw [HR2.out]; rfl, HB1.out⟩
    · go_enter Tryz.func155, Tryz.ntmps155
      go_wp2_with fail
      rw [HW1.out]
      go_wp2_with fail
      refine C1.out.mono ?_
      rintro e w1 ⟨rfl, hb⟩
      obtain ⟨q0, q1⟩ := K1.out _ hb
      have HB1 := Lib.hid (HBB.out.trans (hb.mono HBB.out.size))
      have hs1 := Nat.lt_of_lt_of_le hsz hb.size
      clear p0 p1 hb C1
      cases hi : inI x.n lo with
      | false =>
        rw [hi] at CP HR2
        go_wp2_with fail
        refine (CP.out _).mono ?_
        rintro e w2 ⟨rfl, rfl⟩
        go_wp2
        go_ret
        exact ⟨by rw [HR2.out]; rfl, HB1.out⟩
      | true =>
        have hi2 := hi
        unfold inI at hi2
        simp only [Bool.and_eq_true, decide_eq_true_eq] at hi2
        obtain ⟨i1, i2⟩ := hi2
        rw [hi] at CP HR2
        clear hi
        cases hl : longB x.op with
        | false =>
          rw [hl] at CL HR2
          clear hl
          go_wp2_with fail
          refine (CP.out _).mono ?_
          rintro e w2 ⟨rfl, rfl⟩
          go_wp2_with fail
          refine (CL.out _).mono ?_
          rintro e w2 ⟨rfl, rfl⟩
          go_wp2
          go_ret
          exact ⟨by rw [HR2.out]; rfl, HB1.out⟩
        | true =>
          rw [hl] at CL HR2
          clear hl
          go_wp2_with fail
          refine (CP.out _).mono ?_
          rintro e w2 ⟨rfl, rfl⟩
          go_wp2_with fail
          refine (CL.out _).mono ?_
          rintro e w2 ⟨rfl, rfl⟩
          go_wp2_with fail
          refine (CP2.out _).mono ?_
          rintro e w2 ⟨rfl, rfl⟩
          go_wp2
          go_ret
          exact ⟨by rw [HR2.out]; rfl, HB1.out⟩
  · have HR2 : Hid (rightB x lo = true) := Lib.hid (by rw [HR.out, if_neg f0, if_neg f2])
    have g0 : ((f : Int) == 0) = false := by simpa using f0
    have g2 : ((f : Int) == 2) = false := by simp; omega
    have g8 : ((f : Int) == 8) = false := by simp; omega
    clear f0 f2
    go_enter Tryz.func155, Tryz.ntmps155
    go_wp2_with fail
    rw [HW1.out]
    go_wp2_with fail
    refine C1.out.mono ?_
    rintro e w1 ⟨rfl, hb⟩
    have HB1 := Lib.hid (HBB.out.trans (hb.mono HBB.out.size))
    clear p0 p1 hb
    go_wp2
    go_ret
    exact ⟨by rw [HR2.out]; rfl, HB1.out⟩

end Go.Proofs.YtdkkpcbebhgbiaaGreatDoor

/- Units that come in as an argument, opened, with the reach of what is read. -/
namespace Go.Proofs.YtdkkpcbebhgbiaaGreatDoor
set_option maxRecDepth 100000
open Go.ChangeShapes Go.WideShapes Go.ChangeAt Go.RowKit Go.Joins

/-- How much is read at most. -/
def M47 : Nat := 140737488351232
/-- What lies so, and is so. -/
def andT {α : Type} (R : RepT α) (P : α → Prop) : RepT α where
  k := R.k
  rep w Z cs v := R.rep w Z cs v ∧ P v
  len h := R.len h.1
  next h k hZ := ⟨R.next h.1 k hZ, h.2⟩
theorem RowS.all {α : Type} {R : RepT α} {P : α → Prop} {w : World} {Z : Nat → Prop} {A : Option Addr} {n cap : Nat} {l : List α} (h : RowS (andT R P) w Z A n cap l) : RowS R w Z A n cap l ∧ ∀ x ∈ l, P x := by
  refine ⟨h.weak (R' := R) rfl (fun cs x hx => hx.1), fun x hx => ?_⟩
  obtain ⟨i, hi, he⟩ := List.mem_iff_getElem.1 hx
  obtain ⟨b, o, y, cs, _, _, _, hy, _, _, hr⟩ := h.at_ (i := i) (by rw [← h.1]; exact hi)
  rw [List.getElem?_eq_getElem hi, he] at hy
  cases hy
  exact hr.2

section
variable {H : Type} {enc : TypeId × Value → H} {W : World} {base : Nat} {P : Program}
theorem mem_weightsAll {e : TypeId} : ∀ {l : List (DataW H)} {d : DataW H}, d ∈ l → ∀ n ∈ d.weights P e, n ∈ DataW.weightsAll P e l
  | [], _, h, _, _ => by cases h
  | a :: l, d, h, n, hn => by
    unfold DataW.weightsAll
    rcases List.mem_cons.1 h with rfl | h
    · exact List.mem_append_left _ hn
    · exact List.mem_append_right _ (mem_weightsAll h n hn)
/-- What is read of it takes no more. -/
def Wt (t : TypeId) (d : DataW H) : Prop := ∀ n ∈ d.weights Tryz.prog t, n ≤ M47
theorem Wt.str {t : TypeId} {s : ByteArray} (h : Wt t (.lit (.string s.data.toList) : DataW H)) : s.data.toList.length ≤ M47 := h _ (by simp [DataW.weights])
theorem Wt.field {t : TypeId} {fs : Array Field} {parts : List (DataW H)} (ht : Tryz.prog.underlying t = some (.struct fs)) (h : Wt t (.agg parts)) {j : Nat} {f : Field} {d : DataW H} (hf : fs[j]? = some f) (hd : parts[j]? = some d) : Wt f.type d := by
  intro n hn
  refine h n ?_
  unfold DataW.weights
  rw [ht]
  exact DataW.weights_mem_each (by simp [hf]) hd n hn

/-- A slice in a cell, with its reach. -/
theorem rowsS_cellW {α : Type} (R : RepT α) (a0 : α) (t e : TypeId) (ht : Tryz.prog.underlying t = some (.slice e)) (hK : Tryz.prog.cellsOf e = R.k) (h0K : 0 < R.k) (hby : 0 < Tryz.prog.bytesOf e)
    (one : ∀ (fuel : Nat) (cs : List Value) (x : DataW H × List MemPlace), cs.length = R.k → DataW.trod enc Tryz.prog W 0 (fun _ => true) true fuel e cs = some x → Wt e x.1 → ∃ y, R.rep W (fun q => W.heap.size ≤ q) cs y)
    {fuel : Nat} {v : Value} {x : DataW H × List MemPlace} (h : DataW.trod enc Tryz.prog W 0 (fun _ => true) true fuel t [v] = some x) (hw : Wt t x.1) :
    ∃ (A : Option Addr) (n cap : Nat) (l : List α), v = .slice A n cap ∧ RowS R W (fun q => W.heap.size ≤ q) A n cap l ∧ n ≤ M47 := by
  rcases Go.Deep.open_slice ht h with ⟨hcs, _⟩ | ⟨ad, n, cap, m, n', D, Pl, hcs, _, hl, hm, hmm, hx, hi⟩
  · simp at hcs
    subst hcs
    exact ⟨none, 0, 0, [], rfl, rowS_nil _ _ _, Nat.zero_le _⟩
  · simp at hcs
    subst hcs
    simp at hmm
    subst hmm
    rw [hK] at hi
    subst hx
    have hwS : Wt t (.slice ((List.range n).map D) ((List.range (m - n)).map fun j => D (n + j)) : DataW H) := hw
    have hwn : n ≤ M47 := by
      have := hwS ((((List.range n).map D).length + ((List.range (m - n)).map fun j => D (n + j)).length) * Tryz.prog.bytesOf e) (by unfold DataW.weights; rw [ht]; exact List.mem_cons_self)
      simp only [List.length_map, List.length_range] at this
      have h2 : n * 1 ≤ (n + (m - n)) * Tryz.prog.bytesOf e := Nat.mul_le_mul (by omega) hby
      omega
    have hwi : ∀ i, i < n → Wt e (D i) := fun i hin k hk => hwS k (by
      unfold DataW.weights
      rw [ht]
      exact List.mem_cons_of_mem _ (List.mem_append_left _ (mem_weightsAll (d := D i) (List.mem_map.2 ⟨i, List.mem_range.2 hin, rfl⟩) k hk)))
    rcases Nat.eq_zero_or_pos n with h0 | h0
    · subst h0
      exact ⟨_, 0, _, [], rfl, ⟨rfl, hl, hm, (fun h => by cases h), fun h => absurd h (by omega)⟩, Nat.zero_le _⟩
    obtain ⟨b, o, sp⟩ := ad
    have hs : sp = none ∧ b < W.heap.size := by
      obtain ⟨cs', hc, _⟩ := hi 0 (by omega)
      obtain ⟨_, hl6, hat⟩ := World.cells?_some hc
      have h1 := hat 0 (by omega)
      rw [List.getElem?_eq_getElem (by omega)] at h1
      simp only [Nat.zero_mul, Addr.add, if_true] at h1
      refine ⟨?_, cell_lt h1⟩
      rcases sp with _ | x
      · rfl
      · exfalso
        unfold World.cell? at h1
        split at h1 <;> simp at h1
    obtain ⟨rfl, hb⟩ := hs
    have hall : ∀ i, ∃ y, i < n → ∃ cs, (∀ j v, cs[j]? = some v → W.cell? ⟨b, o + i * R.k + j, none⟩ = some v) ∧ R.rep W (fun q => W.heap.size ≤ q) cs y := fun i => by
      by_cases hin : i < n
      · obtain ⟨cs', hc, ht2⟩ := hi i (by omega)
        rw [add_off] at hc
        obtain ⟨_, hcl, hat⟩ := World.cells?_some hc
        obtain ⟨y, hy⟩ := one _ _ _ hcl ht2 (hwi i hin)
        refine ⟨y, fun _ => ⟨cs', fun j v hv => ?_, hy⟩⟩
        have hj := (List.getElem?_eq_some_iff.1 hv).1
        have h1 := hat j (by omega)
        rw [add_off] at h1
        rw [h1]
        exact hv
      · exact ⟨a0, fun h => absurd h hin⟩
    refine ⟨_, n, _, (List.range n).map fun i => (hall i).choose, rfl, ⟨by simp, hl, hm, (fun h => by cases h), fun _ => ⟨b, o, rfl, hb, by omega, fun i y hy => ?_⟩⟩, hwn⟩
    rw [List.getElem?_map] at hy
    have hin : i < n := by
      rcases Nat.lt_or_ge i n with h1 | h1
      · exact h1
      · rw [List.getElem?_eq_none (by simpa using h1)] at hy
        cases hy
    rw [List.getElem?_range hin] at hy
    simp only [Option.map_some, Option.some.injEq] at hy
    rw [← hy]
    exact (hall i).choose_spec hin

abbrev SB (s : Bs) : Prop := s.length ≤ M47
def fdB (f : FdD) : Prop := SB f.name ∧ SB f.desc
def trB (t : TrD) : Prop := SB t.cls
def inB (i : InD) : Prop := SB i.cls ∧ SB i.name ∧ SB i.desc ∧ SB i.text
def mpB (m : MpD) : Prop := m.locals.length ≤ M47 ∧ m.stack.length ≤ M47 ∧ (∀ s ∈ m.locals, SB s) ∧ (∀ s ∈ m.stack, SB s)
def meB (m : MeD) : Prop := SB m.name ∧ SB m.desc ∧ m.code.length ≤ M47 ∧ m.traps.length ≤ M47 ∧ m.maps.length ≤ M47 ∧ (∀ i ∈ m.code, inB i) ∧ (∀ t ∈ m.traps, trB t) ∧ (∀ p ∈ m.maps, mpB p)
def unB (u : UnD) : Prop := SB u.name ∧ SB u.super ∧ u.fields.length ≤ M47 ∧ u.meths.length ≤ M47 ∧ (∀ f ∈ u.fields, fdB f) ∧ (∀ m ∈ u.meths, meB m)

theorem strB_of' (s : ByteArray) : s = strB s.data.toList := by obtain ⟨⟨l⟩⟩ := s; rfl
theorem oneW_str {fuel : Nat} {c : Value} {x : DataW H × List MemPlace} (h : TC enc W 9 fuel [c] x) (hw : Wt 9 x.1) : ∃ s : Bs, c = .string (strB s) ∧ SB s := by
  obtain ⟨s, e, he, _⟩ := DataW.trod_string Tryz.underlying9 h
  simp at e
  subst he
  exact ⟨s.data.toList, by rw [e, ← strB_of'], hw.str⟩
theorem oneW_int {fuel : Nat} {c : Value} {x : DataW H × List MemPlace} (h : TC enc W 3 fuel [c] x) : ∃ k : Int, c = .int .i64 k := one_int h
theorem oneW_bool {fuel : Nat} {c : Value} {x : DataW H × List MemPlace} (h : TC enc W 4 fuel [c] x) : ∃ k : Bool, c = .bool k := by
  obtain ⟨b, e, _⟩ := DataW.trod_bool Tryz.underlying4 h
  simp at e
  exact ⟨b, e⟩
theorem oneW_fd {fuel : Nat} {cs : List Value} {x : DataW H × List MemPlace} (hl : cs.length = 3) (ht : TC enc W 95 fuel cs x) (hw : Wt 95 x.1) : ∃ y, (andT fdT fdB).rep W (fun q => W.heap.size ≤ q) cs y := by
  obtain ⟨ys, m, _, hx, _, hyl, hg⟩ := DataW.trod_struct Tryz.underlying95 ht
  subst hx
  match cs, hl with
  | [c0, c1, c2], _ =>
    match ys, hyl with
    | [y0, y1, y2], _ =>
      obtain ⟨t, rfl⟩ := oneW_bool (hg 0 _ rfl : TC enc W 4 m [c0] y0)
      obtain ⟨a, rfl, ha⟩ := oneW_str (hg 1 _ rfl : TC enc W 9 m [c1] y1) (Wt.field Tryz.underlying95 hw (j := 1) rfl rfl)
      obtain ⟨b, rfl, hb⟩ := oneW_str (hg 2 _ rfl : TC enc W 9 m [c2] y2) (Wt.field Tryz.underlying95 hw (j := 2) rfl rfl)
      exact ⟨⟨t, a, b⟩, rfl, ha, hb⟩
end

end Go.Proofs.YtdkkpcbebhgbiaaGreatDoor

/- Units that come in as an argument, opened, with the reach of what is read: methods, units. -/
namespace Go.Proofs.YtdkkpcbebhgbiaaGreatDoor
set_option maxRecDepth 100000
open Go.ChangeShapes Go.WideShapes Go.ChangeAt Go.RowKit Go.Joins

section
variable {H : Type} {enc : TypeId × Value → H} {W : World} {base : Nat}
theorem oneW_sT {fuel : Nat} {cs : List Value} {x : DataW H × List MemPlace} (hl : cs.length = 1) (ht : TC enc W 9 fuel cs x) (hw : Wt 9 x.1) : ∃ y, (andT strT SB).rep W (fun q => W.heap.size ≤ q) cs y := by
  match cs, hl with
  | [c0], _ =>
    obtain ⟨s, rfl, hs⟩ := oneW_str ht hw
    exact ⟨s, rfl, hs⟩
theorem oneW_tr {fuel : Nat} {cs : List Value} {x : DataW H × List MemPlace} (hl : cs.length = 4) (ht : TC enc W 133 fuel cs x) (hw : Wt 133 x.1) : ∃ y, (andT trT trB).rep W (fun q => W.heap.size ≤ q) cs y := by
  obtain ⟨ys, m, _, hx, _, hyl, hg⟩ := DataW.trod_struct Tryz.underlying133 ht
  subst hx
  match cs, hl with
  | [c0, c1, c2, c3], _ =>
    match ys, hyl with
    | [y0, y1, y2, y3], _ =>
      obtain ⟨a, rfl⟩ := oneW_int (hg 0 _ rfl : TC enc W 3 m [c0] y0)
      obtain ⟨b, rfl⟩ := oneW_int (hg 1 _ rfl : TC enc W 3 m [c1] y1)
      obtain ⟨c, rfl⟩ := oneW_int (hg 2 _ rfl : TC enc W 3 m [c2] y2)
      obtain ⟨d, rfl, hd⟩ := oneW_str (hg 3 _ rfl : TC enc W 9 m [c3] y3) (Wt.field Tryz.underlying133 hw (j := 3) rfl rfl)
      exact ⟨⟨a, b, c, d⟩, rfl, hd⟩
theorem oneW_in {fuel : Nat} {cs : List Value} {x : DataW H × List MemPlace} (hl : cs.length = 7) (ht : TC enc W 98 fuel cs x) (hw : Wt 98 x.1) : ∃ y, (andT inT inB).rep W (fun q => W.heap.size ≤ q) cs y := by
  obtain ⟨ys, m, _, hx, _, hyl, hg⟩ := DataW.trod_struct Tryz.underlying98 ht
  subst hx
  match cs, hl with
  | [c0, c1, c2, c3, c4, c5, c6], _ =>
    match ys, hyl with
    | [y0, y1, y2, y3, y4, y5, y6], _ =>
      have g0 : TC enc W 5 m [c0] y0 := hg 0 _ rfl
      have g1 : TC enc W 2 m [c1] y1 := hg 1 _ rfl
      obtain ⟨a, e0, _, w0⟩ := DataW.trod_int Tryz.underlying5 g0
      obtain ⟨b, e1, _, _⟩ := DataW.trod_int Tryz.underlying2 g1
      simp at e0 e1
      subst e0 e1
      obtain ⟨o, ho⟩ := bd_u8 w0
      obtain ⟨c, rfl⟩ := oneW_int (hg 2 _ rfl : TC enc W 3 m [c2] y2)
      obtain ⟨s3, rfl, h3⟩ := oneW_str (hg 3 _ rfl : TC enc W 9 m [c3] y3) (Wt.field Tryz.underlying98 hw (j := 3) rfl rfl)
      obtain ⟨s4, rfl, h4⟩ := oneW_str (hg 4 _ rfl : TC enc W 9 m [c4] y4) (Wt.field Tryz.underlying98 hw (j := 4) rfl rfl)
      obtain ⟨s5, rfl, h5⟩ := oneW_str (hg 5 _ rfl : TC enc W 9 m [c5] y5) (Wt.field Tryz.underlying98 hw (j := 5) rfl rfl)
      obtain ⟨s6, rfl, h6⟩ := oneW_str (hg 6 _ rfl : TC enc W 9 m [c6] y6) (Wt.field Tryz.underlying98 hw (j := 6) rfl rfl)
      rw [ho]
      exact ⟨⟨o, b, c, s3, s4, s5, s6⟩, rfl, h3, h4, h5, h6⟩
theorem strsW_cell {fuel : Nat} {v : Value} {x : DataW H × List MemPlace} (h : TC enc W 42 fuel [v] x) (hw : Wt 42 x.1) : ∃ A n cap l, v = .slice A n cap ∧ RowS strT W (fun q => W.heap.size ≤ q) A n cap l ∧ l.length ≤ M47 ∧ ∀ s ∈ l, SB s := by
  obtain ⟨A, n, cap, l, rfl, hR, hn⟩ := rowsS_cellW (andT strT SB) [] 42 9 Tryz.underlying42 (by kernel_rfl) (by decide) (by decide +kernel) (fun _ _ _ hl ht hw => oneW_sT hl ht hw) h hw
  obtain ⟨h1, h2⟩ := hR.all
  exact ⟨A, n, cap, l, rfl, h1, by rw [h1.1]; exact hn, h2⟩
theorem oneW_mp {fuel : Nat} {cs : List Value} {x : DataW H × List MemPlace} (hl : cs.length = 3) (ht : TC enc W 44 fuel cs x) (hw : Wt 44 x.1) : ∃ y, (andT mpT mpB).rep W (fun q => W.heap.size ≤ q) cs y := by
  obtain ⟨ys, m, _, hx, _, hyl, hg⟩ := DataW.trod_struct Tryz.underlying44 ht
  subst hx
  match cs, hl with
  | [c0, c1, c2], _ =>
    match ys, hyl with
    | [y0, y1, y2], _ =>
      obtain ⟨a, rfl⟩ := oneW_int (hg 0 _ rfl : TC enc W 3 m [c0] y0)
      obtain ⟨A1, n1, p1, l1, rfl, h1, b1, s1⟩ := strsW_cell (hg 1 _ rfl : TC enc W 42 m [c1] y1) (Wt.field Tryz.underlying44 hw (j := 1) rfl rfl)
      obtain ⟨A2, n2, p2, l2, rfl, h2, b2, s2⟩ := strsW_cell (hg 2 _ rfl : TC enc W 42 m [c2] y2) (Wt.field Tryz.underlying44 hw (j := 2) rfl rfl)
      exact ⟨⟨a, l1, l2⟩, ⟨_, _, rfl, ⟨_, _, _, rfl, h1⟩, ⟨_, _, _, rfl, h2⟩⟩, b1, b2, s1, s2⟩
theorem oneW_me {fuel : Nat} {cs : List Value} {x : DataW H × List MemPlace} (hl : cs.length = 8) (ht : TC enc W 41 fuel cs x) (hw : Wt 41 x.1) : ∃ y, (andT meF meB).rep W (fun q => W.heap.size ≤ q) cs y := by
  obtain ⟨ys, m, _, hx, _, hyl, hg⟩ := DataW.trod_struct Tryz.underlying41 ht
  subst hx
  match cs, hl with
  | [c0, c1, c2, c3, c4, c5, c6, c7], _ =>
    match ys, hyl with
    | [y0, y1, y2, y3, y4, y5, y6, y7], _ =>
      obtain ⟨t, rfl⟩ := oneW_bool (hg 0 _ rfl : TC enc W 4 m [c0] y0)
      obtain ⟨s1, rfl, b1⟩ := oneW_str (hg 1 _ rfl : TC enc W 9 m [c1] y1) (Wt.field Tryz.underlying41 hw (j := 1) rfl rfl)
      obtain ⟨s2, rfl, b2⟩ := oneW_str (hg 2 _ rfl : TC enc W 9 m [c2] y2) (Wt.field Tryz.underlying41 hw (j := 2) rfl rfl)
      obtain ⟨i3, rfl⟩ := oneW_int (hg 3 _ rfl : TC enc W 3 m [c3] y3)
      obtain ⟨i4, rfl⟩ := oneW_int (hg 4 _ rfl : TC enc W 3 m [c4] y4)
      obtain ⟨A5, n5, p5, l5, rfl, h5, b5⟩ := rowsS_cellW (andT inT inB) ⟨0, 0, 0, [], [], [], []⟩ 37 98 Tryz.underlying37 (by kernel_rfl) (by decide) (by decide +kernel) (fun _ _ _ hl ht hw => oneW_in hl ht hw) (hg 5 _ rfl : TC enc W 37 m [c5] y5) (Wt.field Tryz.underlying41 hw (j := 5) rfl rfl)
      obtain ⟨A6, n6, p6, l6, rfl, h6, b6⟩ := rowsS_cellW (andT trT trB) ⟨0, 0, 0, []⟩ 38 133 Tryz.underlying38 (by kernel_rfl) (by decide) (by decide +kernel) (fun _ _ _ hl ht hw => oneW_tr hl ht hw) (hg 6 _ rfl : TC enc W 38 m [c6] y6) (Wt.field Tryz.underlying41 hw (j := 6) rfl rfl)
      obtain ⟨A7, n7, p7, l7, rfl, h7, b7⟩ := rowsS_cellW (andT mpT mpB) ⟨0, [], []⟩ 39 44 Tryz.underlying39 (by kernel_rfl) (by decide) (by decide +kernel) (fun _ _ _ hl ht hw => oneW_mp hl ht hw) (hg 7 _ rfl : TC enc W 39 m [c7] y7) (Wt.field Tryz.underlying41 hw (j := 7) rfl rfl)
      obtain ⟨r5, a5⟩ := h5.all
      obtain ⟨r6, a6⟩ := h6.all
      obtain ⟨r7, a7⟩ := h7.all
      exact ⟨⟨t, s1, s2, i3, i4, l5, l6, l7⟩, ⟨_, _, _, _, _, _, _, _, _, rfl, r6, fun _ => ⟨r5, r7⟩⟩, b1, b2, by rw [r5.1]; exact b5, by rw [r6.1]; exact b6, by rw [r7.1]; exact b7, a5, a6, a7⟩
theorem oneW_un {fuel : Nat} {cs : List Value} {x : DataW H × List MemPlace} (hl : cs.length = 4) (ht : TC enc W 82 fuel cs x) (hw : Wt 82 x.1) : ∃ y, (andT unF unB).rep W (fun q => W.heap.size ≤ q) cs y := by
  obtain ⟨ys, m, _, hx, _, hyl, hg⟩ := DataW.trod_struct Tryz.underlying82 ht
  subst hx
  match cs, hl with
  | [c0, c1, c2, c3], _ =>
    match ys, hyl with
    | [y0, y1, y2, y3], _ =>
      obtain ⟨s0, rfl, b0⟩ := oneW_str (hg 0 _ rfl : TC enc W 9 m [c0] y0) (Wt.field Tryz.underlying82 hw (j := 0) rfl rfl)
      obtain ⟨s1, rfl, b1⟩ := oneW_str (hg 1 _ rfl : TC enc W 9 m [c1] y1) (Wt.field Tryz.underlying82 hw (j := 1) rfl rfl)
      obtain ⟨A2, n2, p2, l2, rfl, h2, b2⟩ := rowsS_cellW (andT fdT fdB) ⟨false, [], []⟩ 79 95 Tryz.underlying79 (by kernel_rfl) (by decide) (by decide +kernel) (fun _ _ _ hl ht hw => oneW_fd hl ht hw) (hg 2 _ rfl : TC enc W 79 m [c2] y2) (Wt.field Tryz.underlying82 hw (j := 2) rfl rfl)
      obtain ⟨A3, n3, p3, l3, rfl, h3, b3⟩ := rowsS_cellW (andT meF meB) ⟨false, [], [], 0, 0, [], [], []⟩ 80 41 Tryz.underlying80 (by kernel_rfl) (by decide) (by decide +kernel) (fun _ _ _ hl ht hw => oneW_me hl ht hw) (hg 3 _ rfl : TC enc W 80 m [c3] y3) (Wt.field Tryz.underlying82 hw (j := 3) rfl rfl)
      obtain ⟨r2, a2⟩ := h2.all
      obtain ⟨r3, a3⟩ := h3.all
      exact ⟨⟨s0, s1, l2, l3⟩, ⟨_, _, _, _, _, _, rfl, r2, r3⟩, b0, b1, by rw [r2.1]; exact b2, by rw [r3.1]; exact b3, a2, a3⟩
/-- A law's argument: units. -/
theorem open_units {v : Value} {d : DataW H} {p : List MemPlace} (hv : Value.okWide Tryz.prog W .any base 28 v) (h : DataW.Trod enc Tryz.prog W 0 (fun _ => true) true 28 v d p) (hw : Wt 28 d) :
    ∃ A n cap l, v = .slice A n cap ∧ RowS unF W Empty A n cap l ∧ n ≤ M47 ∧ ∀ u ∈ l, unB u := by
  obtain ⟨A, n, cap, rfl⟩ := okWide_slice Tryz.underlying28 hv
  obtain ⟨fuel, hf⟩ := h
  obtain ⟨A2, n2, cap2, l, e, hR, hn⟩ := rowsS_cellW (andT unF unB) ⟨[], [], [], []⟩ 28 82 Tryz.underlying28 (by kernel_rfl) (by decide) (by decide +kernel) (fun _ _ _ hl ht hw => oneW_un hl ht hw) (hf : TC enc W 28 fuel [.slice A n cap] (d, p)) hw
  obtain ⟨r, a⟩ := hR.all
  exact ⟨A2, n2, cap2, l, e, r.mono (fun _ _ h => h.elim), hn, a⟩
end

end Go.Proofs.YtdkkpcbebhgbiaaGreatDoor
