/- The walk over the document's Few (layer 15); printed by gen/gen_rk.py. -/
import Derived.Test.YtkcjgcogoicffaaDoorRj
import Derived.Test.YtkcjgcogoicffaaDoorDf
import Derived.Test.YtkcjgcogoicffaaDoorTk
namespace Go.Proofs.YtkcjgcogoicffaaDoor
set_option maxRecDepth 100000
open Go.RowKit

theorem sl_of_rowS {w : World} {S : Nat → Prop} {A : Option Addr} {n c : Nat} {l : List Bs} (h : RowS strT w S A n c l) : RowSl svC 1 w S A n c l := by
  obtain ⟨h1, h2, h3, _, h4⟩ := h
  refine ⟨h1, h2, h3, fun h0 => ?_⟩
  obtain ⟨b, o, e, hb, hs, hc⟩ := h4 h0
  refine ⟨b, o, e, hb, hs, fun i x hx j hj => ?_⟩
  obtain ⟨cs, h5, h6⟩ := hc i x hx
  obtain rfl := (show cs = [.string (strB x)] from h6)
  obtain rfl : j = 0 := by omega
  exact h5 0 _ rfl
/-- append of texts onto texts of the call's own, as an equation. -/
theorem run_append_S {w : World} {base : Nat} {B : Option Addr} {m0 c0 : Nat} {zs : List Bs} (hown : GotR svC 1 9 base w B m0 c0 zs) {A : Option Addr} {m c : Nat} {l : List Bs} (hB : RowSl svC 1 w Empty A m c l) (hn : A = none → m = 0 ∧ c = 0) (hm : m0 + m ≤ 16777216) (hbase : base ≤ w.heap.size) :
    ∃ A' c' w', (Builtin.append_ #[36, 36] 36 #[.slice B m0 c0, .slice A m c]).run Tryd.prog w = .ok (.slice A' (m0 + m) c') w' ∧ GotR svC 1 9 base w' A' (m0 + m) c' (zs ++ l) ∧ w.grownBy w' (Value.slice B m0 c0).ownBlock ∧ (∀ g, (Value.slice B m0 c0).ownBlock = some g → base ≤ g) := by
  rcases A with _ | ad
  · obtain ⟨rfl, rfl⟩ := hn rfl
    have hys : l = [] := List.eq_nil_of_length_eq_zero hB.1
    subst hys
    obtain ⟨i0, hi, _, _, _⟩ := info_parts Tryd.infoStr
    refine ⟨B, c0, w, run_append_owned_none (P := Tryd.prog) (w := w) base 36 36 9 i0 1 Tryd.underlying36 hi _ m0 (zs.flatMap svC) hown.own, by simpa using hown, World.grownBy.refl w _, fun g hg => ?_⟩
    rcases hown.here with rfl | ⟨g', cur, rfl, hb, _, _⟩
    · obtain ⟨rfl, rfl⟩ := hown.isNil rfl
      simp [Value.ownBlock] at hg
    · simp [Value.ownBlock] at hg
      omega
  · exact run_append_rows svC_len svC_one (by decide) 36 9 _ 16 Tryd.underlying36 Tryd.infoStr (by simp [Value.cells]) (by decide) 36 base B m0 c0 zs hown ad m c l hB hm hbase

/-- Fields, methods that so much has been paid for. -/
def FPaid (B : Int) (f : FdD) : Prop := (f.name.length : Int) + (f.desc.length : Int) ≤ 50 * B + 49
def TPaid (B : Int) (t : TrD) : Prop := (t.cls.length : Int) ≤ 100 * B + 99
def PPaid (B : Int) (p : MpD) : Prop := (p.locals.length : Int) + (p.stack.length : Int) ≤ B
def MPaid (B : Int) (m : MeD) : Prop := (m.name.length : Int) + (m.desc.length : Int) ≤ 50 * B + 49 ∧ (m.traps.length : Int) ≤ B ∧ (∀ t ∈ m.traps, TPaid B t) ∧ (m.code.length : Int) ≤ B ∧ ∀ p ∈ m.maps, PPaid B p
/-- What is known of bodies besides. -/
def MapsSm (u : UnD) : Prop := ∀ m ∈ u.meths, m.code.length ≤ 600 ∧ ∀ p ∈ m.maps, p.locals.length + p.stack.length ≤ 600
theorem FPaid.mono {B C : Int} {f : FdD} (h : FPaid B f) (hB : B ≤ C) : FPaid C f := by unfold FPaid at *; omega
theorem TPaid.mono {B C : Int} {f : TrD} (h : TPaid B f) (hB : B ≤ C) : TPaid C f := by unfold TPaid at *; omega
theorem PPaid.mono {B C : Int} {f : MpD} (h : PPaid B f) (hB : B ≤ C) : PPaid C f := by unfold PPaid at *; omega
theorem MPaid.mono {B C : Int} {f : MeD} (h : MPaid B f) (hB : B ≤ C) : MPaid C f := ⟨by have := h.1; omega, by have := h.2.1; omega, fun t ht => (h.2.2.1 t ht).mono hB, by have := h.2.2.2.1; omega, fun p hp => (h.2.2.2.2 p hp).mono hB⟩
theorem take_all {α : Type} {p : α → Prop} {l : List α} {n k : Nat} (h : ∀ x ∈ l.take k, p x) (hl : l.length = n) (hk : ¬ k < n) : ∀ x ∈ l, p x := fun x hx => h x (by rw [List.take_of_length_le (by omega)]; exact hx)
theorem take_nextP {α : Type} {p q : α → Prop} {l : List α} {k : Nat} {x : α} (h : ∀ x ∈ l.take k, p x) (hx : l[k]? = some x) (hm : ∀ y, p y → q y) (hq : q x) : ∀ x ∈ l.take (k + 1), q x := by
  intro y hy
  rw [List.take_add_one, hx] at hy
  rcases List.mem_append.1 hy with h1 | h1
  · exact hm y (h y h1)
  · simp at h1; subst h1; exact hq
/-- Where its loops stand: what is left, and what has been paid for. -/
def RelX (n : Nat) (lo st hi : Int) (p : Nat → Int → Prop) (w : World) (v i : Value) (wr : World) : Prop := ∃ (k : Nat) (L : Int), k ≤ n ∧ i = .int .i64 (k : Int) ∧ v = .int .i64 L ∧ lo - (k : Int) * st ≤ L ∧ L ≤ hi ∧ p k L ∧ Below w.heap.size w wr

def Few15 (u : UnD) (e : Ending) : Prop := ∃ b, e = .returned (.bool b) ∧ (b = true → SmallUn u ∧ MapsSm u)
theorem Few15.no (u : UnD) : Few15 u (.returned (.bool false)) := ⟨false, rfl, fun h => by cases h⟩
theorem small_of {u : UnD} {L : Int} (h0 : 0 ≤ L) (hn : u.name.length ≤ 300 ∧ u.super.length ≤ 300) (hf : u.fields.length ≤ 70) (hm : u.meths.length ≤ 40) (h1 : ∀ f ∈ u.fields, FPaid (600 - L) f) (h2 : ∀ m ∈ u.meths, MPaid (600 - L) m) : SmallUn u ∧ MapsSm u :=
  ⟨SmallUn.mk (by omega) (by omega) (by omega) (by omega) (fun f hf => by have := h1 f hf; unfold FPaid at this; omega) (fun m hm => by have := (h2 m hm).1; omega)
    (fun m hm => ⟨by have := (h2 m hm).2.1; omega, fun t ht => by have := (h2 m hm).2.2.1 t ht; unfold TPaid at this; omega⟩),
    fun m hm => ⟨by have := (h2 m hm).2.2.2.1; omega, fun p hp => by have := (h2 m hm).2.2.2.2 p hp; unfold PPaid at this; omega⟩⟩

set_option maxHeartbeats 16000000 in
theorem rfew_any (u : UnD) (Af : Option Addr) (nf cf : Nat) (Am : Option Addr) (nm cm : Nat) (w : World) (hF : RowS fdT w Empty Af nf cf u.fields) (hM : RowS meF w Empty Am nm cm u.meths) (hB : unB u) :
    Calls Tryd.prog 10 #[unV4 u Af nf cf Am nm cm] w fun e w' => Few15 u e ∧ Below w.heap.size w w' := by
  obtain ⟨W1, hW1⟩ : ∃ W1, w.alloc (.cells #[.string (strB u.name), .string (strB u.super), .slice Af nf cf, .slice Am nm cm] 45) = W1 := ⟨_, rfl⟩
  have hbb : Below w.heap.size w W1 := by rw [← hW1]; exact (Below.refl _ _).alloc (Nat.le_refl _) _
  have k0 : Blk W1 w.heap.size 45 #[.string (strB u.name), .string (strB u.super), .slice Af nf cf, .slice Am nm cm] := by rw [← hW1]; exact Blk.new w _ _
  have hsz : W1.heap.size = w.heap.size + 1 := by rw [← hW1]; simp
  have HF := Lib.hid (hF.below hbb)
  have HM := Lib.hid (hM.below hbb)
  have hnf := hF.2.1
  have hcf := hF.2.2.1
  have hnm := hM.2.1
  have hcm := hM.2.2.1
  unfold maxLen at hcf hcm
  have HB := Lib.hid hB
  have K1 : Hid (∀ W : World, Below W1.heap.size W1 W → W.cell? ⟨w.heap.size, 0, none⟩ = some (.string (strB u.name)) ∧ W.cell? ⟨w.heap.size, 1, none⟩ = some (.string (strB u.super)) ∧ W.cell? ⟨w.heap.size, 2, none⟩ = some (.slice Af nf cf) ∧ W.cell? ⟨w.heap.size, 3, none⟩ = some (.slice Am nm cm)) := Lib.hid (fun W h => ⟨(k0.of (h.block _ (by omega))).cell 0, (k0.of (h.block _ (by omega))).cell 1, (k0.of (h.block _ (by omega))).cell 2, (k0.of (h.block _ (by omega))).cell 3⟩)
  have HBB := Lib.hid hbb
  have HW1 := Lib.hid hW1
  have hz0 : (strB u.name).size = u.name.length := strB_size _
  have hz1 : (strB u.super).size = u.super.length := strB_size _
  have hl0 : u.name.length ≤ 140737488351232 := hB.1
  have hl1 : u.super.length ≤ 140737488351232 := hB.2.1
  obtain ⟨a0, ha0⟩ : ∃ a, u.name.length = a := ⟨_, rfl⟩
  obtain ⟨a1, ha1⟩ : ∃ a, u.super.length = a := ⟨_, rfl⟩
  rw [ha0] at hz0 hl0
  rw [ha1] at hz1 hl1
  have HA0 := Lib.hid ha0
  have HA1 := Lib.hid ha1
  obtain ⟨p0, p1, p2, p3⟩ := K1.out _ (Below.refl _ _)
  clear hW1 hbb k0 hsz hF hM hB ha0 ha1
  by_cases c1 : 70 < nf
  · skip
    unfold unV4
    go_enter Tryd.func10, Tryd.ntmps10
    go_wp2_with fail
    rw [HW1.out]
    go_wp2
    go_ret
    exact ⟨Few15.no u, HBB.out⟩
  by_cases c2 : 40 < nm
  · skip
    unfold unV4
    go_enter Tryd.func10, Tryd.ntmps10
    go_wp2_with fail
    rw [HW1.out]
    go_wp2
    go_ret
    exact ⟨Few15.no u, HBB.out⟩
  by_cases c3 : 300 < a0 + a1
  · skip
    unfold unV4
    go_enter Tryd.func10, Tryd.ntmps10
    go_wp2_with fail
    rw [HW1.out]
    go_wp2
    go_ret
    exact ⟨Few15.no u, HBB.out⟩
  unfold unV4
  go_enter Tryd.func10, Tryd.ntmps10
  go_wp2_with fail
  rw [HW1.out]
  go_wp2
  clear p0 p1 p2 p3
  have HREL1 := Lib.hid (show RelX nf 600 8796093022208 600 (fun k L => ∀ f ∈ u.fields.take k, FPaid (600 - L) f) W1 (.int .i64 600) (.int .i64 0) W1 from ⟨0, 600, Nat.zero_le _, rfl, rfl, by omega, by omega, fun f hf => (by simp at hf), Below.refl _ _⟩)
  go_loopw [3, 39] (fun v i wr => RelX nf 600 8796093022208 600 (fun k L => ∀ f ∈ u.fields.take k, FPaid (600 - L) f) W1 v i wr) (fun _ i _ => nf - (intOf i).toNat)
  case atStart => exact HREL1.out
  case round =>
    clear HREL1
    obtain ⟨k1, L1, hk1, rfl, rfl, hlo1, hhi1, hp, hbw⟩ := hrel
    have HP := Lib.hid hp
    clear hp
    by_cases hlt : k1 < nf
    · obtain ⟨fb, fo, f, fcs, rfl, hfb, _, hfx, hfcl, hcs, hr⟩ := (HF.out.below hbw).at_ hlt
      obtain rfl := (show fcs = [.bool f.static, .string (strB f.name), .string (strB f.desc)] from hr)
      change ∀ j' v, [.bool f.static, .string (strB f.name), .string (strB f.desc)][j']? = some v → wr.cell? ⟨fb, fo + k1 * 3 + j', none⟩ = some v at hcs
      have d0 : wr.cell? ⟨fb, fo + k1 * 3, none⟩ = some (.bool f.static) := by have := hcs 0 _ rfl; simpa using this
      have d1 : wr.cell? ⟨fb, fo + k1 * 3 + 1, none⟩ = some (.string (strB f.name)) := by have := hcs 1 _ rfl; simpa using this
      have d2 : wr.cell? ⟨fb, fo + k1 * 3 + 2, none⟩ = some (.string (strB f.desc)) := by have := hcs 2 _ rfl; simpa using this
      have HFX := Lib.hid hfx
      have hfB := HB.out.2.2.2.2.1 f (List.mem_of_getElem? hfx)
      have HAW := Lib.hid (hbw.alloc hbw.size (.cells #[.bool f.static, .string (strB f.name), .string (strB f.desc)] 54))
      have hz0 : (strB f.name).size = f.name.length := strB_size _
      have hy0 : f.name.length ≤ 140737488351232 := hfB.1
      obtain ⟨z0, he0⟩ : ∃ a, f.name.length = a := ⟨_, rfl⟩
      have HE0 := Lib.hid he0
      rw [he0] at hz0 hy0
      clear he0
      have hz1 : (strB f.desc).size = f.desc.length := strB_size _
      have hy1 : f.desc.length ≤ 140737488351232 := hfB.2
      obtain ⟨z1, he1⟩ : ∃ a, f.desc.length = a := ⟨_, rfl⟩
      have HE1 := Lib.hid he1
      rw [he1] at hz1 hy1
      clear he1
      clear hcs hfcl hfx hbw hr hfB
      go_wp2
      go_roundw
      case rel => exact ⟨k1 + 1, _, hlt, by simp, rfl, by omega, by omega, take_nextP HP.out HFX.out (fun y h => h.mono (by omega)) (by unfold FPaid; rw [HE0.out, HE1.out]; omega), HAW.out⟩
      case measure => simp [intOf]; omega
    · have HPA := Lib.hid (take_all HP.out HF.out.1 hlt)
      have HB2 := Lib.hid hbw
      obtain ⟨r0, r1, r2, r3⟩ := K1.out _ hbw
      clear hbw
      go_wp2
      clear r0 r1 r2 r3
      have HR2 : RelX nm (-(70 * 8796093022208)) 0 600 (fun k L => (∀ f ∈ u.fields, FPaid (600 - L) f) ∧ ∀ m ∈ u.meths.take k, MPaid (600 - L) m) W1 (.int .i64 L1) (.int .i64 0) wr := ⟨0, L1, Nat.zero_le _, rfl, rfl, by omega, by omega, ⟨HPA.out, fun m hm => (by simp at hm)⟩, HB2.out⟩
      have HREL2 := Lib.hid HR2
      go_loopw [3, 58] (fun v i wr => RelX nm (-(70 * 8796093022208)) 0 600 (fun k L => (∀ f ∈ u.fields, FPaid (600 - L) f) ∧ ∀ m ∈ u.meths.take k, MPaid (600 - L) m) W1 v i wr) (fun _ i _ => nm - (intOf i).toNat)
      case atStart => exact HREL2.out
      case round =>
        clear HREL2
        obtain ⟨k2, L2, hk2, rfl, rfl, hlo2, hhi2, ⟨hfp, hmp⟩, hbw⟩ := hrel
        have HFP := Lib.hid hfp
        have HMPD := Lib.hid hmp
        clear hfp hmp
        by_cases hlt2 : k2 < nm
        · obtain ⟨fb, fo, f, fcs, rfl, hfb, _, hfx, hfcl, hcs, hr⟩ := (HM.out.below hbw).at_ hlt2
          obtain ⟨Ac, nc, cc, At, nt, ct, Ap, np, cp, rfl, htr, hful⟩ := hr
          obtain ⟨hco, hma⟩ := hful rfl
          change ∀ j' v, [.bool f.static, .string (strB f.name), .string (strB f.desc), .int .i64 f.stack, .int .i64 f.locals, .slice Ac nc cc, .slice At nt ct, .slice Ap np cp][j']? = some v → wr.cell? ⟨fb, fo + k2 * 8 + j', none⟩ = some v at hcs
          have d0 : wr.cell? ⟨fb, fo + k2 * 8, none⟩ = some (.bool f.static) := by have := hcs 0 _ rfl; simpa using this
          have d1 : wr.cell? ⟨fb, fo + k2 * 8 + 1, none⟩ = some (.string (strB f.name)) := by have := hcs 1 _ rfl; simpa using this
          have d2 : wr.cell? ⟨fb, fo + k2 * 8 + 2, none⟩ = some (.string (strB f.desc)) := by have := hcs 2 _ rfl; simpa using this
          have d3 : wr.cell? ⟨fb, fo + k2 * 8 + 3, none⟩ = some (.int .i64 f.stack) := by have := hcs 3 _ rfl; simpa using this
          have d4 : wr.cell? ⟨fb, fo + k2 * 8 + 4, none⟩ = some (.int .i64 f.locals) := by have := hcs 4 _ rfl; simpa using this
          have d5 : wr.cell? ⟨fb, fo + k2 * 8 + 5, none⟩ = some (.slice Ac nc cc) := by have := hcs 5 _ rfl; simpa using this
          have d6 : wr.cell? ⟨fb, fo + k2 * 8 + 6, none⟩ = some (.slice At nt ct) := by have := hcs 6 _ rfl; simpa using this
          have d7 : wr.cell? ⟨fb, fo + k2 * 8 + 7, none⟩ = some (.slice Ap np cp) := by have := hcs 7 _ rfl; simpa using this
          have HFX := Lib.hid hfx
          have HMB := Lib.hid (HB.out.2.2.2.2.2 f (List.mem_of_getElem? hfx))
          have HBA := Lib.hid (hbw.alloc hbw.size (.cells #[.bool f.static, .string (strB f.name), .string (strB f.desc), .int .i64 f.stack, .int .i64 f.locals, .slice Ac nc cc, .slice At nt ct, .slice Ap np cp] 26))
          have hal : Below wr.heap.size wr (wr.alloc (.cells #[.bool f.static, .string (strB f.name), .string (strB f.desc), .int .i64 f.stack, .int .i64 f.locals, .slice Ac nc cc, .slice At nt ct, .slice Ap np cp] 26)) := (Below.refl _ wr).alloc (Nat.le_refl _) _
          have kt0 := Blk.new wr 26 #[.bool f.static, .string (strB f.name), .string (strB f.desc), .int .i64 f.stack, .int .i64 f.locals, .slice Ac nc cc, .slice At nt ct, .slice Ap np cp]
          have HTR := Lib.hid (htr.below hal)
          have HCO := Lib.hid (hco.below hal)
          have HMP := Lib.hid (hma.below hal)
          have HNT := Lib.hid htr.1
          have HNC := Lib.hid hco.1
          have HNP := Lib.hid hma.1
          have hnc : nc ≤ 140737488351232 := by rw [← hco.1]; exact HMB.out.2.2.1
          have hnt : nt ≤ 140737488351232 := by rw [← htr.1]; exact HMB.out.2.2.2.1
          have hnp : np ≤ 140737488351232 := by rw [← hma.1]; exact HMB.out.2.2.2.2.1
          have hcc := hco.2.1
          have hct := htr.2.1
          have hcp := hma.2.1
          have hz0 : (strB f.name).size = f.name.length := strB_size _
          have hy0 : f.name.length ≤ 140737488351232 := HMB.out.1
          obtain ⟨z0, he0⟩ : ∃ a, f.name.length = a := ⟨_, rfl⟩
          have HE0 := Lib.hid he0
          rw [he0] at hz0 hy0
          clear he0
          have hz1 : (strB f.desc).size = f.desc.length := strB_size _
          have hy1 : f.desc.length ≤ 140737488351232 := HMB.out.2.1
          obtain ⟨z1, he1⟩ : ∃ a, f.desc.length = a := ⟨_, rfl⟩
          have HE1 := Lib.hid he1
          rw [he1] at hz1 hy1
          clear he1
          clear hcs hfcl hfx htr hco hma hbw hful hal
          by_cases hneg : L2 - 1 - (nc : Int) - (nt : Int) - ((z0 : Int) + (z1 : Int)) / 50 < 0
          · clear kt0
            go_wp2
            go_ret
            exact ⟨Few15.no u, HBB.out.trans (HBA.out.mono HBB.out.size)⟩
          · obtain ⟨T1, hT1⟩ : ∃ T, T = L2 - 1 - (nc : Int) - (nt : Int) - ((z0 : Int) + (z1 : Int)) / 50 := ⟨_, rfl⟩
            go_wp2
            generalize hWA : wr.alloc (.cells #[.bool f.static, .string (strB f.name), .string (strB f.desc), .int .i64 f.stack, .int .i64 f.locals, .slice Ac nc cc, .slice At nt ct, .slice Ap np cp] 26) = WA at *
            generalize wr.heap.size = gm at *
            have HKT := Lib.hid kt0
            clear hWA d0 d1 d2 d3 d4 d5 d6 d7 kt0
            have HR3 : RelX nc 0 8796093022208 T1 (fun _ _ => True) WA (.int .i64 (L2 - 1 - (nc : Int) - (nt : Int) - ((z0 : Int) + (z1 : Int)) / 50)) (.int .i64 0) WA := ⟨0, _, Nat.zero_le _, rfl, rfl, by omega, by omega, trivial, Below.refl _ _⟩
            have HREL3 := Lib.hid HR3
            go_loopw [3, 86] (fun v i wr => RelX nc 0 8796093022208 T1 (fun _ _ => True) WA v i wr) (fun _ i _ => nc - (intOf i).toNat)
            case atStart => exact HREL3.out
            case round =>
              clear HREL3
              obtain ⟨j3, L3, hj3, rfl, rfl, hlo3, hhi3, -, hbw⟩ := hrel
              by_cases hlt3 : j3 < nc
              · obtain ⟨xb, xo, x, xcs, rfl, hxb, _, hxx, hxcl, hcs, hr⟩ := (HCO.out.below hbw).at_ hlt3
                obtain rfl := (show xcs = [.int .u8 (x.op.toNat : Int), .int .i64 x.n, .int .i64 x.m, .string (strB x.cls), .string (strB x.name), .string (strB x.desc), .string (strB x.text)] from hr)
                change ∀ j' v, [.int .u8 (x.op.toNat : Int), .int .i64 x.n, .int .i64 x.m, .string (strB x.cls), .string (strB x.name), .string (strB x.desc), .string (strB x.text)][j']? = some v → wr.cell? ⟨xb, xo + j3 * 7 + j', none⟩ = some v at hcs
                have d0 : wr.cell? ⟨xb, xo + j3 * 7, none⟩ = some (.int .u8 (x.op.toNat : Int)) := by have := hcs 0 _ rfl; simpa using this
                have d1 : wr.cell? ⟨xb, xo + j3 * 7 + 1, none⟩ = some (.int .i64 x.n) := by have := hcs 1 _ rfl; simpa using this
                have d2 : wr.cell? ⟨xb, xo + j3 * 7 + 2, none⟩ = some (.int .i64 x.m) := by have := hcs 2 _ rfl; simpa using this
                have d3 : wr.cell? ⟨xb, xo + j3 * 7 + 3, none⟩ = some (.string (strB x.cls)) := by have := hcs 3 _ rfl; simpa using this
                have d4 : wr.cell? ⟨xb, xo + j3 * 7 + 4, none⟩ = some (.string (strB x.name)) := by have := hcs 4 _ rfl; simpa using this
                have d5 : wr.cell? ⟨xb, xo + j3 * 7 + 5, none⟩ = some (.string (strB x.desc)) := by have := hcs 5 _ rfl; simpa using this
                have d6 : wr.cell? ⟨xb, xo + j3 * 7 + 6, none⟩ = some (.string (strB x.text)) := by have := hcs 6 _ rfl; simpa using this
                have HAW := Lib.hid (hbw.alloc hbw.size (.cells #[.int .u8 (x.op.toNat : Int), .int .i64 x.n, .int .i64 x.m, .string (strB x.cls), .string (strB x.name), .string (strB x.desc), .string (strB x.text)] 32))
                have hxB := HMB.out.2.2.2.2.2.1 x (List.mem_of_getElem? hxx)
                have hz2 : (strB x.cls).size = x.cls.length := strB_size _
                have hy2 : x.cls.length ≤ 140737488351232 := hxB.1
                obtain ⟨z2, he2⟩ : ∃ a, x.cls.length = a := ⟨_, rfl⟩
                have HE2 := Lib.hid he2
                rw [he2] at hz2 hy2
                clear he2
                have hz3 : (strB x.name).size = x.name.length := strB_size _
                have hy3 : x.name.length ≤ 140737488351232 := hxB.2.1
                obtain ⟨z3, he3⟩ : ∃ a, x.name.length = a := ⟨_, rfl⟩
                have HE3 := Lib.hid he3
                rw [he3] at hz3 hy3
                clear he3
                have hz4 : (strB x.desc).size = x.desc.length := strB_size _
                have hy4 : x.desc.length ≤ 140737488351232 := hxB.2.2.1
                obtain ⟨z4, he4⟩ : ∃ a, x.desc.length = a := ⟨_, rfl⟩
                have HE4 := Lib.hid he4
                rw [he4] at hz4 hy4
                clear he4
                have hz5 : (strB x.text).size = x.text.length := strB_size _
                have hy5 : x.text.length ≤ 140737488351232 := hxB.2.2.2
                obtain ⟨z5, he5⟩ : ∃ a, x.text.length = a := ⟨_, rfl⟩
                have HE5 := Lib.hid he5
                rw [he5] at hz5 hy5
                clear he5
                clear hcs hxcl hxx hbw hr hxB
                go_wp2
                go_roundw
                case rel => exact ⟨j3 + 1, _, hlt3, by simp, rfl, by omega, by omega, trivial, HAW.out⟩
                case measure => simp [intOf]; omega
              · have kb := HKT.out.of (hbw.block _ HKT.out.lt)
                have y6 : wr.cell? ⟨gm, 6, none⟩ = some (.slice At nt ct) := kb.cell 6
                have HBW3 := Lib.hid hbw
                clear hbw kb
                go_wp2
                clear y6
                have HR4 : RelX nt (-(600 * 8796093022208)) 8796093022208 T1 (fun k L => ∀ t ∈ f.traps.take k, TPaid (600 - L) t) WA (.int .i64 L3) (.int .i64 0) wr := ⟨0, L3, Nat.zero_le _, rfl, rfl, by omega, by omega, fun t ht => (by simp at ht), HBW3.out⟩
                have HREL4 := Lib.hid HR4
                go_loopw [3, 112] (fun v i wr => RelX nt (-(600 * 8796093022208)) 8796093022208 T1 (fun k L => ∀ t ∈ f.traps.take k, TPaid (600 - L) t) WA v i wr) (fun _ i _ => nt - (intOf i).toNat)
                case atStart => exact HREL4.out
                case round =>
                  clear HREL4
                  obtain ⟨j4, L4, hj4, rfl, rfl, hlo4, hhi4, htp4, hbw⟩ := hrel
                  have HTP4 := Lib.hid htp4
                  clear htp4
                  by_cases hlt4 : j4 < nt
                  · obtain ⟨tb, to, t, tcs, rfl, htb, _, htx, htcl, hcs, hr⟩ := (HTR.out.below hbw).at_ hlt4
                    obtain rfl := (show tcs = [.int .i64 t.a, .int .i64 t.b, .int .i64 t.c, .string (strB t.cls)] from hr)
                    change ∀ j' v, [.int .i64 t.a, .int .i64 t.b, .int .i64 t.c, .string (strB t.cls)][j']? = some v → wr.cell? ⟨tb, to + j4 * 4 + j', none⟩ = some v at hcs
                    have d0 : wr.cell? ⟨tb, to + j4 * 4, none⟩ = some (.int .i64 t.a) := by have := hcs 0 _ rfl; simpa using this
                    have d1 : wr.cell? ⟨tb, to + j4 * 4 + 1, none⟩ = some (.int .i64 t.b) := by have := hcs 1 _ rfl; simpa using this
                    have d2 : wr.cell? ⟨tb, to + j4 * 4 + 2, none⟩ = some (.int .i64 t.c) := by have := hcs 2 _ rfl; simpa using this
                    have d3 : wr.cell? ⟨tb, to + j4 * 4 + 3, none⟩ = some (.string (strB t.cls)) := by have := hcs 3 _ rfl; simpa using this
                    have HTX := Lib.hid htx
                    have HAW := Lib.hid (hbw.alloc hbw.size (.cells #[.int .i64 t.a, .int .i64 t.b, .int .i64 t.c, .string (strB t.cls)] 56))
                    have hz2 : (strB t.cls).size = t.cls.length := strB_size _
                    have hy2 : t.cls.length ≤ 140737488351232 := HMB.out.2.2.2.2.2.2.1 t (List.mem_of_getElem? htx)
                    obtain ⟨z2, he2⟩ : ∃ a, t.cls.length = a := ⟨_, rfl⟩
                    have HE2 := Lib.hid he2
                    rw [he2] at hz2 hy2
                    clear he2
                    clear hcs htcl htx hbw hr
                    go_wp2
                    go_roundw
                    case rel => exact ⟨j4 + 1, _, hlt4, by simp, rfl, by omega, by omega, take_nextP HTP4.out HTX.out (fun y h => h.mono (by omega)) (by unfold TPaid; rw [HE2.out]; omega), HAW.out⟩
                    case measure => simp [intOf]; omega
                  · have HTPA := Lib.hid (take_all HTP4.out HNT.out hlt4)
                    have kb := HKT.out.of (hbw.block _ HKT.out.lt)
                    have y7 : wr.cell? ⟨gm, 7, none⟩ = some (.slice Ap np cp) := kb.cell 7
                    have HBW4 := Lib.hid hbw
                    clear hbw kb
                    go_wp2
                    clear y7
                    have HR5 : RelX np (-(1200 * 8796093022208)) 0 T1 (fun k L => (∀ p ∈ f.maps.take k, PPaid (600 - L) p) ∧ ∀ t ∈ f.traps, TPaid (600 - L) t) WA (.int .i64 L4) (.int .i64 0) wr := ⟨0, L4, Nat.zero_le _, rfl, rfl, by omega, by omega, ⟨fun p hp => (by simp at hp), HTPA.out⟩, HBW4.out⟩
                    have HREL5 := Lib.hid HR5
                    go_loopw [3, 126] (fun v i wr => RelX np (-(1200 * 8796093022208)) 0 T1 (fun k L => (∀ p ∈ f.maps.take k, PPaid (600 - L) p) ∧ ∀ t ∈ f.traps, TPaid (600 - L) t) WA v i wr) (fun _ i _ => np - (intOf i).toNat)
                    case atStart => exact HREL5.out
                    case round =>
                      clear HREL5
                      obtain ⟨j5, L5, hj5, rfl, rfl, hlo5, hhi5, ⟨hfp5, htp5⟩, hbw⟩ := hrel
                      have HTP5 := Lib.hid htp5
                      have HPP5 := Lib.hid hfp5
                      have HBW := Lib.hid hbw
                      clear htp5 hfp5
                      by_cases hlt5 : j5 < np
                      · obtain ⟨mb, mo, m, mcs, rfl, hmb, _, hmx, hmcl, hcs, hr⟩ := (HMP.out.below hbw).at_ hlt5
                        obtain ⟨_, _, rfl, ⟨A1, n1, q1, e1, hR1⟩, ⟨A2, n2, q2, e2, hR2⟩⟩ := hr
                        cases e1
                        cases e2
                        change ∀ j' v, [.int .i64 m.at_, .slice A1 n1 q1, .slice A2 n2 q2][j']? = some v → wr.cell? ⟨mb, mo + j5 * 3 + j', none⟩ = some v at hcs
                        have d0 : wr.cell? ⟨mb, mo + j5 * 3, none⟩ = some (.int .i64 m.at_) := by have := hcs 0 _ rfl; simpa using this
                        have d1 : wr.cell? ⟨mb, mo + j5 * 3 + 1, none⟩ = some (.slice A1 n1 q1) := by have := hcs 1 _ rfl; simpa using this
                        have d2 : wr.cell? ⟨mb, mo + j5 * 3 + 2, none⟩ = some (.slice A2 n2 q2) := by have := hcs 2 _ rfl; simpa using this
                        have HPB := Lib.hid (HMB.out.2.2.2.2.2.2.2 m (List.mem_of_getElem? hmx))
                        have hn1 : n1 ≤ 140737488351232 := by rw [← hR1.1]; exact HPB.out.1
                        have hn2 : n2 ≤ 140737488351232 := by rw [← hR2.1]; exact HPB.out.2.1
                        have HMX := Lib.hid hmx
                        have HN1 := Lib.hid hR1.1
                        have HN2 := Lib.hid hR2.1
                        have HR1 := Lib.hid hR1
                        have HR2 := Lib.hid hR2
                        have hq1 := hR1.2.1
                        have hq2 := hR2.2.1
                        have kp := Blk.new wr 38 #[.int .i64 m.at_, .slice A1 n1 q1, .slice A2 n2 q2]
                        have HAL := Lib.hid ((Below.refl _ wr).alloc (Nat.le_refl _) (.cells #[.int .i64 m.at_, .slice A1 n1 q1, .slice A2 n2 q2] 38))
                        clear hcs hmcl hmx hR1 hR2 hbw
                        by_cases hneg : L5 - 1 - (n1 : Int) - (n2 : Int) < 0
                        · have HBX := Lib.hid (HBA.out.trans ((HBW.out.trans (HAL.out.mono HBW.out.size)).mono HBA.out.size))
                          clear kp
                          go_wp2
                          go_ret
                          exact ⟨Few15.no u, HBB.out.trans (HBX.out.mono HBB.out.size)⟩
                        · obtain ⟨T5, hT5⟩ : ∃ T, T = L5 - 1 - (n1 : Int) - (n2 : Int) := ⟨_, rfl⟩
                          have hal4 := HAL.out
                          have hbw4 := HBW.out.trans (HAL.out.mono HBW.out.size)
                          have hR41 := HR1.out.below HAL.out
                          have hR42 := HR2.out.below HAL.out
                          clear HAL HBW HR1 HR2
                          go_wp2_with fail
                          generalize hW4 : wr.alloc (.cells #[.int .i64 m.at_, .slice A1 n1 q1, .slice A2 n2 q2] 38) = W4 at *
                          have hgp : wr.heap.size < W4.heap.size := kp.lt
                          generalize wr.heap.size = gp at *
                          have HKP := Lib.hid kp
                          have HAL4 := Lib.hid hal4
                          have HBW4 := Lib.hid hbw4
                          have HR41 := Lib.hid hR41
                          have HR42 := Lib.hid hR42
                          clear hW4 kp hal4 hbw4 hR41 hR42 d0 d1 d2
                          have sB : ∀ W, Below W4.heap.size W4 W → W.cell? ⟨gp, 1, none⟩ = some (.slice A1 n1 q1) ∧ W.cell? ⟨gp, 2, none⟩ = some (.slice A2 n2 q2) := fun W h => ⟨(HKP.out.of (h.block _ HKP.out.lt)).cell 1, (HKP.out.of (h.block _ HKP.out.lt)).cell 2⟩
                          have hS0 := sB W4 (Below.refl _ _)
                          obtain ⟨W5, hW5⟩ : ∃ W5, (W4.alloc (.cells #[] 9)).drew = W5 := ⟨_, rfl⟩
                          have hb45 : Below W4.heap.size W4 W5 := by rw [← hW5]; exact ((Below.refl _ W4).alloc (Nat.le_refl _) _).trans (((Only.refl Empty _).drew).below (Nat.le_refl _) (fun _ _ h => h) |>.mono (by simp))
                          have hG5 : GotR svC 1 9 W4.heap.size W5 (some ⟨W4.heap.size, 0, none⟩) 0 0 ([] : List Bs) := by
                            have own := World.ownsRow_lit (base := W4.heap.size) (e := 9) (size := 1) W4 #[] 0 (Nat.le_refl _) (by decide) rfl
                            obtain ⟨A, cp, he, hG⟩ := GotR.of_own (cells := svC) (l := ([] : List Bs)) svC_len own rfl
                            cases he
                            rw [← hW5]
                            exact hG.only svC_len ((Only.refl Empty _).drew) (fun _ _ _ h => h)
                          have hS5 := sB W5 hb45
                          obtain ⟨A6, c6, W6, hrun6, hG6, hgr6, hro6⟩ := run_append_S hG5 (sl_of_rowS (HR41.out.below hb45)) HR41.out.2.2.2.1 (by omega) hb45.size
                          rw [Nat.zero_add, List.nil_append] at hG6
                          rw [Nat.zero_add] at hrun6
                          have hb46 : Below W4.heap.size W4 W6 := below_gotR hb45 hb45.size hgr6 hro6 (Nat.le_refl _)
                          have hS6 := sB W6 hb46
                          obtain ⟨A7, c7, W7, hrun7, hG7, hgr7, hro7⟩ := run_append_S hG6 (sl_of_rowS (HR42.out.below hb46)) HR42.out.2.2.2.1 (by omega) hb46.size
                          have hb47 : Below W4.heap.size W4 W7 := below_gotR hb46 hb46.size hgr7 hro7 (Nat.le_refl _)
                          have hS7 := sB W7 hb47
                          have HG6 := Lib.hid hG7
                          have HBW5 := HBW4
                          have HB56 := Lib.hid hb47
                          obtain ⟨w6, hw6⟩ : ∃ w6, w6 = W7 := ⟨_, rfl⟩
                          clear sB hG5 hG6 hG7 hgr6 hgr7 hro6 hro7 hb45 hb46 hb47
                          refine wp_region_held_drew (S := fun W => W.cell? ⟨gp, 1, none⟩ = some (.slice A1 n1 q1) ∧ W.cell? ⟨gp, 2, none⟩ = some (.slice A2 n2 q2)) (by kernel_rfl) hS0 (fun hHeld0 => ?_)
                          refine take_yes 1 143 ?_ rfl rfl (by kernel_rfl) (by kernel_rfl) (by kernel_rfl) (fun _ _ _ h => h) (by kernel_rfl) ?_ (by assumption) ?_; rotate_left; (focus (intro w hSw; (try dsimp only at hSw); go_simp; all_goals first | with_reducible rfl)); simp only [Act.put, List.setIfInBounds_toArray, List.set_cons_zero, List.set_cons_succ]
                          refine take_yes 2 144 ?_ rfl rfl (by kernel_rfl) (by kernel_rfl) (by kernel_rfl) (fun _ _ _ h => h) (by kernel_rfl) ?_ (by assumption) ?_; rotate_left; (focus (intro w hSw; (try dsimp only at hSw); go_simp; all_goals first | with_reducible rfl)); simp only [Act.put, List.setIfInBounds_toArray, List.set_cons_zero, List.set_cons_succ]
                          refine take_yes 4 146 ?_ rfl rfl (by kernel_rfl) (by kernel_rfl) (by kernel_rfl) (fun _ _ _ h => h) (by kernel_rfl) ?_ (by assumption) ?_; rotate_left; (focus (intro w hSw; (try dsimp only at hSw); go_simp; all_goals first | with_reducible rfl)); simp only [Act.put, List.setIfInBounds_toArray, List.set_cons_zero, List.set_cons_succ]
                          refine take_yes 5 147 ?_ rfl rfl (by kernel_rfl) (by kernel_rfl) (by kernel_rfl) (fun _ _ _ h => h) (by kernel_rfl) ?_ (by assumption) ?_; rotate_left; (focus (intro w hSw; (try dsimp only at hSw); go_simp; all_goals first | with_reducible rfl)); simp only [Act.put, List.setIfInBounds_toArray, List.set_cons_zero, List.set_cons_succ]
                          refine take_yes 8 150 ?_ rfl rfl (by kernel_rfl) (by kernel_rfl) (by kernel_rfl) (fun _ _ _ h => h) (by kernel_rfl) ?_ (by assumption) ?_; rotate_left; (focus (intro w hSw; (try dsimp only at hSw); go_simp; all_goals first | with_reducible rfl)); simp only [Act.put, List.setIfInBounds_toArray, List.set_cons_zero, List.set_cons_succ]
                          refine wpAnyH_ready (rs := [0]) (by kernel_rfl) (by simp) ?_
                          refine AllReadyH.cons rfl (fun K hK => ?_) AllReadyH.nil
                          go_simp
                          go_simp
                          refine hK.out _ _ (hS5) (fun _ => ?_)
                          clear hK K
                          try simp only [Act.put, List.setIfInBounds_toArray, List.set_cons_zero, List.set_cons_succ]
                          refine wpAnyH_ready (rs := [3]) (by kernel_rfl) (by simp) ?_
                          refine AllReadyH.cons rfl (fun K hK => ?_) AllReadyH.nil
                          refine step_append_eq (ts := 36) rfl (.tmp 142) (.tmp 144) rfl rfl rfl rfl hrun6 ?_
                          show K (Act.put _ (some 145) _) _
                          refine hK.out _ _ (hS6) (fun _ => ?_)
                          clear hK K
                          try simp only [Act.put, List.setIfInBounds_toArray, List.set_cons_zero, List.set_cons_succ]
                          refine wpAnyH_ready (rs := [6]) (by kernel_rfl) (by simp) ?_
                          refine AllReadyH.cons rfl (fun K hK => ?_) AllReadyH.nil
                          refine step_append_eq (ts := 36) rfl (.tmp 145) (.tmp 147) rfl rfl rfl rfl hrun7 ?_
                          show K (Act.put _ (some 148) _) _
                          refine hK.out _ _ (hS7) (fun _ => ?_)
                          clear hK K
                          try simp only [Act.put, List.setIfInBounds_toArray, List.set_cons_zero, List.set_cons_succ]
                          refine take_yes 7 149 ?_ rfl rfl (by kernel_rfl) (by kernel_rfl) (by kernel_rfl) (fun _ _ _ h => h) (by kernel_rfl) ?_ (by assumption) ?_; rotate_left; (focus (intro w hSw; (try dsimp only at hSw); go_simp; all_goals first | with_reducible rfl)); simp only [Act.put, List.setIfInBounds_toArray, List.set_cons_zero, List.set_cons_succ]
                          refine wpAnyH_done (by kernel_rfl) ?_ _
                          subst hw6
                          clear hrun6 hrun7 hS0 hS5 hS6 hS7 hHeld0
                          go_wp2
                          have HR6 : RelX (n1 + n2) 0 8796093022208 T5 (fun _ _ => True) w6 (.int .i64 (L5 - 1 - (n1 : Int) - (n2 : Int))) (.int .i64 0) w6 := ⟨0, _, Nat.zero_le _, rfl, rfl, by omega, by omega, trivial, Below.refl _ _⟩
                          have HREL6 := Lib.hid HR6
                          go_loopw [3, 150] (fun v i wr => RelX (n1 + n2) 0 8796093022208 T5 (fun _ _ => True) w6 v i wr) (fun _ i _ => n1 + n2 - (intOf i).toNat)
                          case atStart => exact HREL6.out
                          case round =>
                            clear HREL6
                            obtain ⟨i6, L6, hi6, rfl, rfl, hlo6, hhi6, -, hbw⟩ := hrel
                            have HBW6 := Lib.hid hbw
                            by_cases hlt6 : i6 < n1 + n2
                            · obtain ⟨sb, so, sx, rfl, hsb, _, hsx, hcs⟩ := (HG6.out.row.below hbw).at_ hlt6
                              have d0 : wr.cell? ⟨sb, so + i6, none⟩ = some (.string (strB sx)) := by have := hcs 0 (by decide); simpa [svC, SV] using this
                              have hsB : SB sx := by
                                rcases List.mem_append.1 (List.mem_of_getElem? hsx) with h | h
                                · exact HPB.out.2.2.1 sx h
                                · exact HPB.out.2.2.2 sx h
                              have hz0 : (strB sx).size = sx.length := strB_size _
                              have hy0 : sx.length ≤ 140737488351232 := hsB
                              obtain ⟨z0, he0⟩ : ∃ a, sx.length = a := ⟨_, rfl⟩
                              have HE0 := Lib.hid he0
                              rw [he0] at hz0 hy0
                              clear he0
                              clear hcs hsx hbw hsB
                              go_wp2
                              go_roundw
                              case rel => exact ⟨i6 + 1, _, hlt6, by simp, rfl, by omega, by omega, trivial, HBW6.out⟩
                              case measure => simp [intOf]; omega
                            · have HBX := Lib.hid (HBW5.out.trans ((HB56.out.trans (hbw.mono HB56.out.size)).mono HBW5.out.size))
                              clear hbw
                              go_wp2
                              go_roundw
                              case rel => exact ⟨j5 + 1, _, hlt5, by simp, rfl, by omega, by omega, ⟨take_nextP HPP5.out HMX.out (fun y h => h.mono (by omega)) (by unfold PPaid; rw [HN1.out, HN2.out]; omega), fun t ht => (HTP5.out t ht).mono (by omega)⟩, HBX.out⟩
                              case measure => simp [intOf]; omega
                      · have HPPA := Lib.hid (take_all HPP5.out HNP.out hlt5)
                        have HTP := Lib.hid (show ∀ t ∈ f.traps, TPaid (600 - L5) t from HTP5.out)
                        have HBX := Lib.hid (HBA.out.trans (hbw.mono HBA.out.size))
                        clear hbw
                        by_cases hneg : L5 < 0
                        · go_wp2
                          go_ret
                          exact ⟨Few15.no u, HBB.out.trans (HBX.out.mono HBB.out.size)⟩
                        · go_wp2
                          go_roundw
                          case rel => exact ⟨k2 + 1, _, hlt2, by simp, rfl, by omega, by omega, ⟨fun g hg => (HFP.out g hg).mono (by omega), take_nextP HMPD.out HFX.out (fun y h => h.mono (by omega)) ⟨by rw [HE0.out, HE1.out]; omega, by rw [HNT.out]; omega, HTP.out, by rw [HNC.out]; omega, HPPA.out⟩⟩, HBX.out⟩
                          case measure => simp [intOf]; omega
        · have HB3 := Lib.hid hbw
          have HMPA := Lib.hid (take_all HMPD.out HM.out.1 hlt2)
          clear hbw
          by_cases h0 : 0 ≤ L2
          · have HSM : Hid (SmallUn u ∧ MapsSm u) := Lib.hid (small_of h0 ⟨by rw [HA0.out]; omega, by rw [HA1.out]; omega⟩ (by rw [HF.out.1]; omega) (by rw [HM.out.1]; omega) HFP.out HMPA.out)
            go_wp2
            go_ret
            exact ⟨⟨_, rfl, fun _ => HSM.out⟩, HBB.out.trans (HB3.out.mono HBB.out.size)⟩
          · go_wp2
            go_ret
            exact ⟨⟨_, rfl, fun h => by first | cases h | (simp at h; omega)⟩, HBB.out.trans (HB3.out.mono HBB.out.size)⟩

end Go.Proofs.YtkcjgcogoicffaaDoor
