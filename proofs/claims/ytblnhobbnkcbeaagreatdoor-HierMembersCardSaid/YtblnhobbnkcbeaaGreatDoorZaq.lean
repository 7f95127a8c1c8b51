/- The walk over the document's Few (layer 15); printed by gen/gen_rk.py. -/
import Derived.Test.YtblnhobbnkcbeaaGreatDoorZao
import Derived.Test.YtblnhobbnkcbeaaGreatDoorZap
namespace Go.Proofs.YtblnhobbnkcbeaaGreatDoor
set_option maxRecDepth 100000
open Go.RowKit

theorem sl_of_rowS {w : World} {S : Nat → Prop} {A : Option Addr} {n c : Nat} {l : List Bs} (h : RowS strT w S A n c l) : RowSl svC 1 w S A n c l := by
  obtain ⟨h1, h2, h3, _, h4⟩ := h
  refine ⟨h1, h2, h3, fun h0 => ?_⟩
  obtain ⟨b, o, e, hb, hs, hc⟩ := h4 h0
  refine ⟨b, o, e, hb, hs, fun i x hx j hj => ?_⟩
  obtain ⟨cs, h5, h6⟩ := hc i x hx
  obtain rfl := (show cs = [.string (strB x)] from h6)
  obtain rfl : j = 0 := by omega
  exact h5 0 _ rfl
/-- append of texts onto texts of the call's own, as an equation. -/
theorem run_append_S {w : World} {base : Nat} {B : Option Addr} {m0 c0 : Nat} {zs : List Bs} (hown : GotR svC 1 9 base w B m0 c0 zs) {A : Option Addr} {m c : Nat} {l : List Bs} (hB : RowSl svC 1 w Empty A m c l) (hn : A = none → m = 0 ∧ c = 0) (hm : m0 + m ≤ 16777216) (hbase : base ≤ w.heap.size) :
    ∃ A' c' w', (Builtin.append_ #[53, 53] 53 #[.slice B m0 c0, .slice A m c]).run Tryz.prog w = .ok (.slice A' (m0 + m) c') w' ∧ GotR svC 1 9 base w' A' (m0 + m) c' (zs ++ l) ∧ w.grownBy w' (Value.slice B m0 c0).ownBlock ∧ (∀ g, (Value.slice B m0 c0).ownBlock = some g → base ≤ g) := by
  rcases A with _ | ad
  · obtain ⟨rfl, rfl⟩ := hn rfl
    have hys : l = [] := List.eq_nil_of_length_eq_zero hB.1
    subst hys
    obtain ⟨i0, hi, _, _, _⟩ := info_parts Tryz.infoStr
    refine ⟨B, c0, w, run_append_owned_none (P := Tryz.prog) (w := w) base 53 53 9 i0 1 Tryz.underlying53 hi _ m0 (zs.flatMap svC) hown.own, by simpa using hown, World.grownBy.refl w _, fun g hg => ?_⟩
    rcases hown.here with rfl | ⟨g', cur, rfl, hb, _, _⟩
    · obtain ⟨rfl, rfl⟩ := hown.isNil rfl
      simp [Value.ownBlock] at hg
    · simp [Value.ownBlock] at hg
      omega
  · exact run_append_rows svC_len svC_one (by decide) 53 9 _ 16 Tryz.underlying53 Tryz.infoStr (by simp [Value.cells]) (by decide) 53 base B m0 c0 zs hown ad m c l hB hm hbase

/-- Fields, methods that so much has been paid for. -/
def FPaid (B : Int) (f : FdD) : Prop := (f.name.length : Int) + (f.desc.length : Int) ≤ 50 * B + 49
def TPaid (B : Int) (t : TrD) : Prop := (t.cls.length : Int) ≤ 100 * B + 99
def MPaid (B : Int) (m : MeD) : Prop := (m.name.length : Int) + (m.desc.length : Int) ≤ 50 * B + 49 ∧ (m.traps.length : Int) ≤ B ∧ ∀ t ∈ m.traps, TPaid B t
theorem FPaid.mono {B C : Int} {f : FdD} (h : FPaid B f) (hB : B ≤ C) : FPaid C f := by unfold FPaid at *; omega
theorem TPaid.mono {B C : Int} {f : TrD} (h : TPaid B f) (hB : B ≤ C) : TPaid C f := by unfold TPaid at *; omega
theorem MPaid.mono {B C : Int} {f : MeD} (h : MPaid B f) (hB : B ≤ C) : MPaid C f := ⟨by have := h.1; omega, by have := h.2.1; omega, fun t ht => (h.2.2 t ht).mono hB⟩
theorem take_all {α : Type} {p : α → Prop} {l : List α} {n k : Nat} (h : ∀ x ∈ l.take k, p x) (hl : l.length = n) (hk : ¬ k < n) : ∀ x ∈ l, p x := fun x hx => h x (by rw [List.take_of_length_le (by omega)]; exact hx)
theorem take_nextP {α : Type} {p q : α → Prop} {l : List α} {k : Nat} {x : α} (h : ∀ x ∈ l.take k, p x) (hx : l[k]? = some x) (hm : ∀ y, p y → q y) (hq : q x) : ∀ x ∈ l.take (k + 1), q x := by
  intro y hy
  rw [List.take_add_one, hx] at hy
  rcases List.mem_append.1 hy with h1 | h1
  · exact hm y (h y h1)
  · simp at h1; subst h1; exact hq
/-- Where its loops stand: what is left, and what has been paid for. -/
def RelX (n : Nat) (lo st hi : Int) (p : Nat → Int → Prop) (w : World) (v i : Value) (wr : World) : Prop := ∃ (k : Nat) (L : Int), k ≤ n ∧ i = .int .i64 (k : Int) ∧ v = .int .i64 L ∧ lo - (k : Int) * st ≤ L ∧ L ≤ hi ∧ p k L ∧ Below w.heap.size w wr

def Few15 (u : UnD) (e : Ending) : Prop := ∃ b, e = .returned (.bool b) ∧ (b = true → SmallUn u)
theorem Few15.no (u : UnD) : Few15 u (.returned (.bool false)) := ⟨false, rfl, fun h => by cases h⟩
theorem small_of {u : UnD} {L : Int} (h0 : 0 ≤ L) (hn : u.name.length ≤ 300 ∧ u.super.length ≤ 300) (hf : u.fields.length ≤ 70) (hm : u.meths.length ≤ 40) (h1 : ∀ f ∈ u.fields, FPaid (600 - L) f) (h2 : ∀ m ∈ u.meths, MPaid (600 - L) m) : SmallUn u :=
  SmallUn.mk (by omega) (by omega) (by omega) (by omega) (fun f hf => by have := h1 f hf; unfold FPaid at this; omega) (fun m hm => by have := (h2 m hm).1; omega)
    (fun m hm => ⟨by have := (h2 m hm).2.1; omega, fun t ht => by have := (h2 m hm).2.2 t ht; unfold TPaid at this; omega⟩)

set_option maxHeartbeats 16000000 in
theorem rfew_any (u : UnD) (Af : Option Addr) (nf cf : Nat) (Am : Option Addr) (nm cm : Nat) (w : World) (hF : RowS fdT w Empty Af nf cf u.fields) (hM : RowS meF w Empty Am nm cm u.meths) (hB : unB u) :
    Calls Tryz.prog 44 #[unV4 u Af nf cf Am nm cm] w fun e w' => Few15 u e ∧ Below w.heap.size w w' := by
  obtain ⟨W1, hW1⟩ : ∃ W1, w.alloc (.cells #[.string (strB u.name), .string (strB u.super), .slice Af nf cf, .slice Am nm cm] 85) = W1 := ⟨_, rfl⟩
  have hbb : Below w.heap.size w W1 := by rw [← hW1]; exact (Below.refl _ _).alloc (Nat.le_refl _) _
  have k0 : Blk W1 w.heap.size 85 #[.string (strB u.name), .string (strB u.super), .slice Af nf cf, .slice Am nm cm] := by rw [← hW1]; exact Blk.new w _ _
  have hsz : W1.heap.size = w.heap.size + 1 := by rw [← hW1]; simp
  have HF := Lib.hid (hF.below hbb)
  have HM := Lib.hid (hM.below hbb)
  have hnf := hF.2.1
  have hcf := hF.2.2.1
  have hnm := hM.2.1
  have hcm := hM.2.2.1
  unfold maxLen at hcf hcm
  have HB := Lib.hid hB
  have K1 : Hid (∀ W : World, Below W1.heap.size W1 W → W.cell? ⟨w.heap.size, 0, none⟩ = some (.string (strB u.name)) ∧ W.cell? ⟨w.heap.size, 1, none⟩ = some (.string (strB u.super)) ∧ W.cell? ⟨w.heap.size, 2, none⟩ = some (.slice Af nf cf) ∧ W.cell? ⟨w.heap.size, 3, none⟩ = some (.slice Am nm cm)) := Lib.hid (fun W h => ⟨(k0.of (h.block _ (by omega))).cell 0, (k0.of (h.block _ (by omega))).cell 1, (k0.of (h.block _ (by omega))).cell 2, (k0.of (h.block _ (by omega))).cell 3⟩)
  have HBB := Lib.hid hbb
  have HW1 := Lib.hid hW1
  have hz0 : (strB u.name).size = u.name.length := strB_size _
  have hz1 : (strB u.super).size = u.super.length := strB_size _
  have hl0 : u.name.length ≤ 140737488351232 := hB.1
  have hl1 : u.super.length ≤ 140737488351232 := hB.2.1
  obtain ⟨a0, ha0⟩ : ∃ a, u.name.length = a := ⟨_, rfl⟩
  obtain ⟨a1, ha1⟩ : ∃ a, u.super.length = a := ⟨_, rfl⟩
  rw [ha0] at hz0 hl0
  rw [ha1] at hz1 hl1
  have HA0 := Lib.hid ha0
  have HA1 := Lib.hid ha1
  obtain ⟨p0, p1, p2, p3⟩ := K1.out _ (Below.refl _ _)
  clear hW1 hbb k0 hsz hF hM hB ha0 ha1
  by_cases c1 : 70 < nf
  · skip
    unfold unV4
    go_enter Tryz.func44, Tryz.ntmps44
    go_wp2_with fail
    rw [HW1.out]
    go_wp2
    go_ret
    exact ⟨Few15.no u, HBB.out⟩
  by_cases c2 : 40 < nm
  · skip
    unfold unV4
    go_enter Tryz.func44, Tryz.ntmps44
    go_wp2_with fail
    rw [HW1.out]
    go_wp2
    go_ret
    exact ⟨Few15.no u, HBB.out⟩
  by_cases c3 : 300 < a0 + a1
  · skip
    unfold unV4
    go_enter Tryz.func44, Tryz.ntmps44
    go_wp2_with fail
    rw [HW1.out]
    go_wp2
    go_ret
    exact ⟨Few15.no u, HBB.out⟩
  unfold unV4
  go_enter Tryz.func44, Tryz.ntmps44
  go_wp2_with fail
  rw [HW1.out]
  go_wp2
  clear p0 p1 p2 p3
  have HREL1 := Lib.hid (show RelX nf 600 8796093022208 600 (fun k L => ∀ f ∈ u.fields.take k, FPaid (600 - L) f) W1 (.int .i64 600) (.int .i64 0) W1 from ⟨0, 600, Nat.zero_le _, rfl, rfl, by omega, by omega, fun f hf => (by simp at hf), Below.refl _ _⟩)
  go_loopw [3, 39] (fun v i wr => RelX nf 600 8796093022208 600 (fun k L => ∀ f ∈ u.fields.take k, FPaid (600 - L) f) W1 v i wr) (fun _ i _ => nf - (intOf i).toNat)
  case atStart => exact HREL1.out
  case round =>
    clear HREL1
    obtain ⟨k1, L1, hk1, rfl, rfl, hlo1, hhi1, hp, hbw⟩ := hrel
    have HP := Lib.hid hp
    clear hp
    by_cases hlt : k1 < nf
    · obtain ⟨fb, fo, f, fcs, rfl, hfb, _, hfx, hfcl, hcs, hr⟩ := (HF.out.below hbw).at_ hlt
      obtain rfl := (show fcs = [.bool f.static, .string (strB f.name), .string (strB f.desc)] from hr)
      change ∀ j' v, [.bool f.static, .string (strB f.name), .string (strB f.desc)][j']? = some v → wr.cell? ⟨fb, fo + k1 * 3 + j', none⟩ = some v at hcs
      have d0 : wr.cell? ⟨fb, fo + k1 * 3, none⟩ = some (.bool f.static) := by have := hcs 0 _ rfl; simpa using this
      have d1 : wr.cell? ⟨fb, fo + k1 * 3 + 1, none⟩ = some (.string (strB f.name)) := by have := hcs 1 _ rfl; simpa using this
      have d2 : wr.cell? ⟨fb, fo + k1 * 3 + 2, none⟩ = some (.string (strB f.desc)) := by have := hcs 2 _ rfl; simpa using this
      have HFX := Lib.hid hfx
      have hfB := HB.out.2.2.2.2.1 f (List.mem_of_getElem? hfx)
      have HAW := Lib.hid (hbw.alloc hbw.size (.cells #[.bool f.static, .string (strB f.name), .string (strB f.desc)] 103))
      have hz0 : (strB f.name).size = f.name.length := strB_size _
      have hy0 : f.name.length ≤ 140737488351232 := hfB.1
      obtain ⟨z0, he0⟩ : ∃ a, f.name.length = a := ⟨_, rfl⟩
      have HE0 := Lib.hid he0
      rw [he0] at hz0 hy0
      clear he0
      have hz1 : (strB f.desc).size = f.desc.length := strB_size _
      have hy1 : f.desc.length ≤ 140737488351232 := hfB.2
      obtain ⟨z1, he1⟩ : ∃ a, f.desc.length = a := ⟨_, rfl⟩
      have HE1 := Lib.hid he1
      rw [he1] at hz1 hy1
      clear he1
      clear hcs hfcl hfx hbw hr hfB
      go_wp2
      go_roundw
      case rel => exact ⟨k1 + 1, _, hlt, by simp, rfl, by omega, by omega, take_nextP HP.out HFX.out (fun y h => h.mono (by omega)) (by unfold FPaid; rw [HE0.out, HE1.out]; omega), HAW.out⟩
      case measure => simp [intOf]; omega
    · have HPA := Lib.hid (take_all HP.out HF.out.1 hlt)
      have HB2 := Lib.hid hbw
      obtain ⟨r0, r1, r2, r3⟩ := K1.out _ hbw
      clear hbw
      go_wp2
      clear r0 r1 r2 r3
      have HR2 : RelX nm (-(70 * 8796093022208)) 0 600 (fun k L => (∀ f ∈ u.fields, FPaid (600 - L) f) ∧ ∀ m ∈ u.meths.take k, MPaid (600 - L) m) W1 (.int .i64 L1) (.int .i64 0) wr := ⟨0, L1, Nat.zero_le _, rfl, rfl, by omega, by omega, ⟨HPA.out, fun m hm => (by simp at hm)⟩, HB2.out⟩
      have HREL2 := Lib.hid HR2
      go_loopw [3, 58] (fun v i wr => RelX nm (-(70 * 8796093022208)) 0 600 (fun k L => (∀ f ∈ u.fields, FPaid (600 - L) f) ∧ ∀ m ∈ u.meths.take k, MPaid (600 - L) m) W1 v i wr) (fun _ i _ => nm - (intOf i).toNat)
      case atStart => exact HREL2.out
      case round =>
        clear HREL2
        obtain ⟨k2, L2, hk2, rfl, rfl, hlo2, hhi2, ⟨hfp, hmp⟩, hbw⟩ := hrel
        have HFP := Lib.hid hfp
        have HMPD := Lib.hid hmp
        clear hfp hmp
        by_cases hlt2 : k2 < nm
        · obtain ⟨fb, fo, f, fcs, rfl, hfb, _, hfx, hfcl, hcs, hr⟩ := (HM.out.below hbw).at_ hlt2
          obtain ⟨Ac, nc, cc, At, nt, ct, Ap, np, cp, rfl, htr, hful⟩ := hr
          obtain ⟨hco, hma⟩ := hful rfl
          change ∀ j' v, [.bool f.static, .string (strB f.name), .string (strB f.desc), .int .i64 f.stack, .int .i64 f.locals, .slice Ac nc cc, .slice At nt ct, .slice Ap np cp][j']? = some v → wr.cell? ⟨fb, fo + k2 * 8 + j', none⟩ = some v at hcs
          have d0 : wr.cell? ⟨fb, fo + k2 * 8, none⟩ = some (.bool f.static) := by have := hcs 0 _ rfl; simpa using this
          have d1 : wr.cell? ⟨fb, fo + k2 * 8 + 1, none⟩ = some (.string (strB f.name)) := by have := hcs 1 _ rfl; simpa using this
          have d2 : wr.cell? ⟨fb, fo + k2 * 8 + 2, none⟩ = some (.string (strB f.desc)) := by have := hcs 2 _ rfl; simpa using this
          have d3 : wr.cell? ⟨fb, fo + k2 * 8 + 3, none⟩ = some (.int .i64 f.stack) := by have := hcs 3 _ rfl; simpa using this
          have d4 : wr.cell? ⟨fb, fo + k2 * 8 + 4, none⟩ = some (.int .i64 f.locals) := by have := hcs 4 _ rfl; simpa using this
          have d5 : wr.cell? ⟨fb, fo + k2 * 8 + 5, none⟩ = some (.slice Ac nc cc) := by have := hcs 5 _ rfl; simpa using this
          have d6 : wr.cell? ⟨fb, fo + k2 * 8 + 6, none⟩ = some (.slice At nt ct) := by have := hcs 6 _ rfl; simpa using this
          have d7 : wr.cell? ⟨fb, fo + k2 * 8 + 7, none⟩ = some (.slice Ap np cp) := by have := hcs 7 _ rfl; simpa using this
          have HFX := Lib.hid hfx
          have HMB := Lib.hid (HB.out.2.2.2.2.2 f (List.mem_of_getElem? hfx))
          have HBA := Lib.hid (hbw.alloc hbw.size (.cells #[.bool f.static, .string (strB f.name), .string (strB f.desc), .int .i64 f.stack, .int .i64 f.locals, .slice Ac nc cc, .slice At nt ct, .slice Ap np cp] 52))
          have hal : Below wr.heap.size wr (wr.alloc (.cells #[.bool f.static, .string (strB f.name), .string (strB f.desc), .int .i64 f.stack, .int .i64 f.locals, .slice Ac nc cc, .slice At nt ct, .slice Ap np cp] 52)) := (Below.refl _ wr).alloc (Nat.le_refl _) _
          have kt0 := Blk.new wr 52 #[.bool f.static, .string (strB f.name), .string (strB f.desc), .int .i64 f.stack, .int .i64 f.locals, .slice Ac nc cc, .slice At nt ct, .slice Ap np cp]
          have HTR := Lib.hid (htr.below hal)
          have HCO := Lib.hid (hco.below hal)
          have HMP := Lib.hid (hma.below hal)
          have HNT := Lib.hid htr.1
          have hnc : nc ≤ 140737488351232 := by rw [← hco.1]; exact HMB.out.2.2.1
          have hnt : nt ≤ 140737488351232 := by rw [← htr.1]; exact HMB.out.2.2.2.1
          have hnp : np ≤ 140737488351232 := by rw [← hma.1]; exact HMB.out.2.2.2.2.1
          have hcc := hco.2.1
          have hct := htr.2.1
          have hcp := hma.2.1
          have hz0 : (strB f.name).size = f.name.length := strB_size _
          have hy0 : f.name.length ≤ 140737488351232 := HMB.out.1
          obtain ⟨z0, he0⟩ : ∃ a, f.name.length = a := ⟨_, rfl⟩
          have HE0 := Lib.hid he0
          rw [he0] at hz0 hy0
          clear he0
          have hz1 : (strB f.desc).size = f.desc.length := strB_size _
          have hy1 : f.desc.length ≤ 140737488351232 := HMB.out.2.1
          obtain ⟨z1, he1⟩ : ∃ a, f.desc.length = a := ⟨_, rfl⟩
          have HE1 := Lib.hid he1
          rw [he1] at hz1 hy1
          clear he1
          clear hcs hfcl hfx htr hco hma hbw hful hal
          by_cases hneg : L2 - 1 - (nc : Int) - (nt : Int) - ((z0 : Int) + (z1 : Int)) / 50 < 0
          · clear kt0
            go_wp2
            go_ret
            exact ⟨Few15.no u, HBB.out.trans (HBA.out.mono HBB.out.size)⟩
          · obtain ⟨T1, hT1⟩ : ∃ T, T = L2 - 1 - (nc : Int) - (nt : Int) - ((z0 : Int) + (z1 : Int)) / 50 := ⟨_, rfl⟩
            go_wp2
            generalize hWA : wr.alloc (.cells #[.bool f.static, .string (strB f.name), .string (strB f.desc), .int .i64 f.stack, .int .i64 f.locals, .slice Ac nc cc, .slice At nt ct, .slice Ap np cp] 52) = WA at *
            generalize wr.heap.size = gm at *
            have HKT := Lib.hid kt0
            clear hWA d0 d1 d2 d3 d4 d5 d6 d7 kt0
            have HR3 : RelX nc 0 8796093022208 T1 (fun _ _ => True) WA (.int .i64 (L2 - 1 - (nc : Int) - (nt : Int) - ((z0 : Int) + (z1 : Int)) / 50)) (.int .i64 0) WA := ⟨0, _, Nat.zero_le _, rfl, rfl, by omega, by omega, trivial, Below.refl _ _⟩
            have HREL3 := Lib.hid HR3
            go_loopw [3, 86] (fun v i wr => RelX nc 0 8796093022208 T1 (fun _ _ => True) WA v i wr) (fun _ i _ => nc - (intOf i).toNat)
            case atStart => exact HREL3.out
            case round =>
              clear HREL3
              obtain ⟨j3, L3, hj3, rfl, rfl, hlo3, hhi3, -, hbw⟩ := hrel
              by_cases hlt3 : j3 < nc
              · obtain ⟨xb, xo, x, xcs, rfl, hxb, _, hxx, hxcl, hcs, hr⟩ := (HCO.out.below hbw).at_ hlt3
                obtain rfl := (show xcs = [.int .u8 (x.op.toNat : Int), .int .i64 x.n, .int .i64 x.m, .string (strB x.cls), .string (strB x.name), .string (strB x.desc), .string (strB x.text)] from hr)
                change ∀ j' v, [.int .u8 (x.op.toNat : Int), .int .i64 x.n, .int .i64 x.m, .string (strB x.cls), .string (strB x.name), .string (strB x.desc), .string (strB x.text)][j']? = some v → wr.cell? ⟨xb, xo + j3 * 7 + j', none⟩ = some v at hcs
                have d0 : wr.cell? ⟨xb, xo + j3 * 7, none⟩ = some (.int .u8 (x.op.toNat : Int)) := by have := hcs 0 _ rfl; simpa using this
                have d1 : wr.cell? ⟨xb, xo + j3 * 7 + 1, none⟩ = some (.int .i64 x.n) := by have := hcs 1 _ rfl; simpa using this
                have d2 : wr.cell? ⟨xb, xo + j3 * 7 + 2, none⟩ = some (.int .i64 x.m) := by have := hcs 2 _ rfl; simpa using this
                have d3 : wr.cell? ⟨xb, xo + j3 * 7 + 3, none⟩ = some (.string (strB x.cls)) := by have := hcs 3 _ rfl; simpa using this
                have d4 : wr.cell? ⟨xb, xo + j3 * 7 + 4, none⟩ = some (.string (strB x.name)) := by have := hcs 4 _ rfl; simpa using this
                have d5 : wr.cell? ⟨xb, xo + j3 * 7 + 5, none⟩ = some (.string (strB x.desc)) := by have := hcs 5 _ rfl; simpa using this
                have d6 : wr.cell? ⟨xb, xo + j3 * 7 + 6, none⟩ = some (.string (strB x.text)) := by have := hcs 6 _ rfl; simpa using this
                have HAW := Lib.hid (hbw.alloc hbw.size (.cells #[.int .u8 (x.op.toNat : Int), .int .i64 x.n, .int .i64 x.m, .string (strB x.cls), .string (strB x.name), .string (strB x.desc), .string (strB x.text)] 107))
                have hxB := HMB.out.2.2.2.2.2.1 x (List.mem_of_getElem? hxx)
                have hz2 : (strB x.cls).size = x.cls.length := strB_size _
                have hy2 : x.cls.length ≤ 140737488351232 := hxB.1
                obtain ⟨z2, he2⟩ : ∃ a, x.cls.length = a := ⟨_, rfl⟩
                have HE2 := Lib.hid he2
                rw [he2] at hz2 hy2
                clear he2
                have hz3 : (strB x.name).size = x.name.length := strB_size _
                have hy3 : x.name.length ≤ 140737488351232 := hxB.2.1
                obtain ⟨z3, he3⟩ : ∃ a, x.name.length = a := ⟨_, rfl⟩
                have HE3 := Lib.hid he3
                rw [he3] at hz3 hy3
                clear he3
                have hz4 : (strB x.desc).size = x.desc.length := strB_size _
                have hy4 : x.desc.length ≤ 140737488351232 := hxB.2.2.1
                obtain ⟨z4, he4⟩ : ∃ a, x.desc.length = a := ⟨_, rfl⟩
                have HE4 := Lib.hid he4
                rw [he4] at hz4 hy4
                clear he4
                have hz5 : (strB x.text).size = x.text.length := strB_size _
                have hy5 : x.text.length ≤ 140737488351232 := hxB.2.2.2
                obtain ⟨z5, he5⟩ : ∃ a, x.text.length = a := ⟨_, rfl⟩
                have HE5 := Lib.hid he5
                rw [he5] at hz5 hy5
                clear he5
                clear hcs hxcl hxx hbw hr hxB
                go_wp2
                go_roundw
                case rel => exact ⟨j3 + 1, _, hlt3, by simp, rfl, by omega, by omega, trivial, HAW.out⟩
                case measure => simp [intOf]; omega
              · have kb := HKT.out.of (hbw.block _ HKT.out.lt)
                have y6 : wr.cell? ⟨gm, 6, none⟩ = some (.slice At nt ct) := kb.cell 6
                have HBW3 := Lib.hid hbw
                clear hbw kb
                go_wp2
                clear y6
                have HR4 : RelX nt (-(600 * 8796093022208)) 8796093022208 T1 (fun k L => ∀ t ∈ f.traps.take k, TPaid (600 - L) t) WA (.int .i64 L3) (.int .i64 0) wr := ⟨0, L3, Nat.zero_le _, rfl, rfl, by omega, by omega, fun t ht => (by simp at ht), HBW3.out⟩
                have HREL4 := Lib.hid HR4
                go_loopw [3, 112] (fun v i wr => RelX nt (-(600 * 8796093022208)) 8796093022208 T1 (fun k L => ∀ t ∈ f.traps.take k, TPaid (600 - L) t) WA v i wr) (fun _ i _ => nt - (intOf i).toNat)
                case atStart => exact HREL4.out
                case round =>
                  clear HREL4
                  obtain ⟨j4, L4, hj4, rfl, rfl, hlo4, hhi4, htp4, hbw⟩ := hrel
                  have HTP4 := Lib.hid htp4
                  clear htp4
                  by_cases hlt4 : j4 < nt
                  · obtain ⟨tb, to, t, tcs, rfl, htb, _, htx, htcl, hcs, hr⟩ := (HTR.out.below hbw).at_ hlt4
                    obtain rfl := (show tcs = [.int .i64 t.a, .int .i64 t.b, .int .i64 t.c, .string (strB t.cls)] from hr)
                    change ∀ j' v, [.int .i64 t.a, .int .i64 t.b, .int .i64 t.c, .string (strB t.cls)][j']? = some v → wr.cell? ⟨tb, to + j4 * 4 + j', none⟩ = some v at hcs
                    have d0 : wr.cell? ⟨tb, to + j4 * 4, none⟩ = some (.int .i64 t.a) := by have := hcs 0 _ rfl; simpa using this
                    have d1 : wr.cell? ⟨tb, to + j4 * 4 + 1, none⟩ = some (.int .i64 t.b) := by have := hcs 1 _ rfl; simpa using this
                    have d2 : wr.cell? ⟨tb, to + j4 * 4 + 2, none⟩ = some (.int .i64 t.c) := by have := hcs 2 _ rfl; simpa using this
                    have d3 : wr.cell? ⟨tb, to + j4 * 4 + 3, none⟩ = some (.string (strB t.cls)) := by have := hcs 3 _ rfl; simpa using this
                    have HTX := Lib.hid htx
                    have HAW := Lib.hid (hbw.alloc hbw.size (.cells #[.int .i64 t.a, .int .i64 t.b, .int .i64 t.c, .string (strB t.cls)] 134))
                    have hz2 : (strB t.cls).size = t.cls.length := strB_size _
                    have hy2 : t.cls.length ≤ 140737488351232 := HMB.out.2.2.2.2.2.2.1 t (List.mem_of_getElem? htx)
                    obtain ⟨z2, he2⟩ : ∃ a, t.cls.length = a := ⟨_, rfl⟩
                    have HE2 := Lib.hid he2
                    rw [he2] at hz2 hy2
                    clear he2
                    clear hcs htcl htx hbw hr
                    go_wp2
                    go_roundw
                    case rel => exact ⟨j4 + 1, _, hlt4, by simp, rfl, by omega, by omega, take_nextP HTP4.out HTX.out (fun y h => h.mono (by omega)) (by unfold TPaid; rw [HE2.out]; omega), HAW.out⟩
                    case measure => simp [intOf]; omega
                  · have HTPA := Lib.hid (take_all HTP4.out HNT.out hlt4)
                    have kb := HKT.out.of (hbw.block _ HKT.out.lt)
                    have y7 : wr.cell? ⟨gm, 7, none⟩ = some (.slice Ap np cp) := kb.cell 7
                    have HBW4 := Lib.hid hbw
                    clear hbw kb
                    go_wp2
                    clear y7
                    have HR5 : RelX np (-(1200 * 8796093022208)) 0 T1 (fun _ L => True ∧ ∀ t ∈ f.traps, TPaid (600 - L) t) WA (.int .i64 L4) (.int .i64 0) wr := ⟨0, L4, Nat.zero_le _, rfl, rfl, by omega, by omega, ⟨trivial, HTPA.out⟩, HBW4.out⟩
                    have HREL5 := Lib.hid HR5
                    go_loopw [3, 126] (fun v i wr => RelX np (-(1200 * 8796093022208)) 0 T1 (fun _ L => True ∧ ∀ t ∈ f.traps, TPaid (600 - L) t) WA v i wr) (fun _ i _ => np - (intOf i).toNat)
                    case atStart => exact HREL5.out
                    case round =>
                      clear HREL5
                      obtain ⟨j5, L5, hj5, rfl, rfl, hlo5, hhi5, ⟨hfp5, htp5⟩, hbw⟩ := hrel
                      have HTP5 := Lib.hid htp5
                      have HBW := Lib.hid hbw
                      clear htp5
                      by_cases hlt5 : j5 < np
                      · obtain ⟨mb, mo, m, mcs, rfl, hmb, _, hmx, hmcl, hcs, hr⟩ := (HMP.out.below hbw).at_ hlt5
                        obtain ⟨_, _, rfl, ⟨A1, n1, q1, e1, hR1⟩, ⟨A2, n2, q2, e2, hR2⟩⟩ := hr
                        cases e1
                        cases e2
                        change ∀ j' v, [.int .i64 m.at_, .slice A1 n1 q1, .slice A2 n2 q2][j']? = some v → wr.cell? ⟨mb, mo + j5 * 3 + j', none⟩ = some v at hcs
                        have d0 : wr.cell? ⟨mb, mo + j5 * 3, none⟩ = some (.int .i64 m.at_) := by have := hcs 0 _ rfl; simpa using this
                        have d1 : wr.cell? ⟨mb, mo + j5 * 3 + 1, none⟩ = some (.slice A1 n1 q1) := by have := hcs 1 _ rfl; simpa using this
                        have d2 : wr.cell? ⟨mb, mo + j5 * 3 + 2, none⟩ = some (.slice A2 n2 q2) := by have := hcs 2 _ rfl; simpa using this
                        have HPB := Lib.hid (HMB.out.2.2.2.2.2.2.2 m (List.mem_of_getElem? hmx))
                        have hn1 : n1 ≤ 140737488351232 := by rw [← hR1.1]; exact HPB.out.1
                        have hn2 : n2 ≤ 140737488351232 := by rw [← hR2.1]; exact HPB.out.2.1
                        have HR1 := Lib.hid hR1
                        have HR2 := Lib.hid hR2
                        have hq1 := hR1.2.1
                        have hq2 := hR2.2.1
                        have kp := Blk.new wr 55 #[.int .i64 m.at_, .slice A1 n1 q1, .slice A2 n2 q2]
                        have HAL := Lib.hid ((Below.refl _ wr).alloc (Nat.le_refl _) (.cells #[.int .i64 m.at_, .slice A1 n1 q1, .slice A2 n2 q2] 55))
                        clear hcs hmcl hmx hR1 hR2 hbw
                        by_cases hneg : L5 - 1 - (n1 : Int) - (n2 : Int) < 0
                        · have HBX := Lib.hid (HBA.out.trans ((HBW.out.trans (HAL.out.mono HBW.out.size)).mono HBA.out.size))
                          clear kp
                          go_wp2
                          go_ret
                          exact ⟨Few15.no u, HBB.out.trans (HBX.out.mono HBB.out.size)⟩
                        · obtain ⟨T5, hT5⟩ : ∃ T, T = L5 - 1 - (n1 : Int) - (n2 : Int) := ⟨_, rfl⟩
                          have hal4 := HAL.out
                          have hbw4 := HBW.out.trans (HAL.out.mono HBW.out.size)
                          have hR41 := HR1.out.below HAL.out
                          have hR42 := HR2.out.below HAL.out
                          clear HAL HBW HR1 HR2
                          go_wp2_with fail
                          generalize hW4 : wr.alloc (.cells #[.int .i64 m.at_, .slice A1 n1 q1, .slice A2 n2 q2] 55) = W4 at *
                          have hgp : wr.heap.size < W4.heap.size := kp.lt
                          generalize wr.heap.size = gp at *
                          have HKP := Lib.hid kp
                          have HAL4 := Lib.hid hal4
                          have HBW4 := Lib.hid hbw4
                          have HR41 := Lib.hid hR41
                          have HR42 := Lib.hid hR42
                          clear hW4 kp hal4 hbw4 hR41 hR42 d0 d1 d2
                          have sB : ∀ W, Below W4.heap.size W4 W → W.cell? ⟨gp, 1, none⟩ = some (.slice A1 n1 q1) ∧ W.cell? ⟨gp, 2, none⟩ = some (.slice A2 n2 q2) := fun W h => ⟨(HKP.out.of (h.block _ HKP.out.lt)).cell 1, (HKP.out.of (h.block _ HKP.out.lt)).cell 2⟩
                          have hS0 := sB W4 (Below.refl _ _)
                          obtain ⟨W5, hW5⟩ : ∃ W5, (W4.alloc (.cells #[] 9)).drew = W5 := ⟨_, rfl⟩
                          have hb45 : Below W4.heap.size W4 W5 := by rw [← hW5]; exact ((Below.refl _ W4).alloc (Nat.le_refl _) _).trans (((Only.refl Empty _).drew).below (Nat.le_refl _) (fun _ _ h => h) |>.mono (by simp))
                          have hG5 : GotR svC 1 9 W4.heap.size W5 (some ⟨W4.heap.size, 0, none⟩) 0 0 ([] : List Bs) := by
                            have own := World.ownsRow_lit (base := W4.heap.size) (e := 9) (size := 1) W4 #[] 0 (Nat.le_refl _) (by decide) rfl
                            obtain ⟨A, cp, he, hG⟩ := GotR.of_own (cells := svC) (l := ([] : List Bs)) svC_len own rfl
                            cases he
                            rw [← hW5]
                            exact hG.only svC_len ((Only.refl Empty _).drew) (fun _ _ _ h => h)
                          have hS5 := sB W5 hb45
                          obtain ⟨A6, c6, W6, hrun6, hG6, hgr6, hro6⟩ := run_append_S hG5 (sl_of_rowS (HR41.out.below hb45)) HR41.out.2.2.2.1 (by omega) hb45.size
                          rw [Nat.zero_add, List.nil_append] at hG6
                          rw [Nat.zero_add] at hrun6
                          have hb46 : Below W4.heap.size W4 W6 := below_gotR hb45 hb45.size hgr6 hro6 (Nat.le_refl _)
                          have hS6 := sB W6 hb46
                          obtain ⟨A7, c7, W7, hrun7, hG7, hgr7, hro7⟩ := run_append_S hG6 (sl_of_rowS (HR42.out.below hb46)) HR42.out.2.2.2.1 (by omega) hb46.size
                          have hb47 : Below W4.heap.size W4 W7 := below_gotR hb46 hb46.size hgr7 hro7 (Nat.le_refl _)
                          have hS7 := sB W7 hb47
                          have HG6 := Lib.hid hG7
                          have HBW5 := HBW4
                          have HB56 := Lib.hid hb47
                          obtain ⟨w6, hw6⟩ : ∃ w6, w6 = W7 := ⟨_, rfl⟩
                          clear sB hG5 hG6 hG7 hgr6 hgr7 hro6 hro7 hb45 hb46 hb47
                          refine wp_region_held_drew (S := fun W => W.cell? ⟨gp, 1, none⟩ = some (.slice A1 n1 q1) ∧ W.cell? ⟨gp, 2, none⟩ = some (.slice A2 n2 q2)) (by kernel_rfl) hS0 (fun hHeld0 => ?_)
                          refine take_yes 1 143 ?_ rfl rfl (by kernel_rfl) (by kernel_rfl) (by kernel_rfl) (fun _ _ _ h => h) (by kernel_rfl) ?_ (by assumption) ?_; rotate_left; (focus (intro w hSw; (try dsimp only at hSw); go_simp; all_goals first | with_reducible rfl)); simp only [Act.put, List.setIfInBounds_toArray, List.set_cons_zero, List.set_cons_succ]
                          refine take_yes 2 144 ?_ rfl rfl (by kernel_rfl) (by kernel_rfl) (by kernel_rfl) (fun _ _ _ h => h) (by kernel_rfl) ?_ (by assumption) ?_; rotate_left; (focus (intro w hSw; (try dsimp only at hSw); go_simp; all_goals first | with_reducible rfl)); simp only [Act.put, List.setIfInBounds_toArray, List.set_cons_zero, List.set_cons_succ]
                          refine take_yes 4 146 ?_ rfl rfl (by kernel_rfl) (by kernel_rfl) (by kernel_rfl) (fun _ _ _ h => h) (by kernel_rfl) ?_ (by assumption) ?_; rotate_left; (focus (intro w hSw; (try dsimp only at hSw); go_simp; all_goals first | with_reducible rfl)); simp only [Act.put, List.setIfInBounds_toArray, List.set_cons_zero, List.set_cons_succ]
                          refine take_yes 5 147 ?_ rfl rfl (by kernel_rfl) (by kernel_rfl) (by kernel_rfl) (fun _ _ _ h => h) (by kernel_rfl) ?_ (by assumption) ?_; rotate_left; (focus (intro w hSw; (try dsimp only at hSw); go_simp; all_goals first | with_reducible rfl)); simp only [Act.put, List.setIfInBounds_toArray, List.set_cons_zero, List.set_cons_succ]
                          refine take_yes 8 150 ?_ rfl rfl (by kernel_rfl) (by kernel_rfl) (by kernel_rfl) (fun _ _ _ h => h) (by kernel_rfl) ?_ (by assumption) ?_; rotate_left; (focus (intro w hSw; (try dsimp only at hSw); go_simp; all_goals first | with_reducible rfl)); simp only [Act.put, List.setIfInBounds_toArray, List.set_cons_zero, List.set_cons_succ]
                          refine wpAnyH_ready (rs := [0]) (by kernel_rfl) (by simp) ?_
                          refine AllReadyH.cons rfl (fun K hK => ?_) AllReadyH.nil
                          go_simp
                          go_simp
                          refine hK.out _ _ (hS5) (fun _ => ?_)
                          clear hK K
                          try simp only [Act.put, List.setIfInBounds_toArray, List.set_cons_zero, List.set_cons_succ]
                          refine wpAnyH_ready (rs := [3]) (by kernel_rfl) (by simp) ?_
                          refine AllReadyH.cons rfl (fun K hK => ?_) AllReadyH.nil
                          refine step_append_eq (ts := 53) rfl (.tmp 142) (.tmp 144) rfl rfl rfl rfl hrun6 ?_
                          show K (Act.put _ (some 145) _) _
                          refine hK.out _ _ (hS6) (fun _ => ?_)
                          clear hK K
                          try simp only [Act.put, List.setIfInBounds_toArray, List.set_cons_zero, List.set_cons_succ]
                          refine wpAnyH_ready (rs := [6]) (by kernel_rfl) (by simp) ?_
                          refine AllReadyH.cons rfl (fun K hK => ?_) AllReadyH.nil
                          refine step_append_eq (ts := 53) rfl (.tmp 145) (.tmp 147) rfl rfl rfl rfl hrun7 ?_
                          show K (Act.put _ (some 148) _) _
                          refine hK.out _ _ (hS7) (fun _ => ?_)
                          clear hK K
                          try simp only [Act.put, List.setIfInBounds_toArray, List.set_cons_zero, List.set_cons_succ]
                          refine take_yes 7 149 ?_ rfl rfl (by kernel_rfl) (by kernel_rfl) (by kernel_rfl) (fun _ _ _ h => h) (by kernel_rfl) ?_ (by assumption) ?_; rotate_left; (focus (intro w hSw; (try dsimp only at hSw); go_simp; all_goals first | with_reducible rfl)); simp only [Act.put, List.setIfInBounds_toArray, List.set_cons_zero, List.set_cons_succ]
                          refine wpAnyH_done (by kernel_rfl) ?_ _
                          subst hw6
                          clear hrun6 hrun7 hS0 hS5 hS6 hS7 hHeld0
                          go_wp2
                          have HR6 : RelX (n1 + n2) 0 8796093022208 T5 (fun _ _ => True) w6 (.int .i64 (L5 - 1 - (n1 : Int) - (n2 : Int))) (.int .i64 0) w6 := ⟨0, _, Nat.zero_le _, rfl, rfl, by omega, by omega, trivial, Below.refl _ _⟩
                          have HREL6 := Lib.hid HR6
                          go_loopw [3, 150] (fun v i wr => RelX (n1 + n2) 0 8796093022208 T5 (fun _ _ => True) w6 v i wr) (fun _ i _ => n1 + n2 - (intOf i).toNat)
                          case atStart => exact HREL6.out
                          case round =>
                            clear HREL6
                            obtain ⟨i6, L6, hi6, rfl, rfl, hlo6, hhi6, -, hbw⟩ := hrel
                            have HBW6 := Lib.hid hbw
                            by_cases hlt6 : i6 < n1 + n2
                            · obtain ⟨sb, so, sx, rfl, hsb, _, hsx, hcs⟩ := (HG6.out.row.below hbw).at_ hlt6
                              have d0 : wr.cell? ⟨sb, so + i6, none⟩ = some (.string (strB sx)) := by have := hcs 0 (by decide); simpa [svC, SV] using this
                              have hsB : SB sx := by
                                rcases List.mem_append.1 (List.mem_of_getElem? hsx) with h | h
                                · exact HPB.out.2.2.1 sx h
                                · exact HPB.out.2.2.2 sx h
                              have hz0 : (strB sx).size = sx.length := strB_size _
                              have hy0 : sx.length ≤ 140737488351232 := hsB
                              obtain ⟨z0, he0⟩ : ∃ a, sx.length = a := ⟨_, rfl⟩
                              have HE0 := Lib.hid he0
                              rw [he0] at hz0 hy0
                              clear he0
                              clear hcs hsx hbw hsB
                              go_wp2
                              go_roundw
                              case rel => exact ⟨i6 + 1, _, hlt6, by simp, rfl, by omega, by omega, trivial, HBW6.out⟩
                              case measure => simp [intOf]; omega
                            · have HBX := Lib.hid (HBW5.out.trans ((HB56.out.trans (hbw.mono HB56.out.size)).mono HBW5.out.size))
                              clear hbw
                              go_wp2
                              go_roundw
                              case rel => exact ⟨j5 + 1, _, hlt5, by simp, rfl, by omega, by omega, ⟨hfp5, fun t ht => (HTP5.out t ht).mono (by omega)⟩, HBX.out⟩
                              case measure => simp [intOf]; omega
                      · have HTP := Lib.hid (show ∀ t ∈ f.traps, TPaid (600 - L5) t from HTP5.out)
                        have HBX := Lib.hid (HBA.out.trans (hbw.mono HBA.out.size))
                        clear hbw
                        by_cases hneg : L5 < 0
                        · go_wp2
                          go_ret
                          exact ⟨Few15.no u, HBB.out.trans (HBX.out.mono HBB.out.size)⟩
                        · go_wp2
                          go_roundw
                          case rel => exact ⟨k2 + 1, _, hlt2, by simp, rfl, by omega, by omega, ⟨fun g hg => (HFP.out g hg).mono (by omega), take_nextP HMPD.out HFX.out (fun y h => h.mono (by omega)) ⟨by rw [HE0.out, HE1.out]; omega, by rw [HNT.out]; omega, HTP.out⟩⟩, HBX.out⟩
                          case measure => simp [intOf]; omega
        · have HB3 := Lib.hid hbw
          have HMPA := Lib.hid (take_all HMPD.out HM.out.1 hlt2)
          clear hbw
          by_cases h0 : 0 ≤ L2
          · have HSM : Hid (SmallUn u) := Lib.hid (small_of h0 ⟨by rw [HA0.out]; omega, by rw [HA1.out]; omega⟩ (by rw [HF.out.1]; omega) (by rw [HM.out.1]; omega) HFP.out HMPA.out)
            go_wp2
            go_ret
            exact ⟨⟨_, rfl, fun _ => HSM.out⟩, HBB.out.trans (HB3.out.mono HBB.out.size)⟩
          · go_wp2
            go_ret
            exact ⟨⟨_, rfl, fun h => by first | cases h | (simp at h; omega)⟩, HBB.out.trans (HB3.out.mono HBB.out.size)⟩

end Go.Proofs.YtblnhobbnkcbeaaGreatDoor

/- The walk over the law's few (layer 16). -/
namespace Go.Proofs.YtblnhobbnkcbeaaGreatDoor
set_option maxRecDepth 100000
open Go.RowKit

def FewL (l : List UnD) (e : Ending) : Prop := ∃ b, e = .returned (.bool b) ∧ (b = true → l.length ≤ 40 ∧ ∀ u ∈ l, SmallUn u)
theorem FewL.no (l : List UnD) : FewL l (.returned (.bool false)) := ⟨false, rfl, fun h => by cases h⟩
/-- Where its loop stands. -/
def RelL1 (l : List UnD) (n : Nat) (w : World) (i : Value) (wr : World) : Prop := ∃ k : Nat, k ≤ n ∧ i = .int .i64 (k : Int) ∧ (∀ u ∈ l.take k, SmallUn u) ∧ Below w.heap.size w wr
set_option maxHeartbeats 4000000 in
theorem lfew_any (l : List UnD) (A : Option Addr) (n cap : Nat) (w : World) (hR : RowS unF w Empty A n cap l) (hB : ∀ u ∈ l, unB u) :
    Calls Tryz.prog 11 #[.slice A n cap] w fun e w' => FewL l e ∧ Below w.heap.size w w' := by
  have HL := Lib.hid hR.1
  have HR := Lib.hid hR
  have HB := Lib.hid hB
  have hnc := hR.2.1
  have hcm := hR.2.2.1
  unfold maxLen at hcm
  clear hR hB
  by_cases h40 : 40 < n
  · go_enter Tryz.func11, Tryz.ntmps11
    go_wp2
    go_ret
    exact ⟨FewL.no l, Below.refl _ _⟩
  have HREL : Hid (RelL1 l n w (.int .i64 0) w) := Lib.hid ⟨0, Nat.zero_le _, rfl, fun x hx => (by simp at hx), Below.refl _ _⟩
  go_enter Tryz.func11, Tryz.ntmps11
  go_wp2
  go_loopw [10] (fun i wr => RelL1 l n w i wr) (fun i _ => n - (intOf i).toNat)
  case atStart => exact HREL.out
  case round =>
    clear HREL
    obtain ⟨k, hk, rfl, hok, hbw⟩ := hrel
    have HOK := Lib.hid hok
    clear hok
    by_cases hlt : k < n
    · obtain ⟨b, o, y, cs, rfl, hbl, _, hy, hcl, hcs, hr⟩ := (HR.out.below hbw).at_ hlt
      obtain ⟨Bf, mf, df, Bm, mm, dm, rfl, hfl, hml⟩ := hr
      change ∀ j v, [Value.string (strB y.name), .string (strB y.super), .slice Bf mf df, .slice Bm mm dm][j]? = some v → wr.cell? ⟨b, o + k * 4 + j, none⟩ = some v at hcs
      have d0 : wr.cell? ⟨b, o + k * 4, none⟩ = some (.string (strB y.name)) := by have := hcs 0 _ rfl; simpa using this
      have d1 : wr.cell? ⟨b, o + k * 4 + 1, none⟩ = some (.string (strB y.super)) := by have := hcs 1 _ rfl; simpa using this
      have d2 : wr.cell? ⟨b, o + k * 4 + 2, none⟩ = some (.slice Bf mf df) := by have := hcs 2 _ rfl; simpa using this
      have d3 : wr.cell? ⟨b, o + k * 4 + 3, none⟩ = some (.slice Bm mm dm) := by have := hcs 3 _ rfl; simpa using this
      have hal : Below wr.heap.size wr (wr.alloc (.cells #[.string (strB y.name), .string (strB y.super), .slice Bf mf df, .slice Bm mm dm] 85)) := (Below.refl _ wr).alloc (Nat.le_refl _) _
      have HA := Lib.hid (hbw.trans (hal.mono hbw.size))
      have HY := Lib.hid hy
      have C := Lib.hid (rfew_any y Bf mf df Bm mm dm _ (hfl.below hal) (hml.below hal) (HB.out y (List.mem_of_getElem? hy)))
      unfold unV4 at C
      clear hcs hcl hy hfl hml hal hbw
      go_wp2_with fail
      refine C.out.mono ?_
      rintro e w2 ⟨⟨bb, rfl, hsm⟩, hb⟩
      have HB2 := Lib.hid (HA.out.trans (hb.mono HA.out.size))
      clear hb C d0 d1 d2 d3
      cases bb with
      | false =>
        clear hsm
        go_wp2
        go_ret
        exact ⟨FewL.no l, HB2.out⟩
      | true =>
        have HREL : Hid (RelL1 l n w (.int .i64 ((k : Int) + 1)) w2) := Lib.hid ⟨k + 1, hlt, by simp, take_nextP HOK.out HY.out (fun _ h => h) (hsm rfl), HB2.out⟩
        clear hsm
        go_wp2
        go_roundw
        case rel => exact HREL.out
        case measure => simp [intOf]; omega
    · have HE : Hid (l.length ≤ 40 ∧ ∀ u ∈ l, SmallUn u) := Lib.hid ⟨by rw [HL.out]; omega, take_all HOK.out HL.out hlt⟩
      go_wp2
      go_ret
      exact ⟨⟨true, rfl, fun _ => HE.out⟩, hbw⟩

end Go.Proofs.YtblnhobbnkcbeaaGreatDoor

/- Where a class's members stand: what the program tells is what the document asks. Nothing of the program. -/
namespace Go.Proofs.YtblnhobbnkcbeaaGreatDoor
set_option maxRecDepth 100000

section
variable {w : List UnD}
theorem fstM_eq {u : UnD} {n d : Bs} (hn : (u.meths.map fun m => (m.name, m.desc)).Nodup) : fstM u n d = lastM u n d := by
  unfold fstM
  cases hf : u.meths.find? (fun m => m.name == n && m.desc == d) with
  | none =>
    unfold lastM
    have h := List.find?_eq_none.1 hf
    rw [List.find?_eq_none.2 (fun x hx => h x (List.mem_reverse.1 hx))]
  | some x =>
    have h1 := List.find?_some hf
    have h2 := List.mem_of_find?_eq_some hf
    simp at h1
    rw [← h1.1, ← h1.2]
    exact (lastM_eq hn h2).symm
theorem lastF_mem {u : UnD} {n d : Bs} {st : Bool} (h : lastF u n d = some st) : ∃ x, x ∈ u.fields ∧ x.name = n ∧ x.desc = d ∧ x.static = st := by
  unfold lastF at h
  cases hf : u.fields.reverse.find? (fun m => m.name == n && m.desc == d) with
  | none => rw [hf] at h; cases h
  | some x =>
    rw [hf] at h
    have h1 := List.find?_some hf
    have h2 := List.mem_of_find?_eq_some hf
    simp at h1 h2 h
    exact ⟨x, h2, h1.1, h1.2, h⟩
theorem fstF_eq {u : UnD} {n d : Bs} (hn : (u.fields.map (·.name)).Nodup) : fstF u n d = lastF u n d := by
  unfold fstF
  cases hf : u.fields.find? (fun m => m.name == n && m.desc == d) with
  | none =>
    unfold lastF
    have h := List.find?_eq_none.1 hf
    rw [List.find?_eq_none.2 (fun x hx => h x (List.mem_reverse.1 hx))]
  | some x =>
    have h1 := List.find?_some hf
    have h2 := List.mem_of_find?_eq_some hf
    simp at h1
    cases hl : lastF u n d with
    | none =>
      unfold lastF at hl
      cases hr : u.fields.reverse.find? (fun m => m.name == n && m.desc == d) with
      | some y => rw [hr] at hl; cases hl
      | none =>
        have := List.find?_eq_none.1 hr x (List.mem_reverse.2 h2)
        simp [h1.1, h1.2] at this
    | some st =>
      obtain ⟨y, hy, e1, e2, e3⟩ := lastF_mem hl
      obtain rfl := inj_of_nodup hn h2 hy (by rw [h1.1, e1])
      rw [← e3]; rfl
theorem firstG_congr {f g : UnD → Option Bool} : ∀ {l : List UnD}, (∀ v ∈ l, f v = g v) → firstG f l = firstG g l
  | [], _ => rfl
  | v :: l, h => by
    unfold firstG
    rw [h v List.mem_cons_self, firstG_congr (fun x hx => h x (List.mem_cons_of_mem _ hx))]
/-- A class's line, one place more. -/
theorem line_more (hG : Good w) (c : Bs) : lineR w c = lineU w w.length c := by
  unfold lineR
  cases hf : findU w c with
  | none => rw [line_none hf, line_none hf]
  | some u =>
    obtain ⟨h1, h2⟩ := findU_name hf
    obtain ⟨k, hk, he⟩ := hG.ends u h2
    rw [h1] at he
    rw [(line_ends he _ (Nat.le_succ_of_le hk)).1, (line_ends he _ hk).1]
theorem mth_eq (hG : Good w) (c n d : Bs) : refMth w c n d = mthF w c n d := by
  unfold refMth mthF
  rw [line_more hG]
  exact firstG_congr (fun v hv => fstM_eq (hG.meth1 v (line_mem hv).1))
theorem fld_eq (hG : Good w) (c n d : Bs) : refFld w c n d = fldF w c n d := by
  unfold refFld fldF
  rw [line_more hG]
  exact firstG_congr (fun v hv => fstF_eq (hG.field1 v (line_mem hv).1))
theorem firstG_name {g : UnD → Option Bool} {l : List UnD} {q : Bs × Bool} (h : firstG g l = some q) : ∃ v, v ∈ l ∧ q.1 = v.name ∧ (g v).isSome := by
  obtain ⟨v, hv, hg, e⟩ := firstG_mem h
  exact ⟨v, hv, e, by rw [hg]; rfl⟩
theorem line_mem_super : ∀ {n : Nat} {c : Bs} {v : UnD}, v ∈ lineU w n c → v.name = c ∨ ∃ u ∈ w, u.super = v.name
  | 0, _, _, h => by cases h
  | n + 1, c, v, h => by
    cases hf : findU w c with
    | none => rw [line_none hf] at h; cases h
    | some u =>
      obtain ⟨h1, h2⟩ := findU_name hf
      rw [line_some hf] at h
      rcases List.mem_cons.1 h with rfl | h
      · exact Or.inl h1
      · rcases line_mem_super h with h3 | h3
        · exact Or.inr ⟨u, h2, h3.symm⟩
        · exact Or.inr h3
/-- Whether a method is one of sys'. -/
def sysB (n d : Bs) : Bool := (lastM ⟨cSys, cObject, [], natL⟩ n d).isSome
theorem native_sys {l : List UnD} (hG : Good (builtL ++ l)) (c n d : Bs) : nativeB (builtL ++ l) c n d = (c == cSys && sysB n d) := by
  unfold nativeB mthF
  by_cases hc : c = cSys
  · subst hc
    have hlen : ∃ k, (builtL ++ l).length = k + 2 := ⟨(builtL ++ l).length - 2, by simp [built_len]; omega⟩
    obtain ⟨k, hk⟩ := hlen
    have ho : findU (builtL ++ l) cObject = some ⟨cObject, [], [], []⟩ := findU_built hG.nodup (b := ⟨cObject, [], [], []⟩) (by simp [builtL])
    rw [hk, line_some hG.sysU, line_some ho, line_none (by exact hG.blank)]
    unfold sysB firstG
    cases hs : lastM ⟨cSys, cObject, [], natL⟩ n d with
    | some st => simp
    | none =>
      have : lastM ⟨cObject, [], [], []⟩ n d = none := rfl
      simp [firstG, this]
  · have hne : (c == cSys) = false := by simpa using hc
    rw [hne, Bool.false_and]
    cases hf : firstG (fun v => lastM v n d) (lineU (builtL ++ l) (builtL ++ l).length c) with
    | none => rfl
    | some q =>
      obtain ⟨v, hv, e, _⟩ := firstG_name hf
      show (q.1 == cSys) = false
      rw [e]
      rcases line_mem_super hv with h | ⟨u, hu, h⟩
      · rw [h]; exact hne
      · have := hG.sys u hu
        rw [h] at this
        simpa using this
theorem built_sys (c n d : Bs) : (match refMth builtL c n d with | none => false | some m => !(m.1.isEmpty)) = (c == cSys && sysB n d) := by
  unfold refMth
  by_cases hc : c = cSys
  · subst hc
    have e : lineR builtL cSys = [⟨cSys, cObject, [], natL⟩, ⟨cObject, [], [], []⟩] := rfl
    rw [e]
    have h1 : fstM ⟨cSys, cObject, [], natL⟩ n d = lastM ⟨cSys, cObject, [], natL⟩ n d := fstM_eq nat_nodup
    have h2 : fstM ⟨cObject, [], [], []⟩ n d = none := rfl
    unfold sysB
    cases hs : lastM ⟨cSys, cObject, [], natL⟩ n d with
    | some st => rw [hs] at h1; simp [firstG, h1]; decide
    | none => rw [hs] at h1; simp [firstG, h1, h2]
  · have hne : (c == cSys) = false := by simpa using hc
    rw [hne, Bool.false_and]
    cases hf : firstG (fun v => fstM v n d) (lineR builtL c) with
    | none => rfl
    | some q =>
      exfalso
      obtain ⟨v, hv, e, hs⟩ := firstG_name hf
      rcases built_meths v (line_mem hv).1 with h | h
      · unfold fstM at hs
        rw [h] at hs
        cases hs
      · rcases line_mem_super hv with h3 | ⟨u, hu, h3⟩
        · exact hc (by rw [← h3, h])
        · exact built_no_sys u hu (by rw [h3, h])
end

end Go.Proofs.YtblnhobbnkcbeaaGreatDoor

/- The walk over HierMembers. -/
namespace Go.Proofs.YtblnhobbnkcbeaaGreatDoor
set_option maxRecDepth 100000
open Go.RowKit

def mN (r : Option (Bs × Bool)) : Bs := (r.map (·.1)).getD []
def mS (r : Option (Bs × Bool)) : Bool := (r.map (·.2)).getD false
theorem memR_eq (r : Option (Bs × Bool)) : memR r = .tuple #[.agg #[.string (strB (mN r)), .bool (mS r)], .bool r.isSome] := by cases r <;> rfl
theorem sys_eq (c n d : Bs) : (c == cSys && sysB n d) = !((mN (refMth builtL c n d)).isEmpty) := by
  rw [← built_sys]
  cases refMth builtL c n d <;> rfl

set_option maxHeartbeats 8000000 in
theorem hierMembers_calls (l : List UnD) (A : Option Addr) (n cap : Nat) (c nm d : Bs) (w : World) (hR : RowS unF w Empty A n cap l) (hB : ∀ u ∈ l, unB u) (hc : c.length ≤ M47) (hnm : nm.length ≤ M47) (hd : d.length ≤ M47) :
    Calls Tryz.prog 3 #[.slice A n cap, .string (strB c), .string (strB nm), .string (strB d)] w fun e w' => e = .returned (.bool true) ∧ Below w.heap.size w w' := by
  unfold M47 at hc hnm hd
  have hz0 : (strB c).size = c.length := strB_size _
  have hz1 : (strB nm).size = nm.length := strB_size _
  have hz2 : (strB d).size = d.length := strB_size _
  obtain ⟨x0, hx0⟩ : ∃ a, c.length = a := ⟨_, rfl⟩
  obtain ⟨x1, hx1⟩ : ∃ a, nm.length = a := ⟨_, rfl⟩
  obtain ⟨x2, hx2⟩ : ∃ a, d.length = a := ⟨_, rfl⟩
  rw [hx0] at hz0 hc
  rw [hx1] at hz1 hnm
  rw [hx2] at hz2 hd
  have HX := Lib.hid (And.intro hx0 (And.intro hx1 hx2))
  have HRW := Lib.hid (hR.weak (R' := unW) rfl (fun cs x h => unW_of h))
  have HR := Lib.hid hR
  have HB := Lib.hid hB
  have C1 := Lib.hid (fixed16_any w)
  clear hx0 hx1 hx2 hR hB
  go_enter Tryz.func3, Tryz.ntmps3
  go_wp2_with fail
  refine C1.out.mono ?_
  rintro e w1 ⟨rfl, hb⟩
  have HB1 := Lib.hid hb
  have C2 := Lib.hid (lfew_any l A n cap w1 (HR.out.below hb) HB.out)
  clear hb C1
  go_wp2_with fail
  refine C2.out.mono ?_
  rintro e w2 ⟨⟨bb, rfl, hfew⟩, hb⟩
  have HB2 := Lib.hid (HB1.out.trans (hb.mono HB1.out.size))
  clear hb C2
  cases bb with
  | false =>
    clear hfew
    go_wp2
    go_ret
    exact ⟨rfl, HB2.out⟩
  | true =>
    obtain ⟨h40, hsm⟩ := hfew rfl
    have HSM := Lib.hid hsm
    have hn40 : n ≤ 40 := by rw [← HR.out.1]; exact h40
    clear h40 hsm hfew
    by_cases h300 : 300 < x0 + x1 + x2
    · go_wp2
      go_ret
      exact ⟨rfl, HB2.out⟩
    · have C3 := Lib.hid (new_any w2 l A n cap (HRW.out.below HB2.out) (by omega) HSM.out)
      have CW := Lib.hid (fun W (h : Below w.heap.size w W) => rworld_any l A n cap W (HRW.out.below h) (by omega) HSM.out)
      cases hok : okR l with
      | false =>
        have HOKR := Lib.hid hok
        have HOKP := Lib.hid ((ok_eq l).trans hok)
        clear hok
        go_wp2_with fail
        refine C3.out.mono ?_
        rintro e w3 ⟨_, hno, hb⟩
        obtain rfl := hno HOKP.out
        have HB3 := Lib.hid (HB2.out.trans (hb.mono HB2.out.size))
        clear hno hb C3
        go_wp2_with fail
        refine (CW.out _ HB3.out).mono ?_
        rintro e w4 ⟨⟨_, hno⟩, hb⟩
        obtain rfl := hno HOKR.out
        have HB4 := Lib.hid (HB3.out.trans (hb.mono HB3.out.size))
        clear hno hb CW
        go_wp2
        go_ret
        exact ⟨rfl, HB4.out⟩
      | true =>
        have HOKR := Lib.hid hok
        have HOKP := Lib.hid ((ok_eq l).trans hok)
        have HG := Lib.hid (both_of_R hok).2.1
        clear hok
        go_wp2_with fail
        refine C3.out.mono ?_
        rintro e w3 ⟨hyes, _, hb⟩
        obtain ⟨p, rfl, hW⟩ := hyes HOKP.out
        have HB3 := Lib.hid (HB2.out.trans (hb.mono HB2.out.size))
        have HW3 := Lib.hid hW
        clear hyes hb C3 hW
        go_wp2_with fail
        refine (CW.out _ HB3.out).mono ?_
        rintro e w4 ⟨⟨hyes, _⟩, hb⟩
        obtain ⟨A4, c4, rfl, hR4⟩ := hyes HOKR.out
        have HB4 := Lib.hid (HB3.out.trans (hb.mono HB3.out.size))
        have HW4 := Lib.hid (HW3.out.below hb)
        have HR4 := Lib.hid hR4
        clear hyes hb CW hR4 HW3
        have hl0 : c.length ≤ 1000000 := by rw [HX.out.1]; omega
        have hl1 : nm.length ≤ 1000000 := by rw [HX.out.2.1]; omega
        have hl2 : d.length ≤ 1000000 := by rw [HX.out.2.2]; omega
        have CF := Lib.hid (hfield_any p (builtL ++ l) c nm d w4 HW4.out hl0 hl1 hl2)
        have CRF := Lib.hid (fun W (h : Below w4.heap.size w4 W) => rfield_any (builtL ++ l) c nm d A4 (9 + n) c4 W (HR4.out.below h) (by omega))
        have CM := Lib.hid (fun W (h : Below w4.heap.size w4 W) => hmethod_any p (builtL ++ l) c nm d W (HW4.out.below h) hl0 hl1 hl2)
        have CRM := Lib.hid (fun W (h : Below w4.heap.size w4 W) => rmeth_any (builtL ++ l) c nm d A4 (9 + n) c4 W (HR4.out.below h) (by omega))
        have CN := Lib.hid (fun W (h : Below w4.heap.size w4 W) => native_any p (builtL ++ l) c nm d W (HW4.out.below h) hl0 hl1 hl2)
        rw [native_sys HG.out, sys_eq] at CN
        rw [fld_eq HG.out, memR_eq] at CRF
        rw [mth_eq HG.out, memR_eq] at CRM
        rw [memR_eq] at CF CM
        obtain ⟨f1, f2, f3, hf⟩ : ∃ f1 f2 f3, mN (fldF (builtL ++ l) c nm d) = f1 ∧ mS (fldF (builtL ++ l) c nm d) = f2 ∧ (fldF (builtL ++ l) c nm d).isSome = f3 := ⟨_, _, _, rfl, rfl, rfl⟩
        obtain ⟨m1, m2, m3, hm⟩ : ∃ f1 f2 f3, mN (mthF (builtL ++ l) c nm d) = f1 ∧ mS (mthF (builtL ++ l) c nm d) = f2 ∧ (mthF (builtL ++ l) c nm d).isSome = f3 := ⟨_, _, _, rfl, rfl, rfl⟩
        rw [hf.1, hf.2.1, hf.2.2] at CF CRF
        rw [hm.1, hm.2.1, hm.2.2] at CM CRM
        clear hf hm hl0 hl1 hl2
        go_wp2_with fail
        refine CF.out.mono ?_
        rintro e w5 ⟨rfl, hb⟩
        have B5 := hb.alloc hb.size (.cells #[.string (strB f1), .bool f2] 32)
        have k5 := Blk.new w5 32 #[.string (strB f1), .bool f2]
        clear hb CF
        go_wp2_with fail
        refine (CRF.out _ B5).mono ?_
        rintro e w6 ⟨rfl, hb⟩
        have K5 := Lib.hid (k5.of (hb.block _ k5.lt))
        have B6 := B5.trans (hb.mono B5.size)
        have k6 := Blk.new w6 32 #[.string (strB f1), .bool f2]
        have B6a := B6.alloc B6.size (.cells #[.string (strB f1), .bool f2] 32)
        generalize w5.heap.size = g5 at *
        clear hb CRF k5 B5
        go_wp2_with fail
        refine (CM.out _ B6a).mono ?_
        rintro e w7 ⟨rfl, hb⟩
        have hs6 : Below w6.heap.size w6 w7 := ((Below.refl _ w6).alloc (Nat.le_refl _) _).trans (hb.mono (by simp))
        have K5b := Lib.hid (K5.out.of (hs6.block _ K5.out.lt))
        have K6 := Lib.hid (k6.of (hb.block _ k6.lt))
        have B7 := B6a.trans (hb.mono B6a.size)
        have k7 := Blk.new w7 32 #[.string (strB m1), .bool m2]
        have B7a := B7.alloc B7.size (.cells #[.string (strB m1), .bool m2] 32)
        generalize w6.heap.size = g6 at *
        clear hb CM k6 B6 B6a K5 hs6
        go_wp2_with fail
        refine (CRM.out _ B7a).mono ?_
        rintro e w8 ⟨rfl, hb⟩
        have hs7 : Below w7.heap.size w7 w8 := ((Below.refl _ w7).alloc (Nat.le_refl _) _).trans (hb.mono (by simp))
        have K5c := Lib.hid (K5b.out.of (hs7.block _ K5b.out.lt))
        have K6b := Lib.hid (K6.out.of (hs7.block _ K6.out.lt))
        have K7 := Lib.hid (k7.of (hb.block _ k7.lt))
        have B8 := B7a.trans (hb.mono B7a.size)
        have k8 := Blk.new w8 32 #[.string (strB m1), .bool m2]
        have B8a := B8.alloc B8.size (.cells #[.string (strB m1), .bool m2] 32)
        generalize w7.heap.size = g7 at *
        clear hb CRM k7 B7 B7a K5b K6 hs7
        go_wp2_with fail
        refine (rbuilt_any _).mono ?_
        rintro e w9 ⟨⟨wN, A9, c9, rs9, rfl, hbN, hbN9, hG9, hrep9⟩, hb⟩
        have hs8 : Below w8.heap.size w8 w9 := ((Below.refl _ w8).alloc (Nat.le_refl _) _).trans (hb.mono (by simp))
        have K5d := Lib.hid (K5c.out.of (hs8.block _ K5c.out.lt))
        have K6c := Lib.hid (K6b.out.of (hs8.block _ K6b.out.lt))
        have K7b := Lib.hid (K7.out.of (hs8.block _ K7.out.lt))
        have K8 := Lib.hid (k8.of (hb.block _ k8.lt))
        have B9 := B8a.trans (hb.mono B8a.size)
        have HR9 : Hid (RowS unW w9 Empty A9 9 c9 builtL) := Lib.hid (rowS_of_raw hG9.row hG9.isNil (hrep9.below hbN9))
        generalize w8.heap.size = g8 at *
        clear hb hbN hbN9 hG9 hrep9 k8 B8 B8a K5c K6b K7 hs8
        have CS := Lib.hid (rmeth_any builtL c nm d A9 9 c9 w9 HR9.out (by decide))
        rw [memR_eq] at CS
        obtain ⟨s1, s2, s3, hs⟩ : ∃ f1 f2 f3, mN (refMth builtL c nm d) = f1 ∧ mS (refMth builtL c nm d) = f2 ∧ (refMth builtL c nm d).isSome = f3 := ⟨_, _, _, rfl, rfl, rfl⟩
        rw [hs.1, hs.2.1, hs.2.2] at CS
        rw [hs.1] at CN
        clear hs
        go_wp2_with fail
        refine CS.out.mono ?_
        rintro e w10 ⟨rfl, hb⟩
        have B10 := B9.trans (hb.mono B9.size)
        have B10a := B10.alloc B10.size (.cells #[.string (strB s1), .bool s2] 32)
        have hs9 : Below w9.heap.size w9 (w10.alloc (.cells #[.string (strB s1), .bool s2] 32)) := hb.alloc hb.size _
        have k9 := Blk.new w10 32 #[.string (strB s1), .bool s2]
        have K5e := K5d.out.of (hs9.block _ K5d.out.lt)
        have K6d := K6c.out.of (hs9.block _ K6c.out.lt)
        have K7c := K7b.out.of (hs9.block _ K7b.out.lt)
        have K8b := K8.out.of (hs9.block _ K8.out.lt)
        clear hb B9 B10 hs9 K5d K6c K7b K8 CS HR9
        obtain ⟨W, hW⟩ : ∃ W, w10.alloc (.cells #[.string (strB s1), .bool s2] 32) = W := ⟨_, rfl⟩
        have HWW := Lib.hid hW
        rw [hW] at B10a k9 K5e K6d K7c K8b
        have HB4W := Lib.hid (HB4.out.trans (B10a.mono HB4.out.size))
        obtain ⟨g9, hg9⟩ : ∃ g, w10.heap.size = g := ⟨_, rfl⟩
        have HG9 := Lib.hid hg9
        rw [hg9] at k9
        have B10d : Below w4.heap.size w4 W.drew := B10a.trans ((((Only.refl Empty W).drew).below (Nat.le_refl _) (fun _ _ h => h)).mono B10a.size)
        have HDW : Hid (Below w.heap.size w W.drew) := Lib.hid (HB4.out.trans (B10d.mono HB4.out.size))
        have CN2 := Lib.hid (CN.out W.drew B10d)
        have KK : ∀ W', Below W.heap.size W W' → (W'.cell? ⟨g5, 0, none⟩ = some (.string (strB f1)) ∧ W'.cell? ⟨g5, 1, none⟩ = some (.bool f2)) ∧ (W'.cell? ⟨g6, 0, none⟩ = some (.string (strB f1)) ∧ W'.cell? ⟨g6, 1, none⟩ = some (.bool f2)) ∧ (W'.cell? ⟨g7, 0, none⟩ = some (.string (strB m1)) ∧ W'.cell? ⟨g7, 1, none⟩ = some (.bool m2)) ∧ (W'.cell? ⟨g8, 0, none⟩ = some (.string (strB m1)) ∧ W'.cell? ⟨g8, 1, none⟩ = some (.bool m2)) ∧ W'.cell? ⟨g9, 0, none⟩ = some (.string (strB s1)) := fun W' h =>
          ⟨⟨(K5e.of (h.block _ K5e.lt)).cell 0, (K5e.of (h.block _ K5e.lt)).cell 1⟩, ⟨(K6d.of (h.block _ K6d.lt)).cell 0, (K6d.of (h.block _ K6d.lt)).cell 1⟩, ⟨(K7c.of (h.block _ K7c.lt)).cell 0, (K7c.of (h.block _ K7c.lt)).cell 1⟩, ⟨(K8b.of (h.block _ K8b.lt)).cell 0, (K8b.of (h.block _ K8b.lt)).cell 1⟩, (k9.of (h.block _ k9.lt)).cell 0⟩
        have HSK := Lib.hid KK
        have HSW := Lib.hid (KK W (Below.refl _ _))
        clear K5e K6d K7c K8b k9 CN B10a B10d hW hg9 KK
        go_wp2_with fail
        rw [HWW.out, HG9.out]
        by_cases hs1 : s1 = []
        · subst hs1
          have CN3 : Hid (Calls Tryz.prog 19 #[.pointer (some ⟨p, 0, none⟩), .string (strB c), .string (strB nm), .string (strB d)] W.drew fun e w' => e = .returned (.bool false) ∧ Below W.drew.heap.size W.drew w') := CN2
          clear CN2
          refine wp_region_held_drew (S := fun W => (W.cell? ⟨g5, 0, none⟩ = some (.string (strB f1)) ∧ W.cell? ⟨g5, 1, none⟩ = some (.bool f2)) ∧ (W.cell? ⟨g6, 0, none⟩ = some (.string (strB f1)) ∧ W.cell? ⟨g6, 1, none⟩ = some (.bool f2)) ∧ (W.cell? ⟨g7, 0, none⟩ = some (.string (strB m1)) ∧ W.cell? ⟨g7, 1, none⟩ = some (.bool m2)) ∧ (W.cell? ⟨g8, 0, none⟩ = some (.string (strB m1)) ∧ W.cell? ⟨g8, 1, none⟩ = some (.bool m2)) ∧ W.cell? ⟨g9, 0, none⟩ = some (.string (strB []))) (by kernel_rfl) HSW.out (fun hHeld0 => ?_)
          refine take_yes 0 93 ?_ rfl rfl (by kernel_rfl) (by kernel_rfl) (by kernel_rfl) (fun _ _ _ h => h) (by kernel_rfl) ?_ (by assumption) ?_; rotate_left; (focus (intro w hSw; (try dsimp only at hSw); go_simp; all_goals first | with_reducible rfl)); simp only [Act.put, List.setIfInBounds_toArray, List.set_cons_zero, List.set_cons_succ]
          refine take_yes 1 94 ?_ rfl rfl (by kernel_rfl) (by kernel_rfl) (by kernel_rfl) (fun _ _ _ h => h) (by kernel_rfl) ?_ (by assumption) ?_; rotate_left; (focus (intro w hSw; (try dsimp only at hSw); go_simp; all_goals first | with_reducible rfl)); simp only [Act.put, List.setIfInBounds_toArray, List.set_cons_zero, List.set_cons_succ]
          refine take_yes 2 95 ?_ rfl rfl (by kernel_rfl) (by kernel_rfl) (by kernel_rfl) (fun _ _ _ h => h) (by kernel_rfl) ?_ (by assumption) ?_; rotate_left; (focus (intro w hSw; (try dsimp only at hSw); go_simp; all_goals first | with_reducible rfl)); simp only [Act.put, List.setIfInBounds_toArray, List.set_cons_zero, List.set_cons_succ]
          refine take_yes 3 96 ?_ rfl rfl (by kernel_rfl) (by kernel_rfl) (by kernel_rfl) (fun _ _ _ h => h) (by kernel_rfl) ?_ (by assumption) ?_; rotate_left; (focus (intro w hSw; (try dsimp only at hSw); go_simp; all_goals first | with_reducible rfl)); simp only [Act.put, List.setIfInBounds_toArray, List.set_cons_zero, List.set_cons_succ]
          refine take_yes 4 97 ?_ rfl rfl (by kernel_rfl) (by kernel_rfl) (by kernel_rfl) (fun _ _ _ h => h) (by kernel_rfl) ?_ (by assumption) ?_; rotate_left; (focus (intro w hSw; (try dsimp only at hSw); go_simp; all_goals first | with_reducible rfl)); simp only [Act.put, List.setIfInBounds_toArray, List.set_cons_zero, List.set_cons_succ]
          refine take_yes 5 98 ?_ rfl rfl (by kernel_rfl) (by kernel_rfl) (by kernel_rfl) (fun _ _ _ h => h) (by kernel_rfl) ?_ (by assumption) ?_; rotate_left; (focus (intro w hSw; (try dsimp only at hSw); go_simp; all_goals first | with_reducible rfl)); simp only [Act.put, List.setIfInBounds_toArray, List.set_cons_zero, List.set_cons_succ]
          refine take_yes 6 99 ?_ rfl rfl (by kernel_rfl) (by kernel_rfl) (by kernel_rfl) (fun _ _ _ h => h) (by kernel_rfl) ?_ (by assumption) ?_; rotate_left; (focus (intro w hSw; (try dsimp only at hSw); go_simp; all_goals first | with_reducible rfl)); simp only [Act.put, List.setIfInBounds_toArray, List.set_cons_zero, List.set_cons_succ]
          refine take_yes 7 100 ?_ rfl rfl (by kernel_rfl) (by kernel_rfl) (by kernel_rfl) (fun _ _ _ h => h) (by kernel_rfl) ?_ (by assumption) ?_; rotate_left; (focus (intro w hSw; (try dsimp only at hSw); go_simp; all_goals first | with_reducible rfl)); simp only [Act.put, List.setIfInBounds_toArray, List.set_cons_zero, List.set_cons_succ]
          refine take_yes 8 101 ?_ rfl rfl (by kernel_rfl) (by kernel_rfl) (by kernel_rfl) (fun _ _ _ h => h) (by kernel_rfl) ?_ (by assumption) ?_; rotate_left; (focus (intro w hSw; (try dsimp only at hSw); go_simp; all_goals first | with_reducible rfl)); simp only [Act.put, List.setIfInBounds_toArray, List.set_cons_zero, List.set_cons_succ]
          refine take_yes 9 102 ?_ rfl rfl (by kernel_rfl) (by kernel_rfl) (by kernel_rfl) (fun _ _ _ h => h) (by kernel_rfl) ?_ (by assumption) ?_; rotate_left; (focus (intro w hSw; (try dsimp only at hSw); go_simp; all_goals first | with_reducible rfl)); simp only [Act.put, List.setIfInBounds_toArray, List.set_cons_zero, List.set_cons_succ]
          refine take_yes 10 103 ?_ rfl rfl (by kernel_rfl) (by kernel_rfl) (by kernel_rfl) (fun _ _ _ h => h) (by kernel_rfl) ?_ (by assumption) ?_; rotate_left; (focus (intro w hSw; (try dsimp only at hSw); go_simp; all_goals first | with_reducible rfl)); simp only [Act.put, List.setIfInBounds_toArray, List.set_cons_zero, List.set_cons_succ]
          refine take_yes 11 104 ?_ rfl rfl (by kernel_rfl) (by kernel_rfl) (by kernel_rfl) (fun _ _ _ h => h) (by kernel_rfl) ?_ (by assumption) ?_; rotate_left; (focus (intro w hSw; (try dsimp only at hSw); go_simp; all_goals first | with_reducible rfl)); simp only [Act.put, List.setIfInBounds_toArray, List.set_cons_zero, List.set_cons_succ]
          refine take_yes 12 105 ?_ rfl rfl (by kernel_rfl) (by kernel_rfl) (by kernel_rfl) (fun _ _ _ h => h) (by kernel_rfl) ?_ (by assumption) ?_; rotate_left; (focus (intro w hSw; (try dsimp only at hSw); go_simp; all_goals first | with_reducible rfl)); simp only [Act.put, List.setIfInBounds_toArray, List.set_cons_zero, List.set_cons_succ]
          refine take_yes 13 106 ?_ rfl rfl (by kernel_rfl) (by kernel_rfl) (by kernel_rfl) (fun _ _ _ h => h) (by kernel_rfl) ?_ (by assumption) ?_; rotate_left; (focus (intro w hSw; (try dsimp only at hSw); go_simp; all_goals first | with_reducible rfl)); simp only [Act.put, List.setIfInBounds_toArray, List.set_cons_zero, List.set_cons_succ]
          refine take_yes 14 107 ?_ rfl rfl (by kernel_rfl) (by kernel_rfl) (by kernel_rfl) (fun _ _ _ h => h) (by kernel_rfl) ?_ (by assumption) ?_; rotate_left; (focus (intro w hSw; (try dsimp only at hSw); go_simp; all_goals first | with_reducible rfl)); simp only [Act.put, List.setIfInBounds_toArray, List.set_cons_zero, List.set_cons_succ]
          refine take_yes 15 108 ?_ rfl rfl (by kernel_rfl) (by kernel_rfl) (by kernel_rfl) (fun _ _ _ h => h) (by kernel_rfl) ?_ (by assumption) ?_; rotate_left; (focus (intro w hSw; (try dsimp only at hSw); go_simp; all_goals first | with_reducible rfl)); simp only [Act.put, List.setIfInBounds_toArray, List.set_cons_zero, List.set_cons_succ]
          refine take_yes 16 109 ?_ rfl rfl (by kernel_rfl) (by kernel_rfl) (by kernel_rfl) (fun _ _ _ h => h) (by kernel_rfl) ?_ (by assumption) ?_; rotate_left; (focus (intro w hSw; (try dsimp only at hSw); go_simp; all_goals first | with_reducible rfl)); simp only [Act.put, List.setIfInBounds_toArray, List.set_cons_zero, List.set_cons_succ]
          refine take_yes 17 110 ?_ rfl rfl (by kernel_rfl) (by kernel_rfl) (by kernel_rfl) (fun _ _ _ h => h) (by kernel_rfl) ?_ (by assumption) ?_; rotate_left; (focus (intro w hSw; (try dsimp only at hSw); go_simp; all_goals first | with_reducible rfl)); simp only [Act.put, List.setIfInBounds_toArray, List.set_cons_zero, List.set_cons_succ]
          refine take_yes 18 111 ?_ rfl rfl (by kernel_rfl) (by kernel_rfl) (by kernel_rfl) (fun _ _ _ h => h) (by kernel_rfl) ?_ (by assumption) ?_; rotate_left; (focus (intro w hSw; (try dsimp only at hSw); go_simp; all_goals first | with_reducible rfl)); simp only [Act.put, List.setIfInBounds_toArray, List.set_cons_zero, List.set_cons_succ]
          refine take_yes 19 112 ?_ rfl rfl (by kernel_rfl) (by kernel_rfl) (by kernel_rfl) (fun _ _ _ h => h) (by kernel_rfl) ?_ (by assumption) ?_; rotate_left; (focus (intro w hSw; (try dsimp only at hSw); go_simp; all_goals first | with_reducible rfl)); simp only [Act.put, List.setIfInBounds_toArray, List.set_cons_zero, List.set_cons_succ]
          refine take_yes 20 113 ?_ rfl rfl (by kernel_rfl) (by kernel_rfl) (by kernel_rfl) (fun _ _ _ h => h) (by kernel_rfl) ?_ (by assumption) ?_; rotate_left; (focus (intro w hSw; (try dsimp only at hSw); go_simp; all_goals first | with_reducible rfl)); simp only [Act.put, List.setIfInBounds_toArray, List.set_cons_zero, List.set_cons_succ]
          refine take_yes 21 114 ?_ rfl rfl (by kernel_rfl) (by kernel_rfl) (by kernel_rfl) (fun _ _ _ h => h) (by kernel_rfl) ?_ (by assumption) ?_; rotate_left; (focus (intro w hSw; (try dsimp only at hSw); go_simp; all_goals first | with_reducible rfl)); simp only [Act.put, List.setIfInBounds_toArray, List.set_cons_zero, List.set_cons_succ]
          refine take_yes 22 115 ?_ rfl rfl (by kernel_rfl) (by kernel_rfl) (by kernel_rfl) (fun _ _ _ h => h) (by kernel_rfl) ?_ (by assumption) ?_; rotate_left; (focus (intro w hSw; (try dsimp only at hSw); go_simp; all_goals first | with_reducible rfl)); simp only [Act.put, List.setIfInBounds_toArray, List.set_cons_zero, List.set_cons_succ]
          refine take_yes 23 116 ?_ rfl rfl (by kernel_rfl) (by kernel_rfl) (by kernel_rfl) (fun _ _ _ h => h) (by kernel_rfl) ?_ (by assumption) ?_; rotate_left; (focus (intro w hSw; (try dsimp only at hSw); go_simp; all_goals first | with_reducible rfl)); simp only [Act.put, List.setIfInBounds_toArray, List.set_cons_zero, List.set_cons_succ]
          refine take_yes 24 117 ?_ rfl rfl (by kernel_rfl) (by kernel_rfl) (by kernel_rfl) (fun _ _ _ h => h) (by kernel_rfl) ?_ (by assumption) ?_; rotate_left; (focus (intro w hSw; (try dsimp only at hSw); go_simp; all_goals first | with_reducible rfl)); simp only [Act.put, List.setIfInBounds_toArray, List.set_cons_zero, List.set_cons_succ]
          refine take_yes 25 118 ?_ rfl rfl (by kernel_rfl) (by kernel_rfl) (by kernel_rfl) (fun _ _ _ h => h) (by kernel_rfl) ?_ (by assumption) ?_; rotate_left; (focus (intro w hSw; (try dsimp only at hSw); go_simp; all_goals first | with_reducible rfl)); simp only [Act.put, List.setIfInBounds_toArray, List.set_cons_zero, List.set_cons_succ]
          refine take_yes 26 119 ?_ rfl rfl (by kernel_rfl) (by kernel_rfl) (by kernel_rfl) (fun _ _ _ h => h) (by kernel_rfl) ?_ (by assumption) ?_; rotate_left; (focus (intro w hSw; (try dsimp only at hSw); go_simp; all_goals first | with_reducible rfl)); simp only [Act.put, List.setIfInBounds_toArray, List.set_cons_zero, List.set_cons_succ]
          refine take_yes 28 121 ?_ rfl rfl (by kernel_rfl) (by kernel_rfl) (by kernel_rfl) (fun _ _ _ h => h) (by kernel_rfl) ?_ (by assumption) ?_; rotate_left; (focus (intro w hSw; (try dsimp only at hSw); go_simp; all_goals first | with_reducible rfl)); simp only [Act.put, List.setIfInBounds_toArray, List.set_cons_zero, List.set_cons_succ]
          refine take_yes 29 122 ?_ rfl rfl (by kernel_rfl) (by kernel_rfl) (by kernel_rfl) (fun _ _ _ h => h) (by kernel_rfl) ?_ (by assumption) ?_; rotate_left; (focus (intro w hSw; (try dsimp only at hSw); go_simp; all_goals first | with_reducible rfl)); simp only [Act.put, List.setIfInBounds_toArray, List.set_cons_zero, List.set_cons_succ]
          refine take_yes 30 123 ?_ rfl rfl (by kernel_rfl) (by kernel_rfl) (by kernel_rfl) (fun _ _ _ h => h) (by kernel_rfl) ?_ (by assumption) ?_; rotate_left; (focus (intro w hSw; (try dsimp only at hSw); go_simp; all_goals first | with_reducible rfl)); simp only [Act.put, List.setIfInBounds_toArray, List.set_cons_zero, List.set_cons_succ]
          refine wpAnyH_ready (rs := [27]) (by kernel_rfl) (by simp) ?_
          refine AllReadyH.cons rfl (fun K hK => ?_) AllReadyH.nil
          go_simp
          go_at_call 19; (with_reducible refine CN3.out.mono ?_); rintro e11 w11 ⟨rfl, hb11⟩
          have hB11 : Below W.heap.size W w11 := (((Only.refl Empty W).drew).below (Nat.le_refl _) (fun _ _ h => h)).trans hb11
          have hS11 := HSK.out w11 hB11
          have HE := Lib.hid (HB4W.out.trans (hB11.mono HB4W.out.size))
          clear hb11 hB11
          go_wp2_with fail
          refine hK.out _ _ (hS11) (fun _ => ?_)
          clear hK K
          try simp only [Act.put, List.setIfInBounds_toArray, List.set_cons_zero, List.set_cons_succ]
          refine take_yes 31 124 ?_ rfl rfl (by kernel_rfl) (by kernel_rfl) (by kernel_rfl) (fun _ _ _ h => h) (by kernel_rfl) ?_ (by assumption) ?_; rotate_left; (focus (intro w hSw; (try dsimp only at hSw); go_simp; all_goals first | with_reducible rfl)); simp only [Act.put, List.setIfInBounds_toArray, List.set_cons_zero, List.set_cons_succ]
          refine take_yes 32 125 ?_ rfl rfl (by kernel_rfl) (by kernel_rfl) (by kernel_rfl) (fun _ _ _ h => h) (by kernel_rfl) ?_ (by assumption) ?_; rotate_left; (focus (intro w hSw; (try dsimp only at hSw); go_simp; all_goals first | with_reducible rfl)); simp only [Act.put, List.setIfInBounds_toArray, List.set_cons_zero, List.set_cons_succ]
          refine wpAnyH_ready (rs := [33]) (by kernel_rfl) (by simp) ?_
          refine AllReadyH.cons rfl (fun K hK => ?_) AllReadyH.nil
          go_simp
          refine hK.out _ _ (hS11) (fun _ => ?_)
          clear hK K
          try simp only [Act.put, List.setIfInBounds_toArray, List.set_cons_zero, List.set_cons_succ]
          refine wpAnyH_done (by kernel_rfl) ?_ _
          clear hS11 hHeld0
          go_wp2
          go_ret
          exact ⟨by (show Ending.returned (.bool (strB []).toList.isEmpty) = _); rw [strB_toList]; rfl, HE.out⟩
        · have he : (!s1.isEmpty) = true := by cases s1 with | nil => exact absurd rfl hs1 | cons x r => rfl
          rw [he] at CN2
          have q1 : ¬ (strB s1).toList = [] := by rw [strB_toList]; exact hs1
          have q2 : ((strB s1).toList == []) = false := by simpa using q1
          have q3 : ((strB s1).toList.isEmpty) = false := by rw [strB_toList]; simpa using hs1
          have CN3 := CN2
          clear hs1 he CN2
          refine wp_region_held_drew (S := fun W => (W.cell? ⟨g5, 0, none⟩ = some (.string (strB f1)) ∧ W.cell? ⟨g5, 1, none⟩ = some (.bool f2)) ∧ (W.cell? ⟨g6, 0, none⟩ = some (.string (strB f1)) ∧ W.cell? ⟨g6, 1, none⟩ = some (.bool f2)) ∧ (W.cell? ⟨g7, 0, none⟩ = some (.string (strB m1)) ∧ W.cell? ⟨g7, 1, none⟩ = some (.bool m2)) ∧ (W.cell? ⟨g8, 0, none⟩ = some (.string (strB m1)) ∧ W.cell? ⟨g8, 1, none⟩ = some (.bool m2)) ∧ W.cell? ⟨g9, 0, none⟩ = some (.string (strB s1))) (by kernel_rfl) HSW.out (fun hHeld0 => ?_)
          refine take_yes 0 93 ?_ rfl rfl (by kernel_rfl) (by kernel_rfl) (by kernel_rfl) (fun _ _ _ h => h) (by kernel_rfl) ?_ (by assumption) ?_; rotate_left; (focus (intro w hSw; (try dsimp only at hSw); go_simp; all_goals first | with_reducible rfl)); simp only [Act.put, List.setIfInBounds_toArray, List.set_cons_zero, List.set_cons_succ]
          refine take_yes 1 94 ?_ rfl rfl (by kernel_rfl) (by kernel_rfl) (by kernel_rfl) (fun _ _ _ h => h) (by kernel_rfl) ?_ (by assumption) ?_; rotate_left; (focus (intro w hSw; (try dsimp only at hSw); go_simp; all_goals first | with_reducible rfl)); simp only [Act.put, List.setIfInBounds_toArray, List.set_cons_zero, List.set_cons_succ]
          refine take_yes 2 95 ?_ rfl rfl (by kernel_rfl) (by kernel_rfl) (by kernel_rfl) (fun _ _ _ h => h) (by kernel_rfl) ?_ (by assumption) ?_; rotate_left; (focus (intro w hSw; (try dsimp only at hSw); go_simp; all_goals first | with_reducible rfl)); simp only [Act.put, List.setIfInBounds_toArray, List.set_cons_zero, List.set_cons_succ]
          refine take_yes 3 96 ?_ rfl rfl (by kernel_rfl) (by kernel_rfl) (by kernel_rfl) (fun _ _ _ h => h) (by kernel_rfl) ?_ (by assumption) ?_; rotate_left; (focus (intro w hSw; (try dsimp only at hSw); go_simp; all_goals first | with_reducible rfl)); simp only [Act.put, List.setIfInBounds_toArray, List.set_cons_zero, List.set_cons_succ]
          refine take_yes 4 97 ?_ rfl rfl (by kernel_rfl) (by kernel_rfl) (by kernel_rfl) (fun _ _ _ h => h) (by kernel_rfl) ?_ (by assumption) ?_; rotate_left; (focus (intro w hSw; (try dsimp only at hSw); go_simp; all_goals first | with_reducible rfl)); simp only [Act.put, List.setIfInBounds_toArray, List.set_cons_zero, List.set_cons_succ]
          refine take_yes 5 98 ?_ rfl rfl (by kernel_rfl) (by kernel_rfl) (by kernel_rfl) (fun _ _ _ h => h) (by kernel_rfl) ?_ (by assumption) ?_; rotate_left; (focus (intro w hSw; (try dsimp only at hSw); go_simp; all_goals first | with_reducible rfl)); simp only [Act.put, List.setIfInBounds_toArray, List.set_cons_zero, List.set_cons_succ]
          refine take_yes 6 99 ?_ rfl rfl (by kernel_rfl) (by kernel_rfl) (by kernel_rfl) (fun _ _ _ h => h) (by kernel_rfl) ?_ (by assumption) ?_; rotate_left; (focus (intro w hSw; (try dsimp only at hSw); go_simp; all_goals first | with_reducible rfl)); simp only [Act.put, List.setIfInBounds_toArray, List.set_cons_zero, List.set_cons_succ]
          refine take_yes 7 100 ?_ rfl rfl (by kernel_rfl) (by kernel_rfl) (by kernel_rfl) (fun _ _ _ h => h) (by kernel_rfl) ?_ (by assumption) ?_; rotate_left; (focus (intro w hSw; (try dsimp only at hSw); go_simp; all_goals first | with_reducible rfl)); simp only [Act.put, List.setIfInBounds_toArray, List.set_cons_zero, List.set_cons_succ]
          refine take_yes 8 101 ?_ rfl rfl (by kernel_rfl) (by kernel_rfl) (by kernel_rfl) (fun _ _ _ h => h) (by kernel_rfl) ?_ (by assumption) ?_; rotate_left; (focus (intro w hSw; (try dsimp only at hSw); go_simp; all_goals first | with_reducible rfl)); simp only [Act.put, List.setIfInBounds_toArray, List.set_cons_zero, List.set_cons_succ]
          refine take_yes 9 102 ?_ rfl rfl (by kernel_rfl) (by kernel_rfl) (by kernel_rfl) (fun _ _ _ h => h) (by kernel_rfl) ?_ (by assumption) ?_; rotate_left; (focus (intro w hSw; (try dsimp only at hSw); go_simp; all_goals first | with_reducible rfl)); simp only [Act.put, List.setIfInBounds_toArray, List.set_cons_zero, List.set_cons_succ]
          refine take_yes 10 103 ?_ rfl rfl (by kernel_rfl) (by kernel_rfl) (by kernel_rfl) (fun _ _ _ h => h) (by kernel_rfl) ?_ (by assumption) ?_; rotate_left; (focus (intro w hSw; (try dsimp only at hSw); go_simp; all_goals first | with_reducible rfl)); simp only [Act.put, List.setIfInBounds_toArray, List.set_cons_zero, List.set_cons_succ]
          refine take_yes 11 104 ?_ rfl rfl (by kernel_rfl) (by kernel_rfl) (by kernel_rfl) (fun _ _ _ h => h) (by kernel_rfl) ?_ (by assumption) ?_; rotate_left; (focus (intro w hSw; (try dsimp only at hSw); go_simp; all_goals first | with_reducible rfl)); simp only [Act.put, List.setIfInBounds_toArray, List.set_cons_zero, List.set_cons_succ]
          refine take_yes 12 105 ?_ rfl rfl (by kernel_rfl) (by kernel_rfl) (by kernel_rfl) (fun _ _ _ h => h) (by kernel_rfl) ?_ (by assumption) ?_; rotate_left; (focus (intro w hSw; (try dsimp only at hSw); go_simp; all_goals first | with_reducible rfl)); simp only [Act.put, List.setIfInBounds_toArray, List.set_cons_zero, List.set_cons_succ]
          refine take_yes 13 106 ?_ rfl rfl (by kernel_rfl) (by kernel_rfl) (by kernel_rfl) (fun _ _ _ h => h) (by kernel_rfl) ?_ (by assumption) ?_; rotate_left; (focus (intro w hSw; (try dsimp only at hSw); go_simp; all_goals first | with_reducible rfl)); simp only [Act.put, List.setIfInBounds_toArray, List.set_cons_zero, List.set_cons_succ]
          refine take_yes 14 107 ?_ rfl rfl (by kernel_rfl) (by kernel_rfl) (by kernel_rfl) (fun _ _ _ h => h) (by kernel_rfl) ?_ (by assumption) ?_; rotate_left; (focus (intro w hSw; (try dsimp only at hSw); go_simp; all_goals first | with_reducible rfl)); simp only [Act.put, List.setIfInBounds_toArray, List.set_cons_zero, List.set_cons_succ]
          refine take_yes 15 108 ?_ rfl rfl (by kernel_rfl) (by kernel_rfl) (by kernel_rfl) (fun _ _ _ h => h) (by kernel_rfl) ?_ (by assumption) ?_; rotate_left; (focus (intro w hSw; (try dsimp only at hSw); go_simp; all_goals first | with_reducible rfl)); simp only [Act.put, List.setIfInBounds_toArray, List.set_cons_zero, List.set_cons_succ]
          refine take_yes 16 109 ?_ rfl rfl (by kernel_rfl) (by kernel_rfl) (by kernel_rfl) (fun _ _ _ h => h) (by kernel_rfl) ?_ (by assumption) ?_; rotate_left; (focus (intro w hSw; (try dsimp only at hSw); go_simp; all_goals first | with_reducible rfl)); simp only [Act.put, List.setIfInBounds_toArray, List.set_cons_zero, List.set_cons_succ]
          refine take_yes 17 110 ?_ rfl rfl (by kernel_rfl) (by kernel_rfl) (by kernel_rfl) (fun _ _ _ h => h) (by kernel_rfl) ?_ (by assumption) ?_; rotate_left; (focus (intro w hSw; (try dsimp only at hSw); go_simp; all_goals first | with_reducible rfl)); simp only [Act.put, List.setIfInBounds_toArray, List.set_cons_zero, List.set_cons_succ]
          refine take_yes 18 111 ?_ rfl rfl (by kernel_rfl) (by kernel_rfl) (by kernel_rfl) (fun _ _ _ h => h) (by kernel_rfl) ?_ (by assumption) ?_; rotate_left; (focus (intro w hSw; (try dsimp only at hSw); go_simp; all_goals first | with_reducible rfl)); simp only [Act.put, List.setIfInBounds_toArray, List.set_cons_zero, List.set_cons_succ]
          refine take_yes 19 112 ?_ rfl rfl (by kernel_rfl) (by kernel_rfl) (by kernel_rfl) (fun _ _ _ h => h) (by kernel_rfl) ?_ (by assumption) ?_; rotate_left; (focus (intro w hSw; (try dsimp only at hSw); go_simp; all_goals first | with_reducible rfl)); simp only [Act.put, List.setIfInBounds_toArray, List.set_cons_zero, List.set_cons_succ]
          refine take_yes 20 113 ?_ rfl rfl (by kernel_rfl) (by kernel_rfl) (by kernel_rfl) (fun _ _ _ h => h) (by kernel_rfl) ?_ (by assumption) ?_; rotate_left; (focus (intro w hSw; (try dsimp only at hSw); go_simp; all_goals first | with_reducible rfl)); simp only [Act.put, List.setIfInBounds_toArray, List.set_cons_zero, List.set_cons_succ]
          refine take_yes 21 114 ?_ rfl rfl (by kernel_rfl) (by kernel_rfl) (by kernel_rfl) (fun _ _ _ h => h) (by kernel_rfl) ?_ (by assumption) ?_; rotate_left; (focus (intro w hSw; (try dsimp only at hSw); go_simp; all_goals first | with_reducible rfl)); simp only [Act.put, List.setIfInBounds_toArray, List.set_cons_zero, List.set_cons_succ]
          refine take_yes 22 115 ?_ rfl rfl (by kernel_rfl) (by kernel_rfl) (by kernel_rfl) (fun _ _ _ h => h) (by kernel_rfl) ?_ (by assumption) ?_; rotate_left; (focus (intro w hSw; (try dsimp only at hSw); go_simp; all_goals first | with_reducible rfl)); simp only [Act.put, List.setIfInBounds_toArray, List.set_cons_zero, List.set_cons_succ]
          refine take_yes 23 116 ?_ rfl rfl (by kernel_rfl) (by kernel_rfl) (by kernel_rfl) (fun _ _ _ h => h) (by kernel_rfl) ?_ (by assumption) ?_; rotate_left; (focus (intro w hSw; (try dsimp only at hSw); go_simp; all_goals first | with_reducible rfl)); simp only [Act.put, List.setIfInBounds_toArray, List.set_cons_zero, List.set_cons_succ]
          refine take_yes 24 117 ?_ rfl rfl (by kernel_rfl) (by kernel_rfl) (by kernel_rfl) (fun _ _ _ h => h) (by kernel_rfl) ?_ (by assumption) ?_; rotate_left; (focus (intro w hSw; (try dsimp only at hSw); go_simp; all_goals first | with_reducible rfl)); simp only [Act.put, List.setIfInBounds_toArray, List.set_cons_zero, List.set_cons_succ]
          refine take_yes 25 118 ?_ rfl rfl (by kernel_rfl) (by kernel_rfl) (by kernel_rfl) (fun _ _ _ h => h) (by kernel_rfl) ?_ (by assumption) ?_; rotate_left; (focus (intro w hSw; (try dsimp only at hSw); go_simp; all_goals first | with_reducible rfl)); simp only [Act.put, List.setIfInBounds_toArray, List.set_cons_zero, List.set_cons_succ]
          refine take_yes 26 119 ?_ rfl rfl (by kernel_rfl) (by kernel_rfl) (by kernel_rfl) (fun _ _ _ h => h) (by kernel_rfl) ?_ (by assumption) ?_; rotate_left; (focus (intro w hSw; (try dsimp only at hSw); go_simp; all_goals first | with_reducible rfl)); simp only [Act.put, List.setIfInBounds_toArray, List.set_cons_zero, List.set_cons_succ]
          refine take_yes 28 121 ?_ rfl rfl (by kernel_rfl) (by kernel_rfl) (by kernel_rfl) (fun _ _ _ h => h) (by kernel_rfl) ?_ (by assumption) ?_; rotate_left; (focus (intro w hSw; (try dsimp only at hSw); go_simp; all_goals first | with_reducible rfl)); simp only [Act.put, List.setIfInBounds_toArray, List.set_cons_zero, List.set_cons_succ]
          refine take_yes 29 122 ?_ rfl rfl (by kernel_rfl) (by kernel_rfl) (by kernel_rfl) (fun _ _ _ h => h) (by kernel_rfl) ?_ (by assumption) ?_; rotate_left; (focus (intro w hSw; (try dsimp only at hSw); go_simp; all_goals first | with_reducible rfl)); simp only [Act.put, List.setIfInBounds_toArray, List.set_cons_zero, List.set_cons_succ]
          refine take_yes 30 123 ?_ rfl rfl (by kernel_rfl) (by kernel_rfl) (by kernel_rfl) (fun _ _ _ h => h) (by kernel_rfl) ?_ (by assumption) ?_; rotate_left; (focus (intro w hSw; (try dsimp only at hSw); go_simp; all_goals first | with_reducible rfl)); simp only [Act.put, List.setIfInBounds_toArray, List.set_cons_zero, List.set_cons_succ]
          refine wpAnyH_ready (rs := [27]) (by kernel_rfl) (by simp) ?_
          refine AllReadyH.cons rfl (fun K hK => ?_) AllReadyH.nil
          go_simp
          go_at_call 19; (with_reducible refine CN3.out.mono ?_); rintro e11 w11 ⟨rfl, hb11⟩
          have hB11 : Below W.heap.size W w11 := (((Only.refl Empty W).drew).below (Nat.le_refl _) (fun _ _ h => h)).trans hb11
          have hS11 := HSK.out w11 hB11
          have HE := Lib.hid (HB4W.out.trans (hB11.mono HB4W.out.size))
          clear hb11 hB11
          go_wp2_with fail
          refine hK.out _ _ (hS11) (fun _ => ?_)
          clear hK K
          try simp only [Act.put, List.setIfInBounds_toArray, List.set_cons_zero, List.set_cons_succ]
          refine take_yes 31 124 ?_ rfl rfl (by kernel_rfl) (by kernel_rfl) (by kernel_rfl) (fun _ _ _ h => h) (by kernel_rfl) ?_ (by assumption) ?_; rotate_left; (focus (intro w hSw; (try dsimp only at hSw); go_simp; all_goals first | with_reducible rfl)); simp only [Act.put, List.setIfInBounds_toArray, List.set_cons_zero, List.set_cons_succ]
          refine take_yes 32 125 ?_ rfl rfl (by kernel_rfl) (by kernel_rfl) (by kernel_rfl) (fun _ _ _ h => h) (by kernel_rfl) ?_ (by assumption) ?_; rotate_left; (focus (intro w hSw; (try dsimp only at hSw); go_simp; all_goals first | with_reducible rfl)); simp only [Act.put, List.setIfInBounds_toArray, List.set_cons_zero, List.set_cons_succ]
          refine wpAnyH_ready (rs := [33]) (by kernel_rfl) (by simp) ?_
          refine AllReadyH.cons rfl (fun K hK => ?_) AllReadyH.nil
          go_simp
          refine hK.out _ _ (hS11) (fun _ => ?_)
          clear hK K
          try simp only [Act.put, List.setIfInBounds_toArray, List.set_cons_zero, List.set_cons_succ]
          refine wpAnyH_done (by kernel_rfl) ?_ _
          clear hS11 hHeld0
          go_wp2
          go_ret
          exact ⟨rfl, HE.out⟩

end Go.Proofs.YtblnhobbnkcbeaaGreatDoor
