/- The walk over the document's Few (layer 14). -/
import Derived.Test.YtendpbklcgiafaaGreatZaz
import Derived.Test.YtendpbklcgiafaaGreatZad
import Derived.Test.YtendpbklcgiafaaGreatZan
namespace Go.Proofs.YtendpbklcgiafaaGreat
set_option maxRecDepth 100000
open Go.RowKit

def wMap (y : MapD) : Nat := 10 + y.locals.length + y.stack.length
def wBody (d : BodyD) : Nat := d.code.length + 10 * d.traps.length + (d.maps.map wMap).sum
def Modest (f : FileD) : Prop := ∀ m ∈ f.meths, BodySm m.body
/-- What is known where Few says yes. -/
structure FewOk (f : FileD) : Prop where
  pool : f.pool.length ≤ 120
  fields : f.fields.length ≤ 70
  meths : f.meths.length ≤ 70
  texts : ∀ c ∈ f.pool, c.s.length ≤ 300
  sum : Modest f → (f.meths.map (fun m => wBody m.body)).sum ≤ 4000
def FewP (f : FileD) (w : World) (e : Ending) (w' : World) : Prop := (∃ b, e = .returned (.bool b) ∧ (b = true → FewOk f)) ∧ Below w.heap.size w w'
theorem sum_take {α : Type} (g : α → Nat) (l : List α) (k : Nat) (x : α) (h : l[k]? = some x) : ((l.take (k + 1)).map g).sum = ((l.take k).map g).sum + g x := by
  rw [List.take_add_one, h, List.map_append, List.sum_append]
  simp

set_option maxHeartbeats 8000000 in
theorem r14Few_any (A : Option Addr) (n cap : Nat) (Af : Option Addr) (nf cf : Nat) (Am : Option Addr) (nm cm : Nat) (x0 y0 : Int) (f : FileD) (w : World) (hI : FileIn w A n cap Af nf cf Am nm cm f) :
    Calls Tryz.prog 7 #[.agg #[.slice A n cap, .int .i64 x0, .int .i64 y0, .slice Af nf cf, .slice Am nm cm]] w (FewP f w) := by
  obtain ⟨W0, hW0⟩ : ∃ W0, W0 = w.alloc (.cells #[.slice A n cap, .int .i64 x0, .int .i64 y0, .slice Af nf cf, .slice Am nm cm] 26) := ⟨_, rfl⟩
  have hb0 : Below w.heap.size w W0 := by rw [hW0]; exact (Below.refl _ _).alloc (Nat.le_refl _) _
  have hK : Blk W0 w.heap.size 26 #[.slice A n cap, .int .i64 x0, .int .i64 y0, .slice Af nf cf, .slice Am nm cm] := by rw [hW0]; exact Blk.new _ _ _
  have HI := Lib.hid (hI.below hb0)
  have Hpl := Lib.hid hI.pool.1
  have Hfl := Lib.hid hI.fields.1
  have Hml := Lib.hid hI.meths.1
  have hcap : cap ≤ 9223372036854775807 ∧ cf ≤ 9223372036854775807 ∧ cm ≤ 9223372036854775807 ∧ n ≤ cap ∧ nf ≤ cf ∧ nm ≤ cm := ⟨by have h := hI.pool.2.2.1; unfold maxLen at h; omega, by have h := hI.fields.2.2.1; unfold maxLen at h; omega, by have h := hI.meths.2.2.1; unfold maxLen at h; omega, hI.pool.2.1, hI.fields.2.1, hI.meths.2.1⟩
  have HB0 := Lib.hid hb0
  have HK := Lib.hid hK
  have HW0 := Lib.hid hW0
  have a0 : W0.cell? ⟨w.heap.size, 0, none⟩ = some (.slice A n cap) := hK.cell 0
  have a3 : W0.cell? ⟨w.heap.size, 3, none⟩ = some (.slice Af nf cf) := hK.cell 3
  have a4 : W0.cell? ⟨w.heap.size, 4, none⟩ = some (.slice Am nm cm) := hK.cell 4
  clear hI hb0 hK hW0
  by_cases h1 : 120 < n
  · clear HK HI
    go_enter Tryz.func7, Tryz.ntmps7
    go_wp2_with fail
    rw [← HW0.out]
    go_wp2
    go_ret
    exact ⟨⟨false, rfl, fun h => by cases h⟩, HB0.out⟩
  by_cases h2 : 70 < nf
  · clear HK HI
    go_enter Tryz.func7, Tryz.ntmps7
    go_wp2_with fail
    rw [← HW0.out]
    go_wp2
    go_ret
    exact ⟨⟨false, rfl, fun h => by cases h⟩, HB0.out⟩
  by_cases h3 : 70 < nm
  · clear HK HI
    go_enter Tryz.func7, Tryz.ntmps7
    go_wp2_with fail
    rw [← HW0.out]
    go_wp2
    go_ret
    exact ⟨⟨false, rfl, fun h => by cases h⟩, HB0.out⟩
  go_enter Tryz.func7, Tryz.ntmps7
  go_wp2_with fail
  rw [← HW0.out]
  go_wp2
  go_loopw [29] (fun i wr => ∃ k : Nat, k ≤ n ∧ i = .int .i64 k ∧ Hid (Below W0.heap.size W0 wr) ∧ Hid (∀ (j : Nat) c, j < k → f.pool[j]? = some c → c.s.length ≤ 300)) (fun i _ => n - (intOf i).toNat)
  case atStart => exact ⟨0, Nat.zero_le _, rfl, Lib.hid (Below.refl _ _), Lib.hid (fun j t h => absurd h (by omega))⟩
  case round =>
    obtain ⟨k, hk, rfl, HB, HF⟩ := hrel
    by_cases hlt : k < n
    · obtain ⟨b, o, c, rfl, hc, hb, g0, g1, g2, g3, g4⟩ := pool_at (HI.out.below HB.out).pool hlt
      have HA : Hid (∀ cs : Array Value, Below w.heap.size w (wr.alloc (.cells cs 43)) ∧ Below W0.heap.size W0 (wr.alloc (.cells cs 43))) := Lib.hid (fun cs => ⟨(HB0.out.trans (HB.out.mono HB0.out.size)).alloc (Nat.le_trans HB0.out.size HB.out.size) _, HB.out.alloc HB.out.size _⟩)
      have Hc := Lib.hid hc
      have hsz : (strB c.s).size = c.s.length := strB_size c.s
      obtain ⟨tg, a, b', nn, s⟩ := c
      simp only at g0 g1 g2 g3 g4 hsz
      clear hc
      by_cases h3s : 300 < s.length
      · go_wp2
        go_ret
        exact ⟨⟨false, rfl, fun h => by cases h⟩, (HA.out _).1⟩
      · have HF1 : Hid (∀ (j : Nat) c, j < k + 1 → f.pool[j]? = some c → c.s.length ≤ 300) := Lib.hid (up_one HF.out Hc.out (by simp only; omega))
        go_wp2
        go_roundw
        case rel => exact ⟨k + 1, by omega, by go_num, Lib.hid (HA.out _).2, HF1⟩
        case measure => simp [intOf]; omega
    · obtain rfl : k = n := by omega
      have HTx : Hid (∀ c ∈ f.pool, c.s.length ≤ 300) := Lib.hid (fun c hc => by
        obtain ⟨j, hj, rfl⟩ := List.mem_iff_getElem.1 hc
        exact HF.out j _ (by rw [← Hpl.out]; exact hj) (List.getElem?_eq_getElem hj))
      have HKr := Lib.hid (HK.out.of (HB.out.block _ HK.out.lt))
      have r4 : wr.cell? ⟨w.heap.size, 4, none⟩ = some (.slice Am nm cm) := HKr.out.cell 4
      clear a0 a3 a4 HF
      go_wp2
      go_loopw [5, 41] (fun v i wr => ∃ (j : Nat) (L : Int), j ≤ nm ∧ v = .int .i64 L ∧ i = .int .i64 j ∧ Hid (Below W0.heap.size W0 wr) ∧ Hid (Modest f → L = 4000 - (((f.meths.take j).map (fun m => wBody m.body)).sum : Int) ∧ 0 ≤ L)) (fun _ i _ => nm - (intOf i).toNat)
      case atStart => exact ⟨0, 4000, Nat.zero_le _, rfl, rfl, HB, Lib.hid (fun _ => by simp)⟩
      case round =>
        clear r4 HKr HB
        obtain ⟨j, L, hj, rfl, rfl, HB, HL⟩ := hrel
        by_cases hlt2 : j < nm
        · obtain ⟨b, o, t, cs, rfl, hx, hb, hr, hcs⟩ := (HI.out.below HB.out).meths.at_ hlt2
          obtain ⟨Ac, nc, cc, At, nt, ct, An, ni, ci, rfl, hBI⟩ := meth_open hr
          have hmem := List.mem_of_getElem? hx
          have HS := Lib.hid (sum_take (fun m : MethD => wBody m.body) f.meths j t hx)
          have HMo : Hid (Modest f → BodySm t.body) := Lib.hid (fun h => h t hmem)
          have c0' : wr.cell? ⟨b, o + j * 8, none⟩ = some (.int .i64 t.flags) := hcs 0 _ rfl
          have c1' : wr.cell? ⟨b, o + j * 8 + 1, none⟩ = some (.int .i64 t.name) := hcs 1 _ rfl
          have c2' : wr.cell? ⟨b, o + j * 8 + 2, none⟩ = some (.int .i64 t.desc) := hcs 2 _ rfl
          have c3' : wr.cell? ⟨b, o + j * 8 + 3, none⟩ = some (.int .i64 t.body.stack) := hcs 3 _ rfl
          have c4' : wr.cell? ⟨b, o + j * 8 + 4, none⟩ = some (.int .i64 t.body.locals) := hcs 4 _ rfl
          have c5' : wr.cell? ⟨b, o + j * 8 + 5, none⟩ = some (.slice Ac nc cc) := hcs 5 _ rfl
          have c6' : wr.cell? ⟨b, o + j * 8 + 6, none⟩ = some (.slice At nt ct) := hcs 6 _ rfl
          have c7' : wr.cell? ⟨b, o + j * 8 + 7, none⟩ = some (.slice An ni ci) := hcs 7 _ rfl
          have hcap2 : ci ≤ 9223372036854775807 ∧ ni ≤ ci := ⟨by have h := hBI.maps.2.2.1; unfold maxLen at h; omega, hBI.maps.2.1⟩
          have HBI := Lib.hid hBI
          obtain ⟨W1, hW1⟩ : ∃ W1, W1 = wr.alloc (.cells #[.int .i64 t.flags, .int .i64 t.name, .int .i64 t.desc, .int .i64 t.body.stack, .int .i64 t.body.locals, .slice Ac nc cc, .slice At nt ct, .slice An ni ci] 47) := ⟨_, rfl⟩
          have hB1 : Below wr.heap.size wr W1 := by rw [hW1]; exact (Below.refl _ _).alloc (Nat.le_refl _) _
          have HB1 : Hid (Below W0.heap.size W0 W1) := Lib.hid (HB.out.trans (hB1.mono HB.out.size))
          have HR := Lib.hid (hBI.maps.below hB1)
          have HW1 := Lib.hid hW1
          have HX := Lib.hid hx
          clear hcs hx hmem hr hBI hW1 hB1
          obtain ⟨L1, hL1⟩ : ∃ L1, wrap64 (wrap64 (L - (nc : Int)) - wrap64 (10 * (nt : Int))) = L1 := ⟨_, rfl⟩
          have HL1 : Hid (Modest f → L1 = L - (nc : Int) - 10 * (nt : Int) ∧ -10000 ≤ L1 ∧ L1 ≤ 4000) := Lib.hid (fun h => by
            have h1 := HL.out h
            have h2 := HMo.out h
            have h3 := h2.code
            have h4 := h2.traps
            rw [HBI.out.code.1] at h3
            rw [HBI.out.traps.1] at h4
            have e1 : wrap64 (L - (nc : Int)) = L - (nc : Int) := by unfold wrap64; omega
            have e2 : wrap64 (10 * (nt : Int)) = 10 * (nt : Int) := by unfold wrap64; omega
            have e3 : wrap64 (L - (nc : Int) - 10 * (nt : Int)) = L - (nc : Int) - 10 * (nt : Int) := by unfold wrap64; omega
            rw [← hL1, e1, e2, e3]
            omega)
          go_wp2
          rw [← HW1.out]
          try rw [hL1]
          clear hL1
          go_loopw [5, 58] (fun v i wr => ∃ (g : Nat) (L2 : Int), g ≤ ni ∧ v = .int .i64 L2 ∧ i = .int .i64 g ∧ Hid (Below W1.heap.size W1 wr) ∧ Hid (Modest f → L2 = L1 - (((t.body.maps.take g).map wMap).sum : Int) ∧ -10000 ≤ L2 ∧ L2 ≤ 4000)) (fun _ i _ => ni - (intOf i).toNat)
          case atStart => exact ⟨0, L1, Nat.zero_le _, rfl, rfl, Lib.hid (Below.refl _ _), Lib.hid (fun h => by have := HL1.out h; simp; omega)⟩
          case round =>
            clear c0' c1' c2' c3' c4' c5' c6' c7'
            obtain ⟨g, L2, hg, rfl, rfl, HBg, HL2⟩ := hrel
            have HBw : Hid (Below w.heap.size w wr) := Lib.hid ((HB0.out.trans (HB1.out.mono HB0.out.size)).trans (HBg.out.mono (Nat.le_trans HB0.out.size HB1.out.size)))
            by_cases hlt3 : g < ni
            · obtain ⟨b3, o3, y, ds, rfl, hy, hb3, hry, hds⟩ := (HR.out.below HBg.out).at_ hlt3
              have HSy := Lib.hid (sum_take wMap t.body.maps g y hy)
              have HMy : Hid (Modest f → y.locals.length ≤ 64 ∧ y.stack.length ≤ 64) := Lib.hid (fun h => (HMo.out h).slots y (List.mem_of_getElem? hy))
              obtain ⟨ta, ts1, ts2⟩ := y
              obtain ⟨u1, u2, rfl, ⟨B1, n1, d1, e1, hr1⟩, ⟨B2, n2, d2, e2, hr2⟩⟩ := hry
              cases e1
              cases e2
              have hr1 : RowS slotT wr Empty B1 n1 d1 ts1 := hr1
              have hr2 : RowS slotT wr Empty B2 n2 d2 ts2 := hr2
              have m0 : wr.cell? ⟨b3, o3 + g * 3, none⟩ = some (.int .i64 ta) := hds 0 _ rfl
              have m1 : wr.cell? ⟨b3, o3 + g * 3 + 1, none⟩ = some (.slice B1 n1 d1) := hds 1 _ rfl
              have m2 : wr.cell? ⟨b3, o3 + g * 3 + 2, none⟩ = some (.slice B2 n2 d2) := hds 2 _ rfl
              have Hn1 := Lib.hid hr1.1
              have Hn2 := Lib.hid hr2.1
              obtain ⟨L3, hL3⟩ : ∃ L3, wrap64 (wrap64 (wrap64 (L2 - 10) - (n1 : Int)) - (n2 : Int)) = L3 := ⟨_, rfl⟩
              have HL3 : Hid (Modest f → L3 = L2 - 10 - (n1 : Int) - (n2 : Int)) := Lib.hid (fun h => by
                have h1 := HL2.out h
                have h2 := HMy.out h
                simp only at h2
                rw [Hn1.out, Hn2.out] at h2
                rw [← hL3]
                unfold wrap64
                omega)
              have HA : Hid (∀ cs : Array Value, Below w.heap.size w (wr.alloc (.cells cs 50)) ∧ Below W1.heap.size W1 (wr.alloc (.cells cs 50))) := Lib.hid (fun cs => ⟨HBw.out.alloc HBw.out.size _, HBg.out.alloc HBg.out.size _⟩)
              clear hy hds hr1 hr2
              by_cases hneg : L3 < 0
              · have hd : decide (L3 < 0) = true := decide_eq_true hneg
                go_wp2
                go_ret
                exact ⟨⟨false, rfl, fun h => by cases h⟩, (HA.out _).1⟩
              · have hd : decide (L3 < 0) = false := decide_eq_false hneg
                have HN : Hid (Modest f → L3 = L1 - (((t.body.maps.take (g + 1)).map wMap).sum : Int) ∧ -10000 ≤ L3 ∧ L3 ≤ 4000) := Lib.hid (fun h => by
                  have h1 := HL2.out h
                  have h2 := HL3.out h
                  have h3 := HSy.out
                  unfold wMap at h3
                  simp only at h3
                  rw [Hn1.out, Hn2.out] at h3
                  have h4 : (((t.body.maps.take (g + 1)).map wMap).sum : Int) = (((t.body.maps.take g).map wMap).sum : Int) + (10 + n1 + n2 : Nat) := by unfold wMap; omega
                  omega)
                go_wp2
                go_roundw
                case rel => exact ⟨g + 1, L3, by omega, by first | rfl | rw [hL3], by go_num, Lib.hid (HA.out _).2, HN⟩
                case measure => simp [intOf]; omega
            · obtain rfl : g = ni := by omega
              have hfull : t.body.maps.take g = t.body.maps := List.take_of_length_le (Nat.le_of_eq HBI.out.maps.1)
              rw [hfull] at HL2
              clear hfull
              by_cases hneg : L2 < 0
              · have hd : decide (L2 < 0) = true := decide_eq_true hneg
                go_wp2
                go_ret
                exact ⟨⟨false, rfl, fun h => by cases h⟩, HBw.out⟩
              · have hd : decide (L2 < 0) = false := decide_eq_false hneg
                have HN : Hid (Modest f → L2 = 4000 - (((f.meths.take (j + 1)).map (fun m => wBody m.body)).sum : Int) ∧ 0 ≤ L2) := Lib.hid (fun h => by
                  have h0 := HL.out h
                  have h1 := HL1.out h
                  have h2 := HL2.out h
                  have h3 := HS.out
                  have h4 : wBody t.body = nc + 10 * nt + (t.body.maps.map wMap).sum := by unfold wBody; rw [HBI.out.code.1, HBI.out.traps.1]
                  rw [h4] at h3
                  omega)
                go_wp2
                go_roundw
                case rel => exact ⟨j + 1, L2, by omega, rfl, by go_num, Lib.hid (HB1.out.trans (HBg.out.mono HB1.out.size)), HN⟩
                case measure => simp [intOf]; omega
        · obtain rfl : j = nm := by omega
          have HOk : Hid (FewOk f) := Lib.hid ⟨by rw [Hpl.out]; omega, by rw [Hfl.out]; omega, by rw [Hml.out]; omega, HTx.out, fun h => by
            have h1 := HL.out h
            rw [List.take_of_length_le (Nat.le_of_eq Hml.out)] at h1
            omega⟩
          go_wp2
          go_ret
          exact ⟨⟨true, rfl, fun _ => HOk.out⟩, HB0.out.trans (HB.out.mono HB0.out.size)⟩

end Go.Proofs.YtendpbklcgiafaaGreat

/- What follows from Few and Right (layer 14). Nothing of the program. -/
namespace Go.Proofs.YtendpbklcgiafaaGreat
set_option maxRecDepth 100000
open Go.RowKit

theorem slot_tag {C : List Cst} {x : SlotD} (h : slotOk C x = true) : tagOk x := by
  unfold slotOk at h
  unfold tagOk
  split at h
  · rename_i h7
    exact ⟨7, by rw [h7]; rfl⟩
  · rw [Bool.and_eq_true] at h
    have h := h.1
    simp only [Bool.or_eq_true, decide_eq_true_eq] at h
    rcases h with ((h | h) | h) | h
    · exact ⟨0, by rw [h]; rfl⟩
    · exact ⟨1, by rw [h]; rfl⟩
    · exact ⟨4, by rw [h]; rfl⟩
    · exact ⟨5, by rw [h]; rfl⟩
/-- A method that may be is small. -/
theorem meth_small {C : List Cst} {m : MethD} (h : methOk C m = true) : BodySm m.body := by
  unfold methOk methF at h
  simp only [Bool.and_eq_true, decide_eq_true_eq] at h
  obtain ⟨-, -, -, h4, h5, h6, -, h8, -⟩ := h
  have hm : ∀ y ∈ m.body.maps, slotsF C y.locals = true ∧ slotsF C y.stack = true := fun y hy => by
    have h := List.all_eq_true.1 h8 y hy
    unfold mapOk at h
    simp only [Bool.and_eq_true] at h
    exact h.2
  have hs : ∀ l : List SlotD, slotsF C l = true → l.length ≤ 64 ∧ ∀ x ∈ l, tagOk x := fun l h => by
    unfold slotsF at h
    simp only [Bool.and_eq_true, decide_eq_true_eq] at h
    exact ⟨h.2, fun x hx => slot_tag (List.all_eq_true.1 h.1 x hx)⟩
  exact ⟨h4.2, h5, h6, fun y hy => ⟨(hs _ (hm y hy).1).1, (hs _ (hm y hy).2).1⟩, fun y hy => ⟨(hs _ (hm y hy).1).2, (hs _ (hm y hy).2).2⟩⟩
theorem right_parts {f : FileD} (h : docRight f = true) : rightF f.pool = true ∧ f.fields.length ≤ 64 ∧ f.meths.length ≤ 64 ∧ Modest f := by
  unfold docRight at h
  simp only [Bool.and_eq_true, decide_eq_true_eq] at h
  obtain ⟨h1, -, -, h4, h5, -, h7⟩ := h
  exact ⟨h1, h4, h5, fun m hm => meth_small (List.all_eq_true.1 h7 m hm)⟩

theorem cB_len (c : Cst) : (cB c).length ≤ c.s.length + 20 := by
  unfold cB constB formF noFrm
  repeat' split
  all_goals simp [putL_len] <;> omega
theorem flat_sum {α : Type} (g : α → List UInt8) (wt : α → Nat) (a b : Nat) (l : List α) (h : ∀ x ∈ l, (g x).length ≤ a + b * wt x) : (l.flatMap g).length ≤ a * l.length + b * (l.map wt).sum := by
  induction l with
  | nil => simp
  | cons x l ih =>
    rw [List.flatMap_cons, List.length_append, List.length_cons, List.map_cons, List.sum_cons, Nat.mul_add, Nat.mul_add]
    have h1 := h x (List.mem_cons_self ..)
    have h2 := ih (fun y hy => h y (List.mem_cons_of_mem _ hy))
    omega
theorem poolB_small {l : List Cst} (h1 : l.length ≤ 120) (h2 : ∀ c ∈ l, c.s.length ≤ 300) : (poolB l).length ≤ 40000 := by
  unfold poolB
  rw [List.length_append, putL_len]
  have h := flat_len cB 320 l (fun c hc => by have := cB_len c; have := h2 c hc; omega)
  omega
theorem slotsB_wt (l : List SlotD) : (slotsB l).length ≤ 2 + 3 * l.length := by
  unfold slotsB
  have := flat_len slotB 3 l (fun x _ => slotB_len x)
  rw [List.length_append, u2B_len]
  simp only [List.length_cons, List.length_nil]
  omega
theorem mapB_wt (y : MapD) : (mapB y).length ≤ 0 + 3 * wMap y := by
  unfold mapB wMap
  have h1 := slotsB_wt y.locals
  have h2 := slotsB_wt y.stack
  rw [List.length_append, List.length_append, u2B_len]
  simp only [List.length_cons, List.length_nil]
  omega
theorem codeB_wt (C : List Cst) (d : BodyD) : (codeB C d).length ≤ 30 + 3 * wBody d := by
  have h1 := flat_len trapB 8 d.traps (fun x _ => trapB_len x)
  have h2 := flat_sum mapB wMap 0 3 d.maps (fun x _ => mapB_wt x)
  unfold codeB headB mapsB mapsX wBody
  split <;> simp only [List.length_append, u2B_len, putL_len, List.length_cons, List.length_nil] <;> omega
theorem methB_wt (C : List Cst) (m : MethD) : (methB C m).length ≤ 44 + 3 * wBody m.body := by
  have h := codeB_wt C m.body
  unfold methB
  simp only [List.length_append, u2B_len, putL_len, List.length_cons, List.length_nil]
  omega
/-- A class that isn't too great has few bytes. -/
theorem doc_small {f : FileD} (hf : FewOk f) (hr : docRight f = true) : (docB f).length ≤ 100000 := by
  have hs := hf.sum (right_parts hr).2.2.2
  have h1 := poolB_small hf.pool hf.texts
  have h2 := flat_len fieldB 8 f.fields (fun x _ => by unfold fieldB; rw [u2B_len]; simp)
  have h3 := flat_sum (methB f.pool) (fun m => wBody m.body) 44 3 f.meths (fun x _ => methB_wt f.pool x)
  have h4 := hf.fields
  have h5 := hf.meths
  unfold docB pre1 pre0
  simp only [List.length_append, u2B_len, putL_len, List.length_cons, List.length_nil]
  omega
theorem few_small {f : FileD} (hf : FewOk f) : SmallP f.pool := ⟨by have := hf.pool; omega, fun c hc => by have := hf.texts c hc; omega, by have := poolB_small hf.pool hf.texts; omega⟩
theorem few_file {f : FileD} (hf : FewOk f) : FileSm f := ⟨by have := hf.pool; omega, fun c hc => by have := hf.texts c hc; omega⟩

end Go.Proofs.YtendpbklcgiafaaGreat

/- A class that comes in as an argument, opened (layer 14). -/
namespace Go.Proofs.YtendpbklcgiafaaGreat
set_option maxRecDepth 100000
open Go.ChangeShapes Go.WideShapes Go.ChangeAt Go.RowKit Go.Joins

section
variable {H : Type} {enc : TypeId × Value → H} {W : World} {base : Nat}

/-- A slice in a cell: rows of what 'one' makes of so many cells. -/
theorem rowS_cell {α : Type} (R : RepT α) (a0 : α) (t e : TypeId) (ht : Tryz.prog.underlying t = some (.slice e)) (hK : Tryz.prog.cellsOf e = R.k) (h0K : 0 < R.k)
    (one : ∀ (fuel : Nat) (cs : List Value) (x : DataW H × List MemPlace), cs.length = R.k → DataW.trod enc Tryz.prog W 0 (fun _ => true) true fuel e cs = some x → ∃ y, R.rep W (fun q => W.heap.size ≤ q) cs y)
    {fuel : Nat} {v : Value} {x : DataW H × List MemPlace} (h : DataW.trod enc Tryz.prog W 0 (fun _ => true) true fuel t [v] = some x) :
    ∃ (A : Option Addr) (n cap : Nat) (l : List α), v = .slice A n cap ∧ RowS R W (fun q => W.heap.size ≤ q) A n cap l := by
  rcases Go.Deep.open_slice ht h with ⟨hcs, _⟩ | ⟨ad, n, cap, m, n', D, Pl, hcs, _, hl, hm, hmm, _, hi⟩
  · simp at hcs
    subst hcs
    exact ⟨none, 0, 0, [], rfl, rowS_nil _ _ _⟩
  · simp at hcs
    subst hcs
    simp at hmm
    subst hmm
    rw [hK] at hi
    rcases Nat.eq_zero_or_pos n with h0 | h0
    · subst h0
      exact ⟨_, 0, _, [], rfl, rfl, hl, hm, (fun h => by cases h), fun h => absurd h (by omega)⟩
    obtain ⟨b, o, sp⟩ := ad
    have hs : sp = none ∧ b < W.heap.size := by
      obtain ⟨cs', hc, _⟩ := hi 0 (by omega)
      obtain ⟨_, hl6, hat⟩ := World.cells?_some hc
      have h1 := hat 0 (by omega)
      rw [List.getElem?_eq_getElem (by omega)] at h1
      simp only [Nat.zero_mul, Addr.add, if_true] at h1
      refine ⟨?_, cell_lt h1⟩
      rcases sp with _ | x
      · rfl
      · exfalso
        unfold World.cell? at h1
        split at h1 <;> simp at h1
    obtain ⟨rfl, hb⟩ := hs
    have hall : ∀ i, ∃ y, i < n → ∃ cs, (∀ j v, cs[j]? = some v → W.cell? ⟨b, o + i * R.k + j, none⟩ = some v) ∧ R.rep W (fun q => W.heap.size ≤ q) cs y := fun i => by
      by_cases hin : i < n
      · obtain ⟨cs', hc, ht2⟩ := hi i (by omega)
        rw [add_off] at hc
        obtain ⟨_, hcl, hat⟩ := World.cells?_some hc
        obtain ⟨y, hy⟩ := one _ _ _ hcl ht2
        refine ⟨y, fun _ => ⟨cs', fun j v hv => ?_, hy⟩⟩
        have hj := (List.getElem?_eq_some_iff.1 hv).1
        have h1 := hat j (by omega)
        rw [add_off] at h1
        rw [h1]
        exact hv
      · exact ⟨a0, fun h => absurd h hin⟩
    refine ⟨_, n, _, (List.range n).map fun i => (hall i).choose, rfl, by simp, hl, hm, (fun h => by cases h), fun _ => ⟨b, o, rfl, hb, by omega, fun i y hy => ?_⟩⟩
    rw [List.getElem?_map] at hy
    have hin : i < n := by
      rcases Nat.lt_or_ge i n with h1 | h1
      · exact h1
      · rw [List.getElem?_eq_none (by simpa using h1)] at hy
        cases hy
    rw [List.getElem?_range hin] at hy
    simp only [Option.map_some, Option.some.injEq] at hy
    rw [← hy]
    exact (hall i).choose_spec hin

/-- A constant as it lies in a cell. -/
def cstT : RepT Cst where
  k := 5
  rep _ _ cs v := cs = v.cells ∧ v.ok
  len h := by rw [h.1]; rfl
  next h _ _ := h

abbrev TC (enc : TypeId × Value → H) (W : World) (t : TypeId) (fuel : Nat) (cs : List Value) (x : DataW H × List MemPlace) : Prop := DataW.trod enc Tryz.prog W 0 (fun _ => true) true fuel t cs = some x

theorem one_int {fuel : Nat} {c : Value} {x : DataW H × List MemPlace} (h : TC enc W 3 fuel [c] x) : ∃ k : Int, c = .int .i64 k := by
  obtain ⟨k, e, _, _⟩ := DataW.trod_int Tryz.underlying3 h
  simp at e
  exact ⟨k, e⟩
theorem one_cst {fuel : Nat} {cs : List Value} {x : DataW H × List MemPlace} (hl : cs.length = 5) (ht : TC enc W 43 fuel cs x) : ∃ y, cstT.rep W (fun q => W.heap.size ≤ q) cs y := by
  obtain ⟨ys, m, _, _, _, hyl, hg⟩ := DataW.trod_struct Tryz.underlying43 ht
  match cs, hl with
  | [c0, c1, c2, c3, c4], _ =>
    match ys, hyl with
    | [y0, y1, y2, y3, y4], _ =>
      have g0 : TC enc W 3 m [c0] y0 := hg 0 _ rfl
      have g1 : TC enc W 3 m [c1] y1 := hg 1 _ rfl
      have g2 : TC enc W 3 m [c2] y2 := hg 2 _ rfl
      have g3 : TC enc W 2 m [c3] y3 := hg 3 _ rfl
      have g4 : TC enc W 9 m [c4] y4 := hg 4 _ rfl
      obtain ⟨t, e0, _, w0⟩ := DataW.trod_int Tryz.underlying3 g0
      obtain ⟨a, e1, _, w1⟩ := DataW.trod_int Tryz.underlying3 g1
      obtain ⟨b', e2, _, w2⟩ := DataW.trod_int Tryz.underlying3 g2
      obtain ⟨n, e3, _, w3⟩ := DataW.trod_int Tryz.underlying2 g3
      obtain ⟨s, e4, _, w4⟩ := DataW.trod_string Tryz.underlying9 g4
      simp at e0 e1 e2 e3 e4
      subst e0 e1 e2 e3 e4
      exact ⟨⟨t, a, b', n, s.data.toList⟩, rfl, ⟨bd_i64 w0, bd_i64 w1, bd_i64 w2, bd_i64 w3, by simpa [maxLen] using w4⟩⟩
theorem one_slot {fuel : Nat} {cs : List Value} {x : DataW H × List MemPlace} (hl : cs.length = 2) (ht : TC enc W 116 fuel cs x) : ∃ y, slotT.rep W (fun q => W.heap.size ≤ q) cs y := by
  obtain ⟨ys, m, _, _, _, hyl, hg⟩ := DataW.trod_struct Tryz.underlying116 ht
  match cs, hl with
  | [c0, c1], _ =>
    match ys, hyl with
    | [y0, y1], _ =>
      obtain ⟨t, rfl⟩ := one_int (hg 0 _ rfl : TC enc W 3 m [c0] y0)
      obtain ⟨a, rfl⟩ := one_int (hg 1 _ rfl : TC enc W 3 m [c1] y1)
      exact ⟨⟨t, a⟩, rfl⟩
theorem one_field {fuel : Nat} {cs : List Value} {x : DataW H × List MemPlace} (hl : cs.length = 3) (ht : TC enc W 61 fuel cs x) : ∃ y, fieldT.rep W (fun q => W.heap.size ≤ q) cs y := by
  obtain ⟨ys, m, _, _, _, hyl, hg⟩ := DataW.trod_struct Tryz.underlying61 ht
  match cs, hl with
  | [c0, c1, c2], _ =>
    match ys, hyl with
    | [y0, y1, y2], _ =>
      obtain ⟨t, rfl⟩ := one_int (hg 0 _ rfl : TC enc W 3 m [c0] y0)
      obtain ⟨a, rfl⟩ := one_int (hg 1 _ rfl : TC enc W 3 m [c1] y1)
      obtain ⟨b, rfl⟩ := one_int (hg 2 _ rfl : TC enc W 3 m [c2] y2)
      exact ⟨⟨t, a, b⟩, rfl⟩
theorem one_trap {fuel : Nat} {cs : List Value} {x : DataW H × List MemPlace} (hl : cs.length = 4) (ht : TC enc W 96 fuel cs x) : ∃ y, trapT.rep W (fun q => W.heap.size ≤ q) cs y := by
  obtain ⟨ys, m, _, _, _, hyl, hg⟩ := DataW.trod_struct Tryz.underlying96 ht
  match cs, hl with
  | [c0, c1, c2, c3], _ =>
    match ys, hyl with
    | [y0, y1, y2, y3], _ =>
      obtain ⟨t, rfl⟩ := one_int (hg 0 _ rfl : TC enc W 3 m [c0] y0)
      obtain ⟨a, rfl⟩ := one_int (hg 1 _ rfl : TC enc W 3 m [c1] y1)
      obtain ⟨b, rfl⟩ := one_int (hg 2 _ rfl : TC enc W 3 m [c2] y2)
      obtain ⟨d, rfl⟩ := one_int (hg 3 _ rfl : TC enc W 3 m [c3] y3)
      exact ⟨⟨t, a, b, d⟩, rfl⟩
theorem slots_cell {fuel : Nat} {v : Value} {x : DataW H × List MemPlace} (h : TC enc W 48 fuel [v] x) : ∃ l, (rowT slotT).rep W (fun q => W.heap.size ≤ q) [v] l := by
  obtain ⟨A, n, cap, l, rfl, hR⟩ := rowS_cell slotT ⟨0, 0⟩ 48 116 Tryz.underlying48 (by kernel_rfl) (by decide) (fun _ _ _ hl ht => one_slot hl ht) h
  exact ⟨l, A, n, cap, rfl, hR⟩
theorem one_map {fuel : Nat} {cs : List Value} {x : DataW H × List MemPlace} (hl : cs.length = 3) (ht : TC enc W 50 fuel cs x) : ∃ y, mapD.rep W (fun q => W.heap.size ≤ q) cs y := by
  obtain ⟨ys, m, _, _, _, hyl, hg⟩ := DataW.trod_struct Tryz.underlying50 ht
  match cs, hl with
  | [c0, c1, c2], _ =>
    match ys, hyl with
    | [y0, y1, y2], _ =>
      obtain ⟨t, rfl⟩ := one_int (hg 0 _ rfl : TC enc W 3 m [c0] y0)
      obtain ⟨l1, h1⟩ := slots_cell (hg 1 _ rfl : TC enc W 48 m [c1] y1)
      obtain ⟨l2, h2⟩ := slots_cell (hg 2 _ rfl : TC enc W 48 m [c2] y2)
      exact ⟨⟨t, l1, l2⟩, c1, c2, rfl, h1, h2⟩
theorem bytesT_cell {fuel : Nat} {v : Value} {x : DataW H × List MemPlace} (h : TC enc W 29 fuel [v] x) : ∃ l, bytesT.rep W (fun q => W.heap.size ≤ q) [v] l := by
  obtain ⟨A, n, cap, xs, rfl, hB, hn⟩ := bytes_cell h
  exact ⟨xs, A, n, cap, rfl, hB, hn⟩
theorem one_meth {fuel : Nat} {cs : List Value} {x : DataW H × List MemPlace} (hl : cs.length = 8) (ht : TC enc W 47 fuel cs x) : ∃ y, methD.rep W (fun q => W.heap.size ≤ q) cs y := by
  obtain ⟨ys, m, _, _, _, hyl, hg⟩ := DataW.trod_struct Tryz.underlying47 ht
  match cs, hl with
  | [c0, c1, c2, c3, c4, c5, c6, c7], _ =>
    match ys, hyl with
    | [y0, y1, y2, y3, y4, y5, y6, y7], _ =>
      obtain ⟨t, rfl⟩ := one_int (hg 0 _ rfl : TC enc W 3 m [c0] y0)
      obtain ⟨a, rfl⟩ := one_int (hg 1 _ rfl : TC enc W 3 m [c1] y1)
      obtain ⟨b, rfl⟩ := one_int (hg 2 _ rfl : TC enc W 3 m [c2] y2)
      obtain ⟨d, rfl⟩ := one_int (hg 3 _ rfl : TC enc W 3 m [c3] y3)
      obtain ⟨e, rfl⟩ := one_int (hg 4 _ rfl : TC enc W 3 m [c4] y4)
      obtain ⟨l5, h5⟩ := bytesT_cell (hg 5 _ rfl : TC enc W 29 m [c5] y5)
      obtain ⟨A6, n6, p6, l6, rfl, h6⟩ := rowS_cell trapT ⟨0, 0, 0, 0⟩ 44 96 Tryz.underlying44 (by kernel_rfl) (by decide) (fun _ _ _ hl ht => one_trap hl ht) (hg 6 _ rfl : TC enc W 44 m [c6] y6)
      obtain ⟨A7, n7, p7, l7, rfl, h7⟩ := rowS_cell mapD ⟨0, [], []⟩ 45 50 Tryz.underlying45 (by kernel_rfl) (by decide) (fun _ _ _ hl ht => one_map hl ht) (hg 7 _ rfl : TC enc W 45 m [c7] y7)
      exact ⟨⟨t, a, b, ⟨d, e, l5, l6, l7⟩⟩, _, rfl, _, _, _, rfl, h5, ⟨A6, n6, p6, rfl, h6⟩, ⟨A7, n7, p7, rfl, h7⟩⟩

theorem pool_of {A : Option Addr} {n cap : Nat} {l : List Cst} (h : RowS cstT W (fun q => W.heap.size ≤ q) A n cap l) : PoolSl W A n cap l ∧ ∀ c ∈ l, c.ok := by
  obtain ⟨hl, hn, hm, hA, hP⟩ := h
  refine ⟨⟨hl, hn, hm, fun h0 => ?_⟩, fun c hc => ?_⟩
  · obtain ⟨b, o, e, hb, hz, hc⟩ := hP h0
    refine ⟨b, o, e, hb, fun h => h, fun i f hf j hj => ?_⟩
    obtain ⟨cs, hcs, hrep, _⟩ := hc i f hf
    rw [hrep] at hcs
    have hj5 : j < f.cells.length := hj
    rw [List.getElem?_eq_getElem hj5]
    exact hcs j _ (List.getElem?_eq_getElem hj5)
  · obtain ⟨i, hi, he⟩ := List.mem_iff_getElem.1 hc
    obtain ⟨b, o, e, hb, hz, hcs⟩ := hP (by omega)
    obtain ⟨cs, _, _, hok⟩ := hcs i c (by rw [← he]; exact List.getElem?_eq_getElem hi)
    exact hok

theorem open_file {v : Value} {d : DataW H} {p : List MemPlace} (hv : Value.okWide Tryz.prog W .any base 26 v) (h : DataW.Trod enc Tryz.prog W 0 (fun _ => true) true 26 v d p) :
    ∃ (A : Option Addr) (n cap : Nat) (Af : Option Addr) (nf cf : Nat) (Am : Option Addr) (nm cm : Nat) (f : FileD), v = .agg #[.slice A n cap, .int .i64 f.this, .int .i64 f.super, .slice Af nf cf, .slice Am nm cm] ∧ FileIn W A n cap Af nf cf Am nm cm f := by
  obtain ⟨cs, rfl, hsz⟩ := okWide_struct Tryz.underlying26 hv
  obtain ⟨fuel, hf⟩ := h
  obtain ⟨ys, m, _, _, _, hyl, hg⟩ := DataW.trod_struct Tryz.underlying26 hf
  obtain ⟨l⟩ := cs
  have h5 : l.length = 5 := hsz
  match l, h5 with
  | [c0, c1, c2, c3, c4], _ =>
    match ys, hyl with
    | [y0, y1, y2, y3, y4], _ =>
      obtain ⟨A, n, cap, lp, rfl, h0⟩ := rowS_cell cstT zeroC 22 43 Tryz.underlying22 (by kernel_rfl) (by decide) (fun _ _ _ hl ht => one_cst hl ht) (hg 0 _ rfl : TC enc W 22 m [c0] y0)
      obtain ⟨t, rfl⟩ := one_int (hg 1 _ rfl : TC enc W 3 m [c1] y1)
      obtain ⟨a, rfl⟩ := one_int (hg 2 _ rfl : TC enc W 3 m [c2] y2)
      obtain ⟨Af, nf, cf, lf, rfl, h3⟩ := rowS_cell fieldT ⟨0, 0, 0⟩ 23 61 Tryz.underlying23 (by kernel_rfl) (by decide) (fun _ _ _ hl ht => one_field hl ht) (hg 3 _ rfl : TC enc W 23 m [c3] y3)
      obtain ⟨Am, nm, cm, lm, rfl, h4⟩ := rowS_cell methD zeroMeth 24 47 Tryz.underlying24 (by kernel_rfl) (by decide) (fun _ _ _ hl ht => one_meth hl ht) (hg 4 _ rfl : TC enc W 24 m [c4] y4)
      obtain ⟨hP, hok⟩ := pool_of h0
      exact ⟨A, n, cap, Af, nf, cf, Am, nm, cm, ⟨lp, t, a, lf, lm⟩, rfl, hP, hok, h3.mono (fun _ _ h => h.elim), h4.mono (fun _ _ h => h.elim)⟩
end

end Go.Proofs.YtendpbklcgiafaaGreat

/- The law's least and fixed (layer 14). -/
namespace Go.Proofs.YtendpbklcgiafaaGreat
set_option maxRecDepth 100000
open Go.RowKit

/-- A class that was read is one that may be handed in. -/
theorem file_in {w : World} {cs : List Value} {f : FileD} (h : fileRep w Empty cs f) : ∃ A n cap Af nf cf Am nm cm, cs = [.slice A n cap, .int .i64 f.this, .int .i64 f.super, .slice Af nf cf, .slice Am nm cm] ∧ FileIn w A n cap Af nf cf Am nm cm f := by
  obtain ⟨up, uf, um, rfl, ⟨A, n, cap, e1, h1, h2⟩, ⟨Af, nf, cf, e2, h3⟩, ⟨Am, nm, cm, e3, h4⟩⟩ := h
  cases e1
  cases e2
  cases e3
  exact ⟨A, n, cap, Af, nf, cf, Am, nm, cm, rfl, h1, h2, h3, h4⟩
theorem FileIn.rows {w : World} {A Af Am : Option Addr} {n cap nf cf nm cm : Nat} {f : FileD} (h : FileIn w A n cap Af nf cf Am nm cm f) : (rowT fieldT).rep w Empty [.slice Af nf cf] f.fields ∧ (rowT methD).rep w Empty [.slice Am nm cm] f.meths := ⟨⟨Af, nf, cf, rfl, h.fields⟩, Am, nm, cm, rfl, h.meths⟩

/-- A class's cells in its box. -/
theorem five {w W : World} {g : Nat} {t : TypeId} {v0 v1 v2 v3 v4 : Value} (h : Blk w g t #[v0, v1, v2, v3, v4]) (hb : Below w.heap.size w W) :
    W.cell? ⟨g, 0, none⟩ = some v0 ∧ W.cell? ⟨g, 1, none⟩ = some v1 ∧ W.cell? ⟨g, 2, none⟩ = some v2 ∧ W.cell? ⟨g, 3, none⟩ = some v3 ∧ W.cell? ⟨g, 4, none⟩ = some v4 := by
  have k := h.of (hb.block _ h.lt)
  exact ⟨k.cell 0, k.cell 1, k.cell 2, k.cell 3, k.cell 4⟩

def leastL : List Cst := [zeroC, ⟨1, 0, 0, 0, [65]⟩, ⟨7, 1, 0, 0, []⟩]
def leastD : FileD := ⟨leastL, 2, 0, [], []⟩
theorem decF_A : (decF [65]).isSome = true := by
  have h := decR_enc [65] (by simp)
  have e : encT [65] = [65] := by decide
  rw [e] at h
  rw [decR_fun h _ (decF_is [65])]
  rfl
theorem least_check : checkF leastL = true := by
  have h0 : mayF leastL 0 = true := by unfold mayF; rfl
  have h1 : mayF leastL 1 = true := by
    unfold mayF isTextF
    simp [leastL, formF, partF, noFrm, zeroC, decF_A, tagAtF, atF]
  have h2 : mayF leastL 2 = true := by
    unfold mayF
    simp [leastL, formF, partF, noFrm, zeroC, isTextF_nil, tagAtF, atF]
  unfold checkF
  simp [show leastL.length = 3 from rfl, List.range_succ, h0, h1, h2]
  decide
theorem least_ok : ∀ c ∈ leastL, c.ok := by
  intro c hc
  simp [leastL] at hc
  rcases hc with rfl | rfl | rfl <;> exact ⟨by decide, by decide, by decide, by decide, by decide⟩
theorem least_right : docRight leastD = true := by
  have h1 : rightF leastL = true := by rw [← check_right leastL least_ok]; exact least_check
  have h2 : isClassC leastL 2 = true := by decide
  have h3 : isClsNoneC leastL 0 = true := by decide
  unfold docRight
  rw [show leastD.pool = leastL from rfl, show leastD.this = 2 from rfl, show leastD.super = 0 from rfl, show leastD.fields = [] from rfl, show leastD.meths = [] from rfl, h1, h2, h3]
  rfl
noncomputable def leastB : List UInt8 := docB leastD
theorem leastB_len : leastB.length = 31 := by
  unfold leastB docB pre1 pre0
  simp only [List.length_append, putL_len, u2B_len, show leastD.pool = leastL from rfl, show leastD.fields = [] from rfl, show leastD.meths = [] from rfl, List.flatMap_nil, List.length_cons, List.length_nil]
  decide
theorem least_file : fileE leastD = some leastB := by
  rw [file_doc leastD least_ok, if_pos least_right]
  rfl
theorem least_small : SmallP leastL := ⟨by decide, by decide, by decide⟩
theorem zero_file : fileE zFile = none := by
  rw [file_doc zFile (by simp [zFile])]
  rw [if_neg]
  intro h
  have h1 := (right_parts h).1
  rw [← check_right _ (by simp [zFile]), checkF_len (by simp [zFile])] at h1
  cases h1

set_option maxHeartbeats 1000000 in
theorem least_any (w : World) : Calls Tryz.prog 14 #[] w fun e w' => (∃ g, e = .returned (.agg #[.slice (some ⟨g, 0, none⟩) 3 3, .int .i64 2, .int .i64 0, .slice none 0 0, .slice none 0 0]) ∧ FileIn w' (some ⟨g, 0, none⟩) 3 3 none 0 0 none 0 0 leastD) ∧ Below w.heap.size w w' := by
  go_enter Tryz.func14, Tryz.ntmps14
  go_wp2
  obtain ⟨W1, hW1⟩ : ∃ W1, W1 = w.alloc (.cells #[.slice (some ⟨w.heap.size + 1, 0, none⟩) 3 3, .int .i64 2, .int .i64 0, .slice none 0 0, .slice none 0 0] 26) := ⟨_, rfl⟩
  obtain ⟨W2, hW2⟩ : ∃ W2, W2 = W1.alloc (.cells #[.int .i64 0, .int .i64 0, .int .i64 0, .int .i64 0, .string ⟨#[]⟩, .int .i64 1, .int .i64 0, .int .i64 0, .int .i64 0, .string ⟨#[65]⟩, .int .i64 7, .int .i64 1, .int .i64 0, .int .i64 0, .string ⟨#[]⟩] 43) := ⟨_, rfl⟩
  have hs1 : W1.heap.size = w.heap.size + 1 := by rw [hW1]; simp
  have hK : Blk W2 w.heap.size 26 #[.slice (some ⟨w.heap.size + 1, 0, none⟩) 3 3, .int .i64 2, .int .i64 0, .slice none 0 0, .slice none 0 0] := by rw [hW2, hW1]; exact (Blk.new _ _ _).alloc _
  have hL : PoolSl W2 (some ⟨w.heap.size + 1, 0, none⟩) 3 3 leastL := by
    rw [hW2, ← hs1]
    exact RowSl.lit Cst.cells_len W1 Empty 43 leastL 3 _ rfl rfl (by unfold maxLen; omega) (fun h => h)
  have hb : Below w.heap.size w W2 := by rw [hW2, hW1]; exact ((Below.refl _ _).alloc (Nat.le_refl _) _).alloc (by simp) _
  rw [← hW1, ← hW2]
  have c0 : W2.cell? ⟨w.heap.size, 0, none⟩ = some (.slice (some ⟨w.heap.size + 1, 0, none⟩) 3 3) := hK.cell 0
  have c1 : W2.cell? ⟨w.heap.size, 1, none⟩ = some (.int .i64 2) := hK.cell 1
  have c2 : W2.cell? ⟨w.heap.size, 2, none⟩ = some (.int .i64 0) := hK.cell 2
  have c3 : W2.cell? ⟨w.heap.size, 3, none⟩ = some (.slice none 0 0) := hK.cell 3
  have c4 : W2.cell? ⟨w.heap.size, 4, none⟩ = some (.slice none 0 0) := hK.cell 4
  clear hW1 hW2 hK hs1
  refine bodyPost_ret (v := .agg #[.slice (some ⟨w.heap.size + 1, 0, none⟩) 3 3, .int .i64 2, .int .i64 0, .slice none 0 0, .slice none 0 0]) (by simp [results, Tryz.results14, go_sem, c0, c1, c2, c3, c4]) rfl ?_
  exact ⟨⟨w.heap.size + 1, rfl, hL, least_ok, rowS_nil _ _ _, rowS_nil _ _ _⟩, hb⟩

set_option maxHeartbeats 4000000 in
theorem fixed14_any (w : World) : Calls Tryz.prog 6 #[] w fun e w' => e = .returned (.bool true) ∧ Below w.heap.size w w' := by
  have CB : Hid (∀ A W, FileIn W A 3 3 none 0 0 none 0 0 leastD → Calls Tryz.prog 8 #[.agg #[.slice A 3 3, .int .i64 2, .int .i64 0, .slice none 0 0, .slice none 0 0]] W fun e w' => (∃ B c, e = .returned (.tuple #[.slice B 31 c, .int .i64 0]) ∧ ByteSl w' Empty B 31 c leastB) ∧ Below W.heap.size W w') := Lib.hid (fun A W h =>
    (kBytes_any A 3 3 _ _ leastD W h.pool h.ok least_small h.rows.1 h.rows.2).mono fun e w' k => by
      unfold KBytes at k
      rw [least_file] at k
      obtain ⟨⟨B, c, k1, k2, _⟩, k3⟩ := k
      rw [leastB_len] at k1 k2
      exact ⟨⟨B, c, k1, k2⟩, k3⟩)
  have CP : Hid (∀ B c W, ByteSl W Empty B 31 c leastB → Calls Tryz.prog 11 #[.slice B 31 c] W fun e w' => (∃ A n cap Af nf cf Am nm cm, e = .returned (.tuple #[.agg #[.slice A n cap, .int .i64 2, .int .i64 0, .slice Af nf cf, .slice Am nm cm], .int .i64 0]) ∧ FileIn w' A n cap Af nf cf Am nm cm leastD) ∧ Below W.heap.size W w') := Lib.hid (fun B c W hB =>
    (kParse_any B 31 c leastB W hB (by omega)).mono fun e w' ⟨k, kb⟩ => by
      refine ⟨?_, kb⟩
      have hR : Reads fileE leastB leastD [] := ⟨leastB, least_file, (List.append_nil _).symm⟩
      rcases k with ⟨f', cs, h1, h2, h3⟩ | ⟨h1, _⟩
      · obtain ⟨rfl, _⟩ := Uniq.file _ _ _ _ _ hR h1
        obtain ⟨A, n, cap, Af, nf, cf, Am, nm, cm, rfl, hI⟩ := file_in h3
        exact ⟨A, n, cap, Af, nf, cf, Am, nm, cm, h2, hI⟩
      · exact absurd hR (h1 _))
  have CN : Hid (∀ W, Calls Tryz.prog 11 #[.slice none 0 0] W fun e w' => e = .returned (.tuple #[.agg #[.slice none 0 0, .int .i64 0, .int .i64 0, .slice none 0 0, .slice none 0 0], .int .i64 6]) ∧ Below W.heap.size W w') := Lib.hid (fun W =>
    (kParse_any none 0 0 [] W (ByteSl.nil_ _ _ _ _ (by unfold maxLen; omega)) (by omega)).mono fun e w' ⟨k, kb⟩ => by
      refine ⟨?_, kb⟩
      rcases k with ⟨f', cs, ⟨x, hx, hb⟩, _⟩ | ⟨_, x, ⟨_, h2⟩, h3⟩
      · exact absurd (List.append_eq_nil_iff.1 hb.symm).1 (file_ne hx)
      · rw [h3, h2 rfl])
  have CC : Hid (∀ W, Calls Tryz.prog 10 #[.agg #[.slice none 0 0, .int .i64 0, .int .i64 0, .slice none 0 0, .slice none 0 0]] W fun e w' => e = .returned (.int .i64 8) ∧ Below W.heap.size W w') := Lib.hid (fun W =>
    (kCheck_any none 0 0 (.slice none 0 0) (.slice none 0 0) zFile W (RowSl.nil_ _ _ _ _ (by unfold maxLen; omega)) (by simp [zFile]) ⟨by decide, by decide, by decide⟩ ⟨none, 0, 0, rfl, rowS_nil _ _ _⟩ ⟨none, 0, 0, rfl, rowS_nil _ _ _⟩).mono fun e w' ⟨k, kb⟩ => by
      refine ⟨?_, kb⟩
      rw [k]
      unfold kCheckC
      rw [zero_file]
      rfl)
  have CS : Hid (∀ W A n cap Af nf cf Am nm cm g, FileIn W A n cap Af nf cf Am nm cm leastD → FileIn W (some ⟨g, 0, none⟩) 3 3 none 0 0 none 0 0 leastD → Calls Tryz.prog 13 #[.agg #[.slice A n cap, .int .i64 2, .int .i64 0, .slice Af nf cf, .slice Am nm cm], .agg #[.slice (some ⟨g, 0, none⟩) 3 3, .int .i64 2, .int .i64 0, .slice none 0 0, .slice none 0 0]] W fun e w' => e = .returned (.bool true) ∧ Below W.heap.size W w') := Lib.hid (fun W A n cap Af nf cf Am nm cm g hJ hI => by
    have h1 : leastD.pool.length = n := hJ.pool.1
    have h2 : leastD.fields.length = nf := hJ.fields.1
    have h3 : leastD.meths.length = nm := hJ.meths.1
    cases h1
    cases h2
    cases h3
    exact r14Same_same A 3 cap Af 0 cf Am 0 cm (some ⟨g, 0, none⟩) 3 none 0 none 0 2 0 leastD W hJ hI (by omega) (by simp [leastD]) (by omega) (by omega))
  go_enter Tryz.func6, Tryz.ntmps6
  go_wp2_with fail
  refine (least_any _).mono ?_
  rintro e w1 ⟨⟨g1, rfl, hI1⟩, hb1⟩
  have C1 := Lib.hid (CB.out _ _ hI1)
  have HB1 := Lib.hid hb1
  clear hI1 hb1 CB
  go_wp2_with fail
  refine C1.out.mono ?_
  rintro e w2 ⟨⟨B, c, rfl, hB⟩, hb2⟩
  have HB2 := Lib.hid (HB1.out.trans (hb2.mono HB1.out.size))
  have C2 := Lib.hid (CP.out _ _ _ hB)
  clear hB hb2 CP C1
  go_wp2_with fail
  refine C2.out.mono ?_
  rintro e w3 ⟨⟨A, n, cap, Af, nf, cf, Am, nm, cm, rfl, hI3⟩, hb3⟩
  have HB3 := Lib.hid (HB2.out.trans (hb3.mono HB2.out.size))
  have HI3 := Lib.hid hI3
  obtain ⟨W4, hW4⟩ : ∃ W4, W4 = w3.alloc (.cells #[.slice A n cap, .int .i64 2, .int .i64 0, .slice Af nf cf, .slice Am nm cm] 26) := ⟨_, rfl⟩
  have hK4 : Blk W4 w3.heap.size 26 #[.slice A n cap, .int .i64 2, .int .i64 0, .slice Af nf cf, .slice Am nm cm] := by rw [hW4]; exact Blk.new _ _ _
  have hb4 : Below w3.heap.size w3 W4 := by rw [hW4]; exact (Below.refl _ _).alloc (Nat.le_refl _) _
  have HK4 := Lib.hid hK4
  have HW4 := Lib.hid hW4
  have HB4 := Lib.hid hb4
  clear hI3 hb3 C2 hK4 hW4 hb4
  go_wp2_with fail
  rw [← HW4.out]
  refine (CN.out _).mono ?_
  rintro e w5 ⟨rfl, hb5⟩
  have HB5 := Lib.hid hb5
  obtain ⟨W6, hW6⟩ : ∃ W6, W6 = w5.alloc (.cells #[.slice none 0 0, .int .i64 0, .int .i64 0, .slice none 0 0, .slice none 0 0] 26) := ⟨_, rfl⟩
  have HW6 := Lib.hid hW6
  have hb6 : Below W4.heap.size W4 W6 := by rw [hW6]; exact hb5.alloc hb5.size _
  have HB6 := Lib.hid hb6
  clear hb5 hW6 hb6 CN
  go_wp2_with fail
  rw [← HW6.out]
  obtain ⟨s0, s1, s2, s3, s4⟩ := five HK4.out HB6.out
  refine wp_region_held_drew (S := fun W => W.cell? ⟨w3.heap.size, 0, none⟩ = some (.slice A n cap) ∧ W.cell? ⟨w3.heap.size, 1, none⟩ = some (.int .i64 2) ∧ W.cell? ⟨w3.heap.size, 2, none⟩ = some (.int .i64 0) ∧ W.cell? ⟨w3.heap.size, 3, none⟩ = some (.slice Af nf cf) ∧ W.cell? ⟨w3.heap.size, 4, none⟩ = some (.slice Am nm cm)) (by kernel_rfl) ⟨s0, s1, s2, s3, s4⟩ (fun hHeld0 => ?_)
  refine take_yes 0 21 ?_ rfl rfl (by kernel_rfl) (by kernel_rfl) (by kernel_rfl) (fun _ _ _ h => h) (by kernel_rfl) ?_ (by assumption) ?_; rotate_left; (focus (intro w hSw; (try dsimp only at hSw); go_simp; all_goals first | with_reducible rfl)); simp only [Act.put, List.setIfInBounds_toArray, List.set_cons_zero, List.set_cons_succ]
  refine take_yes 1 22 ?_ rfl rfl (by kernel_rfl) (by kernel_rfl) (by kernel_rfl) (fun _ _ _ h => h) (by kernel_rfl) ?_ (by assumption) ?_; rotate_left; (focus (intro w hSw; (try dsimp only at hSw); go_simp; all_goals first | with_reducible rfl)); simp only [Act.put, List.setIfInBounds_toArray, List.set_cons_zero, List.set_cons_succ]
  refine take_yes 2 23 (.bool true) rfl rfl (by kernel_rfl) (by kernel_rfl) (by kernel_rfl) (fun _ _ _ h => h) (by kernel_rfl) ?_ (by assumption) ?_; (focus (intro w hSw; (try dsimp only at hSw); go_simp; all_goals first | with_reducible rfl)); simp only [Act.put, List.setIfInBounds_toArray, List.set_cons_zero, List.set_cons_succ]
  refine take_yes 3 24 ?_ rfl rfl (by kernel_rfl) (by kernel_rfl) (by kernel_rfl) (fun _ _ _ h => h) (by kernel_rfl) ?_ (by assumption) ?_; rotate_left; (focus (intro w hSw; (try dsimp only at hSw); go_simp; all_goals first | with_reducible rfl)); simp only [Act.put, List.setIfInBounds_toArray, List.set_cons_zero, List.set_cons_succ]
  refine take_yes 4 25 ?_ rfl rfl (by kernel_rfl) (by kernel_rfl) (by kernel_rfl) (fun _ _ _ h => h) (by kernel_rfl) ?_ (by assumption) ?_; rotate_left; (focus (intro w hSw; (try dsimp only at hSw); go_simp; all_goals first | with_reducible rfl)); simp only [Act.put, List.setIfInBounds_toArray, List.set_cons_zero, List.set_cons_succ]
  refine take_yes 5 26 ?_ rfl rfl (by kernel_rfl) (by kernel_rfl) (by kernel_rfl) (fun _ _ _ h => h) (by kernel_rfl) ?_ (by assumption) ?_; rotate_left; (focus (intro w hSw; (try dsimp only at hSw); go_simp; all_goals first | with_reducible rfl)); simp only [Act.put, List.setIfInBounds_toArray, List.set_cons_zero, List.set_cons_succ]
  refine take_yes 6 27 (.bool true) rfl rfl (by kernel_rfl) (by kernel_rfl) (by kernel_rfl) (fun _ _ _ h => h) (by kernel_rfl) ?_ (by assumption) ?_; (focus (intro w hSw; (try dsimp only at hSw); go_simp; all_goals first | with_reducible rfl)); simp only [Act.put, List.setIfInBounds_toArray, List.set_cons_zero, List.set_cons_succ]
  refine take_yes 7 28 ?_ rfl rfl (by kernel_rfl) (by kernel_rfl) (by kernel_rfl) (fun _ _ _ h => h) (by kernel_rfl) ?_ (by assumption) ?_; rotate_left; (focus (intro w hSw; (try dsimp only at hSw); go_simp; all_goals first | with_reducible rfl)); simp only [Act.put, List.setIfInBounds_toArray, List.set_cons_zero, List.set_cons_succ]
  refine take_yes 8 29 ?_ rfl rfl (by kernel_rfl) (by kernel_rfl) (by kernel_rfl) (fun _ _ _ h => h) (by kernel_rfl) ?_ (by assumption) ?_; rotate_left; (focus (intro w hSw; (try dsimp only at hSw); go_simp; all_goals first | with_reducible rfl)); simp only [Act.put, List.setIfInBounds_toArray, List.set_cons_zero, List.set_cons_succ]
  refine take_yes 9 30 ?_ rfl rfl (by kernel_rfl) (by kernel_rfl) (by kernel_rfl) (fun _ _ _ h => h) (by kernel_rfl) ?_ (by assumption) ?_; rotate_left; (focus (intro w hSw; (try dsimp only at hSw); go_simp; all_goals first | with_reducible rfl)); simp only [Act.put, List.setIfInBounds_toArray, List.set_cons_zero, List.set_cons_succ]
  refine take_yes 10 31 (.bool true) rfl rfl (by kernel_rfl) (by kernel_rfl) (by kernel_rfl) (fun _ _ _ h => h) (by kernel_rfl) ?_ (by assumption) ?_; (focus (intro w hSw; (try dsimp only at hSw); go_simp; all_goals first | with_reducible rfl)); simp only [Act.put, List.setIfInBounds_toArray, List.set_cons_zero, List.set_cons_succ]
  refine take_yes 11 32 ?_ rfl rfl (by kernel_rfl) (by kernel_rfl) (by kernel_rfl) (fun _ _ _ h => h) (by kernel_rfl) ?_ (by assumption) ?_; rotate_left; (focus (intro w hSw; (try dsimp only at hSw); go_simp; all_goals first | with_reducible rfl)); simp only [Act.put, List.setIfInBounds_toArray, List.set_cons_zero, List.set_cons_succ]
  refine take_yes 12 33 ?_ rfl rfl (by kernel_rfl) (by kernel_rfl) (by kernel_rfl) (fun _ _ _ h => h) (by kernel_rfl) ?_ (by assumption) ?_; rotate_left; (focus (intro w hSw; (try dsimp only at hSw); go_simp; all_goals first | with_reducible rfl)); simp only [Act.put, List.setIfInBounds_toArray, List.set_cons_zero, List.set_cons_succ]
  refine take_yes 13 34 ?_ rfl rfl (by kernel_rfl) (by kernel_rfl) (by kernel_rfl) (fun _ _ _ h => h) (by kernel_rfl) ?_ (by assumption) ?_; rotate_left; (focus (intro w hSw; (try dsimp only at hSw); go_simp; all_goals first | with_reducible rfl)); simp only [Act.put, List.setIfInBounds_toArray, List.set_cons_zero, List.set_cons_succ]
  refine take_yes 14 35 ?_ rfl rfl (by kernel_rfl) (by kernel_rfl) (by kernel_rfl) (fun _ _ _ h => h) (by kernel_rfl) ?_ (by assumption) ?_; rotate_left; (focus (intro w hSw; (try dsimp only at hSw); go_simp; all_goals first | with_reducible rfl)); simp only [Act.put, List.setIfInBounds_toArray, List.set_cons_zero, List.set_cons_succ]
  refine take_yes 15 36 (.bool true) rfl rfl (by kernel_rfl) (by kernel_rfl) (by kernel_rfl) (fun _ _ _ h => h) (by kernel_rfl) ?_ (by assumption) ?_; (focus (intro w hSw; (try dsimp only at hSw); go_simp; all_goals first | with_reducible rfl)); simp only [Act.put, List.setIfInBounds_toArray, List.set_cons_zero, List.set_cons_succ]
  refine take_yes 16 37 (.agg #[.slice A n cap, .int .i64 2, .int .i64 0, .slice Af nf cf, .slice Am nm cm]) rfl rfl (by kernel_rfl) (by kernel_rfl) (by kernel_rfl) (fun _ _ _ h => h) (by kernel_rfl) ?_ (by assumption) ?_; (focus (intro w hSw; (try dsimp only at hSw); go_simp; all_goals first | with_reducible rfl)); simp only [Act.put, List.setIfInBounds_toArray, List.set_cons_zero, List.set_cons_succ]
  refine wpAnyH_ready (rs := [17]) (by kernel_rfl) (by simp) ?_
  refine AllReadyH.cons rfl (fun K hK => ?_) AllReadyH.nil
  go_simp
  refine (least_any _).mono ?_
  rintro e w7 ⟨⟨g7, rfl, hI7⟩, hb7⟩
  have HB7 : Hid (Below W4.heap.size W4 w7) := Lib.hid ((HB6.out.drewN 1).trans (hb7.mono HB6.out.size))
  have C7 := Lib.hid (CS.out w7 A n cap Af nf cf Am nm cm g7 (HI3.out.below (HB4.out.trans (HB7.out.mono HB4.out.size))) hI7)
  clear hI7 hb7 s0 s1 s2 s3 s4 CS
  go_wp2_with fail
  refine hK.out _ _ (five HK4.out HB7.out) (fun _ => ?_)
  clear hK K
  try simp only [Act.put, List.setIfInBounds_toArray, List.set_cons_zero, List.set_cons_succ]
  refine wpAnyH_ready (rs := [18]) (by kernel_rfl) (by simp) ?_
  refine AllReadyH.cons rfl (fun K hK => ?_) AllReadyH.nil
  go_simp
  refine C7.out.mono ?_
  rintro e w8 ⟨rfl, hb8⟩
  have HB8 : Hid (Below W4.heap.size W4 w8) := Lib.hid (HB7.out.trans (hb8.mono HB7.out.size))
  clear hb8 C7
  go_wp2_with fail
  refine hK.out _ _ (five HK4.out HB8.out) (fun _ => ?_)
  clear hK K
  try simp only [Act.put, List.setIfInBounds_toArray, List.set_cons_zero, List.set_cons_succ]
  refine take_yes 19 40 ?_ rfl rfl (by kernel_rfl) (by kernel_rfl) (by kernel_rfl) (fun _ _ _ h => h) (by kernel_rfl) ?_ (by assumption) ?_; rotate_left; (focus (intro w hSw; (try dsimp only at hSw); go_simp; all_goals first | with_reducible rfl)); simp only [Act.put, List.setIfInBounds_toArray, List.set_cons_zero, List.set_cons_succ]
  refine take_yes 20 41 (.bool true) rfl rfl (by kernel_rfl) (by kernel_rfl) (by kernel_rfl) (fun _ _ _ h => h) (by kernel_rfl) ?_ (by assumption) ?_; (focus (intro w hSw; (try dsimp only at hSw); go_simp; all_goals first | with_reducible rfl)); simp only [Act.put, List.setIfInBounds_toArray, List.set_cons_zero, List.set_cons_succ]
  refine take_yes 21 42 ?_ rfl rfl (by kernel_rfl) (by kernel_rfl) (by kernel_rfl) (fun _ _ _ h => h) (by kernel_rfl) ?_ (by assumption) ?_; rotate_left; (focus (intro w hSw; (try dsimp only at hSw); go_simp; all_goals first | with_reducible rfl)); simp only [Act.put, List.setIfInBounds_toArray, List.set_cons_zero, List.set_cons_succ]
  refine wpAnyH_ready (rs := [22]) (by kernel_rfl) (by simp) ?_
  refine AllReadyH.cons rfl (fun K hK => ?_) AllReadyH.nil
  go_simp
  refine (CC.out _).mono ?_
  rintro e w9 ⟨rfl, hb9⟩
  have HB9 : Hid (Below W4.heap.size W4 w9) := Lib.hid (HB8.out.trans (hb9.mono HB8.out.size))
  clear hb9 CC
  go_wp2_with fail
  refine hK.out _ _ (five HK4.out HB9.out) (fun _ => ?_)
  clear hK K
  try simp only [Act.put, List.setIfInBounds_toArray, List.set_cons_zero, List.set_cons_succ]
  refine take_yes 23 44 ?_ rfl rfl (by kernel_rfl) (by kernel_rfl) (by kernel_rfl) (fun _ _ _ h => h) (by kernel_rfl) ?_ (by assumption) ?_; rotate_left; (focus (intro w hSw; (try dsimp only at hSw); go_simp; all_goals first | with_reducible rfl)); simp only [Act.put, List.setIfInBounds_toArray, List.set_cons_zero, List.set_cons_succ]
  refine take_yes 24 45 ?_ rfl rfl (by kernel_rfl) (by kernel_rfl) (by kernel_rfl) (fun _ _ _ h => h) (by kernel_rfl) ?_ (by assumption) ?_; rotate_left; (focus (intro w hSw; (try dsimp only at hSw); go_simp; all_goals first | with_reducible rfl)); simp only [Act.put, List.setIfInBounds_toArray, List.set_cons_zero, List.set_cons_succ]
  refine take_yes 25 0 (.bool true) rfl rfl (by kernel_rfl) (by kernel_rfl) (by kernel_rfl) (fun _ _ _ h => h) (by kernel_rfl) ?_ (by assumption) ?_; (focus (intro w hSw; (try dsimp only at hSw); go_simp; all_goals first | with_reducible rfl)); simp only [Act.put, List.setIfInBounds_toArray, List.set_cons_zero, List.set_cons_succ]
  refine wpAnyH_done (by kernel_rfl) ?_ _
  go_wp2
  go_ret
  exact ⟨rfl, (HB3.out.trans (HB4.out.mono HB3.out.size)).trans (HB9.out.mono (Nat.le_trans HB3.out.size HB4.out.size))⟩

end Go.Proofs.YtendpbklcgiafaaGreat

/- KlassBytes' walk (layer 14). -/
namespace Go.Proofs.YtendpbklcgiafaaGreat
set_option maxRecDepth 100000
open Go.RowKit

section
variable {w : World} {A Af Am : Option Addr} {n cap nf cf nm cm : Nat} {f : FileD}
theorem bytes_yes14 (hI : FileIn w A n cap Af nf cf Am nm cm f) (hs : SmallP f.pool) (hr : docRight f = true) :
    Calls Tryz.prog 8 #[.agg #[.slice A n cap, .int .i64 f.this, .int .i64 f.super, .slice Af nf cf, .slice Am nm cm]] w fun e w' => (∃ B c, e = .returned (.tuple #[.slice B (docB f).length c, .int .i64 0]) ∧ ByteSl w' Empty B (docB f).length c (docB f) ∧ (B = none → (docB f).length = 0 ∧ c = 0)) ∧ Below w.heap.size w w' :=
  (kBytes_any A n cap _ _ f w hI.pool hI.ok hs hI.rows.1 hI.rows.2).mono fun e w' h => by
    unfold KBytes at h
    rw [file_doc f hI.ok, if_pos hr] at h
    exact h
theorem bytes_no14 (hI : FileIn w A n cap Af nf cf Am nm cm f) (hs : SmallP f.pool) (hr : docRight f = false) :
    Calls Tryz.prog 8 #[.agg #[.slice A n cap, .int .i64 f.this, .int .i64 f.super, .slice Af nf cf, .slice Am nm cm]] w fun e w' => e = .returned (.tuple #[.slice none 0 0, .int .i64 8]) ∧ Below w.heap.size w w' :=
  (kBytes_any A n cap _ _ f w hI.pool hI.ok hs hI.rows.1 hI.rows.2).mono fun e w' h => by
    unfold KBytes at h
    rw [file_doc f hI.ok, if_neg (by rw [hr]; decide)] at h
    exact h
theorem check14 (hI : FileIn w A n cap Af nf cf Am nm cm f) (hs : SmallP f.pool) :
    Calls Tryz.prog 10 #[.agg #[.slice A n cap, .int .i64 f.this, .int .i64 f.super, .slice Af nf cf, .slice Am nm cm]] w fun e w' => e = .returned (.int .i64 (if docRight f = true then 0 else 8)) ∧ Below w.heap.size w w' :=
  (kCheck_any A n cap _ _ f w hI.pool hI.ok hs hI.rows.1 hI.rows.2).mono fun e w' ⟨he, hb⟩ => by
    refine ⟨?_, hb⟩
    rw [he]
    unfold kCheckC
    rw [file_doc f hI.ok]
    cases docRight f <;> rfl
theorem parse_yes14 (B : Option Addr) (c : Nat) (hB : ByteSl w Empty B (docB f).length c (docB f)) (hok : ∀ x ∈ f.pool, x.ok) (hr : docRight f = true) (hl : (docB f).length ≤ 1048576) :
    Calls Tryz.prog 11 #[.slice B (docB f).length c] w fun e w' => (∃ A n cap Af nf cf Am nm cm, e = .returned (.tuple #[.agg #[.slice A n cap, .int .i64 f.this, .int .i64 f.super, .slice Af nf cf, .slice Am nm cm], .int .i64 0]) ∧ FileIn w' A n cap Af nf cf Am nm cm f) ∧ Below w.heap.size w w' :=
  (kParse_any B _ c (docB f) w hB hl).mono fun e w' ⟨h, hb⟩ => by
    refine ⟨?_, hb⟩
    have hR : Reads fileE (docB f) f [] := ⟨docB f, by rw [file_doc f hok, if_pos hr], (List.append_nil _).symm⟩
    rcases h with ⟨f', cs, h1, h2, h3⟩ | ⟨h1, _⟩
    · obtain ⟨rfl, _⟩ := Uniq.file _ _ _ _ _ hR h1
      obtain ⟨A, n, cap, Af, nf, cf, Am, nm, cm, rfl, hI⟩ := file_in h3
      exact ⟨A, n, cap, Af, nf, cf, Am, nm, cm, h2, hI⟩
    · exact absurd hR (h1 f)
end

set_option maxHeartbeats 8000000 in
theorem klassBytes_calls (A : Option Addr) (n cap : Nat) (Af : Option Addr) (nf cf : Nat) (Am : Option Addr) (nm cm : Nat) (f : FileD) (w : World) (hI : FileIn w A n cap Af nf cf Am nm cm f) :
    Calls Tryz.prog 3 #[.agg #[.slice A n cap, .int .i64 f.this, .int .i64 f.super, .slice Af nf cf, .slice Am nm cm]] w fun e w' => e = .returned (.bool true) ∧ Below w.heap.size w w' := by
  obtain ⟨x0, hx0⟩ : ∃ x0, f.this = x0 := ⟨_, rfl⟩
  obtain ⟨y0, hy0⟩ : ∃ y0, f.super = y0 := ⟨_, rfl⟩
  rw [hx0, hy0]
  obtain ⟨W0, hW0⟩ : ∃ W0, W0 = w.alloc (.cells #[.slice A n cap, .int .i64 x0, .int .i64 y0, .slice Af nf cf, .slice Am nm cm] 26) := ⟨_, rfl⟩
  have hb0 : Below w.heap.size w W0 := by rw [hW0]; exact (Below.refl _ _).alloc (Nat.le_refl _) _
  have hK : Blk W0 w.heap.size 26 #[.slice A n cap, .int .i64 x0, .int .i64 y0, .slice Af nf cf, .slice Am nm cm] := by rw [hW0]; exact Blk.new _ _ _
  have hI0 := hI.below hb0
  have HI := Lib.hid hI0
  have HB0 := Lib.hid hb0
  have HK := Lib.hid hK
  have HW0 := Lib.hid hW0
  have Hx := Lib.hid hx0
  have Hy := Lib.hid hy0
  have CF : Hid (∀ W, Below W0.heap.size W0 W → Calls Tryz.prog 7 #[.agg #[.slice A n cap, .int .i64 x0, .int .i64 y0, .slice Af nf cf, .slice Am nm cm]] W (FewP f W)) := Lib.hid (fun W h => r14Few_any A n cap Af nf cf Am nm cm x0 y0 f W (hI0.below h))
  clear hI hb0 hK hI0 hW0 hx0 hy0
  go_enter Tryz.func3, Tryz.ntmps3
  go_wp2_with fail
  rw [← HW0.out]
  refine (fixed14_any _).mono ?_
  rintro e w1 ⟨rfl, hb1⟩
  obtain ⟨a0, a1, a2, a3, a4⟩ := five HK.out hb1
  have HB1 := Lib.hid hb1
  clear hb1
  go_wp2_with fail
  refine (CF.out _ HB1.out).mono ?_
  rintro e w2 ⟨⟨few, rfl, hfew⟩, hb2⟩
  have HB2 := Lib.hid (HB1.out.trans (hb2.mono HB1.out.size))
  clear hb2 a0 a1 a2 a3 a4 CF
  cases few with
  | false =>
    clear hfew
    go_wp2
    go_ret
    exact ⟨rfl, HB0.out.trans (HB2.out.mono HB0.out.size)⟩
  | true =>
    have hfw := hfew rfl
    have HFw := Lib.hid hfw
    have hsm := few_small hfw
    obtain ⟨a0, a1, a2, a3, a4⟩ := five HK.out HB2.out
    cases hr : docRight f with
    | false =>
      have CB := bytes_no14 (HI.out.below HB2.out) hsm hr
      rw [Hx.out, Hy.out] at CB
      have CR : Hid (∀ W, Below W0.heap.size W0 W → Calls Tryz.prog 9 #[.agg #[.slice A n cap, .int .i64 x0, .int .i64 y0, .slice Af nf cf, .slice Am nm cm]] W fun e w' => e = .returned (.bool false) ∧ Below W.heap.size W w') := Lib.hid (fun W h => by
        have := r14Right_any A n cap Af nf cf Am nm cm x0 y0 f W (HI.out.below h) (few_file hfw) Hx.out Hy.out
        rwa [hr] at this)
      have CC : Hid (∀ W, Below W0.heap.size W0 W → Calls Tryz.prog 10 #[.agg #[.slice A n cap, .int .i64 x0, .int .i64 y0, .slice Af nf cf, .slice Am nm cm]] W fun e w' => e = .returned (.int .i64 8) ∧ Below W.heap.size W w') := Lib.hid (fun W h => by
        have := check14 (HI.out.below h) hsm
        rw [hr, Hx.out, Hy.out] at this
        exact this)
      have CB := Lib.hid CB
      clear hr hsm hfw hfew
      go_wp2_with fail
      refine CB.out.mono ?_
      rintro e w3 ⟨rfl, hb3⟩
      have HB3 := Lib.hid (HB2.out.trans (hb3.mono HB2.out.size))
      clear hb3 a0 a1 a2 a3 a4 CB
      obtain ⟨a0, a1, a2, a3, a4⟩ := five HK.out HB3.out
      go_wp2_with fail
      refine (CR.out _ HB3.out).mono ?_
      rintro e w4 ⟨rfl, hb4⟩
      have HB4 := Lib.hid (HB3.out.trans (hb4.mono HB3.out.size))
      clear hb4 a0 a1 a2 a3 a4 CR
      obtain ⟨a0, a1, a2, a3, a4⟩ := five HK.out HB4.out
      go_wp2_with fail
      refine (CC.out _ HB4.out).mono ?_
      rintro e w5 ⟨rfl, hb5⟩
      have HB5 := Lib.hid (HB4.out.trans (hb5.mono HB4.out.size))
      clear hb5 a0 a1 a2 a3 a4 CC
      go_wp2
      go_ret
      exact ⟨rfl, HB0.out.trans (HB5.out.mono HB0.out.size)⟩
    | true =>
      have hds := doc_small hfw hr
      have CB := bytes_yes14 (HI.out.below HB2.out) hsm hr
      rw [Hx.out, Hy.out] at CB
      have CR : Hid (∀ W, Below W0.heap.size W0 W → Calls Tryz.prog 9 #[.agg #[.slice A n cap, .int .i64 x0, .int .i64 y0, .slice Af nf cf, .slice Am nm cm]] W fun e w' => e = .returned (.bool true) ∧ Below W.heap.size W w') := Lib.hid (fun W h => by
        have := r14Right_any A n cap Af nf cf Am nm cm x0 y0 f W (HI.out.below h) (few_file hfw) Hx.out Hy.out
        rwa [hr] at this)
      have CC : Hid (∀ W, Below W0.heap.size W0 W → Calls Tryz.prog 10 #[.agg #[.slice A n cap, .int .i64 x0, .int .i64 y0, .slice Af nf cf, .slice Am nm cm]] W fun e w' => e = .returned (.int .i64 0) ∧ Below W.heap.size W w') := Lib.hid (fun W h => by
        have := check14 (HI.out.below h) hsm
        rw [hr, Hx.out, Hy.out] at this
        exact this)
      have hpar := right_parts hr
      have CP : Hid (∀ B c W, ByteSl W Empty B (docB f).length c (docB f) → Calls Tryz.prog 11 #[.slice B (docB f).length c] W fun e w' => (∃ A n cap Af nf cf Am nm cm, e = .returned (.tuple #[.agg #[.slice A n cap, .int .i64 x0, .int .i64 y0, .slice Af nf cf, .slice Am nm cm], .int .i64 0]) ∧ FileIn w' A n cap Af nf cf Am nm cm f) ∧ Below W.heap.size W w') := Lib.hid (fun B c W h => by
        have := parse_yes14 B c h HI.out.ok hr (by omega)
        rwa [Hx.out, Hy.out] at this)
      have CY : Hid (∀ W, Below W0.heap.size W0 W → Calls Tryz.prog 12 #[.agg #[.slice A n cap, .int .i64 x0, .int .i64 y0, .slice Af nf cf, .slice Am nm cm]] W (Gives W (docB f))) := Lib.hid (fun W h => r14Bytes_any A n cap Af nf cf Am nm cm x0 y0 f W (HI.out.below h) (by rw [check_right f.pool HI.out.ok]; exact hpar.1) (right_zero hpar.1) (by omega) hpar.2.2.2 Hx.out Hy.out)
      have hpl := HI.out.pool.1
      have hfl := HI.out.fields.1
      have hml := HI.out.meths.1
      have CS : Hid (∀ W B n2 cap2 Bf nf2 cf2 Bm nm2 cm2, Below W0.heap.size W0 W → FileIn W B n2 cap2 Bf nf2 cf2 Bm nm2 cm2 f → Calls Tryz.prog 13 #[.agg #[.slice B n2 cap2, .int .i64 x0, .int .i64 y0, .slice Bf nf2 cf2, .slice Bm nm2 cm2], .agg #[.slice A n cap, .int .i64 x0, .int .i64 y0, .slice Af nf cf, .slice Am nm cm]] W fun e w' => e = .returned (.bool true) ∧ Below W.heap.size W w') := Lib.hid (fun W B n2 cap2 Bf nf2 cf2 Bm nm2 cm2 h hJ => by
        obtain rfl : n = n2 := by rw [← hpl, ← hJ.pool.1]
        obtain rfl : nf = nf2 := by rw [← hfl, ← hJ.fields.1]
        obtain rfl : nm = nm2 := by rw [← hml, ← hJ.meths.1]
        exact r14Same_same B n cap2 Bf nf cf2 Bm nm cm2 A cap Af cf Am cm x0 y0 f W hJ (HI.out.below h) (by have := HFw.out.pool; omega) hpar.2.2.2 (by have := HFw.out.fields; omega) (by have := HFw.out.meths; omega))
      obtain ⟨bs, hbs⟩ : ∃ bs, docB f = bs := ⟨_, rfl⟩
      obtain ⟨L, hL⟩ : ∃ L, bs.length = L := ⟨_, rfl⟩
      rw [hbs] at CB CP CY hds
      rw [hL] at CB CP hds
      have CB := Lib.hid CB
      have Hds := Lib.hid hds
      have HL := Lib.hid hL
      clear hr hsm hfw hfew hpar hpl hfl hml hbs hL hds
      go_wp2_with fail
      refine CB.out.mono ?_
      rintro e w3 ⟨⟨B, cB, rfl, hB, -⟩, hb3⟩
      have HB3 := Lib.hid (HB2.out.trans (hb3.mono HB2.out.size))
      have HS3 := Lib.hid hB
      clear hb3 a0 a1 a2 a3 a4 CB hB
      obtain ⟨a0, a1, a2, a3, a4⟩ := five HK.out HB3.out
      go_wp2_with fail
      refine (CR.out _ HB3.out).mono ?_
      rintro e w4 ⟨rfl, hb4⟩
      have HB4 := Lib.hid (HB3.out.trans (hb4.mono HB3.out.size))
      have HS4 := Lib.hid (HS3.out.only (Only.of_below (S := Empty) hb4) (fun _ _ h => h))
      clear hb4 a0 a1 a2 a3 a4 CR
      go_wp2_with fail
      refine (CP.out _ _ _ HS4.out).mono ?_
      rintro e w5 ⟨⟨A2, n2, cap2, Af2, nf2, cf2, Am2, nm2, cm2, rfl, hJ⟩, hb5⟩
      have HB5 := Lib.hid (HB4.out.trans (hb5.mono HB4.out.size))
      have HS5 := Lib.hid (HS4.out.only (Only.of_below (S := Empty) hb5) (fun _ _ h => h))
      have HJ := Lib.hid hJ
      clear hb5 hJ CP
      have Hcv : Hid (∀ W, Below w5.heap.size w5 W → (convert 29 9 (.slice B L cB)).run Tryz.prog W = .ok (.string (strB bs)) W) := Lib.hid (fun W h => conv_bytes (HS5.out.only (Only.of_below (S := Empty) h) (fun _ _ h => h)))
      obtain ⟨W6, hW6⟩ : ∃ W6, W6 = w5.alloc (.cells #[.slice A2 n2 cap2, .int .i64 x0, .int .i64 y0, .slice Af2 nf2 cf2, .slice Am2 nm2 cm2] 26) := ⟨_, rfl⟩
      have hK6 : Blk W6 w5.heap.size 26 #[.slice A2 n2 cap2, .int .i64 x0, .int .i64 y0, .slice Af2 nf2 cf2, .slice Am2 nm2 cm2] := by rw [hW6]; exact Blk.new _ _ _
      have hb6 : Below w5.heap.size w5 W6 := by rw [hW6]; exact (Below.refl _ _).alloc (Nat.le_refl _) _
      have HK6 := Lib.hid hK6
      have HB56 := Lib.hid hb6
      have HB6 := Lib.hid (HB5.out.trans (hb6.mono HB5.out.size))
      have HW6 := Lib.hid hW6
      have HSS : Hid (∀ W, Below W6.heap.size W6 W → W.cell? ⟨w.heap.size, 0, none⟩ = some (.slice A n cap) ∧ W.cell? ⟨w.heap.size, 1, none⟩ = some (.int .i64 x0) ∧ W.cell? ⟨w.heap.size, 2, none⟩ = some (.int .i64 y0) ∧ W.cell? ⟨w.heap.size, 3, none⟩ = some (.slice Af nf cf) ∧ W.cell? ⟨w.heap.size, 4, none⟩ = some (.slice Am nm cm) ∧
          W.cell? ⟨w5.heap.size, 0, none⟩ = some (.slice A2 n2 cap2) ∧ W.cell? ⟨w5.heap.size, 1, none⟩ = some (.int .i64 x0) ∧ W.cell? ⟨w5.heap.size, 2, none⟩ = some (.int .i64 y0) ∧ W.cell? ⟨w5.heap.size, 3, none⟩ = some (.slice Af2 nf2 cf2) ∧ W.cell? ⟨w5.heap.size, 4, none⟩ = some (.slice Am2 nm2 cm2) ∧
          (convert 29 9 (.slice B L cB)).run Tryz.prog W = .ok (.string (strB bs)) W) := Lib.hid (fun W h => by
        obtain ⟨f0, f1, f2, f3, f4⟩ := five HK.out (HB6.out.trans (h.mono HB6.out.size))
        obtain ⟨g0, g1, g2, g3, g4⟩ := five HK6.out h
        exact ⟨f0, f1, f2, f3, f4, g0, g1, g2, g3, g4, Hcv.out W (HB56.out.trans (h.mono HB56.out.size))⟩)
      clear hK6 hb6 hW6
      clear HL HS3 HS4 HS5 HB3 HB4
      go_wp2_with fail
      rw [← HW6.out]
      refine wp_region_held_drew (S := fun W => W.cell? ⟨w.heap.size, 0, none⟩ = some (.slice A n cap) ∧ W.cell? ⟨w.heap.size, 1, none⟩ = some (.int .i64 x0) ∧ W.cell? ⟨w.heap.size, 2, none⟩ = some (.int .i64 y0) ∧ W.cell? ⟨w.heap.size, 3, none⟩ = some (.slice Af nf cf) ∧ W.cell? ⟨w.heap.size, 4, none⟩ = some (.slice Am nm cm) ∧
          W.cell? ⟨w5.heap.size, 0, none⟩ = some (.slice A2 n2 cap2) ∧ W.cell? ⟨w5.heap.size, 1, none⟩ = some (.int .i64 x0) ∧ W.cell? ⟨w5.heap.size, 2, none⟩ = some (.int .i64 y0) ∧ W.cell? ⟨w5.heap.size, 3, none⟩ = some (.slice Af2 nf2 cf2) ∧ W.cell? ⟨w5.heap.size, 4, none⟩ = some (.slice Am2 nm2 cm2) ∧
          (convert 29 9 (.slice B L cB)).run Tryz.prog W = .ok (.string (strB bs)) W) (by kernel_rfl) (HSS.out _ ((Below.refl _ _).drewN 1)) (fun hHeld0 => ?_)
      refine take_yes 0 37 ?_ rfl rfl (by kernel_rfl) (by kernel_rfl) (by kernel_rfl) (fun _ _ _ h => h) (by kernel_rfl) ?_ (by assumption) ?_; rotate_left; (focus (intro w hSw; (try dsimp only at hSw); go_simp; all_goals first | with_reducible rfl)); simp only [Act.put, List.setIfInBounds_toArray, List.set_cons_zero, List.set_cons_succ]
      refine take_yes 1 38 ?_ rfl rfl (by kernel_rfl) (by kernel_rfl) (by kernel_rfl) (fun _ _ _ h => h) (by kernel_rfl) ?_ (by assumption) ?_; rotate_left; (focus (intro w hSw; (try dsimp only at hSw); go_simp; all_goals first | with_reducible rfl)); simp only [Act.put, List.setIfInBounds_toArray, List.set_cons_zero, List.set_cons_succ]
      refine take_yes 2 39 (.bool true) rfl rfl (by kernel_rfl) (by kernel_rfl) (by kernel_rfl) (fun _ _ _ h => h) (by kernel_rfl) ?_ (by assumption) ?_; (focus (intro w hSw; (try dsimp only at hSw); go_simp; all_goals first | with_reducible rfl)); simp only [Act.put, List.setIfInBounds_toArray, List.set_cons_zero, List.set_cons_succ]
      refine take_yes 3 40 ?_ rfl rfl (by kernel_rfl) (by kernel_rfl) (by kernel_rfl) (fun _ _ _ h => h) (by kernel_rfl) ?_ (by assumption) ?_; rotate_left; (focus (intro w hSw; (try dsimp only at hSw); go_simp; all_goals first | with_reducible rfl)); simp only [Act.put, List.setIfInBounds_toArray, List.set_cons_zero, List.set_cons_succ]
      refine take_yes 4 41 ?_ rfl rfl (by kernel_rfl) (by kernel_rfl) (by kernel_rfl) (fun _ _ _ h => h) (by kernel_rfl) ?_ (by assumption) ?_; rotate_left; (focus (intro w hSw; (try dsimp only at hSw); go_simp; all_goals first | with_reducible rfl)); simp only [Act.put, List.setIfInBounds_toArray, List.set_cons_zero, List.set_cons_succ]
      refine take_yes 5 42 ?_ rfl rfl (by kernel_rfl) (by kernel_rfl) (by kernel_rfl) (fun _ _ _ h => h) (by kernel_rfl) ?_ (by assumption) ?_; rotate_left; (focus (intro w hSw; (try dsimp only at hSw); go_simp; all_goals first | with_reducible rfl)); simp only [Act.put, List.setIfInBounds_toArray, List.set_cons_zero, List.set_cons_succ]
      refine take_yes 6 43 (.bool true) rfl rfl (by kernel_rfl) (by kernel_rfl) (by kernel_rfl) (fun _ _ _ h => h) (by kernel_rfl) ?_ (by assumption) ?_; (focus (intro w hSw; (try dsimp only at hSw); go_simp; all_goals first | with_reducible rfl)); simp only [Act.put, List.setIfInBounds_toArray, List.set_cons_zero, List.set_cons_succ]
      refine take_yes 7 44 (.agg #[.slice A n cap, .int .i64 x0, .int .i64 y0, .slice Af nf cf, .slice Am nm cm]) rfl rfl (by kernel_rfl) (by kernel_rfl) (by kernel_rfl) (fun _ _ _ h => h) (by kernel_rfl) ?_ (by assumption) ?_; (focus (intro w hSw; (try dsimp only at hSw); go_simp; all_goals first | with_reducible rfl)); simp only [Act.put, List.setIfInBounds_toArray, List.set_cons_zero, List.set_cons_succ]
      refine wpAnyH_ready (rs := [8]) (by kernel_rfl) (by simp) ?_
      refine AllReadyH.cons rfl (fun K hK => ?_) AllReadyH.nil
      go_simp
      refine (CC.out _ (HB6.out.drewN 1)).mono ?_
      rintro e w7 ⟨rfl, hb7⟩
      have HB7 : Hid (Below W6.heap.size W6 w7) := Lib.hid (((Below.refl W6.heap.size W6).drewN 1).trans hb7)
      clear hb7 CC
      go_wp2_with fail
      refine hK.out _ _ ((HSS.out _ HB7.out)) (fun _ => ?_)
      clear hK K
      try simp only [Act.put, List.setIfInBounds_toArray, List.set_cons_zero, List.set_cons_succ]
      refine take_yes 9 46 ?_ rfl rfl (by kernel_rfl) (by kernel_rfl) (by kernel_rfl) (fun _ _ _ h => h) (by kernel_rfl) ?_ (by assumption) ?_; rotate_left; (focus (intro w hSw; (try dsimp only at hSw); go_simp; all_goals first | with_reducible rfl)); simp only [Act.put, List.setIfInBounds_toArray, List.set_cons_zero, List.set_cons_succ]
      refine take_yes 10 47 ?_ rfl rfl (by kernel_rfl) (by kernel_rfl) (by kernel_rfl) (fun _ _ _ h => h) (by kernel_rfl) ?_ (by assumption) ?_; rotate_left; (focus (intro w hSw; (try dsimp only at hSw); go_simp; all_goals first | with_reducible rfl)); simp only [Act.put, List.setIfInBounds_toArray, List.set_cons_zero, List.set_cons_succ]
      refine take_yes 11 48 (.bool true) rfl rfl (by kernel_rfl) (by kernel_rfl) (by kernel_rfl) (fun _ _ _ h => h) (by kernel_rfl) ?_ (by assumption) ?_; (focus (intro w hSw; (try dsimp only at hSw); go_simp; all_goals first | with_reducible rfl)); simp only [Act.put, List.setIfInBounds_toArray, List.set_cons_zero, List.set_cons_succ]
      refine take_yes 12 49 ?_ rfl rfl (by kernel_rfl) (by kernel_rfl) (by kernel_rfl) (fun _ _ _ h => h) (by kernel_rfl) ?_ (by assumption) ?_; rotate_left; (focus (intro w hSw; (try dsimp only at hSw); go_simp; all_goals first | with_reducible rfl)); simp only [Act.put, List.setIfInBounds_toArray, List.set_cons_zero, List.set_cons_succ]
      refine take_yes 13 50 (.string (strB bs)) rfl rfl (by kernel_rfl) (by kernel_rfl) (by kernel_rfl) (fun _ _ _ h => h) (by kernel_rfl) ?_ (by assumption) ?_; (focus (intro w hSw; (try dsimp only at hSw); go_simp; all_goals first | with_reducible rfl)); simp only [Act.put, List.setIfInBounds_toArray, List.set_cons_zero, List.set_cons_succ]
      refine take_yes 14 51 (.agg #[.slice A n cap, .int .i64 x0, .int .i64 y0, .slice Af nf cf, .slice Am nm cm]) rfl rfl (by kernel_rfl) (by kernel_rfl) (by kernel_rfl) (fun _ _ _ h => h) (by kernel_rfl) ?_ (by assumption) ?_; (focus (intro w hSw; (try dsimp only at hSw); go_simp; all_goals first | with_reducible rfl)); simp only [Act.put, List.setIfInBounds_toArray, List.set_cons_zero, List.set_cons_succ]
      refine wpAnyH_ready (rs := [15]) (by kernel_rfl) (by simp) ?_
      refine AllReadyH.cons rfl (fun K hK => ?_) AllReadyH.nil
      go_simp
      refine (CY.out _ (HB6.out.trans (HB7.out.mono HB6.out.size))).mono ?_
      rintro e w8 ⟨B8, m8, c8, rfl, hG⟩
      have HB8 : Hid (Below W6.heap.size W6 w8) := Lib.hid (HB7.out.trans (hG.below.mono HB7.out.size))
      have hc8 : (convert 29 9 (.slice B8 m8 c8)).run Tryz.prog w8 = .ok (.string (strB bs)) w8 := conv_bytes hG.byte
      clear hG CY
      go_wp2_with fail
      refine hK.out _ _ ((HSS.out _ HB8.out)) (fun _ => ?_)
      clear hK K
      try simp only [Act.put, List.setIfInBounds_toArray, List.set_cons_zero, List.set_cons_succ]
      refine wpAnyH_ready (rs := [16]) (by kernel_rfl) (by simp) ?_
      refine AllReadyH.cons rfl (fun K hK => ?_) AllReadyH.nil
      go_simp
      refine hK.out _ _ ((HSS.out _ HB8.out)) (fun _ => ?_)
      clear hK K
      try simp only [Act.put, List.setIfInBounds_toArray, List.set_cons_zero, List.set_cons_succ]
      refine take_yes 17 54 ?_ rfl rfl (by kernel_rfl) (by kernel_rfl) (by kernel_rfl) (fun _ _ _ h => h) (by kernel_rfl) ?_ (by assumption) ?_; rotate_left; (focus (intro w hSw; (try dsimp only at hSw); go_simp; all_goals first | with_reducible rfl)); simp only [Act.put, List.setIfInBounds_toArray, List.set_cons_zero, List.set_cons_succ]
      refine take_yes 18 55 ?_ rfl rfl (by kernel_rfl) (by kernel_rfl) (by kernel_rfl) (fun _ _ _ h => h) (by kernel_rfl) ?_ (by assumption) ?_; rotate_left; (focus (intro w hSw; (try dsimp only at hSw); go_simp; all_goals first | with_reducible rfl)); simp only [Act.put, List.setIfInBounds_toArray, List.set_cons_zero, List.set_cons_succ]
      refine take_yes 19 56 (.bool true) rfl rfl (by kernel_rfl) (by kernel_rfl) (by kernel_rfl) (fun _ _ _ h => h) (by kernel_rfl) ?_ (by assumption) ?_; (focus (intro w hSw; (try dsimp only at hSw); go_simp; all_goals first | with_reducible rfl)); simp only [Act.put, List.setIfInBounds_toArray, List.set_cons_zero, List.set_cons_succ]
      refine take_yes 20 57 (.agg #[.slice A2 n2 cap2, .int .i64 x0, .int .i64 y0, .slice Af2 nf2 cf2, .slice Am2 nm2 cm2]) rfl rfl (by kernel_rfl) (by kernel_rfl) (by kernel_rfl) (fun _ _ _ h => h) (by kernel_rfl) ?_ (by assumption) ?_; (focus (intro w hSw; (try dsimp only at hSw); go_simp; all_goals first | with_reducible rfl)); simp only [Act.put, List.setIfInBounds_toArray, List.set_cons_zero, List.set_cons_succ]
      refine take_yes 21 58 (.agg #[.slice A n cap, .int .i64 x0, .int .i64 y0, .slice Af nf cf, .slice Am nm cm]) rfl rfl (by kernel_rfl) (by kernel_rfl) (by kernel_rfl) (fun _ _ _ h => h) (by kernel_rfl) ?_ (by assumption) ?_; (focus (intro w hSw; (try dsimp only at hSw); go_simp; all_goals first | with_reducible rfl)); simp only [Act.put, List.setIfInBounds_toArray, List.set_cons_zero, List.set_cons_succ]
      refine wpAnyH_ready (rs := [22]) (by kernel_rfl) (by simp) ?_
      refine AllReadyH.cons rfl (fun K hK => ?_) AllReadyH.nil
      go_simp
      refine (CS.out _ _ _ _ _ _ _ _ _ _ (HB6.out.trans (HB8.out.mono HB6.out.size)) (HJ.out.below (HB56.out.trans (HB8.out.mono HB56.out.size)))).mono ?_
      rintro e w9 ⟨rfl, hb9⟩
      have HB9 : Hid (Below W6.heap.size W6 w9) := Lib.hid (HB8.out.trans (hb9.mono HB8.out.size))
      clear hb9 CS
      go_wp2_with fail
      refine hK.out _ _ ((HSS.out _ HB9.out)) (fun _ => ?_)
      clear hK K
      try simp only [Act.put, List.setIfInBounds_toArray, List.set_cons_zero, List.set_cons_succ]
      refine take_yes 23 60 ?_ rfl rfl (by kernel_rfl) (by kernel_rfl) (by kernel_rfl) (fun _ _ _ h => h) (by kernel_rfl) ?_ (by assumption) ?_; rotate_left; (focus (intro w hSw; (try dsimp only at hSw); go_simp; all_goals first | with_reducible rfl)); simp only [Act.put, List.setIfInBounds_toArray, List.set_cons_zero, List.set_cons_succ]
      refine take_yes 24 2 (.bool true) rfl rfl (by kernel_rfl) (by kernel_rfl) (by kernel_rfl) (fun _ _ _ h => h) (by kernel_rfl) ?_ (by assumption) ?_; (focus (intro w hSw; (try dsimp only at hSw); go_simp; all_goals first | with_reducible rfl)); simp only [Act.put, List.setIfInBounds_toArray, List.set_cons_zero, List.set_cons_succ]
      refine wpAnyH_done (by kernel_rfl) ?_ _
      go_wp2
      go_ret
      exact ⟨rfl, HB0.out.trans ((HB6.out.trans (HB9.out.mono HB6.out.size)).mono HB0.out.size)⟩

end Go.Proofs.YtendpbklcgiafaaGreat
