/- The walk over the document's Few (layer 14). -/
import Derived.Test.YtendpbklcgiafaaZaz
import Derived.Test.YtendpbklcgiafaaZad
import Derived.Test.YtendpbklcgiafaaZan
namespace Go.Proofs.Ytendpbklcgiafaa
set_option maxRecDepth 100000
open Go.RowKit

def wMap (y : MapD) : Nat := 10 + y.locals.length + y.stack.length
def wBody (d : BodyD) : Nat := d.code.length + 10 * d.traps.length + (d.maps.map wMap).sum
def Modest (f : FileD) : Prop := ∀ m ∈ f.meths, BodySm m.body
/-- What is known where Few says yes. -/
structure FewOk (f : FileD) : Prop where
  pool : f.pool.length ≤ 120
  fields : f.fields.length ≤ 70
  meths : f.meths.length ≤ 70
  texts : ∀ c ∈ f.pool, c.s.length ≤ 300
  sum : Modest f → (f.meths.map (fun m => wBody m.body)).sum ≤ 4000
def FewP (f : FileD) (w : World) (e : Ending) (w' : World) : Prop := (∃ b, e = .returned (.bool b) ∧ (b = true → FewOk f)) ∧ Below w.heap.size w w'
theorem sum_take {α : Type} (g : α → Nat) (l : List α) (k : Nat) (x : α) (h : l[k]? = some x) : ((l.take (k + 1)).map g).sum = ((l.take k).map g).sum + g x := by
  rw [List.take_add_one, h, List.map_append, List.sum_append]
  simp

set_option maxHeartbeats 8000000 in
theorem r14Few_any (A : Option Addr) (n cap : Nat) (Af : Option Addr) (nf cf : Nat) (Am : Option Addr) (nm cm : Nat) (x0 y0 : Int) (f : FileD) (w : World) (hI : FileIn w A n cap Af nf cf Am nm cm f) :
    Calls Try.prog 5 #[.agg #[.slice A n cap, .int .i64 x0, .int .i64 y0, .slice Af nf cf, .slice Am nm cm]] w (FewP f w) := by
  obtain ⟨W0, hW0⟩ : ∃ W0, W0 = w.alloc (.cells #[.slice A n cap, .int .i64 x0, .int .i64 y0, .slice Af nf cf, .slice Am nm cm] 26) := ⟨_, rfl⟩
  have hb0 : Below w.heap.size w W0 := by rw [hW0]; exact (Below.refl _ _).alloc (Nat.le_refl _) _
  have hK : Blk W0 w.heap.size 26 #[.slice A n cap, .int .i64 x0, .int .i64 y0, .slice Af nf cf, .slice Am nm cm] := by rw [hW0]; exact Blk.new _ _ _
  have HI := Lib.hid (hI.below hb0)
  have Hpl := Lib.hid hI.pool.1
  have Hfl := Lib.hid hI.fields.1
  have Hml := Lib.hid hI.meths.1
  have hcap : cap ≤ 9223372036854775807 ∧ cf ≤ 9223372036854775807 ∧ cm ≤ 9223372036854775807 ∧ n ≤ cap ∧ nf ≤ cf ∧ nm ≤ cm := ⟨by have h := hI.pool.2.2.1; unfold maxLen at h; omega, by have h := hI.fields.2.2.1; unfold maxLen at h; omega, by have h := hI.meths.2.2.1; unfold maxLen at h; omega, hI.pool.2.1, hI.fields.2.1, hI.meths.2.1⟩
  have HB0 := Lib.hid hb0
  have HK := Lib.hid hK
  have HW0 := Lib.hid hW0
  have a0 : W0.cell? ⟨w.heap.size, 0, none⟩ = some (.slice A n cap) := hK.cell 0
  have a3 : W0.cell? ⟨w.heap.size, 3, none⟩ = some (.slice Af nf cf) := hK.cell 3
  have a4 : W0.cell? ⟨w.heap.size, 4, none⟩ = some (.slice Am nm cm) := hK.cell 4
  clear hI hb0 hK hW0
  by_cases h1 : 120 < n
  · clear HK HI
    go_enter Try.func5, Try.ntmps5
    go_wp2_with fail
    rw [← HW0.out]
    go_wp2
    go_ret
    exact ⟨⟨false, rfl, fun h => by cases h⟩, HB0.out⟩
  by_cases h2 : 70 < nf
  · clear HK HI
    go_enter Try.func5, Try.ntmps5
    go_wp2_with fail
    rw [← HW0.out]
    go_wp2
    go_ret
    exact ⟨⟨false, rfl, fun h => by cases h⟩, HB0.out⟩
  by_cases h3 : 70 < nm
  · clear HK HI
    go_enter Try.func5, Try.ntmps5
    go_wp2_with fail
    rw [← HW0.out]
    go_wp2
    go_ret
    exact ⟨⟨false, rfl, fun h => by cases h⟩, HB0.out⟩
  go_enter Try.func5, Try.ntmps5
  go_wp2_with fail
  rw [← HW0.out]
  go_wp2
  go_loopw [29] (fun i wr => ∃ k : Nat, k ≤ n ∧ i = .int .i64 k ∧ Hid (Below W0.heap.size W0 wr) ∧ Hid (∀ (j : Nat) c, j < k → f.pool[j]? = some c → c.s.length ≤ 300)) (fun i _ => n - (intOf i).toNat)
  case atStart => exact ⟨0, Nat.zero_le _, rfl, Lib.hid (Below.refl _ _), Lib.hid (fun j t h => absurd h (by omega))⟩
  case round =>
    obtain ⟨k, hk, rfl, HB, HF⟩ := hrel
    by_cases hlt : k < n
    · obtain ⟨b, o, c, rfl, hc, hb, g0, g1, g2, g3, g4⟩ := pool_at (HI.out.below HB.out).pool hlt
      have HA : Hid (∀ cs : Array Value, Below w.heap.size w (wr.alloc (.cells cs 30)) ∧ Below W0.heap.size W0 (wr.alloc (.cells cs 30))) := Lib.hid (fun cs => ⟨(HB0.out.trans (HB.out.mono HB0.out.size)).alloc (Nat.le_trans HB0.out.size HB.out.size) _, HB.out.alloc HB.out.size _⟩)
      have Hc := Lib.hid hc
      have hsz : (strB c.s).size = c.s.length := strB_size c.s
      obtain ⟨tg, a, b', nn, s⟩ := c
      simp only at g0 g1 g2 g3 g4 hsz
      clear hc
      by_cases h3s : 300 < s.length
      · go_wp2
        go_ret
        exact ⟨⟨false, rfl, fun h => by cases h⟩, (HA.out _).1⟩
      · have HF1 : Hid (∀ (j : Nat) c, j < k + 1 → f.pool[j]? = some c → c.s.length ≤ 300) := Lib.hid (up_one HF.out Hc.out (by simp only; omega))
        go_wp2
        go_roundw
        case rel => exact ⟨k + 1, by omega, by go_num, Lib.hid (HA.out _).2, HF1⟩
        case measure => simp [intOf]; omega
    · obtain rfl : k = n := by omega
      have HTx : Hid (∀ c ∈ f.pool, c.s.length ≤ 300) := Lib.hid (fun c hc => by
        obtain ⟨j, hj, rfl⟩ := List.mem_iff_getElem.1 hc
        exact HF.out j _ (by rw [← Hpl.out]; exact hj) (List.getElem?_eq_getElem hj))
      have HKr := Lib.hid (HK.out.of (HB.out.block _ HK.out.lt))
      have r4 : wr.cell? ⟨w.heap.size, 4, none⟩ = some (.slice Am nm cm) := HKr.out.cell 4
      clear a0 a3 a4 HF
      go_wp2
      go_loopw [5, 41] (fun v i wr => ∃ (j : Nat) (L : Int), j ≤ nm ∧ v = .int .i64 L ∧ i = .int .i64 j ∧ Hid (Below W0.heap.size W0 wr) ∧ Hid (Modest f → L = 4000 - (((f.meths.take j).map (fun m => wBody m.body)).sum : Int) ∧ 0 ≤ L)) (fun _ i _ => nm - (intOf i).toNat)
      case atStart => exact ⟨0, 4000, Nat.zero_le _, rfl, rfl, HB, Lib.hid (fun _ => by simp)⟩
      case round =>
        clear r4 HKr HB
        obtain ⟨j, L, hj, rfl, rfl, HB, HL⟩ := hrel
        by_cases hlt2 : j < nm
        · obtain ⟨b, o, t, cs, rfl, hx, hb, hr, hcs⟩ := (HI.out.below HB.out).meths.at_ hlt2
          obtain ⟨Ac, nc, cc, At, nt, ct, An, ni, ci, rfl, hBI⟩ := meth_open hr
          have hmem := List.mem_of_getElem? hx
          have HS := Lib.hid (sum_take (fun m : MethD => wBody m.body) f.meths j t hx)
          have HMo : Hid (Modest f → BodySm t.body) := Lib.hid (fun h => h t hmem)
          have c0' : wr.cell? ⟨b, o + j * 8, none⟩ = some (.int .i64 t.flags) := hcs 0 _ rfl
          have c1' : wr.cell? ⟨b, o + j * 8 + 1, none⟩ = some (.int .i64 t.name) := hcs 1 _ rfl
          have c2' : wr.cell? ⟨b, o + j * 8 + 2, none⟩ = some (.int .i64 t.desc) := hcs 2 _ rfl
          have c3' : wr.cell? ⟨b, o + j * 8 + 3, none⟩ = some (.int .i64 t.body.stack) := hcs 3 _ rfl
          have c4' : wr.cell? ⟨b, o + j * 8 + 4, none⟩ = some (.int .i64 t.body.locals) := hcs 4 _ rfl
          have c5' : wr.cell? ⟨b, o + j * 8 + 5, none⟩ = some (.slice Ac nc cc) := hcs 5 _ rfl
          have c6' : wr.cell? ⟨b, o + j * 8 + 6, none⟩ = some (.slice At nt ct) := hcs 6 _ rfl
          have c7' : wr.cell? ⟨b, o + j * 8 + 7, none⟩ = some (.slice An ni ci) := hcs 7 _ rfl
          have hcap2 : ci ≤ 9223372036854775807 ∧ ni ≤ ci := ⟨by have h := hBI.maps.2.2.1; unfold maxLen at h; omega, hBI.maps.2.1⟩
          have HBI := Lib.hid hBI
          obtain ⟨W1, hW1⟩ : ∃ W1, W1 = wr.alloc (.cells #[.int .i64 t.flags, .int .i64 t.name, .int .i64 t.desc, .int .i64 t.body.stack, .int .i64 t.body.locals, .slice Ac nc cc, .slice At nt ct, .slice An ni ci] 44) := ⟨_, rfl⟩
          have hB1 : Below wr.heap.size wr W1 := by rw [hW1]; exact (Below.refl _ _).alloc (Nat.le_refl _) _
          have HB1 : Hid (Below W0.heap.size W0 W1) := Lib.hid (HB.out.trans (hB1.mono HB.out.size))
          have HR := Lib.hid (hBI.maps.below hB1)
          have HW1 := Lib.hid hW1
          have HX := Lib.hid hx
          clear hcs hx hmem hr hBI hW1 hB1
          obtain ⟨L1, hL1⟩ : ∃ L1, wrap64 (wrap64 (L - (nc : Int)) - wrap64 (10 * (nt : Int))) = L1 := ⟨_, rfl⟩
          have HL1 : Hid (Modest f → L1 = L - (nc : Int) - 10 * (nt : Int) ∧ -10000 ≤ L1 ∧ L1 ≤ 4000) := Lib.hid (fun h => by
            have h1 := HL.out h
            have h2 := HMo.out h
            have h3 := h2.code
            have h4 := h2.traps
            rw [HBI.out.code.1] at h3
            rw [HBI.out.traps.1] at h4
            have e1 : wrap64 (L - (nc : Int)) = L - (nc : Int) := by unfold wrap64; omega
            have e2 : wrap64 (10 * (nt : Int)) = 10 * (nt : Int) := by unfold wrap64; omega
            have e3 : wrap64 (L - (nc : Int) - 10 * (nt : Int)) = L - (nc : Int) - 10 * (nt : Int) := by unfold wrap64; omega
            rw [← hL1, e1, e2, e3]
            omega)
          go_wp2
          rw [← HW1.out]
          try rw [hL1]
          clear hL1
          go_loopw [5, 58] (fun v i wr => ∃ (g : Nat) (L2 : Int), g ≤ ni ∧ v = .int .i64 L2 ∧ i = .int .i64 g ∧ Hid (Below W1.heap.size W1 wr) ∧ Hid (Modest f → L2 = L1 - (((t.body.maps.take g).map wMap).sum : Int) ∧ -10000 ≤ L2 ∧ L2 ≤ 4000)) (fun _ i _ => ni - (intOf i).toNat)
          case atStart => exact ⟨0, L1, Nat.zero_le _, rfl, rfl, Lib.hid (Below.refl _ _), Lib.hid (fun h => by have := HL1.out h; simp; omega)⟩
          case round =>
            clear c0' c1' c2' c3' c4' c5' c6' c7'
            obtain ⟨g, L2, hg, rfl, rfl, HBg, HL2⟩ := hrel
            have HBw : Hid (Below w.heap.size w wr) := Lib.hid ((HB0.out.trans (HB1.out.mono HB0.out.size)).trans (HBg.out.mono (Nat.le_trans HB0.out.size HB1.out.size)))
            by_cases hlt3 : g < ni
            · obtain ⟨b3, o3, y, ds, rfl, hy, hb3, hry, hds⟩ := (HR.out.below HBg.out).at_ hlt3
              have HSy := Lib.hid (sum_take wMap t.body.maps g y hy)
              have HMy : Hid (Modest f → y.locals.length ≤ 64 ∧ y.stack.length ≤ 64) := Lib.hid (fun h => (HMo.out h).slots y (List.mem_of_getElem? hy))
              obtain ⟨ta, ts1, ts2⟩ := y
              obtain ⟨u1, u2, rfl, ⟨B1, n1, d1, e1, hr1⟩, ⟨B2, n2, d2, e2, hr2⟩⟩ := hry
              cases e1
              cases e2
              have hr1 : RowS slotT wr Empty B1 n1 d1 ts1 := hr1
              have hr2 : RowS slotT wr Empty B2 n2 d2 ts2 := hr2
              have m0 : wr.cell? ⟨b3, o3 + g * 3, none⟩ = some (.int .i64 ta) := hds 0 _ rfl
              have m1 : wr.cell? ⟨b3, o3 + g * 3 + 1, none⟩ = some (.slice B1 n1 d1) := hds 1 _ rfl
              have m2 : wr.cell? ⟨b3, o3 + g * 3 + 2, none⟩ = some (.slice B2 n2 d2) := hds 2 _ rfl
              have Hn1 := Lib.hid hr1.1
              have Hn2 := Lib.hid hr2.1
              obtain ⟨L3, hL3⟩ : ∃ L3, wrap64 (wrap64 (wrap64 (L2 - 10) - (n1 : Int)) - (n2 : Int)) = L3 := ⟨_, rfl⟩
              have HL3 : Hid (Modest f → L3 = L2 - 10 - (n1 : Int) - (n2 : Int)) := Lib.hid (fun h => by
                have h1 := HL2.out h
                have h2 := HMy.out h
                simp only at h2
                rw [Hn1.out, Hn2.out] at h2
                rw [← hL3]
                unfold wrap64
                omega)
              have HA : Hid (∀ cs : Array Value, Below w.heap.size w (wr.alloc (.cells cs 47)) ∧ Below W1.heap.size W1 (wr.alloc (.cells cs 47))) := Lib.hid (fun cs => ⟨HBw.out.alloc HBw.out.size _, HBg.out.alloc HBg.out.size _⟩)
              clear hy hds hr1 hr2
              by_cases hneg : L3 < 0
              · have hd : decide (L3 < 0) = true := decide_eq_true hneg
                go_wp2
                go_ret
                exact ⟨⟨false, rfl, fun h => by cases h⟩, (HA.out _).1⟩
              · have hd : decide (L3 < 0) = false := decide_eq_false hneg
                have HN : Hid (Modest f → L3 = L1 - (((t.body.maps.take (g + 1)).map wMap).sum : Int) ∧ -10000 ≤ L3 ∧ L3 ≤ 4000) := Lib.hid (fun h => by
                  have h1 := HL2.out h
                  have h2 := HL3.out h
                  have h3 := HSy.out
                  unfold wMap at h3
                  simp only at h3
                  rw [Hn1.out, Hn2.out] at h3
                  have h4 : (((t.body.maps.take (g + 1)).map wMap).sum : Int) = (((t.body.maps.take g).map wMap).sum : Int) + (10 + n1 + n2 : Nat) := by unfold wMap; omega
                  omega)
                go_wp2
                go_roundw
                case rel => exact ⟨g + 1, L3, by omega, by first | rfl | rw [hL3], by go_num, Lib.hid (HA.out _).2, HN⟩
                case measure => simp [intOf]; omega
            · obtain rfl : g = ni := by omega
              have hfull : t.body.maps.take g = t.body.maps := List.take_of_length_le (Nat.le_of_eq HBI.out.maps.1)
              rw [hfull] at HL2
              clear hfull
              by_cases hneg : L2 < 0
              · have hd : decide (L2 < 0) = true := decide_eq_true hneg
                go_wp2
                go_ret
                exact ⟨⟨false, rfl, fun h => by cases h⟩, HBw.out⟩
              · have hd : decide (L2 < 0) = false := decide_eq_false hneg
                have HN : Hid (Modest f → L2 = 4000 - (((f.meths.take (j + 1)).map (fun m => wBody m.body)).sum : Int) ∧ 0 ≤ L2) := Lib.hid (fun h => by
                  have h0 := HL.out h
                  have h1 := HL1.out h
                  have h2 := HL2.out h
                  have h3 := HS.out
                  have h4 : wBody t.body = nc + 10 * nt + (t.body.maps.map wMap).sum := by unfold wBody; rw [HBI.out.code.1, HBI.out.traps.1]
                  rw [h4] at h3
                  omega)
                go_wp2
                go_roundw
                case rel => exact ⟨j + 1, L2, by omega, rfl, by go_num, Lib.hid (HB1.out.trans (HBg.out.mono HB1.out.size)), HN⟩
                case measure => simp [intOf]; omega
        · obtain rfl : j = nm := by omega
          have HOk : Hid (FewOk f) := Lib.hid ⟨by rw [Hpl.out]; omega, by rw [Hfl.out]; omega, by rw [Hml.out]; omega, HTx.out, fun h => by
            have h1 := HL.out h
            rw [List.take_of_length_le (Nat.le_of_eq Hml.out)] at h1
            omega⟩
          go_wp2
          go_ret
          exact ⟨⟨true, rfl, fun _ => HOk.out⟩, HB0.out.trans (HB.out.mono HB0.out.size)⟩

end Go.Proofs.Ytendpbklcgiafaa

/- What follows from Few and Right (layer 14). Nothing of the program. -/
namespace Go.Proofs.Ytendpbklcgiafaa
set_option maxRecDepth 100000
open Go.RowKit

theorem slot_tag {C : List Cst} {x : SlotD} (h : slotOk C x = true) : tagOk x := by
  unfold slotOk at h
  unfold tagOk
  split at h
  · rename_i h7
    exact ⟨7, by rw [h7]; rfl⟩
  · rw [Bool.and_eq_true] at h
    have h := h.1
    simp only [Bool.or_eq_true, decide_eq_true_eq] at h
    rcases h with ((h | h) | h) | h
    · exact ⟨0, by rw [h]; rfl⟩
    · exact ⟨1, by rw [h]; rfl⟩
    · exact ⟨4, by rw [h]; rfl⟩
    · exact ⟨5, by rw [h]; rfl⟩
/-- A method that may be is small. -/
theorem meth_small {C : List Cst} {m : MethD} (h : methOk C m = true) : BodySm m.body := by
  unfold methOk methF at h
  simp only [Bool.and_eq_true, decide_eq_true_eq] at h
  obtain ⟨-, -, -, h4, h5, h6, -, h8, -⟩ := h
  have hm : ∀ y ∈ m.body.maps, slotsF C y.locals = true ∧ slotsF C y.stack = true := fun y hy => by
    have h := List.all_eq_true.1 h8 y hy
    unfold mapOk at h
    simp only [Bool.and_eq_true] at h
    exact h.2
  have hs : ∀ l : List SlotD, slotsF C l = true → l.length ≤ 64 ∧ ∀ x ∈ l, tagOk x := fun l h => by
    unfold slotsF at h
    simp only [Bool.and_eq_true, decide_eq_true_eq] at h
    exact ⟨h.2, fun x hx => slot_tag (List.all_eq_true.1 h.1 x hx)⟩
  exact ⟨h4.2, h5, h6, fun y hy => ⟨(hs _ (hm y hy).1).1, (hs _ (hm y hy).2).1⟩, fun y hy => ⟨(hs _ (hm y hy).1).2, (hs _ (hm y hy).2).2⟩⟩
theorem right_parts {f : FileD} (h : docRight f = true) : rightF f.pool = true ∧ f.fields.length ≤ 64 ∧ f.meths.length ≤ 64 ∧ Modest f := by
  unfold docRight at h
  simp only [Bool.and_eq_true, decide_eq_true_eq] at h
  obtain ⟨h1, -, -, h4, h5, -, h7⟩ := h
  exact ⟨h1, h4, h5, fun m hm => meth_small (List.all_eq_true.1 h7 m hm)⟩

theorem cB_len (c : Cst) : (cB c).length ≤ c.s.length + 20 := by
  unfold cB constB formF noFrm
  repeat' split
  all_goals simp [putL_len] <;> omega
theorem flat_sum {α : Type} (g : α → List UInt8) (wt : α → Nat) (a b : Nat) (l : List α) (h : ∀ x ∈ l, (g x).length ≤ a + b * wt x) : (l.flatMap g).length ≤ a * l.length + b * (l.map wt).sum := by
  induction l with
  | nil => simp
  | cons x l ih =>
    rw [List.flatMap_cons, List.length_append, List.length_cons, List.map_cons, List.sum_cons, Nat.mul_add, Nat.mul_add]
    have h1 := h x (List.mem_cons_self ..)
    have h2 := ih (fun y hy => h y (List.mem_cons_of_mem _ hy))
    omega
theorem poolB_small {l : List Cst} (h1 : l.length ≤ 120) (h2 : ∀ c ∈ l, c.s.length ≤ 300) : (poolB l).length ≤ 40000 := by
  unfold poolB
  rw [List.length_append, putL_len]
  have h := flat_len cB 320 l (fun c hc => by have := cB_len c; have := h2 c hc; omega)
  omega
theorem slotsB_wt (l : List SlotD) : (slotsB l).length ≤ 2 + 3 * l.length := by
  unfold slotsB
  have := flat_len slotB 3 l (fun x _ => slotB_len x)
  rw [List.length_append, u2B_len]
  simp only [List.length_cons, List.length_nil]
  omega
theorem mapB_wt (y : MapD) : (mapB y).length ≤ 0 + 3 * wMap y := by
  unfold mapB wMap
  have h1 := slotsB_wt y.locals
  have h2 := slotsB_wt y.stack
  rw [List.length_append, List.length_append, u2B_len]
  simp only [List.length_cons, List.length_nil]
  omega
theorem codeB_wt (C : List Cst) (d : BodyD) : (codeB C d).length ≤ 30 + 3 * wBody d := by
  have h1 := flat_len trapB 8 d.traps (fun x _ => trapB_len x)
  have h2 := flat_sum mapB wMap 0 3 d.maps (fun x _ => mapB_wt x)
  unfold codeB headB mapsB mapsX wBody
  split <;> simp only [List.length_append, u2B_len, putL_len, List.length_cons, List.length_nil] <;> omega
theorem methB_wt (C : List Cst) (m : MethD) : (methB C m).length ≤ 44 + 3 * wBody m.body := by
  have h := codeB_wt C m.body
  unfold methB
  simp only [List.length_append, u2B_len, putL_len, List.length_cons, List.length_nil]
  omega
/-- A class that isn't too great has few bytes. -/
theorem doc_small {f : FileD} (hf : FewOk f) (hr : docRight f = true) : (docB f).length ≤ 100000 := by
  have hs := hf.sum (right_parts hr).2.2.2
  have h1 := poolB_small hf.pool hf.texts
  have h2 := flat_len fieldB 8 f.fields (fun x _ => by unfold fieldB; rw [u2B_len]; simp)
  have h3 := flat_sum (methB f.pool) (fun m => wBody m.body) 44 3 f.meths (fun x _ => methB_wt f.pool x)
  have h4 := hf.fields
  have h5 := hf.meths
  unfold docB pre1 pre0
  simp only [List.length_append, u2B_len, putL_len, List.length_cons, List.length_nil]
  omega
theorem few_small {f : FileD} (hf : FewOk f) : SmallP f.pool := ⟨by have := hf.pool; omega, fun c hc => by have := hf.texts c hc; omega, by have := poolB_small hf.pool hf.texts; omega⟩
theorem few_file {f : FileD} (hf : FewOk f) : FileSm f := ⟨by have := hf.pool; omega, fun c hc => by have := hf.texts c hc; omega⟩

end Go.Proofs.Ytendpbklcgiafaa

/- A class that comes in as an argument, opened (layer 14). -/
namespace Go.Proofs.Ytendpbklcgiafaa
set_option maxRecDepth 100000
open Go.ChangeShapes Go.WideShapes Go.ChangeAt Go.RowKit Go.Joins

section
variable {H : Type} {enc : TypeId × Value → H} {W : World} {base : Nat}

/-- A slice in a cell: rows of what 'one' makes of so many cells. -/
theorem rowS_cell {α : Type} (R : RepT α) (a0 : α) (t e : TypeId) (ht : Try.prog.underlying t = some (.slice e)) (hK : Try.prog.cellsOf e = R.k) (h0K : 0 < R.k)
    (one : ∀ (fuel : Nat) (cs : List Value) (x : DataW H × List MemPlace), cs.length = R.k → DataW.trod enc Try.prog W 0 (fun _ => true) true fuel e cs = some x → ∃ y, R.rep W (fun q => W.heap.size ≤ q) cs y)
    {fuel : Nat} {v : Value} {x : DataW H × List MemPlace} (h : DataW.trod enc Try.prog W 0 (fun _ => true) true fuel t [v] = some x) :
    ∃ (A : Option Addr) (n cap : Nat) (l : List α), v = .slice A n cap ∧ RowS R W (fun q => W.heap.size ≤ q) A n cap l := by
  rcases Go.Deep.open_slice ht h with ⟨hcs, _⟩ | ⟨ad, n, cap, m, n', D, Pl, hcs, _, hl, hm, hmm, _, hi⟩
  · simp at hcs
    subst hcs
    exact ⟨none, 0, 0, [], rfl, rowS_nil _ _ _⟩
  · simp at hcs
    subst hcs
    simp at hmm
    subst hmm
    rw [hK] at hi
    rcases Nat.eq_zero_or_pos n with h0 | h0
    · subst h0
      exact ⟨_, 0, _, [], rfl, rfl, hl, hm, (fun h => by cases h), fun h => absurd h (by omega)⟩
    obtain ⟨b, o, sp⟩ := ad
    have hs : sp = none ∧ b < W.heap.size := by
      obtain ⟨cs', hc, _⟩ := hi 0 (by omega)
      obtain ⟨_, hl6, hat⟩ := World.cells?_some hc
      have h1 := hat 0 (by omega)
      rw [List.getElem?_eq_getElem (by omega)] at h1
      simp only [Nat.zero_mul, Addr.add, if_true] at h1
      refine ⟨?_, cell_lt h1⟩
      rcases sp with _ | x
      · rfl
      · exfalso
        unfold World.cell? at h1
        split at h1 <;> simp at h1
    obtain ⟨rfl, hb⟩ := hs
    have hall : ∀ i, ∃ y, i < n → ∃ cs, (∀ j v, cs[j]? = some v → W.cell? ⟨b, o + i * R.k + j, none⟩ = some v) ∧ R.rep W (fun q => W.heap.size ≤ q) cs y := fun i => by
      by_cases hin : i < n
      · obtain ⟨cs', hc, ht2⟩ := hi i (by omega)
        rw [add_off] at hc
        obtain ⟨_, hcl, hat⟩ := World.cells?_some hc
        obtain ⟨y, hy⟩ := one _ _ _ hcl ht2
        refine ⟨y, fun _ => ⟨cs', fun j v hv => ?_, hy⟩⟩
        have hj := (List.getElem?_eq_some_iff.1 hv).1
        have h1 := hat j (by omega)
        rw [add_off] at h1
        rw [h1]
        exact hv
      · exact ⟨a0, fun h => absurd h hin⟩
    refine ⟨_, n, _, (List.range n).map fun i => (hall i).choose, rfl, by simp, hl, hm, (fun h => by cases h), fun _ => ⟨b, o, rfl, hb, by omega, fun i y hy => ?_⟩⟩
    rw [List.getElem?_map] at hy
    have hin : i < n := by
      rcases Nat.lt_or_ge i n with h1 | h1
      · exact h1
      · rw [List.getElem?_eq_none (by simpa using h1)] at hy
        cases hy
    rw [List.getElem?_range hin] at hy
    simp only [Option.map_some, Option.some.injEq] at hy
    rw [← hy]
    exact (hall i).choose_spec hin

/-- A constant as it lies in a cell. -/
def cstT : RepT Cst where
  k := 5
  rep _ _ cs v := cs = v.cells ∧ v.ok
  len h := by rw [h.1]; rfl
  next h _ _ := h

abbrev TC (enc : TypeId × Value → H) (W : World) (t : TypeId) (fuel : Nat) (cs : List Value) (x : DataW H × List MemPlace) : Prop := DataW.trod enc Try.prog W 0 (fun _ => true) true fuel t cs = some x

theorem one_int {fuel : Nat} {c : Value} {x : DataW H × List MemPlace} (h : TC enc W 3 fuel [c] x) : ∃ k : Int, c = .int .i64 k := by
  obtain ⟨k, e, _, _⟩ := DataW.trod_int Try.underlying3 h
  simp at e
  exact ⟨k, e⟩
theorem one_cst {fuel : Nat} {cs : List Value} {x : DataW H × List MemPlace} (hl : cs.length = 5) (ht : TC enc W 30 fuel cs x) : ∃ y, cstT.rep W (fun q => W.heap.size ≤ q) cs y := by
  obtain ⟨ys, m, _, _, _, hyl, hg⟩ := DataW.trod_struct Try.underlying30 ht
  match cs, hl with
  | [c0, c1, c2, c3, c4], _ =>
    match ys, hyl with
    | [y0, y1, y2, y3, y4], _ =>
      have g0 : TC enc W 3 m [c0] y0 := hg 0 _ rfl
      have g1 : TC enc W 3 m [c1] y1 := hg 1 _ rfl
      have g2 : TC enc W 3 m [c2] y2 := hg 2 _ rfl
      have g3 : TC enc W 2 m [c3] y3 := hg 3 _ rfl
      have g4 : TC enc W 9 m [c4] y4 := hg 4 _ rfl
      obtain ⟨t, e0, _, w0⟩ := DataW.trod_int Try.underlying3 g0
      obtain ⟨a, e1, _, w1⟩ := DataW.trod_int Try.underlying3 g1
      obtain ⟨b', e2, _, w2⟩ := DataW.trod_int Try.underlying3 g2
      obtain ⟨n, e3, _, w3⟩ := DataW.trod_int Try.underlying2 g3
      obtain ⟨s, e4, _, w4⟩ := DataW.trod_string Try.underlying9 g4
      simp at e0 e1 e2 e3 e4
      subst e0 e1 e2 e3 e4
      exact ⟨⟨t, a, b', n, s.data.toList⟩, rfl, ⟨bd_i64 w0, bd_i64 w1, bd_i64 w2, bd_i64 w3, by simpa [maxLen] using w4⟩⟩
theorem one_slot {fuel : Nat} {cs : List Value} {x : DataW H × List MemPlace} (hl : cs.length = 2) (ht : TC enc W 98 fuel cs x) : ∃ y, slotT.rep W (fun q => W.heap.size ≤ q) cs y := by
  obtain ⟨ys, m, _, _, _, hyl, hg⟩ := DataW.trod_struct Try.underlying98 ht
  match cs, hl with
  | [c0, c1], _ =>
    match ys, hyl with
    | [y0, y1], _ =>
      obtain ⟨t, rfl⟩ := one_int (hg 0 _ rfl : TC enc W 3 m [c0] y0)
      obtain ⟨a, rfl⟩ := one_int (hg 1 _ rfl : TC enc W 3 m [c1] y1)
      exact ⟨⟨t, a⟩, rfl⟩
theorem one_field {fuel : Nat} {cs : List Value} {x : DataW H × List MemPlace} (hl : cs.length = 3) (ht : TC enc W 51 fuel cs x) : ∃ y, fieldT.rep W (fun q => W.heap.size ≤ q) cs y := by
  obtain ⟨ys, m, _, _, _, hyl, hg⟩ := DataW.trod_struct Try.underlying51 ht
  match cs, hl with
  | [c0, c1, c2], _ =>
    match ys, hyl with
    | [y0, y1, y2], _ =>
      obtain ⟨t, rfl⟩ := one_int (hg 0 _ rfl : TC enc W 3 m [c0] y0)
      obtain ⟨a, rfl⟩ := one_int (hg 1 _ rfl : TC enc W 3 m [c1] y1)
      obtain ⟨b, rfl⟩ := one_int (hg 2 _ rfl : TC enc W 3 m [c2] y2)
      exact ⟨⟨t, a, b⟩, rfl⟩
theorem one_trap {fuel : Nat} {cs : List Value} {x : DataW H × List MemPlace} (hl : cs.length = 4) (ht : TC enc W 70 fuel cs x) : ∃ y, trapT.rep W (fun q => W.heap.size ≤ q) cs y := by
  obtain ⟨ys, m, _, _, _, hyl, hg⟩ := DataW.trod_struct Try.underlying70 ht
  match cs, hl with
  | [c0, c1, c2, c3], _ =>
    match ys, hyl with
    | [y0, y1, y2, y3], _ =>
      obtain ⟨t, rfl⟩ := one_int (hg 0 _ rfl : TC enc W 3 m [c0] y0)
      obtain ⟨a, rfl⟩ := one_int (hg 1 _ rfl : TC enc W 3 m [c1] y1)
      obtain ⟨b, rfl⟩ := one_int (hg 2 _ rfl : TC enc W 3 m [c2] y2)
      obtain ⟨d, rfl⟩ := one_int (hg 3 _ rfl : TC enc W 3 m [c3] y3)
      exact ⟨⟨t, a, b, d⟩, rfl⟩
theorem slots_cell {fuel : Nat} {v : Value} {x : DataW H × List MemPlace} (h : TC enc W 45 fuel [v] x) : ∃ l, (rowT slotT).rep W (fun q => W.heap.size ≤ q) [v] l := by
  obtain ⟨A, n, cap, l, rfl, hR⟩ := rowS_cell slotT ⟨0, 0⟩ 45 98 Try.underlying45 (by kernel_rfl) (by decide) (fun _ _ _ hl ht => one_slot hl ht) h
  exact ⟨l, A, n, cap, rfl, hR⟩
theorem one_map {fuel : Nat} {cs : List Value} {x : DataW H × List MemPlace} (hl : cs.length = 3) (ht : TC enc W 47 fuel cs x) : ∃ y, mapD.rep W (fun q => W.heap.size ≤ q) cs y := by
  obtain ⟨ys, m, _, _, _, hyl, hg⟩ := DataW.trod_struct Try.underlying47 ht
  match cs, hl with
  | [c0, c1, c2], _ =>
    match ys, hyl with
    | [y0, y1, y2], _ =>
      obtain ⟨t, rfl⟩ := one_int (hg 0 _ rfl : TC enc W 3 m [c0] y0)
      obtain ⟨l1, h1⟩ := slots_cell (hg 1 _ rfl : TC enc W 45 m [c1] y1)
      obtain ⟨l2, h2⟩ := slots_cell (hg 2 _ rfl : TC enc W 45 m [c2] y2)
      exact ⟨⟨t, l1, l2⟩, c1, c2, rfl, h1, h2⟩
theorem bytesT_cell {fuel : Nat} {v : Value} {x : DataW H × List MemPlace} (h : TC enc W 31 fuel [v] x) : ∃ l, bytesT.rep W (fun q => W.heap.size ≤ q) [v] l := by
  obtain ⟨A, n, cap, xs, rfl, hB, hn⟩ := bytes_cell h
  exact ⟨xs, A, n, cap, rfl, hB, hn⟩
theorem one_meth {fuel : Nat} {cs : List Value} {x : DataW H × List MemPlace} (hl : cs.length = 8) (ht : TC enc W 44 fuel cs x) : ∃ y, methD.rep W (fun q => W.heap.size ≤ q) cs y := by
  obtain ⟨ys, m, _, _, _, hyl, hg⟩ := DataW.trod_struct Try.underlying44 ht
  match cs, hl with
  | [c0, c1, c2, c3, c4, c5, c6, c7], _ =>
    match ys, hyl with
    | [y0, y1, y2, y3, y4, y5, y6, y7], _ =>
      obtain ⟨t, rfl⟩ := one_int (hg 0 _ rfl : TC enc W 3 m [c0] y0)
      obtain ⟨a, rfl⟩ := one_int (hg 1 _ rfl : TC enc W 3 m [c1] y1)
      obtain ⟨b, rfl⟩ := one_int (hg 2 _ rfl : TC enc W 3 m [c2] y2)
      obtain ⟨d, rfl⟩ := one_int (hg 3 _ rfl : TC enc W 3 m [c3] y3)
      obtain ⟨e, rfl⟩ := one_int (hg 4 _ rfl : TC enc W 3 m [c4] y4)
      obtain ⟨l5, h5⟩ := bytesT_cell (hg 5 _ rfl : TC enc W 31 m [c5] y5)
      obtain ⟨A6, n6, p6, l6, rfl, h6⟩ := rowS_cell trapT ⟨0, 0, 0, 0⟩ 41 70 Try.underlying41 (by kernel_rfl) (by decide) (fun _ _ _ hl ht => one_trap hl ht) (hg 6 _ rfl : TC enc W 41 m [c6] y6)
      obtain ⟨A7, n7, p7, l7, rfl, h7⟩ := rowS_cell mapD ⟨0, [], []⟩ 42 47 Try.underlying42 (by kernel_rfl) (by decide) (fun _ _ _ hl ht => one_map hl ht) (hg 7 _ rfl : TC enc W 42 m [c7] y7)
      exact ⟨⟨t, a, b, ⟨d, e, l5, l6, l7⟩⟩, _, rfl, _, _, _, rfl, h5, ⟨A6, n6, p6, rfl, h6⟩, ⟨A7, n7, p7, rfl, h7⟩⟩

theorem pool_of {A : Option Addr} {n cap : Nat} {l : List Cst} (h : RowS cstT W (fun q => W.heap.size ≤ q) A n cap l) : PoolSl W A n cap l ∧ ∀ c ∈ l, c.ok := by
  obtain ⟨hl, hn, hm, hA, hP⟩ := h
  refine ⟨⟨hl, hn, hm, fun h0 => ?_⟩, fun c hc => ?_⟩
  · obtain ⟨b, o, e, hb, hz, hc⟩ := hP h0
    refine ⟨b, o, e, hb, fun h => h, fun i f hf j hj => ?_⟩
    obtain ⟨cs, hcs, hrep, _⟩ := hc i f hf
    rw [hrep] at hcs
    have hj5 : j < f.cells.length := hj
    rw [List.getElem?_eq_getElem hj5]
    exact hcs j _ (List.getElem?_eq_getElem hj5)
  · obtain ⟨i, hi, he⟩ := List.mem_iff_getElem.1 hc
    obtain ⟨b, o, e, hb, hz, hcs⟩ := hP (by omega)
    obtain ⟨cs, _, _, hok⟩ := hcs i c (by rw [← he]; exact List.getElem?_eq_getElem hi)
    exact hok

theorem open_file {v : Value} {d : DataW H} {p : List MemPlace} (hv : Value.okWide Try.prog W .any base 26 v) (h : DataW.Trod enc Try.prog W 0 (fun _ => true) true 26 v d p) :
    ∃ (A : Option Addr) (n cap : Nat) (Af : Option Addr) (nf cf : Nat) (Am : Option Addr) (nm cm : Nat) (f : FileD), v = .agg #[.slice A n cap, .int .i64 f.this, .int .i64 f.super, .slice Af nf cf, .slice Am nm cm] ∧ FileIn W A n cap Af nf cf Am nm cm f := by
  obtain ⟨cs, rfl, hsz⟩ := okWide_struct Try.underlying26 hv
  obtain ⟨fuel, hf⟩ := h
  obtain ⟨ys, m, _, _, _, hyl, hg⟩ := DataW.trod_struct Try.underlying26 hf
  obtain ⟨l⟩ := cs
  have h5 : l.length = 5 := hsz
  match l, h5 with
  | [c0, c1, c2, c3, c4], _ =>
    match ys, hyl with
    | [y0, y1, y2, y3, y4], _ =>
      obtain ⟨A, n, cap, lp, rfl, h0⟩ := rowS_cell cstT zeroC 22 30 Try.underlying22 (by kernel_rfl) (by decide) (fun _ _ _ hl ht => one_cst hl ht) (hg 0 _ rfl : TC enc W 22 m [c0] y0)
      obtain ⟨t, rfl⟩ := one_int (hg 1 _ rfl : TC enc W 3 m [c1] y1)
      obtain ⟨a, rfl⟩ := one_int (hg 2 _ rfl : TC enc W 3 m [c2] y2)
      obtain ⟨Af, nf, cf, lf, rfl, h3⟩ := rowS_cell fieldT ⟨0, 0, 0⟩ 23 51 Try.underlying23 (by kernel_rfl) (by decide) (fun _ _ _ hl ht => one_field hl ht) (hg 3 _ rfl : TC enc W 23 m [c3] y3)
      obtain ⟨Am, nm, cm, lm, rfl, h4⟩ := rowS_cell methD zeroMeth 24 44 Try.underlying24 (by kernel_rfl) (by decide) (fun _ _ _ hl ht => one_meth hl ht) (hg 4 _ rfl : TC enc W 24 m [c4] y4)
      obtain ⟨hP, hok⟩ := pool_of h0
      exact ⟨A, n, cap, Af, nf, cf, Am, nm, cm, ⟨lp, t, a, lf, lm⟩, rfl, hP, hok, h3.mono (fun _ _ h => h.elim), h4.mono (fun _ _ h => h.elim)⟩
end

end Go.Proofs.Ytendpbklcgiafaa

/- The law's least and fixed (layer 14). -/
namespace Go.Proofs.Ytendpbklcgiafaa
set_option maxRecDepth 100000
open Go.RowKit

/-- A class that was read is one that may be handed in. -/
theorem file_in {w : World} {cs : List Value} {f : FileD} (h : fileRep w Empty cs f) : ∃ A n cap Af nf cf Am nm cm, cs = [.slice A n cap, .int .i64 f.this, .int .i64 f.super, .slice Af nf cf, .slice Am nm cm] ∧ FileIn w A n cap Af nf cf Am nm cm f := by
  obtain ⟨up, uf, um, rfl, ⟨A, n, cap, e1, h1, h2⟩, ⟨Af, nf, cf, e2, h3⟩, ⟨Am, nm, cm, e3, h4⟩⟩ := h
  cases e1
  cases e2
  cases e3
  exact ⟨A, n, cap, Af, nf, cf, Am, nm, cm, rfl, h1, h2, h3, h4⟩
theorem FileIn.rows {w : World} {A Af Am : Option Addr} {n cap nf cf nm cm : Nat} {f : FileD} (h : FileIn w A n cap Af nf cf Am nm cm f) : (rowT fieldT).rep w Empty [.slice Af nf cf] f.fields ∧ (rowT methD).rep w Empty [.slice Am nm cm] f.meths := ⟨⟨Af, nf, cf, rfl, h.fields⟩, Am, nm, cm, rfl, h.meths⟩

/-- A class's cells in its box. -/
theorem five {w W : World} {g : Nat} {t : TypeId} {v0 v1 v2 v3 v4 : Value} (h : Blk w g t #[v0, v1, v2, v3, v4]) (hb : Below w.heap.size w W) :
    W.cell? ⟨g, 0, none⟩ = some v0 ∧ W.cell? ⟨g, 1, none⟩ = some v1 ∧ W.cell? ⟨g, 2, none⟩ = some v2 ∧ W.cell? ⟨g, 3, none⟩ = some v3 ∧ W.cell? ⟨g, 4, none⟩ = some v4 := by
  have k := h.of (hb.block _ h.lt)
  exact ⟨k.cell 0, k.cell 1, k.cell 2, k.cell 3, k.cell 4⟩

def leastL : List Cst := [zeroC, ⟨1, 0, 0, 0, [65]⟩, ⟨7, 1, 0, 0, []⟩]
def leastD : FileD := ⟨leastL, 2, 0, [], []⟩
theorem decF_A : (decF [65]).isSome = true := by
  have h := decR_enc [65] (by simp)
  have e : encT [65] = [65] := by decide
  rw [e] at h
  rw [decR_fun h _ (decF_is [65])]
  rfl
theorem least_check : checkF leastL = true := by
  have h0 : mayF leastL 0 = true := by unfold mayF; rfl
  have h1 : mayF leastL 1 = true := by
    unfold mayF isTextF
    simp [leastL, formF, partF, noFrm, zeroC, decF_A, tagAtF, atF]
  have h2 : mayF leastL 2 = true := by
    unfold mayF
    simp [leastL, formF, partF, noFrm, zeroC, isTextF_nil, tagAtF, atF]
  unfold checkF
  simp [show leastL.length = 3 from rfl, List.range_succ, h0, h1, h2]
  decide
theorem least_ok : ∀ c ∈ leastL, c.ok := by
  intro c hc
  simp [leastL] at hc
  rcases hc with rfl | rfl | rfl <;> exact ⟨by decide, by decide, by decide, by decide, by decide⟩
theorem least_right : docRight leastD = true := by
  have h1 : rightF leastL = true := by rw [← check_right leastL least_ok]; exact least_check
  have h2 : isClassC leastL 2 = true := by decide
  have h3 : isClsNoneC leastL 0 = true := by decide
  unfold docRight
  rw [show leastD.pool = leastL from rfl, show leastD.this = 2 from rfl, show leastD.super = 0 from rfl, show leastD.fields = [] from rfl, show leastD.meths = [] from rfl, h1, h2, h3]
  rfl
noncomputable def leastB : List UInt8 := docB leastD
theorem leastB_len : leastB.length = 31 := by
  unfold leastB docB pre1 pre0
  simp only [List.length_append, putL_len, u2B_len, show leastD.pool = leastL from rfl, show leastD.fields = [] from rfl, show leastD.meths = [] from rfl, List.flatMap_nil, List.length_cons, List.length_nil]
  decide
theorem least_file : fileE leastD = some leastB := by
  rw [file_doc leastD least_ok, if_pos least_right]
  rfl
theorem least_small : SmallP leastL := ⟨by decide, by decide, by decide⟩
theorem zero_file : fileE zFile = none := by
  rw [file_doc zFile (by simp [zFile])]
  rw [if_neg]
  intro h
  have h1 := (right_parts h).1
  rw [← check_right _ (by simp [zFile]), checkF_len (by simp [zFile])] at h1
  cases h1

set_option maxHeartbeats 1000000 in
theorem least_any (w : World) : Calls Try.prog 10 #[] w fun e w' => (∃ g, e = .returned (.agg #[.slice (some ⟨g, 0, none⟩) 3 3, .int .i64 2, .int .i64 0, .slice none 0 0, .slice none 0 0]) ∧ FileIn w' (some ⟨g, 0, none⟩) 3 3 none 0 0 none 0 0 leastD) ∧ Below w.heap.size w w' := by
  go_enter Try.func10, Try.ntmps10
  go_wp2
  obtain ⟨W1, hW1⟩ : ∃ W1, W1 = w.alloc (.cells #[.slice (some ⟨w.heap.size + 1, 0, none⟩) 3 3, .int .i64 2, .int .i64 0, .slice none 0 0, .slice none 0 0] 26) := ⟨_, rfl⟩
  obtain ⟨W2, hW2⟩ : ∃ W2, W2 = W1.alloc (.cells #[.int .i64 0, .int .i64 0, .int .i64 0, .int .i64 0, .string ⟨#[]⟩, .int .i64 1, .int .i64 0, .int .i64 0, .int .i64 0, .string ⟨#[65]⟩, .int .i64 7, .int .i64 1, .int .i64 0, .int .i64 0, .string ⟨#[]⟩] 30) := ⟨_, rfl⟩
  have hs1 : W1.heap.size = w.heap.size + 1 := by rw [hW1]; simp
  have hK : Blk W2 w.heap.size 26 #[.slice (some ⟨w.heap.size + 1, 0, none⟩) 3 3, .int .i64 2, .int .i64 0, .slice none 0 0, .slice none 0 0] := by rw [hW2, hW1]; exact (Blk.new _ _ _).alloc _
  have hL : PoolSl W2 (some ⟨w.heap.size + 1, 0, none⟩) 3 3 leastL := by
    rw [hW2, ← hs1]
    exact RowSl.lit Cst.cells_len W1 Empty 30 leastL 3 _ rfl rfl (by unfold maxLen; omega) (fun h => h)
  have hb : Below w.heap.size w W2 := by rw [hW2, hW1]; exact ((Below.refl _ _).alloc (Nat.le_refl _) _).alloc (by simp) _
  rw [← hW1, ← hW2]
  have c0 : W2.cell? ⟨w.heap.size, 0, none⟩ = some (.slice (some ⟨w.heap.size + 1, 0, none⟩) 3 3) := hK.cell 0
  have c1 : W2.cell? ⟨w.heap.size, 1, none⟩ = some (.int .i64 2) := hK.cell 1
  have c2 : W2.cell? ⟨w.heap.size, 2, none⟩ = some (.int .i64 0) := hK.cell 2
  have c3 : W2.cell? ⟨w.heap.size, 3, none⟩ = some (.slice none 0 0) := hK.cell 3
  have c4 : W2.cell? ⟨w.heap.size, 4, none⟩ = some (.slice none 0 0) := hK.cell 4
  clear hW1 hW2 hK hs1
  refine bodyPost_ret (v := .agg #[.slice (some ⟨w.heap.size + 1, 0, none⟩) 3 3, .int .i64 2, .int .i64 0, .slice none 0 0, .slice none 0 0]) (by simp [results, Try.results10, go_sem, c0, c1, c2, c3, c4]) rfl ?_
  exact ⟨⟨w.heap.size + 1, rfl, hL, least_ok, rowS_nil _ _ _, rowS_nil _ _ _⟩, hb⟩

set_option maxHeartbeats 4000000 in
theorem fixed14_any (w : World) : Calls Try.prog 4 #[] w fun e w' => e = .returned (.bool true) ∧ Below w.heap.size w w' := by
  have CB : Hid (∀ A W, FileIn W A 3 3 none 0 0 none 0 0 leastD → Calls Try.prog 7 #[.agg #[.slice A 3 3, .int .i64 2, .int .i64 0, .slice none 0 0, .slice none 0 0]] W fun e w' => (∃ B c, e = .returned (.tuple #[.slice B 31 c, .int .i64 0]) ∧ ByteSl w' Empty B 31 c leastB) ∧ Below W.heap.size W w') := Lib.hid (fun A W h =>
    (kBytes_any A 3 3 _ _ leastD W h.pool h.ok least_small h.rows.1 h.rows.2).mono fun e w' k => by
      unfold KBytes at k
      rw [least_file] at k
      obtain ⟨⟨B, c, k1, k2, _⟩, k3⟩ := k
      rw [leastB_len] at k1 k2
      exact ⟨⟨B, c, k1, k2⟩, k3⟩)
  have CP : Hid (∀ B c W, ByteSl W Empty B 31 c leastB → Calls Try.prog 8 #[.slice B 31 c] W fun e w' => (∃ A n cap Af nf cf Am nm cm, e = .returned (.tuple #[.agg #[.slice A n cap, .int .i64 2, .int .i64 0, .slice Af nf cf, .slice Am nm cm], .int .i64 0]) ∧ FileIn w' A n cap Af nf cf Am nm cm leastD) ∧ Below W.heap.size W w') := Lib.hid (fun B c W hB =>
    (kParse_any B 31 c leastB W hB (by omega)).mono fun e w' ⟨k, kb⟩ => by
      refine ⟨?_, kb⟩
      have hR : Reads fileE leastB leastD [] := ⟨leastB, least_file, (List.append_nil _).symm⟩
      rcases k with ⟨f', cs, h1, h2, h3⟩ | ⟨h1, _⟩
      · obtain ⟨rfl, _⟩ := Uniq.file _ _ _ _ _ hR h1
        obtain ⟨A, n, cap, Af, nf, cf, Am, nm, cm, rfl, hI⟩ := file_in h3
        exact ⟨A, n, cap, Af, nf, cf, Am, nm, cm, h2, hI⟩
      · exact absurd hR (h1 _))
  have CN : Hid (∀ W, Calls Try.prog 8 #[.slice none 0 0] W fun e w' => e = .returned (.tuple #[.agg #[.slice none 0 0, .int .i64 0, .int .i64 0, .slice none 0 0, .slice none 0 0], .int .i64 6]) ∧ Below W.heap.size W w') := Lib.hid (fun W =>
    (kParse_any none 0 0 [] W (ByteSl.nil_ _ _ _ _ (by unfold maxLen; omega)) (by omega)).mono fun e w' ⟨k, kb⟩ => by
      refine ⟨?_, kb⟩
      rcases k with ⟨f', cs, ⟨x, hx, hb⟩, _⟩ | ⟨_, x, ⟨_, h2⟩, h3⟩
      · exact absurd (List.append_eq_nil_iff.1 hb.symm).1 (file_ne hx)
      · rw [h3, h2 rfl])
  have CC : Hid (∀ W, Calls Try.prog 11 #[.agg #[.slice none 0 0, .int .i64 0, .int .i64 0, .slice none 0 0, .slice none 0 0]] W fun e w' => e = .returned (.int .i64 8) ∧ Below W.heap.size W w') := Lib.hid (fun W =>
    (kCheck_any none 0 0 (.slice none 0 0) (.slice none 0 0) zFile W (RowSl.nil_ _ _ _ _ (by unfold maxLen; omega)) (by simp [zFile]) ⟨by decide, by decide, by decide⟩ ⟨none, 0, 0, rfl, rowS_nil _ _ _⟩ ⟨none, 0, 0, rfl, rowS_nil _ _ _⟩).mono fun e w' ⟨k, kb⟩ => by
      refine ⟨?_, kb⟩
      rw [k]
      unfold kCheckC
      rw [zero_file]
      rfl)
  have CS : Hid (∀ W A n cap Af nf cf Am nm cm g, FileIn W A n cap Af nf cf Am nm cm leastD → FileIn W (some ⟨g, 0, none⟩) 3 3 none 0 0 none 0 0 leastD → Calls Try.prog 9 #[.agg #[.slice A n cap, .int .i64 2, .int .i64 0, .slice Af nf cf, .slice Am nm cm], .agg #[.slice (some ⟨g, 0, none⟩) 3 3, .int .i64 2, .int .i64 0, .slice none 0 0, .slice none 0 0]] W fun e w' => e = .returned (.bool true) ∧ Below W.heap.size W w') := Lib.hid (fun W A n cap Af nf cf Am nm cm g hJ hI => by
    have h1 : leastD.pool.length = n := hJ.pool.1
    have h2 : leastD.fields.length = nf := hJ.fields.1
    have h3 : leastD.meths.length = nm := hJ.meths.1
    cases h1
    cases h2
    cases h3
    exact r14Same_same A 3 cap Af 0 cf Am 0 cm (some ⟨g, 0, none⟩) 3 none 0 none 0 2 0 leastD W hJ hI (by omega) (by simp [leastD]) (by omega) (by omega))
  go_enter Try.func4, Try.ntmps4
  go_wp2_with fail
  refine (least_any _).mono ?_
  rintro e w1 ⟨⟨g1, rfl, hI1⟩, hb1⟩
  have C1 := Lib.hid (CB.out _ _ hI1)
  have HB1 := Lib.hid hb1
  clear hI1 hb1 CB
  go_wp2_with fail
  refine C1.out.mono ?_
  rintro e w2 ⟨⟨B, c, rfl, hB⟩, hb2⟩
  have HB2 := Lib.hid (HB1.out.trans (hb2.mono HB1.out.size))
  have C2 := Lib.hid (CP.out _ _ _ hB)
  clear hB hb2 CP C1
  go_wp2_with fail
  refine C2.out.mono ?_
  rintro e w3 ⟨⟨A, n, cap, Af, nf, cf, Am, nm, cm, rfl, hI3⟩, hb3⟩
  have HB3 := Lib.hid (HB2.out.trans (hb3.mono HB2.out.size))
  have HI3 := Lib.hid hI3
  obtain ⟨W4, hW4⟩ : ∃ W4, W4 = w3.alloc (.cells #[.slice A n cap, .int .i64 2, .int .i64 0, .slice Af nf cf, .slice Am nm cm] 26) := ⟨_, rfl⟩
  have hK4 : Blk W4 w3.heap.size 26 #[.slice A n cap, .int .i64 2, .int .i64 0, .slice Af nf cf, .slice Am nm cm] := by rw [hW4]; exact Blk.new _ _ _
  have hb4 : Below w3.heap.size w3 W4 := by rw [hW4]; exact (Below.refl _ _).alloc (Nat.le_refl _) _
  have HK4 := Lib.hid hK4
  have HW4 := Lib.hid hW4
  have HB4 := Lib.hid hb4
  clear hI3 hb3 C2 hK4 hW4 hb4
  go_wp2_with fail
  rw [← HW4.out]
  refine (CN.out _).mono ?_
  rintro e w5 ⟨rfl, hb5⟩
  have HB5 := Lib.hid hb5
  obtain ⟨W6, hW6⟩ : ∃ W6, W6 = w5.alloc (.cells #[.slice none 0 0, .int .i64 0, .int .i64 0, .slice none 0 0, .slice none 0 0] 26) := ⟨_, rfl⟩
  have HW6 := Lib.hid hW6
  have hb6 : Below W4.heap.size W4 W6 := by rw [hW6]; exact hb5.alloc hb5.size _
  have HB6 := Lib.hid hb6
  clear hb5 hW6 hb6 CN
  go_wp2_with fail
  rw [← HW6.out]
  obtain ⟨s0, s1, s2, s3, s4⟩ := five HK4.out HB6.out
  refine wp_region_held_drew (S := fun W => W.cell? ⟨w3.heap.size, 0, none⟩ = some (.slice A n cap) ∧ W.cell? ⟨w3.heap.size, 1, none⟩ = some (.int .i64 2) ∧ W.cell? ⟨w3.heap.size, 2, none⟩ = some (.int .i64 0) ∧ W.cell? ⟨w3.heap.size, 3, none⟩ = some (.slice Af nf cf) ∧ W.cell? ⟨w3.heap.size, 4, none⟩ = some (.slice Am nm cm)) (by kernel_rfl) ⟨s0, s1, s2, s3, s4⟩ (fun hHeld0 => ?_)
  refine take_yes 0 21 ?_ rfl rfl (by kernel_rfl) (by kernel_rfl) (by kernel_rfl) (fun _ _ _ h => h) (by kernel_rfl) ?_ (by assumption) ?_; rotate_left; (focus (intro w hSw; (try dsimp only at hSw); go_simp; all_goals first | with_reducible rfl)); simp only [Act.put, List.setIfInBounds_toArray, List.set_cons_zero, List.set_cons_succ]
  refine take_yes 1 22 ?_ rfl rfl (by kernel_rfl) (by kernel_rfl) (by kernel_rfl) (fun _ _ _ h => h) (by kernel_rfl) ?_ (by assumption) ?_; rotate_left; (focus (intro w hSw; (try dsimp only at hSw); go_simp; all_goals first | with_reducible rfl)); simp only [Act.put, List.setIfInBounds_toArray, List.set_cons_zero, List.set_cons_succ]
  refine take_yes 2 23 (.bool true) rfl rfl (by kernel_rfl) (by kernel_rfl) (by kernel_rfl) (fun _ _ _ h => h) (by kernel_rfl) ?_ (by assumption) ?_; (focus (intro w hSw; (try dsimp only at hSw); go_simp; all_goals first | with_reducible rfl)); simp only [Act.put, List.setIfInBounds_toArray, List.set_cons_zero, List.set_cons_succ]
  refine take_yes 3 24 ?_ rfl rfl (by kernel_rfl) (by kernel_rfl) (by kernel_rfl) (fun _ _ _ h => h) (by kernel_rfl) ?_ (by assumption) ?_; rotate_left; (focus (intro w hSw; (try dsimp only at hSw); go_simp; all_goals first | with_reducible rfl)); simp only [Act.put, List.setIfInBounds_toArray, List.set_cons_zero, List.set_cons_succ]
  refine take_yes 4 25 ?_ rfl rfl (by kernel_rfl) (by kernel_rfl) (by kernel_rfl) (fun _ _ _ h => h) (by kernel_rfl) ?_ (by assumption) ?_; rotate_left; (focus (intro w hSw; (try dsimp only at hSw); go_simp; all_goals first | with_reducible rfl)); simp only [Act.put, List.setIfInBounds_toArray, List.set_cons_zero, List.set_cons_succ]
  refine take_yes 5 26 ?_ rfl rfl (by kernel_rfl) (by kernel_rfl) (by kernel_rfl) (fun _ _ _ h => h) (by kernel_rfl) ?_ (by assumption) ?_; rotate_left; (focus (intro w hSw; (try dsimp only at hSw); go_simp; all_goals first | with_reducible rfl)); simp only [Act.put, List.setIfInBounds_toArray, List.set_cons_zero, List.set_cons_succ]
  refine take_yes 6 27 (.bool true) rfl rfl (by kernel_rfl) (by kernel_rfl) (by kernel_rfl) (fun _ _ _ h => h) (by kernel_rfl) ?_ (by assumption) ?_; (focus (intro w hSw; (try dsimp only at hSw); go_simp; all_goals first | with_reducible rfl)); simp only [Act.put, List.setIfInBounds_toArray, List.set_cons_zero, List.set_cons_succ]
  refine take_yes 7 28 ?_ rfl rfl (by kernel_rfl) (by kernel_rfl) (by kernel_rfl) (fun _ _ _ h => h) (by kernel_rfl) ?_ (by assumption) ?_; rotate_left; (focus (intro w hSw; (try dsimp only at hSw); go_simp; all_goals first | with_reducible rfl)); simp only [Act.put, List.setIfInBounds_toArray, List.set_cons_zero, List.set_cons_succ]
  refine take_yes 8 29 ?_ rfl rfl (by kernel_rfl) (by kernel_rfl) (by kernel_rfl) (fun _ _ _ h => h) (by kernel_rfl) ?_ (by assumption) ?_; rotate_left; (focus (intro w hSw; (try dsimp only at hSw); go_simp; all_goals first | with_reducible rfl)); simp only [Act.put, List.setIfInBounds_toArray, List.set_cons_zero, List.set_cons_succ]
  refine take_yes 9 30 ?_ rfl rfl (by kernel_rfl) (by kernel_rfl) (by kernel_rfl) (fun _ _ _ h => h) (by kernel_rfl) ?_ (by assumption) ?_; rotate_left; (focus (intro w hSw; (try dsimp only at hSw); go_simp; all_goals first | with_reducible rfl)); simp only [Act.put, List.setIfInBounds_toArray, List.set_cons_zero, List.set_cons_succ]
  refine take_yes 10 31 (.bool true) rfl rfl (by kernel_rfl) (by kernel_rfl) (by kernel_rfl) (fun _ _ _ h => h) (by kernel_rfl) ?_ (by assumption) ?_; (focus (intro w hSw; (try dsimp only at hSw); go_simp; all_goals first | with_reducible rfl)); simp only [Act.put, List.setIfInBounds_toArray, List.set_cons_zero, List.set_cons_succ]
  refine take_yes 11 32 ?_ rfl rfl (by kernel_rfl) (by kernel_rfl) (by kernel_rfl) (fun _ _ _ h => h) (by kernel_rfl) ?_ (by assumption) ?_; rotate_left; (focus (intro w hSw; (try dsimp only at hSw); go_simp; all_goals first | with_reducible rfl)); simp only [Act.put, List.setIfInBounds_toArray, List.set_cons_zero, List.set_cons_succ]
  refine take_yes 12 33 ?_ rfl rfl (by kernel_rfl) (by kernel_rfl) (by kernel_rfl) (fun _ _ _ h => h) (by kernel_rfl) ?_ (by assumption) ?_; rotate_left; (focus (intro w hSw; (try dsimp only at hSw); go_simp; all_goals first | with_reducible rfl)); simp only [Act.put, List.setIfInBounds_toArray, List.set_cons_zero, List.set_cons_succ]
  refine take_yes 13 34 ?_ rfl rfl (by kernel_rfl) (by kernel_rfl) (by kernel_rfl) (fun _ _ _ h => h) (by kernel_rfl) ?_ (by assumption) ?_; rotate_left; (focus (intro w hSw; (try dsimp only at hSw); go_simp; all_goals first | with_reducible rfl)); simp only [Act.put, List.setIfInBounds_toArray, List.set_cons_zero, List.set_cons_succ]
  refine take_yes 14 35 ?_ rfl rfl (by kernel_rfl) (by kernel_rfl) (by kernel_rfl) (fun _ _ _ h => h) (by kernel_rfl) ?_ (by assumption) ?_; rotate_left; (focus (intro w hSw; (try dsimp only at hSw); go_simp; all_goals first | with_reducible rfl)); simp only [Act.put, List.setIfInBounds_toArray, List.set_cons_zero, List.set_cons_succ]
  refine take_yes 15 36 (.bool true) rfl rfl (by kernel_rfl) (by kernel_rfl) (by kernel_rfl) (fun _ _ _ h => h) (by kernel_rfl) ?_ (by assumption) ?_; (focus (intro w hSw; (try dsimp only at hSw); go_simp; all_goals first | with_reducible rfl)); simp only [Act.put, List.setIfInBounds_toArray, List.set_cons_zero, List.set_cons_succ]
  refine take_yes 16 37 (.agg #[.slice A n cap, .int .i64 2, .int .i64 0, .slice Af nf cf, .slice Am nm cm]) rfl rfl (by kernel_rfl) (by kernel_rfl) (by kernel_rfl) (fun _ _ _ h => h) (by kernel_rfl) ?_ (by assumption) ?_; (focus (intro w hSw; (try dsimp only at hSw); go_simp; all_goals first | with_reducible rfl)); simp only [Act.put, List.setIfInBounds_toArray, List.set_cons_zero, List.set_cons_succ]
  refine wpAnyH_ready (rs := [17]) (by kernel_rfl) (by simp) ?_
  refine AllReadyH.cons rfl (fun K hK => ?_) AllReadyH.nil
  go_simp
  refine (least_any _).mono ?_
  rintro e w7 ⟨⟨g7, rfl, hI7⟩, hb7⟩
  have HB7 : Hid (Below W4.heap.size W4 w7) := Lib.hid ((HB6.out.drewN 1).trans (hb7.mono HB6.out.size))
  have C7 := Lib.hid (CS.out w7 A n cap Af nf cf Am nm cm g7 (HI3.out.below (HB4.out.trans (HB7.out.mono HB4.out.size))) hI7)
  clear hI7 hb7 s0 s1 s2 s3 s4 CS
  go_wp2_with fail
  refine hK.out _ _ (five HK4.out HB7.out) (fun _ => ?_)
  clear hK K
  try simp only [Act.put, List.setIfInBounds_toArray, List.set_cons_zero, List.set_cons_succ]
  refine wpAnyH_ready (rs := [18]) (by kernel_rfl) (by simp) ?_
  refine AllReadyH.cons rfl (fun K hK => ?_) AllReadyH.nil
  go_simp
  refine C7.out.mono ?_
  rintro e w8 ⟨rfl, hb8⟩
  have HB8 : Hid (Below W4.heap.size W4 w8) := Lib.hid (HB7.out.trans (hb8.mono HB7.out.size))
  clear hb8 C7
  go_wp2_with fail
  refine hK.out _ _ (five HK4.out HB8.out) (fun _ => ?_)
  clear hK K
  try simp only [Act.put, List.setIfInBounds_toArray, List.set_cons_zero, List.set_cons_succ]
  refine take_yes 19 40 ?_ rfl rfl (by kernel_rfl) (by kernel_rfl) (by kernel_rfl) (fun _ _ _ h => h) (by kernel_rfl) ?_ (by assumption) ?_; rotate_left; (focus (intro w hSw; (try dsimp only at hSw); go_simp; all_goals first | with_reducible rfl)); simp only [Act.put, List.setIfInBounds_toArray, List.set_cons_zero, List.set_cons_succ]
  refine take_yes 20 41 (.bool true) rfl rfl (by kernel_rfl) (by kernel_rfl) (by kernel_rfl) (fun _ _ _ h => h) (by kernel_rfl) ?_ (by assumption) ?_; (focus (intro w hSw; (try dsimp only at hSw); go_simp; all_goals first | with_reducible rfl)); simp only [Act.put, List.setIfInBounds_toArray, List.set_cons_zero, List.set_cons_succ]
  refine take_yes 21 42 ?_ rfl rfl (by kernel_rfl) (by kernel_rfl) (by kernel_rfl) (fun _ _ _ h => h) (by kernel_rfl) ?_ (by assumption) ?_; rotate_left; (focus (intro w hSw; (try dsimp only at hSw); go_simp; all_goals first | with_reducible rfl)); simp only [Act.put, List.setIfInBounds_toArray, List.set_cons_zero, List.set_cons_succ]
  refine wpAnyH_ready (rs := [22]) (by kernel_rfl) (by simp) ?_
  refine AllReadyH.cons rfl (fun K hK => ?_) AllReadyH.nil
  go_simp
  refine (CC.out _).mono ?_
  rintro e w9 ⟨rfl, hb9⟩
  have HB9 : Hid (Below W4.heap.size W4 w9) := Lib.hid (HB8.out.trans (hb9.mono HB8.out.size))
  clear hb9 CC
  go_wp2_with fail
  refine hK.out _ _ (five HK4.out HB9.out) (fun _ => ?_)
  clear hK K
  try simp only [Act.put, List.setIfInBounds_toArray, List.set_cons_zero, List.set_cons_succ]
  refine take_yes 23 44 ?_ rfl rfl (by kernel_rfl) (by kernel_rfl) (by kernel_rfl) (fun _ _ _ h => h) (by kernel_rfl) ?_ (by assumption) ?_; rotate_left; (focus (intro w hSw; (try dsimp only at hSw); go_simp; all_goals first | with_reducible rfl)); simp only [Act.put, List.setIfInBounds_toArray, List.set_cons_zero, List.set_cons_succ]
  refine take_yes 24 45 ?_ rfl rfl (by kernel_rfl) (by kernel_rfl) (by kernel_rfl) (fun _ _ _ h => h) (by kernel_rfl) ?_ (by assumption) ?_; rotate_left; (focus (intro w hSw; (try dsimp only at hSw); go_simp; all_goals first | with_reducible rfl)); simp only [Act.put, List.setIfInBounds_toArray, List.set_cons_zero, List.set_cons_succ]
  refine take_yes 25 0 (.bool true) rfl rfl (by kernel_rfl) (by kernel_rfl) (by kernel_rfl) (fun _ _ _ h => h) (by kernel_rfl) ?_ (by assumption) ?_; (focus (intro w hSw; (try dsimp only at hSw); go_simp; all_goals first | with_reducible rfl)); simp only [Act.put, List.setIfInBounds_toArray, List.set_cons_zero, List.set_cons_succ]
  refine wpAnyH_done (by kernel_rfl) ?_ _
  go_wp2
  go_ret
  exact ⟨rfl, (HB3.out.trans (HB4.out.mono HB3.out.size)).trans (HB9.out.mono (Nat.le_trans HB3.out.size HB4.out.size))⟩

end Go.Proofs.Ytendpbklcgiafaa

/- KlassMore's walk (layer 14). -/
namespace Go.Proofs.Ytendpbklcgiafaa
set_option maxRecDepth 100000
open Go.RowKit

/-- What encodes, of a modest pool, has few bytes. -/
theorem doc_len {f : FileD} {P : Nat} (hp : (poolB f.pool).length ≤ P) (h4 : f.fields.length ≤ 70) (h5 : f.meths.length ≤ 70) (hs : (f.meths.map (fun m => wBody m.body)).sum ≤ 4000) : (docB f).length ≤ P + 60000 := by
  have h2 := flat_len fieldB 8 f.fields (fun x _ => by unfold fieldB; rw [u2B_len]; simp)
  have h3 := flat_sum (methB f.pool) (fun m => wBody m.body) 44 3 f.meths (fun x _ => methB_wt f.pool x)
  unfold docB pre1 pre0
  simp only [List.length_append, u2B_len, putL_len, List.length_cons, List.length_nil]
  omega
theorem poolB_more {l : List Cst} {c : Cst} (h1 : l.length ≤ 120) (h2 : ∀ c ∈ l, c.s.length ≤ 300) (h3 : c.s.length ≤ 100) : (poolB (l ++ [c])).length ≤ 50000 := by
  unfold poolB
  rw [List.length_append, putL_len]
  have h := flat_len cB 320 (l ++ [c]) (fun d hd => by
    have := cB_len d
    rcases List.mem_append.1 hd with hd | hd
    · have := h2 d hd; omega
    · rw [List.mem_singleton] at hd
      subst hd
      omega)
  rw [List.length_append] at h
  simp only [List.length_cons, List.length_nil] at h
  omega
/-- A row of the call's own isn't where something older is written. -/
theorem GotR.away {α : Type} {cells : α → List Value} {k : Nat} {t : TypeId} {base g : Nat} {w w' : World} {A : Option Addr} {n cap : Nat} {l : List α} (h : GotR cells k t base w A n cap l) (hg : g < base) (hO : Only (· = g) w w') : RowSl cells k w' Empty A n cap l := by
  obtain ⟨h1, h2, h3, h4⟩ := h.row
  have hr : RowSl cells k w (· = g) A n cap l := ⟨h1, h2, h3, fun h0 => by
    obtain ⟨b, o, e, hb, -, hc⟩ := h4 h0
    refine ⟨b, o, e, hb, fun hq => ?_, hc⟩
    rcases h.here with hn | ⟨g', cur, e', hbg, _⟩
    · rw [hn] at e; cases e
    · rw [e'] at e
      have hb2 : g' = b := congrArg Addr.block (Option.some.inj e)
      have hq : b = g := hq
      omega⟩
  have h' := hr.only hO (fun _ _ h => h)
  exact h'.mono (fun _ _ h => h.elim)

set_option maxHeartbeats 8000000 in
theorem klassMore_calls (A : Option Addr) (n cap : Nat) (Af : Option Addr) (nf cf : Nat) (Am : Option Addr) (nm cm : Nat) (f : FileD) (xs : List UInt8) (hxl : xs.length ≤ 9223372036854775807) (w : World) (hI : FileIn w A n cap Af nf cf Am nm cm f) :
    Calls Try.prog 3 #[.agg #[.slice A n cap, .int .i64 f.this, .int .i64 f.super, .slice Af nf cf, .slice Am nm cm], .string (strB xs)] w fun e w' => e = .returned (.bool true) ∧ Below w.heap.size w w' := by
  obtain ⟨x0, hx0⟩ : ∃ x0, f.this = x0 := ⟨_, rfl⟩
  obtain ⟨y0, hy0⟩ : ∃ y0, f.super = y0 := ⟨_, rfl⟩
  rw [hx0, hy0]
  obtain ⟨W0, hW0⟩ : ∃ W0, W0 = w.alloc (.cells #[.slice A n cap, .int .i64 x0, .int .i64 y0, .slice Af nf cf, .slice Am nm cm] 26) := ⟨_, rfl⟩
  have hb0 : Below w.heap.size w W0 := by rw [hW0]; exact (Below.refl _ _).alloc (Nat.le_refl _) _
  have hK : Blk W0 w.heap.size 26 #[.slice A n cap, .int .i64 x0, .int .i64 y0, .slice Af nf cf, .slice Am nm cm] := by rw [hW0]; exact Blk.new _ _ _
  have hI0 := hI.below hb0
  have HI := Lib.hid hI0
  have HB0 := Lib.hid hb0
  have HK := Lib.hid hK
  have HW0 := Lib.hid hW0
  have Hx := Lib.hid hx0
  have Hy := Lib.hid hy0
  have CF : Hid (∀ W, Below W0.heap.size W0 W → Calls Try.prog 5 #[.agg #[.slice A n cap, .int .i64 x0, .int .i64 y0, .slice Af nf cf, .slice Am nm cm]] W (FewP f W)) := Lib.hid (fun W h => r14Few_any A n cap Af nf cf Am nm cm x0 y0 f W (hI0.below h))
  have hnc : n ≤ cap := hI0.pool.2.1
  have hcm : cap ≤ 9223372036854775807 := by have h2 := hI0.pool.2.2.1; unfold maxLen at h2; omega
  have hsz : (strB xs).size = xs.length := strB_size xs
  clear hI hb0 hK hI0 hW0 hx0 hy0
  go_enter Try.func3, Try.ntmps3
  go_wp2_with fail
  rw [← HW0.out]
  refine (fixed14_any _).mono ?_
  rintro e w1 ⟨rfl, hb1⟩
  obtain ⟨a0, a1, a2, a3, a4⟩ := five HK.out hb1
  have HB1 := Lib.hid hb1
  clear hb1
  go_wp2_with fail
  refine (CF.out _ HB1.out).mono ?_
  rintro e w2 ⟨⟨few, rfl, hfew⟩, hb2⟩
  have HB2 := Lib.hid (HB1.out.trans (hb2.mono HB1.out.size))
  clear hb2 a0 a1 a2 a3 a4 CF
  cases few with
  | false =>
    clear hfew
    go_wp2
    go_ret
    exact ⟨rfl, HB0.out.trans (HB2.out.mono HB0.out.size)⟩
  | true =>
    have hfw := hfew rfl
    have HFw := Lib.hid hfw
    have hn120 : n ≤ 120 := by have h1 := hfw.pool; have h2 := HI.out.pool.1; omega
    obtain ⟨a0, a1, a2, a3, a4⟩ := five HK.out HB2.out
    have CR := r14Right_any A n cap Af nf cf Am nm cm x0 y0 f w2 (HI.out.below HB2.out) (few_file hfw) Hx.out Hy.out
    have CR := Lib.hid CR
    clear hfw hfew
    go_wp2_with fail
    refine CR.out.mono ?_
    rintro e w3 ⟨rfl, hb3⟩
    have HB3 := Lib.hid (HB2.out.trans (hb3.mono HB2.out.size))
    clear hb3 a0 a1 a2 a3 a4 CR
    obtain ⟨a0, a1, a2, a3, a4⟩ := five HK.out HB3.out
    cases hr : docRight f with
    | false =>
      clear hr
      go_wp2
      go_ret
      exact ⟨rfl, HB0.out.trans (HB3.out.mono HB0.out.size)⟩
    | true =>
      by_cases hm1 : 100 < xs.length
      · have hd : decide ((100 : Int) < (xs.length : Int)) = true := decide_eq_true (by omega)
        clear hr
        go_wp2
        go_ret
        exact ⟨rfl, HB0.out.trans (HB3.out.mono HB0.out.size)⟩
      · have hd : decide ((100 : Int) < (xs.length : Int)) = false := decide_eq_false (by omega)
        have hd2 : decide ((1024 : Int) ≤ (n : Int)) = false := decide_eq_false (by omega)
        obtain ⟨g, hg⟩ : ∃ g : FileD, g = ⟨f.pool ++ [⟨1, 0, 0, 0, xs⟩], f.this, f.super, f.fields, f.meths⟩ := ⟨_, rfl⟩
        have hfw := HFw.out
        have hpar := right_parts hr
        have hpb : (poolB g.pool).length ≤ 50000 := by rw [hg]; exact poolB_more hfw.pool hfw.texts (by show xs.length ≤ 100; omega)
        have hgs : SmallP g.pool := ⟨by rw [hg]; simp only [List.length_append, List.length_cons, List.length_nil]; have := hfw.pool; omega, fun c hc => by
          rw [hg] at hc
          rcases List.mem_append.1 hc with hc | hc
          · have := hfw.texts c hc; omega
          · rw [List.mem_singleton] at hc
            rw [hc]
            show xs.length ≤ 1000000
            omega, by omega⟩
        have hgl : (docB g).length ≤ 110000 := by
          have h := doc_len (f := g) hpb (by rw [hg]; exact hfw.fields) (by rw [hg]; exact hfw.meths) (by rw [hg]; exact hfw.sum hpar.2.2.2)
          omega
        have hgok : ∀ c ∈ g.pool, c.ok := fun c hc => by
          rw [hg] at hc
          rcases List.mem_append.1 hc with hc | hc
          · exact HI.out.ok c hc
          · rw [List.mem_singleton] at hc
            rw [hc]
            exact ⟨(by decide : (-9223372036854775808 : Int) ≤ 1 ∧ (1 : Int) ≤ 9223372036854775807), (by decide : (-9223372036854775808 : Int) ≤ 0 ∧ (0 : Int) ≤ 9223372036854775807), (by decide : (-9223372036854775808 : Int) ≤ 0 ∧ (0 : Int) ≤ 9223372036854775807), (by decide : (-9223372036854775808 : Int) ≤ 0 ∧ (0 : Int) ≤ 9223372036854775807), hxl⟩
        have hA : A = none → n = 0 ∧ cap = 0 := fun e => by
          have h0 : 0 < n := by
            have h1 := hpar.1
            rw [← check_right f.pool HI.out.ok] at h1
            unfold checkF at h1
            rw [Bool.and_eq_true, Bool.and_eq_true] at h1
            have h2 := (of_decide_eq_true h1.1.1).1
            have h3 := HI.out.pool.1
            omega
          obtain ⟨b, o, h, _⟩ := HI.out.pool.2.2.2 h0
          rw [e] at h
          cases h
        have HA := Lib.hid hA
        have Hg := Lib.hid hg
        have Hgs := Lib.hid hgs
        have Hgl := Lib.hid hgl
        have Hgok := Lib.hid hgok
        have Hm := Lib.hid hpar.2.2.2
        -- the copy, and the new row
        obtain ⟨W4, hW4⟩ : ∃ W4, W4 = w3.alloc (.cells #[.slice A n cap, .int .i64 x0, .int .i64 y0, .slice Af nf cf, .slice Am nm cm] 26) := ⟨_, rfl⟩
        have hs4 : W4.heap.size = w3.heap.size + 1 := by rw [hW4]; simp
        have hK4 : Blk W4 w3.heap.size 26 #[.slice A n cap, .int .i64 x0, .int .i64 y0, .slice Af nf cf, .slice Am nm cm] := by rw [hW4]; exact Blk.new _ _ _
        have hb4 : Below w3.heap.size w3 W4 := by rw [hW4]; exact (Below.refl _ _).alloc (Nat.le_refl _) _
        have hg1 := made_consts W4 W4.heap.size (Nat.le_refl _)
        rw [hs4] at hg1
        have HG1 := Lib.hid hg1
        have hb45 : Below (w3.heap.size + 1) W4 (W4.alloc (.cells #[] 30)) := (Below.refl _ _).alloc (by rw [hs4]; exact Nat.le_refl _) _
        have HB45 := Lib.hid hb45
        have HLe : Hid (w3.heap.size + 1 ≤ (W4.alloc (.cells #[] 30)).heap.size) := Lib.hid (by simp [hs4])
        have HP5 := Lib.hid (((HI.out.below HB3.out).below hb4).pool.only ((Only.refl Empty W4).alloc (.cells #[] 30)) (fun _ _ h => h))
        have HLit : Hid (∀ W : World, PoolSl (W.alloc (.cells #[.int .i64 1, .int .i64 0, .int .i64 0, .int .i64 0, .string (strB xs)] 30)) (some ⟨W.heap.size, 0, none⟩) 1 1 [⟨1, 0, 0, 0, xs⟩]) :=
          Lib.hid (fun W => RowSl.lit Cst.cells_len W Empty 30 [⟨1, 0, 0, 0, xs⟩] 1 [.int .i64 1, .int .i64 0, .int .i64 0, .int .i64 0, .string (strB xs)] rfl rfl (by unfold maxLen; omega) (fun h => h))
        have HK4 := Lib.hid hK4
        have HB4 := Lib.hid hb4
        have Hs4 := Lib.hid hs4
        have HW4 := Lib.hid hW4
        have hb35 : Below w3.heap.size w3 (W4.alloc (.cells #[] 30)) := hb4.alloc hb4.size _
        have q0 : ((w3.alloc (.cells #[.slice A n cap, .int .i64 x0, .int .i64 y0, .slice Af nf cf, .slice Am nm cm] 26)).alloc (.cells #[] 30)).cell? ⟨w.heap.size, 0, none⟩ = some (.slice A n cap) := by
          rw [← hW4]
          exact (five HK.out (HB3.out.trans (hb35.mono HB3.out.size))).1
        clear hr hfw hpar hpb hgs hgl hgok hA hg hs4 hK4 hb4 hg1 hb45 hm1 hW4 hb35
        go_wp2_with (first | (at_builtin; rw [← HW4.out]; refine wpList_append_cst rfl (.tmp 32) (.tmp 34) rfl (w3.heap.size + 1) (some ⟨w3.heap.size + 1, 0, none⟩) 0 0 [] rfl HG1.out A n cap f.pool rfl HP5.out HA.out (by omega) HLe.out ?_; intro A1 c1 w5 hg5 hgr5 hr5; have HB5 := Lib.hid (below_gotR HB45.out HLe.out hgr5 hr5 (Nat.le_refl _)); (rw [Nat.zero_add, List.nil_append] at hg5); have HG5 := Lib.hid hg5; have HLe5 : Hid (w3.heap.size + 1 ≤ w5.heap.size) := Lib.hid (Nat.le_trans HLe.out hgr5.size); clear hg5 hgr5 hr5 q0; (rw [Nat.zero_add])) | (at_builtin; refine wpList_append_cst rfl (.tmp 35) (.tmp 38) rfl (w3.heap.size + 1) A1 n c1 f.pool rfl (HG5.out.alloc Cst.cells_len _) (some ⟨w5.heap.size, 0, none⟩) 1 1 [⟨1, 0, 0, 0, xs⟩] rfl (HLit.out w5) (fun h => by cases h) (by omega) (Nat.le_trans HLe5.out (by simp)) ?_; intro A2 c2 w6 hg6 hgr6 hr6; have HB6 := Lib.hid (below_gotR (HB5.out.alloc HLe5.out (.cells #[.int .i64 1, .int .i64 0, .int .i64 0, .int .i64 0, .string (strB xs)] 30)) (Nat.le_trans HLe5.out (by simp)) hgr6 hr6 (Nat.le_refl _)); have HG6 := Lib.hid hg6; have hk6 := HK4.out.of (HB6.out.block _ (Nat.lt_succ_self _)); have t0 := hk6.cell 0; have t1 := hk6.cell 1; have t2 := hk6.cell 2; have t3 := hk6.cell 3; have t4 := hk6.cell 4; have fz := hk6.frozen 0; have hlt6 := hk6.lt; have HK6 := Lib.hid hk6; clear hg6 hgr6 hr6 hk6))
        obtain ⟨W7, hW7⟩ : ∃ W7, W7 = w6.setCell ⟨w3.heap.size, 0, none⟩ (.slice A2 (n + 1) c2) := ⟨_, rfl⟩
        have hO7 : Only (· = w3.heap.size) w6 W7 := by rw [hW7]; exact (Only.refl (· = w3.heap.size) w6).setCell (p := ⟨w3.heap.size, 0, none⟩) (Or.inl rfl) _
        have hP7 := HG6.out.away (Nat.lt_succ_self _) hO7
        have hb36 : Below w3.heap.size w3 w6 := HB4.out.trans (HB6.out.mono (Nat.le_succ _))
        have hb37 : Below w3.heap.size w3 W7 := by rw [hW7]; exact hb36.setCell (Nat.le_refl _) _
        have hB7 : Below W0.heap.size W0 W7 := HB3.out.trans (hb37.mono HB3.out.size)
        have hI7 := HI.out.below hB7
        have hIg : FileIn W7 A2 (n + 1) c2 Af nf cf Am nm cm g := ⟨by rw [Hg.out]; exact hP7, Hgok.out, by rw [Hg.out]; exact hI7.fields, by rw [Hg.out]; exact hI7.meths⟩
        have hg1 : g.this = x0 := by rw [Hg.out]; exact Hx.out
        have hg2 : g.super = y0 := by rw [Hg.out]; exact Hy.out
        have CB := kBytes_any A2 (n + 1) c2 _ _ g W7 hIg.pool hIg.ok Hgs.out hIg.rows.1 hIg.rows.2
        rw [hg1, hg2] at CB
        have CB := Lib.hid CB
        have HB7 := Lib.hid hB7
        have Hg1 := Lib.hid hg1
        have Hg2 := Lib.hid hg2
        rw [← hW7]
        clear hW7 hO7 hP7 hb36 hb37 hB7 hI7 hIg hg1 hg2 t0 t1 t2 t3 t4 fz hlt6
        refine CB.out.mono ?_
        rintro e w8 ⟨hk, hb8⟩
        have HB8 := Lib.hid (HB7.out.trans (hb8.mono HB7.out.size))
        clear hb8 CB a0 a1 a2 a3 a4
        cases hfe : fileE g with
        | none =>
          rw [hfe] at hk
          subst hk
          clear hfe
          go_wp2
          go_ret
          exact ⟨rfl, HB0.out.trans (HB8.out.mono HB0.out.size)⟩
        | some bs =>
          rw [hfe] at hk
          obtain ⟨B, cB, rfl, hbs, -⟩ := hk
          have hbl : bs.length ≤ 110000 := by
            have h := hfe
            rw [file_doc g Hgok.out] at h
            split at h
            · cases h; exact Hgl.out
            · cases h
          have CP : Calls Try.prog 8 #[.slice B bs.length cB] w8 fun e w' => (∃ A n cap Af nf cf Am nm cm, e = .returned (.tuple #[.agg #[.slice A n cap, .int .i64 x0, .int .i64 y0, .slice Af nf cf, .slice Am nm cm], .int .i64 0]) ∧ FileIn w' A n cap Af nf cf Am nm cm g) ∧ Below w8.heap.size w8 w' :=
            (kParse_any B _ cB bs w8 hbs (by omega)).mono fun e w' ⟨k, kb⟩ => by
              refine ⟨?_, kb⟩
              have hR : Reads fileE bs g [] := ⟨bs, hfe, (List.append_nil _).symm⟩
              rcases k with ⟨f', cs, h1, h2, h3⟩ | ⟨h1, _⟩
              · obtain ⟨rfl, _⟩ := Uniq.file _ _ _ _ _ hR h1
                obtain ⟨A, n, cap, Af, nf, cf, Am, nm, cm, rfl, hI⟩ := file_in h3
                rw [Hg1.out, Hg2.out] at h2
                exact ⟨A, n, cap, Af, nf, cf, Am, nm, cm, h2, hI⟩
              · exact absurd hR (h1 _)
          obtain ⟨L, hL⟩ : ∃ L, bs.length = L := ⟨_, rfl⟩
          rw [hL] at CP ⊢
          have CP := Lib.hid CP
          clear hfe hbs hbl hL
          go_wp2_with fail
          refine CP.out.mono ?_
          rintro e w9 ⟨⟨B2, n2, cap2, Bf, nf2, cf2, Bm, nm2, cm2, rfl, hJ⟩, hb9⟩
          have HB9 := Lib.hid (HB8.out.trans (hb9.mono HB8.out.size))
          have HJ := Lib.hid hJ
          obtain ⟨a0, a1, a2, a3, a4⟩ := five HK.out HB9.out
          have hlt9 : w.heap.size < w9.heap.size := Nat.lt_of_lt_of_le HK.out.lt HB9.out.size
          clear hb9 hJ CP
          obtain ⟨W10, hW10⟩ : ∃ W10, W10 = w9.alloc (.cells #[.slice A n cap, .int .i64 x0, .int .i64 y0, .slice Bf nf2 cf2, .slice Bm nm2 cm2] 26) := ⟨_, rfl⟩
          have hb10 : Below w9.heap.size w9 W10 := by rw [hW10]; exact (Below.refl _ _).alloc (Nat.le_refl _) _
          have hB10 : Below W0.heap.size W0 W10 := HB9.out.trans (hb10.mono HB9.out.size)
          have hF : FileIn W10 A n cap Af nf cf Am nm cm f := HI.out.below hB10
          have hJ10 := HJ.out.below hb10
          have hH : FileIn W10 A n cap Bf nf2 cf2 Bm nm2 cm2 f := ⟨hF.pool, hF.ok, by have h := hJ10.fields; rw [Hg.out] at h; exact h, by have h := hJ10.meths; rw [Hg.out] at h; exact h⟩
          obtain rfl : nf = nf2 := by rw [← hF.fields.1, ← hH.fields.1]
          obtain rfl : nm = nm2 := by rw [← hF.meths.1, ← hH.meths.1]
          have CS := Lib.hid (r14Same_same A n cap Bf nf cf2 Bm nm cm2 A cap Af cf Am cm x0 y0 f W10 hH hF (by omega) Hm.out (by have := HFw.out.fields; have := hF.fields.1; omega) (by have := HFw.out.meths; have := hF.meths.1; omega))
          have HB10 := Lib.hid hB10
          have HW10 := Lib.hid hW10
          clear hW10 hb10 hB10 hF hJ10 hH
          go_wp2_with fail
          rw [← HW10.out]
          refine CS.out.mono ?_
          rintro e w11 ⟨rfl, hb11⟩
          have HB11 := Lib.hid (HB10.out.trans (hb11.mono HB10.out.size))
          clear hb11 CS a0 a1 a2 a3 a4
          go_wp2
          go_ret
          exact ⟨rfl, HB0.out.trans (HB11.out.mono HB0.out.size)⟩

end Go.Proofs.Ytendpbklcgiafaa
