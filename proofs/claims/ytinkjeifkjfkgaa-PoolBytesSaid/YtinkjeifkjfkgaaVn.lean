/- Pools that come in; the law's fixed (layer 11). -/
import Derived.Test.YtinkjeifkjfkgaaVm
namespace Go.Proofs.Ytinkjeifkjfkgaa
set_option maxRecDepth 100000
open Go.ChangeShapes Go.WideShapes Go.ChangeAt Go.RowKit Go.Joins

section
variable {H : Type} {enc : TypeId × Value → H} {W : World} {base : Nat}
theorem open_pool {v : Value} {d : DataW H} {p : List MemPlace} (hv : Value.okWide Try.prog W .any base 22 v) (h : DataW.Trod enc Try.prog W 0 (fun _ => true) true 22 v d p) :
    ∃ (A : Option Addr) (n cap : Nat) (l : List Cst), v = .slice A n cap ∧ PoolSl W A n cap l ∧ ∀ c ∈ l, c.ok := by
  obtain ⟨A, n, cap, l, rfl, hl, hn, hm, hA, hP⟩ := open_rows (enc := enc) zeroC 22 41 5 Try.underlying22 (by kernel_rfl) (by decide)
    (fun b off c => (∀ j, j < 5 → W.cell? ⟨b, off + j, none⟩ = c.cells[j]?) ∧ c.ok)
    (fun b off fuel cs x hc ht => by
      obtain ⟨ys, m, _, _, _, hyl, hg⟩ := DataW.trod_struct Try.underlying41 ht
      obtain ⟨_, hl, hat⟩ := World.cells?_some hc
      match cs, hl with
      | [c0, c1, c2, c3, c4], _ =>
        match ys, hyl with
        | [y0, y1, y2, y3, y4], _ =>
          have g0 : DataW.trod enc Try.prog W 0 (fun _ => true) true m 3 [c0] = some y0 := hg 0 _ rfl
          have g1 : DataW.trod enc Try.prog W 0 (fun _ => true) true m 3 [c1] = some y1 := hg 1 _ rfl
          have g2 : DataW.trod enc Try.prog W 0 (fun _ => true) true m 3 [c2] = some y2 := hg 2 _ rfl
          have g3 : DataW.trod enc Try.prog W 0 (fun _ => true) true m 2 [c3] = some y3 := hg 3 _ rfl
          have g4 : DataW.trod enc Try.prog W 0 (fun _ => true) true m 9 [c4] = some y4 := hg 4 _ rfl
          obtain ⟨t, e0, _, w0⟩ := DataW.trod_int Try.underlying3 g0
          obtain ⟨a, e1, _, w1⟩ := DataW.trod_int Try.underlying3 g1
          obtain ⟨b', e2, _, w2⟩ := DataW.trod_int Try.underlying3 g2
          obtain ⟨n, e3, _, w3⟩ := DataW.trod_int Try.underlying2 g3
          obtain ⟨s, e4, _, w4⟩ := DataW.trod_string Try.underlying9 g4
          simp at e0 e1 e2 e3 e4
          subst e0 e1 e2 e3 e4
          refine ⟨⟨t, a, b', n, s.data.toList⟩, fun j hj => ?_, ⟨bd_i64 w0, bd_i64 w1, bd_i64 w2, bd_i64 w3, by simpa [maxLen] using w4⟩⟩
          have h1 := hat j hj
          rw [add_off] at h1
          rw [h1]
          rfl)
    hv h
  refine ⟨A, n, cap, l, rfl, ⟨hl, hn, hm, fun h0 => ?_⟩, fun c hc => ?_⟩
  · obtain ⟨b, o, e, hb, hc⟩ := hP h0
    exact ⟨b, o, e, hb, fun h => h, fun i f hf j hj => (hc i f hf).1 j hj⟩
  · obtain ⟨i, hi, he⟩ := List.mem_iff_getElem.1 hc
    obtain ⟨b, o, e, hb, hcs⟩ := hP (by omega)
    exact (hcs i c (by rw [← he]; exact List.getElem?_eq_getElem hi)).2
end

/-! ### fixed -/
def fixL : List Cst := [zeroC, ⟨1, 0, 0, 0, [97]⟩, ⟨7, 1, 0, 0, []⟩]
theorem decF_a : (decF [97]).isSome = true := by
  have h := decR_enc [97] (by simp)
  have e : encT [97] = [97] := by decide
  rw [e] at h
  rw [decR_fun h _ (decF_is [97])]
  rfl
theorem fix_check : checkF fixL = true := by
  have h0 : mayF fixL 0 = true := by unfold mayF; rfl
  have h1 : mayF fixL 1 = true := by
    unfold mayF isTextF
    simp [fixL, formF, partF, noFrm, zeroC, decF_a, tagAtF, atF]
  have h2 : mayF fixL 2 = true := by
    unfold mayF
    simp [fixL, formF, partF, noFrm, zeroC, isTextF_nil, tagAtF, atF]
  unfold checkF
  simp [show fixL.length = 3 from rfl, List.range_succ, h0, h1, h2]
  decide
theorem fix_bytes : poolB fixL = [0, 3, 1, 0, 1, 97, 7, 0, 1] := by decide
theorem fix_ok : ∀ c ∈ fixL, c.ok := by
  intro c hc
  simp [fixL] at hc
  rcases hc with rfl | rfl | rfl <;> exact ⟨by decide, by decide, by decide, by decide, by decide⟩

set_option maxHeartbeats 1000000 in
theorem fixed11_any (w : World) : Calls Try.prog 6 #[] w fun e w' => e = .returned (.bool true) ∧ Below w.heap.size w w' := by
  have HL : Hid (PoolSl (w.alloc (.cells #[.int .i64 0, .int .i64 0, .int .i64 0, .int .i64 0, .string ⟨#[]⟩, .int .i64 1, .int .i64 0, .int .i64 0, .int .i64 0, .string ⟨#[97]⟩, .int .i64 7, .int .i64 1, .int .i64 0, .int .i64 0, .string ⟨#[]⟩] 41)) (some ⟨w.heap.size, 0, none⟩) 3 3 fixL) :=
    Lib.hid (RowSl.lit Cst.cells_len w Empty 41 fixL 3 _ rfl rfl (by unfold maxLen; omega) (fun h => h))
  have CB : Hid (∀ A cap W, PoolSl W A 3 cap fixL → Calls Try.prog 8 #[.slice A 3 cap] W fun e w' => PoolBs W w' [0, 3, 1, 0, 1, 97, 7, 0, 1] e) := Lib.hid (fun A cap W hP => by
    have := bytes_yes A 3 cap fixL W hP fix_ok fix_check (by decide) (by decide)
    rwa [fix_bytes] at this)
  have CN : Hid (∀ W, Calls Try.prog 8 #[.slice none 0 0] W fun e w' => e = .returned (.tuple #[.slice none 0 0, .int .i64 8]) ∧ Below W.heap.size W w') :=
    Lib.hid (fun W => bytes_no none 0 0 [] W (RowSl.nil_ _ _ _ _ (by unfold maxLen; omega)) (by omega) (by simp) (checkF_len (by simp)))
  have CC : Hid (∀ A cap W, PoolSl W A 3 cap fixL → Calls Try.prog 16 #[.slice A 3 cap, .int .i64 2] W fun e w' => e = .returned (.tuple #[.string ⟨#[97]⟩, .bool true]) ∧ Below W.heap.size W w') := Lib.hid (fun A cap W hP => by
    have := class_any A 3 cap fixL 2 W hP (by omega)
    rwa [show classF fixL 2 = some [97] by decide] at this)
  have CT : Hid (∀ A cap W, PoolSl W A 3 cap fixL → Calls Try.prog 14 #[.slice A 3 cap, .int .i64 0] W fun e w' => e = .returned (.tuple #[.string ⟨#[]⟩, .bool false]) ∧ Below W.heap.size W w') := Lib.hid (fun A cap W hP => by
    have := text_any A 3 cap fixL 0 W hP (by omega)
    rwa [show textF fixL 0 = none by decide] at this)
  go_enter Try.func6, Try.ntmps6
  go_wp2_with fail
  refine (CB.out _ _ _ HL.out).mono ?_
  rintro e w1 ⟨⟨A, cap, rfl, hB, _, _⟩, hb1⟩
  have HL1 := Lib.hid (HL.out.below hb1)
  have HB1 := Lib.hid hB
  have HW1 := Lib.hid (((Below.refl w.heap.size w).alloc (Nat.le_refl _) _).trans (hb1.mono (by simp)))
  clear hB hb1
  go_wp2_with fail
  refine (CN.out _).mono ?_
  rintro e w2 ⟨rfl, hb2⟩
  have HL2 := Lib.hid (HL1.out.below hb2)
  have HB2 := Lib.hid (HB1.out.only (Only.of_below (S := Empty) hb2) (fun _ _ h => h))
  have HW2 := Lib.hid (HW1.out.trans (hb2.mono HW1.out.size))
  clear hb2
  go_wp2_with fail
  refine (CC.out _ _ _ HL2.out).mono ?_
  rintro e w3 ⟨rfl, hb3⟩
  have HL3 := Lib.hid (HL2.out.below hb3)
  have HB3 := Lib.hid (HB2.out.only (Only.of_below (S := Empty) hb3) (fun _ _ h => h))
  have HW3 := Lib.hid (HW2.out.trans (hb3.mono HW2.out.size))
  clear hb3
  go_wp2_with fail
  refine (CT.out _ _ _ HL3.out).mono ?_
  rintro e w4 ⟨rfl, hb4⟩
  have HB4 := Lib.hid (HB3.out.only (Only.of_below (S := Empty) hb4) (fun _ _ h => h))
  have HW4 := Lib.hid (HW3.out.trans (hb4.mono HW3.out.size))
  clear hb4
  have hcv : (convert 23 9 (.slice A 9 cap)).run Try.prog w4 = .ok (.string ⟨#[0, 3, 1, 0, 1, 97, 7, 0, 1]⟩) w4 := conv_bytes HB4.out
  go_wp2
  go_ret
  exact ⟨rfl, HW4.out⟩

end Go.Proofs.Ytinkjeifkjfkgaa
