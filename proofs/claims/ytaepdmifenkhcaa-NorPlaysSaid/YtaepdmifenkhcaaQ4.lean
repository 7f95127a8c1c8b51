/- NorPlays: a geometry that may be, and no act. -/
import Derived.Test.YtaepdmifenkhcaaQ2
namespace Go.Proofs.Ytaepdmifenkhcaa
open Go.RowKit

set_option maxRecDepth 100000 in
set_option maxHeartbeats 4000000 in
theorem norPlays_empty (S Z L : Nat) (A : Option Addr) (cap : Nat) (w : World) (hg : GeoOk S Z L) :
    Calls Try.prog 3 #[.agg #[.int .i64 (S : Int), .int .i64 (Z : Int), .int .i64 (L : Int)], .slice A 0 cap] w fun e w' => e = .returned (.bool true) ∧ Below w.heap.size w w' := by
  have h0 : GB w _ S Z L := gbox_start S Z L w
  have Hg := Lib.hid hg
  have Hfew := few_nil A cap
  have hz : S * Z ≤ 4194304 := Nat.le_trans (Nat.mul_le_mul (show S ≤ 64 by have := hg.s2; omega) (show Z ≤ 65536 by have := hg.z2; omega)) (by decide)
  clear hg
  go_enter Try.func3, Try.ntmps3
  go_wp2_with fail
  refine (fixed_any _).mono ?_
  rintro e1 w1 ⟨rfl, hb1⟩
  have h1 := h0.below hb1
  clear h0 hb1
  obtain ⟨c0, c1, c2⟩ := h1.cells
  go_wp2_with fail
  refine (new_yes S Z L w1 Hg.out).mono ?_
  rintro e1 w2 ⟨p, c, er, rfl, hf2, hb2, hp, hc, he⟩
  have h2 := h1.below hb2
  have hp1 := h1.1.lt
  clear h1 c0 c1 c2
  obtain ⟨c0, c1, c2⟩ := h2.cells
  go_wp2_with fail
  refine (right_yes S Z L w2 Hg.out).mono ?_
  rintro e1 w3 ⟨rfl, hw3⟩
  have hb3 : Below w2.heap.size w2 w3 := by rw [hw3]; exact (Below.refl _ _).alloc (Nat.le_refl _) _
  have h3 := h2.below hb3
  have hf3 : FlashAt w3 p c er (Fl.fresh S Z L) := hf2.of (Only.of_below (S := Empty) hb3) (fun h => h) (fun h => h) (fun h => h)
  clear h2 c0 c1 c2 hw3 hb3 hf2 hb2
  obtain ⟨c0, c1, c2⟩ := h3.cells
  go_wp2_with fail
  refine (Hfew w3).mono ?_
  rintro e1 w4 ⟨hor, hb4⟩
  have h4 := h3.below hb4
  have hf4 : FlashAt w4 p c er (Fl.fresh S Z L) := hf3.of (Only.of_below (S := Empty) hb4) (fun h => h) (fun h => h) (fun h => h)
  clear h3 c0 c1 c2 hb4 hf3
  obtain ⟨c0, c1, c2⟩ := h4.cells
  rcases hor with rfl | rfl
  · go_wp2_with fail
    · go_ret
      exact ⟨rfl, h4.2⟩
    · refine (rnew_yes S Z L w4 Hg.out).mono ?_
      rintro e1 w5 ⟨p', c', er', rfl, hg5, hb5, hp', hc', he'⟩
      have h5 := h4.below hb5
      have hf5 : FlashAt w5 p c er (Fl.fresh S Z L) := hf4.of (Only.of_below (S := Empty) hb5) (fun h => h) (fun h => h) (fun h => h)
      have hsep : ∀ k, Three p c er k → ¬ Three p' c' er' k := fun k => by
        have := hf4.hd.lt
        have := hf4.ce.lt
        have := hf4.er.lt
        unfold Three
        omega
      have hnew : ∀ k, Six p c er p' c' er' k → w.heap.size < k := fun k => by
        have := h4.2.size
        have := h4.1.lt
        unfold Six Three
        omega
      have Hsep := Lib.hid hsep
      have Hnew := Lib.hid hnew
      clear h4 c0 c1 c2 hf4 hb5 hsep hnew hp hc he hp' hc' he' hp1
      go_wp2_with fail
      go_loopw [48] (fun v wr => ∃ (f g : Fl), v = .int .i64 0 ∧ Rel f g ∧ f.S = S ∧ f.Z = Z ∧ f.L = L ∧ FlashAt wr p c er f ∧ RefAt wr p' c' er' g ∧ GB w wr S Z L) (fun _ _ => 0)
      case atStart => exact ⟨_, _, rfl, ⟨rfl, rfl, rfl, rfl, rfl, rfl, Or.inl ⟨by show (-1 : Int) < 0; omega, rfl⟩⟩, rfl, rfl, rfl, hf5, hg5, h5⟩
      case round =>
        obtain ⟨f, g, rfl, hr, hS, hZ, hL, hf, hgg, hG⟩ := hrel
        clear hf5 hg5 h5
        · skip
          have Hr := Lib.hid hr
          clear hr
          go_wp2_with fail
          refine (reset_any p c er f wr hf).mono ?_
          rintro e1 w6 ⟨rfl, hf6, ho6⟩
          have hfp : ∀ q, Three p c er q → ¬ Three p' c' er' q := Hsep.out
          have hg6 : RefAt w6 p' c' er' g := hgg.of ho6 (fun h => hfp _ (Or.inl rfl) (h ▸ Or.inl rfl)) (fun h => hfp _ (Or.inl rfl) (h ▸ Or.inr (Or.inl rfl))) (fun h => hfp _ (Or.inl rfl) (h ▸ Or.inr (Or.inr rfl)))
          have hpw : w.heap.size < p := Hnew.out _ (Or.inl (Or.inl rfl))
          have hpw' : w.heap.size < p' := Hnew.out _ (Or.inr (Or.inl rfl))
          have hG6 : GB w w6 S Z L := ⟨ho6.blk hG.1 (by omega), hG.2.trans (ho6.below hG.2.size (fun q hq h => by omega))⟩
          go_wp2_with fail
          refine (rreset_any p' c' er' g w6 hg6).mono ?_
          rintro e1 w7 ⟨rfl, hg7, ho7⟩
          have hf7 : FlashAt w7 p c er f.reset := hf6.of ho7 (fun h => hfp _ (Or.inl rfl) (h ▸ Or.inl rfl)) (fun h => hfp _ (Or.inr (Or.inl rfl)) (h ▸ Or.inl rfl)) (fun h => hfp _ (Or.inr (Or.inr rfl)) (h ▸ Or.inl rfl))
          have hG7 : GB w w7 S Z L := ⟨ho7.blk hG6.1 (by omega), hG6.2.trans (ho7.below hG6.2.size (fun q hq h => by omega))⟩
          clear hG hG6 hf hgg hf6 hg6 ho6 ho7
          obtain ⟨c0, c1, c2⟩ := hG7.cells
          go_wp2_with fail
          have hrd := read_in p c er 0 (S * Z) f.reset w7 hf7 rfl (by show 0 + S * Z ≤ f.S * f.Z; rw [hS, hZ]; omega)
          rw [Int.natCast_mul] at hrd
          refine hrd.mono ?_
          rintro e1 w8 ⟨v, rfl, hown, hb8⟩
          obtain ⟨Av, capv, rfl, hB8, _⟩ := ByteSl.of_own (S := Empty) hown (fun _ _ _ h => h)
          have hf8 : FlashAt w8 p c er f.reset := hf7.of (Only.of_below (S := Empty) hb8) (fun h => h) (fun h => h) (fun h => h)
          have hg8 := hg7.of (Only.of_below (S := Empty) hb8) (fun h => h) (fun h => h) (fun h => h)
          have hG8 := hG7.below hb8
          have hcnt : w8.cell? ⟨p', 4, none⟩ = some (.slice (some ⟨er', 0, none⟩) g.S g.S) := by rw [hg8.hd.cell]; simp [Fl.rhdr]
          have hgS : g.S = S := by rw [← Hr.out.s]; exact hS
          rw [hgS] at hcnt
          clear hf7 hg7 hG7 hrd hown hb8 c0 c1 c2
          go_wp2_with fail
          go_loopw [92] (fun v wr => ∃ j q : Nat, j ≤ S ∧ v = .int .i64 (j : Int) ∧ wr = w8.drewN q) (fun v _ => S - (intOf v).toNat)
          case atStart => exact ⟨0, 0, Nat.zero_le _, rfl, rfl⟩
          case round =>
            obtain ⟨j, q, hj, rfl, rfl⟩ := hrel
            have hs64 : S ≤ 64 := by have := Hg.out.s2; omega
            by_cases hjS : j < S
            · obtain ⟨ct, hct⟩ : ∃ ct, f.er[j]? = some ct := ⟨_, List.getElem?_eq_getElem (by have := hf8.ok.el; have h7 : f.reset.er.length = f.er.length := rfl; have h8 : f.reset.S = f.S := rfl; omega)⟩
              have hE : (w8.drewN q).cell? ⟨er', j, none⟩ = some (.int .i64 (ct : Int)) := by
                have h7 : w8.cell? ⟨er', j, none⟩ = some (.int .i64 (ct : Int)) := by rw [hg8.er.cell]; have h8 := Hr.out.e; simp [← h8, hct]
                exact h7
              have hf9 : FlashAt (w8.drewN q) p c er f.reset := hf8.of ((Only.refl Empty w8).drewN q) (fun h => h) (fun h => h) (fun h => h)
              have her := erases_in p c er j ct f.reset (w8.drewN q) hf9 hct
              have Her := Lib.hid her
              clear her hct hf9
              go_wp2_with fail
              refine Her.out.mono ?_
              rintro e9 w9 ⟨rfl, rfl⟩
              go_wp2_with fail
              all_goals go_roundw
              case rel => exact ⟨j + 1, _, by omega, by go_num, rfl⟩
              case measure => simp [intOf]; omega
            · obtain rfl : S = j := by omega
              have hgZ : g.Z = Z := by rw [← Hr.out.z]; exact hZ
              have hgl : g.bs.length = S * Z := by have h7 := hg8.ok.bl; have h8 : g.bs.length = g.S * g.Z := h7; rw [h8, hgS, hgZ]
              have hbs : (f.reset.bs.drop 0).take (S * Z) = g.bs := by
                show (f.bs.drop 0).take (S * Z) = g.bs
                rw [Hr.out.b, List.drop_zero, List.take_of_length_le (by omega)]
              rw [hbs] at hB8
              have hR8 : ByteSl w8 Empty (some ⟨c', 0, none⟩) (S * Z) (S * Z) g.bs := ⟨hgl, Nat.le_refl _, by unfold maxLen; omega, fun _ => ⟨_, rfl, hg8.ce.lt, fun h => h, fun y x hx => by
                rw [show (⟨c', 0, none⟩ : Addr).add y = ⟨c', y, none⟩ from by unfold Addr.add; split <;> simp_all, hg8.ce.cell]
                simp [hx]⟩⟩
              have hc3 : w8.cell? ⟨p', 3, none⟩ = some (.slice (some ⟨c', 0, none⟩) (S * Z) (S * Z)) := by
                rw [hg8.hd.cell]
                simp [Fl.rhdr, hgS, hgZ]
              have hI : ∀ W, Only Empty w8 W → (convert 34 9 (.slice Av (S * Z) capv)).run Try.prog W = .ok (.string (strB g.bs)) W ∧ (convert 34 9 (.slice (some ⟨c', 0, none⟩) (S * Z) (S * Z))).run Try.prog W = .ok (.string (strB g.bs)) W ∧ W.cell? ⟨p', 3, none⟩ = some (.slice (some ⟨c', 0, none⟩) (S * Z) (S * Z)) ∧ W.cell? ⟨w.heap.size, 0, none⟩ = some (.int .i64 (S : Int)) ∧ W.cell? ⟨w.heap.size, 1, none⟩ = some (.int .i64 (Z : Int)) ∧ W.cell? ⟨w.heap.size, 2, none⟩ = some (.int .i64 (L : Int)) := fun W hW =>
                ⟨conv_bytes (hB8.only hW (fun _ _ h => h)), conv_bytes (hR8.only hW (fun _ _ h => h)), (hW.cell (p := ⟨p', 3, none⟩) hg8.hd.lt (fun h => h)).trans hc3, (hW.blk hG8.1 (fun h => h)).cell 0, (hW.blk hG8.1 (fun h => h)).cell 1, (hW.blk hG8.1 (fun h => h)).cell 2⟩
              have hO0 : Only Empty w8 (w8.drewN q) := (Only.refl _ w8).drewN q
              have hO1 : Only Empty w8 (w8.drewN q).drew := hO0.drew
              have hs0 := hI _ hO0
              have hs1 := hI _ hO1
              have hgeo : ∀ W, Only Empty w8 W → Calls Try.prog 18 #[.pointer (some ⟨p, 0, none⟩)] W fun e1 W' => e1 = .returned (.agg #[.int .i64 (S : Int), .int .i64 (Z : Int), .int .i64 (L : Int)]) ∧ Only Empty w8 W' := fun W hW => by
                have h7 := geometry_any p c er f.reset W (hf8.of hW (fun h => h) (fun h => h) (fun h => h))
                rw [show f.reset.S = S from hS, show f.reset.Z = Z from hZ, show f.reset.L = L from hL] at h7
                exact h7.mono fun e1 W' ⟨he, hb⟩ => ⟨he, hW.trans (Only.of_below hb)⟩
              have Hgeo := Lib.hid hgeo
              have HI := Lib.hid hI
              have hend : ∀ W, Only Empty w8 W → Below w.heap.size w W := fun W hW => hG8.2.trans (hW.below hG8.2.size (fun _ _ h => h))
              have Hend := Lib.hid hend
              clear hgeo hI hend hf8 hB8 hR8 hG8 hg8 hcnt hc3 hbs
              go_wp2_with fail
              go_region_held (fun W => (convert 34 9 (.slice Av (S * Z) capv)).run Try.prog W = .ok (.string (strB g.bs)) W ∧ (convert 34 9 (.slice (some ⟨c', 0, none⟩) (S * Z) (S * Z))).run Try.prog W = .ok (.string (strB g.bs)) W ∧ W.cell? ⟨p', 3, none⟩ = some (.slice (some ⟨c', 0, none⟩) (S * Z) (S * Z)) ∧ W.cell? ⟨w.heap.size, 0, none⟩ = some (.int .i64 (S : Int)) ∧ W.cell? ⟨w.heap.size, 1, none⟩ = some (.int .i64 (Z : Int)) ∧ W.cell? ⟨w.heap.size, 2, none⟩ = some (.int .i64 (L : Int))) (first | exact hs0 | exact hs1 | exact hs9)
                (first | (go_at_call 18; refine (Hgeo.out _ hO1).mono ?_; rintro e9 w9 ⟨rfl, hO9⟩; have hs9 := HI.out _ hO9))
              go_wp2
              go_ret
              exact ⟨rfl, Hend.out _ hO9⟩
  · go_wp2
    go_ret
    exact ⟨rfl, h4.2⟩
end Go.Proofs.Ytaepdmifenkhcaa
