/- NorPlays: a geometry that may be. -/
import Derived.Test.YtaepdmifenkhcaaQ1
namespace Go.Proofs.Ytaepdmifenkhcaa
open Go.RowKit

theorem three_blk (wr : World) (b1 b2 : Array Value) (t1 t2 : TypeId) (O : Obj) : Blk (((wr.alloc (.cells b1 t1)).alloc (.cells b2 t2)).alloc O) wr.heap.size t1 b1 ∧ Blk (((wr.alloc (.cells b1 t1)).alloc (.cells b2 t2)).alloc O) (wr.heap.size + 1) t2 b2 := by
  refine ⟨((Blk.new wr t1 b1).alloc _).alloc _, ?_⟩
  have h7 := (Blk.new (wr.alloc (.cells b1 t1)) t2 b2).alloc O
  rw [show (wr.alloc (.cells b1 t1)).heap.size = wr.heap.size + 1 from by simp] at h7
  exact h7

set_option maxRecDepth 100000 in
set_option maxHeartbeats 4000000 in
theorem norPlays_yes (S Z L b o n cap : Nat) (F : Nat → OneAct) (w : World) (hg : GeoOk S Z L) (hn : n ≤ cap) (hcap : cap ≤ maxLen) (hb : b < w.heap.size) (hF : ∀ i, i < n → ActOk w b (o + i * 6) (F i)) :
    Calls Try.prog 3 #[.agg #[.int .i64 (S : Int), .int .i64 (Z : Int), .int .i64 (L : Int)], .slice (some ⟨b, o, none⟩) n cap] w fun e w' => e = .returned (.bool true) ∧ Below w.heap.size w w' := by
  have h0 : GB w _ S Z L := gbox_start S Z L w
  have HF := Lib.hid hF
  have Hn := Lib.hid hn
  have Hcap := Lib.hid hcap
  have Hg := Lib.hid hg
  have hfew : ∀ W, Below w.heap.size w W → Calls Try.prog 11 #[.slice (some ⟨b, o, none⟩) n cap] W fun e1 w' => ((e1 = .returned (.bool true) ∧ ∀ i, i < n → (F i).ln ≤ 300) ∨ e1 = .returned (.bool false)) ∧ Below W.heap.size W w' := fun W hW =>
    few_any b o n cap W (by simp only [maxLen] at hcap; omega) (fun i => (F i).K) (fun i => (F i).a) (fun i => (F i).m) (fun i => (F i).k) (fun i => (F i).tm) (fun i => (F i).A) (fun i => (F i).ln) (fun i => (F i).cp)
      (fun i hi j hj => by rw [hW.cell (p := ⟨b, o + i * 6 + j, none⟩) hb]; exact (hF i hi).cells j hj) (Nat.lt_of_lt_of_le hb hW.size)
  have Hfew := Lib.hid hfew
  have hz : S * Z ≤ 4194304 := Nat.le_trans (Nat.mul_le_mul (show S ≤ 64 by have := hg.s2; omega) (show Z ≤ 65536 by have := hg.z2; omega)) (by decide)
  clear hF hn hcap hfew hg
  go_enter Try.func3, Try.ntmps3
  go_wp2_with fail
  refine (fixed_any _).mono ?_
  rintro e1 w1 ⟨rfl, hb1⟩
  have h1 := h0.below hb1
  clear h0 hb1
  obtain ⟨c0, c1, c2⟩ := h1.cells
  go_wp2_with fail
  refine (new_yes S Z L w1 Hg.out).mono ?_
  rintro e1 w2 ⟨p, c, er, rfl, hf2, hb2, hp, hc, he⟩
  have h2 := h1.below hb2
  have hp1 := h1.1.lt
  clear h1 c0 c1 c2
  obtain ⟨c0, c1, c2⟩ := h2.cells
  go_wp2_with fail
  refine (right_yes S Z L w2 Hg.out).mono ?_
  rintro e1 w3 ⟨rfl, hw3⟩
  have hb3 : Below w2.heap.size w2 w3 := by rw [hw3]; exact (Below.refl _ _).alloc (Nat.le_refl _) _
  have h3 := h2.below hb3
  have hf3 : FlashAt w3 p c er (Fl.fresh S Z L) := hf2.of (Only.of_below (S := Empty) hb3) (fun h => h) (fun h => h) (fun h => h)
  clear h2 c0 c1 c2 hw3 hb3 hf2 hb2
  obtain ⟨c0, c1, c2⟩ := h3.cells
  go_wp2_with fail
  refine (Hfew.out w3 h3.2).mono ?_
  rintro e1 w4 ⟨hor, hb4⟩
  have h4 := h3.below hb4
  have hf4 : FlashAt w4 p c er (Fl.fresh S Z L) := hf3.of (Only.of_below (S := Empty) hb4) (fun h => h) (fun h => h) (fun h => h)
  clear h3 c0 c1 c2 hb4 hf3
  obtain ⟨c0, c1, c2⟩ := h4.cells
  rcases hor with ⟨rfl, h300⟩ | rfl
  · go_wp2_with fail
    · go_ret
      exact ⟨rfl, h4.2⟩
    · refine (rnew_yes S Z L w4 Hg.out).mono ?_
      rintro e1 w5 ⟨p', c', er', rfl, hg5, hb5, hp', hc', he'⟩
      have h5 := h4.below hb5
      have hf5 : FlashAt w5 p c er (Fl.fresh S Z L) := hf4.of (Only.of_below (S := Empty) hb5) (fun h => h) (fun h => h) (fun h => h)
      have hsep : ∀ k, Three p c er k → ¬ Three p' c' er' k := fun k => by
        have := hf4.hd.lt
        have := hf4.ce.lt
        have := hf4.er.lt
        unfold Three
        omega
      have hnew : ∀ k, Six p c er p' c' er' k → w.heap.size < k := fun k => by
        have := h4.2.size
        have := h4.1.lt
        unfold Six Three
        omega
      have Hsep := Lib.hid hsep
      have Hnew := Lib.hid hnew
      clear h4 c0 c1 c2 hf4 hb5 hsep hnew hp hc he hp' hc' he' hp1
      have hnl : n ≤ 9223372036854775807 := by have := Hn.out; have := Hcap.out; simp only [maxLen] at this; omega
      go_wp2_with fail
      go_loopw [48] (fun v wr => ∃ (i : Nat) (f g : Fl), i ≤ n ∧ v = .int .i64 (i : Int) ∧ Rel f g ∧ f.S = S ∧ f.Z = Z ∧ f.L = L ∧ FlashAt wr p c er f ∧ RefAt wr p' c' er' g ∧ GB w wr S Z L) (fun v _ => n - (intOf v).toNat)
      case atStart => exact ⟨0, _, _, Nat.zero_le _, rfl, ⟨rfl, rfl, rfl, rfl, rfl, rfl, Or.inl ⟨by show (-1 : Int) < 0; omega, rfl⟩⟩, rfl, rfl, rfl, hf5, hg5, h5⟩
      case round =>
        obtain ⟨i, f, g, hi, rfl, hr, hS, hZ, hL, hf, hgg, hG⟩ := hrel
        clear hf5 hg5 h5
        by_cases hin : i < n
        · have hact := HF.out i hin
          have hlen := h300 i hin
          obtain ⟨x, hx⟩ : ∃ x, x = F i := ⟨_, rfl⟩
          rw [← hx] at hact hlen
          clear hx
          obtain ⟨K, a, m, k, tm, A, ln, cp, xs⟩ := x
          have hw : ∀ j, j < 6 → wr.cell? ⟨b, o + i * 6 + j, none⟩ = (actBox K a m A ln cp k tm)[j]? := fun j hj => by
            rw [hG.2.cell (p := ⟨b, o + i * 6 + j, none⟩) hb]
            exact hact.cells j hj
          have d0 : wr.cell? ⟨b, o + i * 6, none⟩ = some (.int .u8 K) := hw 0 (by decide)
          have d1 : wr.cell? ⟨b, o + i * 6 + 1, none⟩ = some (.int .i64 a) := hw 1 (by decide)
          have d2 : wr.cell? ⟨b, o + i * 6 + 2, none⟩ = some (.int .i64 m) := hw 2 (by decide)
          have d3 : wr.cell? ⟨b, o + i * 6 + 3, none⟩ = some (.slice A ln cp) := hw 3 (by decide)
          have d4 : wr.cell? ⟨b, o + i * 6 + 4, none⟩ = some (.int .i64 k) := hw 4 (by decide)
          have d5 : wr.cell? ⟨b, o + i * 6 + 5, none⟩ = some (.int .u8 (tm.toNat : Int)) := hw 5 (by decide)
          have Hact := Lib.hid hact
          have hlen' : ln ≤ 300 := hlen
          have Hlen := Lib.hid hlen'
          have hsr : ByteSl w (fun k => w.heap.size ≤ k) A ln cp xs := hact.src
          have Hsrc := Lib.hid hsr
          have hnl' : A = none → ln = 0 ∧ cp = 0 := hact.nl
          have Hnl := Lib.hid hnl'
          have hrowb : ∀ B1 B2 : Obj, (((wr.alloc B1).alloc B2).alloc (.cells #[] 5)).ownsRow (wr.heap.size + 1 + 1) 5 1 (.slice (some ⟨wr.heap.size + 1 + 1, 0, none⟩) 0 0) 0 [] := fun B1 B2 => by
            have h7 := World.ownsRow_made (base := wr.heap.size + 1 + 1) (size := 1) (e := 5) ((wr.alloc B1).alloc B2) #[] 0 (by simp) (by decide) rfl
            rw [show ((wr.alloc B1).alloc B2).heap.size = wr.heap.size + 1 + 1 from by simp] at h7
            exact h7
          have hsrc2 : ∀ W, Only Empty wr W → ByteSl W Empty A ln cp xs := fun W hW => ((Hsrc.out.mono (T := Empty) (fun _ _ h => h.elim)).only (Only.of_below hG.2) (fun _ _ h => h)).only hW (fun _ _ h => h)
          have Hrow := Lib.hid hrowb
          have Hsrc2 := Lib.hid hsrc2
          have hA3 : ∀ (B1 B2 B3 : Obj), Only Empty wr (((wr.alloc B1).alloc B2).alloc B3) := fun B1 B2 B3 => (((Only.refl Empty wr).alloc B1).alloc B2).alloc B3
          have HA3 := Lib.hid hA3
          clear hlen hlen' hsr hnl' hrowb hsrc2 hA3
          have Hr := Lib.hid hr
          clear hw hact hr
          go_wp2_with (at_builtin; refine wpList_append_bytes rfl (.tmp 53) (.tmp 55) rfl _ (.slice (some ⟨wr.heap.size + 1 + 1, 0, none⟩) 0 0) rfl (Hrow.out _ _) A ln cp xs Empty rfl (Hsrc2.out _ (HA3.out _ _ _)) Hnl.out Hlen.out ?c1 ?_)
          case c1 => simp
          intro v1 w6 hown hg6
          obtain ⟨A1, cap1, rfl, hB1, _⟩ := ByteSl.of_own (S := fun q => q < wr.heap.size + 1 + 1) hown (fun q h1 _ h2 => by omega)
          have hT3 := Only.of_grown (S := fun q => q = wr.heap.size + 1 + 1) hg6 (fun q hq _ => by simp [Value.ownBlock] at hq; omega)
          have hO6 : Only Empty wr w6 := (HA3.out _ _ _).trans' hT3 (fun q hq h => by omega)
          have hbA : Blk w6 wr.heap.size 38 (actBox K a m A ln cp k tm) := hT3.blk (three_blk wr _ _ _ _ _).1 (by omega)
          have hbO : Blk w6 (wr.heap.size + 1) 38 (actBox K a m A ln cp k tm) := hT3.blk (three_blk wr _ _ _ _ _).2 (by omega)
          have hsix : ∀ q, Six p c er p' c' er' q → q < wr.heap.size := fun q => by
            have := hf.hd.lt
            have := hf.ce.lt
            have := hf.er.lt
            have := hgg.hd.lt
            have := hgg.ce.lt
            have := hgg.er.lt
            unfold Six Three
            omega
          have Hsix := Lib.hid hsix
          clear hsix hT3
          have e0 : w6.cell? ⟨wr.heap.size + 1, 0, none⟩ = some (.int .u8 K) := hbO.cell 0
          have e1 : w6.cell? ⟨wr.heap.size + 1, 1, none⟩ = some (.int .i64 a) := hbO.cell 1
          have e2 : w6.cell? ⟨wr.heap.size + 1, 2, none⟩ = some (.int .i64 m) := hbO.cell 2
          have e3 : w6.cell? ⟨wr.heap.size + 1, 3, none⟩ = some (.slice A ln cp) := hbO.cell 3
          have e4 : w6.cell? ⟨wr.heap.size + 1, 4, none⟩ = some (.int .i64 k) := hbO.cell 4
          have e5 : w6.cell? ⟨wr.heap.size + 1, 5, none⟩ = some (.int .u8 (tm.toNat : Int)) := hbO.cell 5
          have hfz := hbO.frozen 3
          clear hown hg6
          go_wp2_with fail
          have hO7' : Only Empty wr (w6.setCell ⟨wr.heap.size + 1, 3, none⟩ (.slice A1 ln cap1)) := hO6.setCell (p := ⟨wr.heap.size + 1, 3, none⟩) (Or.inr (Nat.le_succ _)) _
          have hb7O : Blk (w6.setCell ⟨wr.heap.size + 1, 3, none⟩ (.slice A1 ln cap1)) (wr.heap.size + 1) 38 (actBox K a m A1 ln cap1 k tm) := hbO.set_ 3 _
          have hb7A : Blk (w6.setCell ⟨wr.heap.size + 1, 3, none⟩ (.slice A1 ln cap1)) wr.heap.size 38 (actBox K a m A ln cp k tm) := ((Only.refl (fun q => q = wr.heap.size + 1) w6).setCell (p := ⟨wr.heap.size + 1, 3, none⟩) (Or.inl rfl) _).blk hbA (by omega)
          have hB7 : ByteSl (w6.setCell ⟨wr.heap.size + 1, 3, none⟩ (.slice A1 ln cap1)) (fun q => q < wr.heap.size + 1 + 1) A1 ln cap1 xs := hB1.only ((Only.refl (fun q => q = wr.heap.size + 1) w6).setCell (p := ⟨wr.heap.size + 1, 3, none⟩) (Or.inl rfl) _) (fun q _ h => by omega)
          obtain ⟨w7, hw7⟩ : ∃ w7, w7 = w6.setCell ⟨wr.heap.size + 1, 3, none⟩ (.slice A1 ln cap1) := ⟨_, rfl⟩
          rw [← hw7] at hb7O hb7A hB7 hO7' ⊢
          have hf7 : FlashAt w7 p c er f := hf.of hO7' (fun h => h) (fun h => h) (fun h => h)
          have hg7 : RefAt w7 p' c' er' g := hgg.of hO7' (fun h => h) (fun h => h) (fun h => h)
          refine (do_any p c er p' c' er' ln cap1 f g K a m k tm A1 xs w7 Hr.out hf7 hg7 (hB7.mono (fun q _ h => by have := Hsix.out q h; omega)) Hsep.out Hact.out.K1 Hact.out.K2 Hact.out.a2 Hact.out.m1 Hact.out.m2 Hact.out.k1 Hact.out.k2).mono ?_
          rintro e9 w8 ⟨rfl, f8, g8, hr8, s1, s2, s3, hf8, hg8, hO8⟩
          have hb8O : Blk w8 (wr.heap.size + 1) 38 (actBox K a m A1 ln cap1 k tm) := hO8.blk hb7O (fun h => by have := Hsix.out _ h; omega)
          have hb8A : Blk w8 wr.heap.size 38 (actBox K a m A ln cp k tm) := hO8.blk hb7A (fun h => by have := Hsix.out _ h; omega)
          have hB8 : ByteSl w8 Empty A1 ln cap1 xs := (hB7.only hO8 (fun q _ h => by have := Hsix.out q h; omega)).mono (fun _ _ h => h.elim)
          have hG8 : GB w w8 S Z L := ⟨hO8.blk (hO7'.blk hG.1 (fun h => h)) (fun h => by have := Hnew.out _ h; omega),
            (hG.2.trans (hO7'.below hG.2.size (fun _ _ h => h))).trans (hO8.below (Nat.le_trans hG.2.size hO7'.size) (fun q hq h => by have := Hnew.out q h; omega))⟩
          have hX8 : ByteSl w8 Empty A ln cp xs := (Hsrc.out.mono (T := Empty) (fun _ _ h => h.elim)).only (Only.of_below (S := Empty) hG8.2) (fun _ _ h => h)
          have hc1 := conv_bytes hB8
          have hc2 := conv_bytes hX8
          have x1 : w8.cell? ⟨wr.heap.size + 1, 3, none⟩ = some (.slice A1 ln cap1) := hb8O.cell 3
          have x2 : w8.cell? ⟨wr.heap.size, 3, none⟩ = some (.slice A ln cp) := hb8A.cell 3
          clear e0 e1 e2 e3 e4 e5 d0 d1 d2 d3 d4 d5
          go_wp2_with fail
          go_roundw
          case rel => exact ⟨i + 1, f8, g8, by omega, by go_num, hr8, s1.trans hS, s2.trans hZ, s3.trans hL, hf8, hg8, hG8⟩
          case measure => simp [intOf]; omega
        · obtain rfl : i = n := by omega
          clear hi hin
          have Hr := Lib.hid hr
          clear hr
          go_wp2_with fail
          refine (reset_any p c er f wr hf).mono ?_
          rintro e1 w6 ⟨rfl, hf6, ho6⟩
          have hfp : ∀ q, Three p c er q → ¬ Three p' c' er' q := Hsep.out
          have hg6 : RefAt w6 p' c' er' g := hgg.of ho6 (fun h => hfp _ (Or.inl rfl) (h ▸ Or.inl rfl)) (fun h => hfp _ (Or.inl rfl) (h ▸ Or.inr (Or.inl rfl))) (fun h => hfp _ (Or.inl rfl) (h ▸ Or.inr (Or.inr rfl)))
          have hpw : w.heap.size < p := Hnew.out _ (Or.inl (Or.inl rfl))
          have hpw' : w.heap.size < p' := Hnew.out _ (Or.inr (Or.inl rfl))
          have hG6 : GB w w6 S Z L := ⟨ho6.blk hG.1 (by omega), hG.2.trans (ho6.below hG.2.size (fun q hq h => by omega))⟩
          go_wp2_with fail
          refine (rreset_any p' c' er' g w6 hg6).mono ?_
          rintro e1 w7 ⟨rfl, hg7, ho7⟩
          have hf7 : FlashAt w7 p c er f.reset := hf6.of ho7 (fun h => hfp _ (Or.inl rfl) (h ▸ Or.inl rfl)) (fun h => hfp _ (Or.inr (Or.inl rfl)) (h ▸ Or.inl rfl)) (fun h => hfp _ (Or.inr (Or.inr rfl)) (h ▸ Or.inl rfl))
          have hG7 : GB w w7 S Z L := ⟨ho7.blk hG6.1 (by omega), hG6.2.trans (ho7.below hG6.2.size (fun q hq h => by omega))⟩
          clear hG hG6 hf hgg hf6 hg6 ho6 ho7
          obtain ⟨c0, c1, c2⟩ := hG7.cells
          go_wp2_with fail
          have hrd := read_in p c er 0 (S * Z) f.reset w7 hf7 rfl (by show 0 + S * Z ≤ f.S * f.Z; rw [hS, hZ]; omega)
          rw [Int.natCast_mul] at hrd
          refine hrd.mono ?_
          rintro e1 w8 ⟨v, rfl, hown, hb8⟩
          obtain ⟨Av, capv, rfl, hB8, _⟩ := ByteSl.of_own (S := Empty) hown (fun _ _ _ h => h)
          have hf8 : FlashAt w8 p c er f.reset := hf7.of (Only.of_below (S := Empty) hb8) (fun h => h) (fun h => h) (fun h => h)
          have hg8 := hg7.of (Only.of_below (S := Empty) hb8) (fun h => h) (fun h => h) (fun h => h)
          have hG8 := hG7.below hb8
          have hcnt : w8.cell? ⟨p', 4, none⟩ = some (.slice (some ⟨er', 0, none⟩) g.S g.S) := by rw [hg8.hd.cell]; simp [Fl.rhdr]
          have hgS : g.S = S := by rw [← Hr.out.s]; exact hS
          rw [hgS] at hcnt
          clear hf7 hg7 hG7 hrd hown hb8 c0 c1 c2
          go_wp2_with fail
          go_loopw [92] (fun v wr => ∃ j q : Nat, j ≤ S ∧ v = .int .i64 (j : Int) ∧ wr = w8.drewN q) (fun v _ => S - (intOf v).toNat)
          case atStart => exact ⟨0, 0, Nat.zero_le _, rfl, rfl⟩
          case round =>
            obtain ⟨j, q, hj, rfl, rfl⟩ := hrel
            have hs64 : S ≤ 64 := by have := Hg.out.s2; omega
            by_cases hjS : j < S
            · obtain ⟨ct, hct⟩ : ∃ ct, f.er[j]? = some ct := ⟨_, List.getElem?_eq_getElem (by have := hf8.ok.el; have h7 : f.reset.er.length = f.er.length := rfl; have h8 : f.reset.S = f.S := rfl; omega)⟩
              have hE : (w8.drewN q).cell? ⟨er', j, none⟩ = some (.int .i64 (ct : Int)) := by
                have h7 : w8.cell? ⟨er', j, none⟩ = some (.int .i64 (ct : Int)) := by rw [hg8.er.cell]; have h8 := Hr.out.e; simp [← h8, hct]
                exact h7
              have hf9 : FlashAt (w8.drewN q) p c er f.reset := hf8.of ((Only.refl Empty w8).drewN q) (fun h => h) (fun h => h) (fun h => h)
              have her := erases_in p c er j ct f.reset (w8.drewN q) hf9 hct
              have Her := Lib.hid her
              clear her hct hf9
              go_wp2_with fail
              refine Her.out.mono ?_
              rintro e9 w9 ⟨rfl, rfl⟩
              go_wp2_with fail
              all_goals go_roundw
              case rel => exact ⟨j + 1, _, by omega, by go_num, rfl⟩
              case measure => simp [intOf]; omega
            · obtain rfl : S = j := by omega
              have hgZ : g.Z = Z := by rw [← Hr.out.z]; exact hZ
              have hgl : g.bs.length = S * Z := by have h7 := hg8.ok.bl; have h8 : g.bs.length = g.S * g.Z := h7; rw [h8, hgS, hgZ]
              have hbs : (f.reset.bs.drop 0).take (S * Z) = g.bs := by
                show (f.bs.drop 0).take (S * Z) = g.bs
                rw [Hr.out.b, List.drop_zero, List.take_of_length_le (by omega)]
              rw [hbs] at hB8
              have hR8 : ByteSl w8 Empty (some ⟨c', 0, none⟩) (S * Z) (S * Z) g.bs := ⟨hgl, Nat.le_refl _, by unfold maxLen; omega, fun _ => ⟨_, rfl, hg8.ce.lt, fun h => h, fun y x hx => by
                rw [show (⟨c', 0, none⟩ : Addr).add y = ⟨c', y, none⟩ from by unfold Addr.add; split <;> simp_all, hg8.ce.cell]
                simp [hx]⟩⟩
              have hc3 : w8.cell? ⟨p', 3, none⟩ = some (.slice (some ⟨c', 0, none⟩) (S * Z) (S * Z)) := by
                rw [hg8.hd.cell]
                simp [Fl.rhdr, hgS, hgZ]
              have hI : ∀ W, Only Empty w8 W → (convert 34 9 (.slice Av (S * Z) capv)).run Try.prog W = .ok (.string (strB g.bs)) W ∧ (convert 34 9 (.slice (some ⟨c', 0, none⟩) (S * Z) (S * Z))).run Try.prog W = .ok (.string (strB g.bs)) W ∧ W.cell? ⟨p', 3, none⟩ = some (.slice (some ⟨c', 0, none⟩) (S * Z) (S * Z)) ∧ W.cell? ⟨w.heap.size, 0, none⟩ = some (.int .i64 (S : Int)) ∧ W.cell? ⟨w.heap.size, 1, none⟩ = some (.int .i64 (Z : Int)) ∧ W.cell? ⟨w.heap.size, 2, none⟩ = some (.int .i64 (L : Int)) := fun W hW =>
                ⟨conv_bytes (hB8.only hW (fun _ _ h => h)), conv_bytes (hR8.only hW (fun _ _ h => h)), (hW.cell (p := ⟨p', 3, none⟩) hg8.hd.lt (fun h => h)).trans hc3, (hW.blk hG8.1 (fun h => h)).cell 0, (hW.blk hG8.1 (fun h => h)).cell 1, (hW.blk hG8.1 (fun h => h)).cell 2⟩
              have hO0 : Only Empty w8 (w8.drewN q) := (Only.refl _ w8).drewN q
              have hO1 : Only Empty w8 (w8.drewN q).drew := hO0.drew
              have hs0 := hI _ hO0
              have hs1 := hI _ hO1
              have hgeo : ∀ W, Only Empty w8 W → Calls Try.prog 18 #[.pointer (some ⟨p, 0, none⟩)] W fun e1 W' => e1 = .returned (.agg #[.int .i64 (S : Int), .int .i64 (Z : Int), .int .i64 (L : Int)]) ∧ Only Empty w8 W' := fun W hW => by
                have h7 := geometry_any p c er f.reset W (hf8.of hW (fun h => h) (fun h => h) (fun h => h))
                rw [show f.reset.S = S from hS, show f.reset.Z = Z from hZ, show f.reset.L = L from hL] at h7
                exact h7.mono fun e1 W' ⟨he, hb⟩ => ⟨he, hW.trans (Only.of_below hb)⟩
              have Hgeo := Lib.hid hgeo
              have HI := Lib.hid hI
              have hend : ∀ W, Only Empty w8 W → Below w.heap.size w W := fun W hW => hG8.2.trans (hW.below hG8.2.size (fun _ _ h => h))
              have Hend := Lib.hid hend
              clear hgeo hI hend hf8 hB8 hR8 hG8 hg8 hcnt hc3 hbs
              go_wp2_with fail
              go_region_held (fun W => (convert 34 9 (.slice Av (S * Z) capv)).run Try.prog W = .ok (.string (strB g.bs)) W ∧ (convert 34 9 (.slice (some ⟨c', 0, none⟩) (S * Z) (S * Z))).run Try.prog W = .ok (.string (strB g.bs)) W ∧ W.cell? ⟨p', 3, none⟩ = some (.slice (some ⟨c', 0, none⟩) (S * Z) (S * Z)) ∧ W.cell? ⟨w.heap.size, 0, none⟩ = some (.int .i64 (S : Int)) ∧ W.cell? ⟨w.heap.size, 1, none⟩ = some (.int .i64 (Z : Int)) ∧ W.cell? ⟨w.heap.size, 2, none⟩ = some (.int .i64 (L : Int))) (first | exact hs0 | exact hs1 | exact hs9)
                (first | (go_at_call 18; refine (Hgeo.out _ hO1).mono ?_; rintro e9 w9 ⟨rfl, hO9⟩; have hs9 := HI.out _ hO9))
              go_wp2
              go_ret
              exact ⟨rfl, Hend.out _ hO9⟩
  · go_wp2
    go_ret
    exact ⟨rfl, h4.2⟩
end Go.Proofs.Ytaepdmifenkhcaa
