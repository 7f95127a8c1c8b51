/- Bytes to strings; bytes that the law itself makes; the walk over the law's 'fixed'. -/
import Derived.Test.YtaepdmifenkhcaaW5
import Derived.Laws.BytesArg
namespace Go.Proofs.Ytaepdmifenkhcaa
open Go.RowKit

/-- The string that bytes make. -/
def strB (xs : List UInt8) : ByteArray := ⟨xs.toArray⟩

theorem strB_toList (xs : List UInt8) : (strB xs).toList = xs := by simp [strB]

theorem nums_back (xs : List UInt8) : (xs.map fun x => ((x.toNat : Int))).map (fun n => UInt8.ofNat n.toNat) = xs := by
  rw [List.map_map]
  have : (fun n : Int => UInt8.ofNat n.toNat) ∘ (fun x : UInt8 => (x.toNat : Int)) = id := by
    funext x
    simp
  rw [this, List.map_id]

theorem conv_bytes {w : World} {S : Nat → Prop} {A : Option Addr} {n cap : Nat} {xs : List UInt8} (h : ByteSl w S A n cap xs) :
    (convert 34 9 (.slice A n cap)).run Try.prog w = .ok (.string (strB xs)) w := by
  rcases Nat.eq_zero_or_pos n with h0 | h0
  · subst h0
    have hx : xs = [] := List.eq_nil_of_length_eq_zero h.1
    subst hx
    rcases A with _ | ad
    · rw [run_convert_bytes_nil w 34 5 Try.underlying34 Try.underlying5 0 cap 9 Try.underlying9]
      rfl
    · rw [run_convert_bytes_string w 34 9 5 _ 0 cap Try.underlying34 Try.underlying5 Try.underlying9, run_bytesToString w ad 0 cap [] (by simpa using run_loadCells_list (P := Try.prog) w ad [] (by simp))]
      rfl
  · obtain ⟨ad, rfl, _, _, hc⟩ := h.2.2.2 h0
    have hl : (loadCells ad n).run Try.prog w = .ok ((xs.map fun x => (x.toNat : Int)).map (Value.int .u8)).toArray w := by
      have := run_loadCells_list (P := Try.prog) w ad ((xs.map fun x => (x.toNat : Int)).map (Value.int .u8)) (fun j v hj => by
        rw [List.getElem?_map, List.getElem?_map] at hj
        rcases hx : xs[j]? with _ | x
        · rw [hx] at hj; simp at hj
        · rw [hx] at hj
          simp at hj
          rw [hc j x hx, ← hj]
          rfl)
      simpa [h.1] using this
    rw [run_convert_bytes_string w 34 9 5 _ n cap Try.underlying34 Try.underlying5 Try.underlying9, run_bytesToString w ad n cap _ hl, foldl_push_bytes, nums_back]
    simp [strB, ByteArray.empty, ByteArray.emptyWithCapacity]
    rfl

/-- Bytes that were just laid. -/
theorem ByteSl.lit (w : World) (S : Nat → Prop) (xs : List UInt8) (n : Nat) (hn : xs.length = n) (hS : ¬ S w.heap.size) (h : n ≤ maxLen) :
    ByteSl (w.alloc (.cells (cellsB xs) 5)) S (some ⟨w.heap.size, 0, none⟩) n n xs := by
  refine ⟨hn, Nat.le_refl _, h, fun _ => ⟨_, rfl, by simp, hS, fun j x hx => ?_⟩⟩
  have ha : (⟨w.heap.size, 0, none⟩ : Addr).add j = ⟨w.heap.size, j, none⟩ := by unfold Addr.add; split <;> simp_all
  rw [ha, (Blk.new w 5 (cellsB xs)).cell, cellsB_get, hx]
  rfl

/-- What an append or a read gave: bytes of the law's own. -/
theorem ByteSl.of_own {w : World} {S : Nat → Prop} {base : Nat} {v : Value} {n : Nat} {xs : List UInt8} (h : w.ownsRow base 5 1 v n (xs.map B8)) (hS : ∀ k, base ≤ k → k < w.heap.size → ¬ S k) :
    ∃ A cap, v = .slice A n cap ∧ ByteSl w S A n cap xs ∧ (0 < n → ∃ g, A = some ⟨g, 0, none⟩ ∧ base ≤ g ∧ w.frozen? ⟨g, 0, none⟩ = false) := by
  have hl : xs.length = n := by have := h.1; simpa using this
  rcases h.2 with ⟨rfl, rfl⟩ | ⟨g, cap, cur, rfl, hb, hh, hnc, hm, hs, ht⟩
  · exact ⟨none, 0, rfl, ⟨hl, Nat.le_refl _, by simp [maxLen], fun h0 => absurd h0 (by omega)⟩, fun h0 => absurd h0 (by omega)⟩
  · have hlt : g < w.heap.size := (Array.getElem?_eq_some_iff.1 hh).1
    refine ⟨_, cap, rfl, ⟨hl, hnc, hm, fun _ => ⟨_, rfl, hlt, hS g hb hlt, fun j x hx => ?_⟩⟩, fun _ => ⟨g, rfl, hb, by simp [World.frozen?, hh]⟩⟩
    exact h.cells (g := g) rfl j _ (by rw [List.getElem?_map, hx]; rfl)

/-- No block is one of S. -/
def Empty : Nat → Prop := fun _ => False

set_option maxHeartbeats 4000000 in
theorem fixed_any (w : World) : Calls Try.prog 8 #[] w fun e w' => e = .returned (.bool true) ∧ Below w.heap.size w w' := by
  go_enter Try.func8, Try.ntmps8
  go_wp2_with fail
  refine (new_yes 2 64 3 w ⟨by decide, by decide, by decide, by decide, by decide, by decide⟩).mono ?_
  rintro e1 w1 ⟨p, c, er, rfl, hf1, hb1, hp, hc, he⟩
  go_wp2_with fail
  have hs1 : ByteSl (w1.alloc (.cells (cellsB [15]) 5)) (Three p c er) (some ⟨w1.heap.size, 0, none⟩) 1 1 [15] :=
    ByteSl.lit w1 _ [15] 1 rfl (by have := hf1.hd.lt; have := hf1.ce.lt; have := hf1.er.lt; unfold Three; omega) (by decide)
  have hf2 : FlashAt (w1.alloc (.cells (cellsB [15]) 5)) p c er (Fl.fresh 2 64 3) := hf1.of ((Only.refl Empty w1).alloc _) (fun h => h) (fun h => h) (fun h => h)
  refine (program_fits p c er 0 1 1 (Fl.fresh 2 64 3) [15] _ _ hf2 rfl hs1 (by decide) (by decide +kernel)).mono ?_
  rintro e1 w2 ⟨rfl, hf3, ho3⟩
  rw [show (Fl.fresh 2 64 3).code = 0 from rfl]
  go_wp2_with fail
  obtain ⟨fl1, hfl1⟩ : ∃ fl1, fl1 = (Fl.fresh 2 64 3).prog 0 [15] := ⟨_, rfl⟩
  rw [← hfl1] at hf3
  have hs2 : ByteSl (w2.alloc (.cells (cellsB [240]) 5)) (Three p c er) (some ⟨w2.heap.size, 0, none⟩) 1 1 [240] :=
    ByteSl.lit w2 _ [240] 1 rfl (by have := hf3.hd.lt; have := hf3.ce.lt; have := hf3.er.lt; unfold Three; omega) (by decide)
  have hf4 : FlashAt (w2.alloc (.cells (cellsB [240]) 5)) p c er fl1 := hf3.of ((Only.refl Empty w2).alloc _) (fun h => h) (fun h => h) (fun h => h)
  refine (program_bits p c er 0 1 1 fl1 [240] _ _ hf4 (by rw [hfl1]; rfl) hs2 (by rw [hfl1]; decide) (by rw [hfl1]; decide +kernel)).mono ?_
  rintro e1 w3 ⟨rfl, rfl⟩
  go_wp2_with fail
  refine (erase_in p c er 0 0 fl1 _ hf4 (by rw [hfl1]; rfl) (by rw [hfl1]; rfl) (by rw [hfl1]; decide)).mono ?_
  rintro e1 w4 ⟨rfl, hf5, ho5⟩
  rw [show fl1.code = 0 from by rw [hfl1]; rfl]
  obtain ⟨fl2, hfl2⟩ : ∃ fl2, fl2 = fl1.erased 0 := ⟨_, rfl⟩
  rw [← hfl2] at hf5
  rw [hfl1] at hfl2
  go_wp2_with fail
  refine (read_in p c er 0 2 fl2 w4 hf5 (by rw [hfl2]; rfl) (by rw [hfl2]; decide)).mono ?_
  rintro e1 w5 ⟨v, rfl, hown, hb5⟩
  rw [show (fl2.bs.drop 0).take 2 = [255, 255] from by rw [hfl2]; decide +kernel] at hown
  obtain ⟨A, cap, rfl, hB, -⟩ := ByteSl.of_own (S := Empty) hown (fun k _ _ h => h)
  have ho35 : Only (Three p c er) w1 w5 := by
    have h1 := ((Only.refl (Three p c er) w1).alloc (.cells (cellsB [15]) 5)).trans ho3
    have h2 := (h1.alloc (.cells (cellsB [240]) 5)).trans ho5
    exact h2.trans (Only.of_below hb5)
  have hf6 : FlashAt w5 p c er fl2 := hf5.of (Only.of_below (S := Empty) hb5) (fun h => h) (fun h => h) (fun h => h)
  clear hf5 hf4 hf3 hf2 hf1 hs1 hs2 hown hb5 ho5 ho3
  go_wp2_with fail
  refine (new_no 0 0 0 w5 (fun h => by have := h.s1; omega)).mono ?_
  rintro e1 w6 ⟨rfl, hb6⟩
  have hf7 : FlashAt w6 p c er fl2 := hf6.of (Only.of_below (S := Empty) hb6) (fun h => h) (fun h => h) (fun h => h)
  have hB6 := hB.only (Only.of_below (S := Empty) hb6) (fun _ _ h => h)
  have hcv := conv_bytes hB6
  have heq : (strB [255, 255]).toList = [255, 255] := strB_toList _
  have hE0 := erases_in p c er 0 1 fl2 w6 hf7 (by rw [hfl2]; rfl)
  have hE1 := erases_in p c er 1 0 fl2 w6 hf7 (by rw [hfl2]; rfl)
  have HE0 := Lib.hid hE0
  have HE1 := Lib.hid hE1
  have Hb1 := Lib.hid hb1
  have Ho := Lib.hid ho35
  have Hb6 := Lib.hid hb6
  clear hE0 hE1 hf6 hf7 hB hB6 hfl1 hfl2 hb1 ho35 hb6
  go_wp2_with fail
  refine HE0.out.mono ?_
  rintro e1 w7 ⟨rfl, rfl⟩
  go_wp2_with fail
  refine HE1.out.mono ?_
  rintro e1 w7 ⟨rfl, rfl⟩
  go_wp2
  go_ret
  refine ⟨rfl, (Hb1.out.trans (Ho.out.below Hb1.out.size ?_)).trans (Hb6.out.mono (Nat.le_trans Hb1.out.size Ho.out.size))⟩
  intro k hk h3
  unfold Three at h3
  omega

end Go.Proofs.Ytaepdmifenkhcaa
