/- The walk over the document's Same, of rows of found records that are the same. -/
import Derived.Test.YtidcgobnhfganaaIc
import Derived.Test.YtidcgobnhfganaaHb
import Derived.Deep.RegionHeld3
namespace Go.Proofs.Ytidcgobnhfganaa
open Go.RowKit

theorem d_inj {pl pl' k k' c c' : Int} {t t' : Nat} {s s' : ByteArray} {A A' : Option Addr} {n n' cap cap' : Nat} {xs xs' : List UInt8} (h : (Fd.mk pl k t s A n cap c xs).d = (Fd.mk pl' k' t' s' A' n' cap' c' xs').d) :
    pl = pl' ∧ k = k' ∧ t = t' ∧ s = s' ∧ xs = xs' ∧ c = c' := by
  unfold Fd.d at h
  injection h with h1 h2 h3 h4 h5 h6
  refine ⟨h1, h2, h3, ?_, h5, h6⟩
  apply ByteArray.ext
  exact Array.toList_inj.1 h4

set_option maxHeartbeats 4000000 in
theorem same6_any (A B : Option Addr) (n cap cap2 : Nat) (la lb : List Fd) (w : World) (hA : Founds w Empty A n cap la) (hB : Founds w Empty B n cap2 lb) (hd : la.map Fd.d = lb.map Fd.d) (hm : n ≤ 1048576) :
    Calls Try.prog 10 #[.slice A n cap, .slice B n cap2] w fun e w' => e = .returned (.bool true) ∧ Below w.heap.size w w' := by
  have HA := Lib.hid hA
  have HB := Lib.hid hB
  have Hd := Lib.hid hd
  have hcap := hA.2.1
  have hcap2 := hB.2.1
  have hc1 : cap ≤ 9223372036854775807 := by have := hA.2.2.1; unfold maxLen at this; omega
  have hc2 : cap2 ≤ 9223372036854775807 := by have := hB.2.2.1; unfold maxLen at this; omega
  clear hA hB hd
  go_enter Try.func10, Try.ntmps10
  go_wp2_with fail
  go_loopw [13] (fun v wr => ∃ i : Nat, i ≤ n ∧ v = .int .i64 (i : Int) ∧ Below w.heap.size w wr) (fun v _ => n - (intOf v).toNat)
  case atStart => exact ⟨0, Nat.zero_le _, rfl, Below.refl _ _⟩
  case round =>
    obtain ⟨i, hi, rfl, hbw⟩ := hrel
    by_cases hlt : i < n
    · obtain ⟨b1, o1, rfl, hb1, -, hcA⟩ := (HA.out.only (Only.of_below (S := Empty) hbw) (fun _ _ h => h)).2.2.2.1 (by omega)
      obtain ⟨b2, o2, rfl, hb2, -, hcB⟩ := (HB.out.only (Only.of_below (S := Empty) hbw) (fun _ _ h => h)).2.2.2.1 (by omega)
      obtain ⟨f, hf⟩ : ∃ f, la[i]? = some f := ⟨_, List.getElem?_eq_getElem (by have := HA.out.1; omega)⟩
      obtain ⟨g, hg⟩ : ∃ g, lb[i]? = some g := ⟨_, List.getElem?_eq_getElem (by have := HB.out.1; omega)⟩
      have hfg : f.d = g.d := by
        have h := congrArg (fun l => l[i]?) Hd.out
        simp only [List.getElem?_map, hf, hg, Option.map_some, Option.some.injEq] at h
        exact h
      have hF := (HA.out.2.2.2.2 f (List.mem_of_getElem? hf)).1
      have hG := (HB.out.2.2.2.2 g (List.mem_of_getElem? hg)).1
      have ha := hcA i f hf
      have hb := hcB i g hg
      obtain ⟨pl, k, t, s, A1, m1, p1, c, xs⟩ := f
      obtain ⟨pl', k', t', s', A2, m2, p2, c', xs'⟩ := g
      obtain ⟨rfl, rfl, rfl, rfl, rfl, rfl⟩ := d_inj hfg
      simp only at hF hG
      have hlen : m1 = m2 := hF.1.symm.trans hG.1
      subst hlen
      have HC : Hid (∀ W, Only Empty wr W → W.cell? ⟨b1, o1 + i * 6, none⟩ = some (.int .i64 pl) ∧ W.cell? ⟨b1, o1 + i * 6 + 1, none⟩ = some (.int .i64 k) ∧ W.cell? ⟨b1, o1 + i * 6 + 2, none⟩ = some (.int .u32 (t : Int)) ∧ W.cell? ⟨b1, o1 + i * 6 + 3, none⟩ = some (.string s) ∧ W.cell? ⟨b1, o1 + i * 6 + 4, none⟩ = some (.slice A1 m1 p1) ∧ W.cell? ⟨b1, o1 + i * 6 + 5, none⟩ = some (.int .i64 c) ∧
          W.cell? ⟨b2, o2 + i * 6, none⟩ = some (.int .i64 pl) ∧ W.cell? ⟨b2, o2 + i * 6 + 1, none⟩ = some (.int .i64 k) ∧ W.cell? ⟨b2, o2 + i * 6 + 2, none⟩ = some (.int .u32 (t : Int)) ∧ W.cell? ⟨b2, o2 + i * 6 + 3, none⟩ = some (.string s) ∧ W.cell? ⟨b2, o2 + i * 6 + 4, none⟩ = some (.slice A2 m1 p2) ∧ W.cell? ⟨b2, o2 + i * 6 + 5, none⟩ = some (.int .i64 c)) := Lib.hid (fun W hW => by
        have e1 : ∀ j, j < 6 → W.cell? ⟨b1, o1 + i * 6 + j, none⟩ = (Fd.mk pl k t s A1 m1 p1 c xs).cells[j]? := fun j hj => (hW.cell (p := ⟨b1, o1 + i * 6 + j, none⟩) hb1 (fun h => h)).trans (ha j hj)
        have e2 : ∀ j, j < 6 → W.cell? ⟨b2, o2 + i * 6 + j, none⟩ = (Fd.mk pl k t s A2 m1 p2 c xs).cells[j]? := fun j hj => (hW.cell (p := ⟨b2, o2 + i * 6 + j, none⟩) hb2 (fun h => h)).trans (hb j hj)
        exact ⟨e1 0 (by omega), e1 1 (by omega), e1 2 (by omega), e1 3 (by omega), e1 4 (by omega), e1 5 (by omega), e2 0 (by omega), e2 1 (by omega), e2 2 (by omega), e2 3 (by omega), e2 4 (by omega), e2 5 (by omega)⟩)
      have N1 : Hid (∀ W, Only Empty wr W → Calls Try.prog 18 #[.agg #[.int .i64 k, .int .u32 (t : Int), .string s, .slice A1 m1 p1, .int .i64 c], .agg #[.int .i64 k, .int .u32 (t : Int), .string s, .slice A2 m1 p2, .int .i64 c]] W fun e W' => e = .returned (.bool true) ∧ Only Empty wr W') := Lib.hid (fun W hW => by
        have hO := (Only.of_below (S := Empty) hbw).trans' hW (fun _ _ h => h)
        refine (same_yes k (t : Int) c s A1 A2 m1 m1 p1 p2 xs W (hF.only hO (fun _ _ h => h)) (hG.only hO (fun _ _ h => h))).mono fun e W' ⟨he, hb⟩ => ⟨he, hW.trans (Only.of_below hb)⟩)
      have HO1 : Hid (Only Empty wr wr.drew) := Lib.hid (Only.refl Empty wr).drew
      have hs1 := HC.out _ HO1.out
      have hne : (pl != pl) = false := by simp
      have q1 : (i : Int) < (n : Int) := by omega
      have Hbw := Lib.hid hbw
      clear ha hb hF hG hcA hcB hf hg hfg hbw
      go_wp2_with fail
      go_region_held3 (fun W => W.cell? ⟨b1, o1 + i * 6, none⟩ = some (.int .i64 pl) ∧ W.cell? ⟨b1, o1 + i * 6 + 1, none⟩ = some (.int .i64 k) ∧ W.cell? ⟨b1, o1 + i * 6 + 2, none⟩ = some (.int .u32 (t : Int)) ∧ W.cell? ⟨b1, o1 + i * 6 + 3, none⟩ = some (.string s) ∧ W.cell? ⟨b1, o1 + i * 6 + 4, none⟩ = some (.slice A1 m1 p1) ∧ W.cell? ⟨b1, o1 + i * 6 + 5, none⟩ = some (.int .i64 c) ∧
          W.cell? ⟨b2, o2 + i * 6, none⟩ = some (.int .i64 pl) ∧ W.cell? ⟨b2, o2 + i * 6 + 1, none⟩ = some (.int .i64 k) ∧ W.cell? ⟨b2, o2 + i * 6 + 2, none⟩ = some (.int .u32 (t : Int)) ∧ W.cell? ⟨b2, o2 + i * 6 + 3, none⟩ = some (.string s) ∧ W.cell? ⟨b2, o2 + i * 6 + 4, none⟩ = some (.slice A2 m1 p2) ∧ W.cell? ⟨b2, o2 + i * 6 + 5, none⟩ = some (.int .i64 c)) (first | with_reducible exact hs1 | with_reducible exact hs10)
        ((go_at_call 18; (with_reducible refine (N1.out _ HO1.out).mono ?_); rintro e10 w10 ⟨rfl, hO10⟩; have hs10 := HC.out _ hO10))
      have Hbw2 := Lib.hid (Hbw.out.trans (hO10.below (B := w.heap.size) Hbw.out.size (fun _ _ h => h)))
      clear hs1 hne q1 hO10
      go_wp2
      go_roundw
      case rel => exact ⟨i + 1, by omega, by go_num, Hbw2.out⟩
      case measure => simp [intOf]; omega
    · obtain rfl : i = n := by omega
      go_wp2_with fail
      go_ret
      exact ⟨rfl, hbw⟩

end Go.Proofs.Ytidcgobnhfganaa
