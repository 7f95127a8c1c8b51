/- The walk of DescPrints. -/
import Derived.Test.YtinkjeifkjfkgaaDoorDj
import Derived.Test.YtinkjeifkjfkgaaDoorDm
namespace Go.Proofs.YtinkjeifkjfkgaaDoor
set_option maxRecDepth 100000
open Go.RowKit

set_option maxHeartbeats 8000000 in
theorem descPrints_calls (A : Option Addr) (n c : Nat) (l : List (List UInt8)) (ret : List UInt8) (w : World) (hA : TextsSl w A n c l) (hl0 : ret.length ≤ 9223372036854775807) :
    Calls Tryd.prog 4 #[.slice A n c, .string (strB ret)] w fun e w' => e = .returned (.bool true) ∧ Below w.heap.size w w' := by
  have hnm : n ≤ 9223372036854775807 := by have := hA.2.1; have := hA.2.2.1; unfold maxLen at this; omega
  have hz := strB_size ret
  have C0 := Lib.hid (fixed12_any w)
  have HA := Lib.hid hA
  have HLn := Lib.hid hA.1
  clear hA
  by_cases hn30 : n ≤ 30
  · by_cases hr200 : ret.length ≤ 200
    · have t1 := strB_toList ret
      obtain ⟨tb, htb⟩ : ∃ tb, tb = typeD 0 ret := ⟨_, rfl⟩
      obtain ⟨vb, hvb⟩ : ∃ vb, vb = (ret == [86]) := ⟨_, rfl⟩
      have CT : Hid (∀ W, Calls Tryd.prog 16 #[.string (strB ret)] W fun e w' => e = .returned (.bool tb) ∧ W = w') := Lib.hid (fun W => by rw [htb]; exact refIsType_any ret W (by omega))
      have HG0 : Hid (retOk ret = (tb || vb)) := Lib.hid (by unfold retOk; rw [htb, hvb, Bool.or_comm])
      have hvb' := hvb.symm
      clear htb hvb
      go_enter Tryd.func4, Tryd.ntmps4
      go_wp2_with fail
      refine C0.out.mono ?_
      rintro e w1 ⟨rfl, hb1⟩
      have HB1 := Lib.hid hb1
      have HA1 : Hid (TextsSl w1 A n c l) := Lib.hid (HA.out.below hb1)
      clear hb1
      go_wp2_with fail
      refine (CT.out w1).mono ?_
      rintro e w' ⟨rfl, rfl⟩
      have hgood : ∃ g, retOk ret = g ∧ (tb = true → g = true) ∧ (tb = false → g = vb) := ⟨_, rfl, fun h => by rw [HG0.out, h]; rfl, fun h => by rw [HG0.out, h]; rfl⟩
      obtain ⟨g, hg, hg1, hg2⟩ := hgood
      have HG := Lib.hid hg
      clear hg HG0
      cases tb
      all_goals
        first
          | (obtain rfl : g = true := hg1 rfl)
          | (obtain rfl : vb = g := (hg2 rfl).symm)
        clear hg1 hg2
        go_wp2
        go_loop [5, 30] (fun b i => ∃ (k : Nat) (gk : Bool), k ≤ n ∧ b = .bool gk ∧ i = .int .i64 (k : Int) ∧ Hid (gk = (retOk ret && (l.take k).all (typeD 0))) ∧ Hid (∀ a ∈ l.take k, a.length ≤ 200)) (fun _ i => n - (intOf i).toNat)
        case atStart => exact ⟨0, _, Nat.zero_le _, rfl, rfl, Lib.hid (by rw [HG.out]; simp), Lib.hid (fun a h => by simp at h)⟩
        case round =>
          obtain ⟨k, gk, hk, rfl, rfl, HK, HS⟩ := hrel
          by_cases hlt : k < n
          · obtain ⟨b, o, p, rfl, hp, _, hc⟩ := texts_at HA1.out hlt
            have zp := strB_size p
            by_cases hp200 : p.length ≤ 200
            · have HS2 : Hid (∀ a ∈ l.take (k + 1), a.length ≤ 200) := Lib.hid (by
                rw [take_one l k p hp]
                intro a ha
                rcases List.mem_append.1 ha with h | h
                · exact HS.out a h
                · obtain rfl : a = p := by simpa using h
                  exact hp200)
              have hK2 : (retOk ret && (l.take (k + 1)).all (typeD 0)) = (gk && typeD 0 p) := by
                rw [HK.out, take_one l k p hp, List.all_append, Bool.and_assoc]
                simp
              have HK2 := Lib.hid hK2
              clear hK2 hp
              cases gk with
              | false =>
                have HK3 : Hid (false = (retOk ret && (l.take (k + 1)).all (typeD 0))) := Lib.hid (by rw [HK2.out]; rfl)
                go_wp2
                go_round
                case rel => exact ⟨k + 1, false, by omega, rfl, by go_num, HK3, HS2⟩
                case measure => simp [intOf]; omega
              | true =>
                obtain ⟨pb, hpb⟩ : ∃ pb, pb = typeD 0 p := ⟨_, rfl⟩
                have c1 := refIsType_any p w1 (by omega)
                rw [← hpb] at c1
                have C1 := Lib.hid c1
                have HK3 : Hid (pb = (retOk ret && (l.take (k + 1)).all (typeD 0))) := Lib.hid (by rw [HK2.out, hpb]; rfl)
                clear c1 hpb
                go_wp2_with fail
                refine C1.out.mono ?_
                rintro e w' ⟨rfl, rfl⟩
                go_wp2
                go_round
                case rel => exact ⟨k + 1, pb, by omega, rfl, by go_num, HK3, HS2⟩
                case measure => simp [intOf]; omega
            · clear hp
              go_wp2
              go_ret
              exact ⟨rfl, HB1.out⟩
          · have ht : l.take k = l := List.take_of_length_le (by have := HLn.out; omega)
            rw [ht] at HK HS
            have hfl : l.flatten.length ≤ 6000 := by
              have h1 := flat_le l 200 HS.out
              have h2 := HLn.out
              omega
            have C1 := Lib.hid (print_any A n c l ret w1 HA1.out (by omega) (by omega) (by omega))
            have hpl : (printF l ret).length ≤ 6300 := by unfold printF; simp only [List.length_cons, List.length_append]; omega
            obtain ⟨d, hd⟩ : ∃ d, d = printF l ret := ⟨_, rfl⟩
            rw [← hd] at C1 hpl
            have td := strB_toList d
            clear ht hfl
            go_wp2_with fail
            refine C1.out.mono ?_
            rintro e w2 ⟨rfl, hb2⟩
            have HB2 := Lib.hid (HB1.out.trans (hb2.mono HB1.out.size))
            have HA2 : Hid (TextsSl w2 A n c l) := Lib.hid (HA1.out.below hb2)
            have C2 : Hid (Calls Tryd.prog 22 #[.slice A n c, .string (strB ret)] w2 fun e w' => e = .returned (.string (strB d)) ∧ w2 = w') := Lib.hid (by
              rw [hd]
              exact refPrint_any A n c l ret w2 HA2.out (by have h1 := flat_le l 200 HS.out; have h2 := HLn.out; omega) (by omega) (by omega))
            have HD := Lib.hid hd
            clear hb2 hd
            go_wp2_with fail
            refine C2.out.mono ?_
            rintro e w' ⟨rfl, rfl⟩
            go_wp2_with fail
            refine (slots_any A n c l w2 HA2.out (by omega)).mono ?_
            rintro e w' ⟨rfl, rfl⟩
            go_wp2_with fail
            refine (refSlots_any A n c l w2 HA2.out (by omega)).mono ?_
            rintro e w' ⟨rfl, rfl⟩
            cases gk with
            | false =>
              go_wp2
              go_ret
              exact ⟨rfl, HB2.out⟩
            | true =>
              by_cases h16 : n ≤ 16
              · have hgood : retOk ret = true ∧ l.all (typeD 0) = true := by
                  have := HK.out.symm
                  rwa [Bool.and_eq_true] at this
                have hm : methodF d = some (l, ret) := by
                  rw [HD.out]
                  exact method_print l ret (by have := HLn.out; omega) (fun a ha => List.all_eq_true.1 hgood.2 a ha) hgood.1
                have c3 := method_any d w2 (by omega)
                rw [hm] at c3
                have C3 := Lib.hid c3
                clear c3 hm hgood
                go_wp2_with fail
                refine C3.out.mono ?_
                rintro e w3 ⟨⟨A3, n3, c3, rfl, hg3⟩, hb3⟩
                have hrow3 : TextsSl w3 A3 n3 c3 l := hg3.row
                obtain rfl : n3 = n := by have := hrow3.1; have := HLn.out; omega
                have HB3 := Lib.hid (HB2.out.trans (hb3.mono HB2.out.size))
                have HA3 : Hid (TextsSl w3 A n3 c l) := Lib.hid (HA2.out.below hb3)
                have HR3 := Lib.hid hrow3
                have hr : mRet (some (l, ret)) = ret := rfl
                have he : mErr (some (l, ret)) = 0 := rfl
                rw [hr, he]
                clear hg3 hb3 hrow3 hr he
                go_wp2_with fail
                refine (same_yes A3 A n3 c3 c l w3 HR3.out HA3.out (by omega)).mono ?_
                rintro e w4 ⟨rfl, q, rfl⟩
                go_wp2
                go_ret
                exact ⟨rfl, HB3.out.drewN q⟩
              · go_wp2
                go_ret
                exact ⟨rfl, HB2.out⟩
    · go_enter Tryd.func4, Tryd.ntmps4
      go_wp2_with fail
      refine C0.out.mono ?_
      rintro e w1 ⟨rfl, hb1⟩
      have HB1 := Lib.hid hb1
      clear hb1
      go_wp2
      go_ret
      exact ⟨rfl, HB1.out⟩
  · go_enter Tryd.func4, Tryd.ntmps4
    go_wp2_with fail
    refine C0.out.mono ?_
    rintro e w1 ⟨rfl, hb1⟩
    have HB1 := Lib.hid hb1
    clear hb1
    go_wp2
    go_ret
    exact ⟨rfl, HB1.out⟩

end Go.Proofs.YtinkjeifkjfkgaaDoor
