/- The law's fixed facts. -/
import Derived.Test.YtidcgobnhfganaaIg
import Derived.Test.YtidcgobnhfganaaIh
import Derived.Test.YtidcgobnhfganaaHg
namespace Go.Proofs.Ytidcgobnhfganaa
open Go.RowKit

/-- A sector of laid records is scanned. -/
theorem scan_laid (A : Option Addr) (n cap : Nat) (rs : List RN) (m : Nat) (w : World) (hB : ByteSl w Empty A n cap (sec3 (laid rs ++ List.replicate m 255))) (hm : n ≤ 1048576) (hmay : ∀ r ∈ rs, r.may) :
    Calls Try.prog 8 #[.slice A n cap] w fun e w' => ScanOk w (fds 12 rs) (12 + (laid rs).length) false e w' := by
  obtain ⟨en, hE⟩ := IsEnd.exists_ (sec3 (laid rs ++ List.replicate m 255))
  have hl := hB.1
  rw [sec3_len] at hl
  exact scan_any A n cap _ w hB hm (by omega) en hE _ _ _ (runs_whole _ rs m en (by simp [headB_len]) hmay hE)

set_option maxHeartbeats 4000000 in
theorem fixed6_any (w : World) :
    Calls Try.prog 5 #[] w fun e w' => e = .returned (.bool true) ∧ Below w.heap.size w w' := by
  have hone : ∀ r ∈ [RN.mk 1 2 0 [97] []], r.may := by
    intro r hr
    rw [List.mem_singleton] at hr
    subst hr
    exact ⟨by decide, by decide⟩
  have Hone := Lib.hid hone
  have HA : Hid (ByteSl (w.alloc (.cells #[.int .u8 255, .int .u8 255] 5)) Empty (some ⟨w.heap.size, 0, none⟩) 2 2 [255, 255]) := Lib.hid (ByteSl.lit w Empty [255, 255] 2 rfl (fun h => h) (by decide))
  have HB0 := Lib.hid ((Below.refl w.heap.size w).alloc (Nat.le_refl _) (.cells #[.int .u8 255, .int .u8 255] 5))
  clear hone
  go_enter Try.func5, Try.ntmps5
  go_wp2_with fail
  refine (sector6_any _ 2 2 [255, 255] _ HA.out (fun h => by cases h) (by omega)).mono ?_
  rintro e1 w1 ⟨⟨A1, c1, rfl, hG1⟩, hb1⟩
  have HB1 := Lib.hid (HB0.out.trans (hb1.mono (by simp)))
  have HG1 := Lib.hid hG1.bytes
  clear hb1 hG1
  go_wp2_with fail
  refine (scan_laid A1 14 c1 [] 2 _ HG1.out (by omega) (fun r h => by cases h)).mono ?_
  rintro e2 w2 ⟨⟨A2, n2, c2, l2, rfl, hl2, hG2⟩, hb2⟩
  have hn2 : n2 = 0 := by
    have h := congrArg List.length hl2
    rw [List.length_map, hG2.reads.1] at h
    exact h
  subst hn2
  have HB2 := Lib.hid (HB1.out.trans (hb2.mono HB1.out.size))
  clear hb2 hG2 hl2
  go_wp2_with fail
  refine (r5Bytes_yes 1 2 0 ⟨#[97]⟩ none 0 0 [] _ (by decide) (by decide) (ByteSl.nil_ _ _ _ _ (by simp [maxLen])) (fun _ => ⟨rfl, rfl⟩)).mono ?_
  rintro e3 w3 ⟨⟨A3, c3, rfl, hG3⟩, hb3⟩
  have HB3 := Lib.hid (HB2.out.trans (hb3.mono HB2.out.size))
  have HG3 := Lib.hid hG3
  clear hb3 hG3
  go_wp2_with fail
  refine (sector6_any A3 16 c3 (recB 1 2 0 [97] []) _ HG3.out.bytes HG3.out.isNil (by omega)).mono ?_
  rintro e4 w4 ⟨⟨A4, c4, rfl, hG4⟩, hb4⟩
  have HB4 := Lib.hid ((HB3.out.trans (hb4.mono HB3.out.size)).alloc (Nat.le_trans HB3.out.size hb4.size) (.cells #[.int .u8 0] 5))
  have HG4 := Lib.hid ((hG4.lower HB3.out.size).alloc (.cells #[.int .u8 0] 5))
  have HL4 : Hid (ByteSl (w4.alloc (.cells #[.int .u8 0] 5)) Empty (some ⟨w4.heap.size, 0, none⟩) 1 1 [0]) := Lib.hid (ByteSl.lit w4 Empty [0] 1 rfl (fun h => h) (by decide))
  clear hb4 hG4
  go_wp2_with (at_builtin; refine wpList_append_bytes rfl (.tmp 17) (.tmp 18) rfl w.heap.size _ rfl 28 (sec3 (recB 1 2 0 [97] [])) HG4.out.own (some ⟨w4.heap.size, 0, none⟩) 1 1 [0] Empty rfl HL4.out (fun h => by cases h) (by omega) HB4.out.size ?_)
  intro v5 w5 hown5 hg5 _
  have hlt := HG4.out.own.lt
  have HB5 := Lib.hid (below_grown HB4.out HB4.out.size hg5 (fun q hq => (hlt q hq).1))
  have hx : sec3 (recB 1 2 0 [97] []) ++ [0] = sec3 (laid [RN.mk 1 2 0 [97] []] ++ List.replicate 0 255) := by
    simp only [sec3, laid, RN.bytes, List.flatMap_cons, List.flatMap_nil, List.append_assoc, List.replicate_zero, List.append_nil]
  have hown6 : w5.ownsRow w.heap.size 5 1 v5 29 ((sec3 (laid [RN.mk 1 2 0 [97] []] ++ List.replicate 0 255)).map B8) := by
    rw [← hx]
    first | exact hown5 | (rw [List.map_append]; exact hown5)
  obtain ⟨A5, c5, rfl, hG5⟩ := Got.of_own hown6
  have HG5 := Lib.hid hG5.bytes
  clear hown5 hg5 hlt hx hown6 hG5
  go_wp2_with fail
  refine (scan_laid A5 29 c5 [RN.mk 1 2 0 [97] []] 0 _ HG5.out (by omega) Hone.out).mono ?_
  rintro e6 w6 ⟨⟨A6, n6, c6, l6, rfl, hl6, hG6⟩, hb6⟩
  have HB6 := Lib.hid (HB5.out.trans (hb6.mono HB5.out.size))
  have hn6 : n6 = 1 := by
    have h := congrArg List.length hl6
    rw [List.length_map, hG6.reads.1] at h
    exact h
  subst hn6
  have hto : (((12 + (laid [RN.mk 1 2 0 [97] []]).length : Nat)) : Int) = 29 := by
    rw [show (laid [RN.mk 1 2 0 [97] []]).length = 17 by rw [laid_cons, List.length_append, RN.len]; rfl]
    rfl
  rw [hto]
  obtain ⟨b, o, rfl, hb, -, hc⟩ := hG6.reads.2.2.2.1 (by omega)
  obtain ⟨f, rfl⟩ : ∃ f, l6 = [f] := List.length_eq_one_iff.1 hG6.reads.1
  have hpl : f.pl = 12 := by
    rw [List.map_cons, List.map_nil, fds, fds] at hl6
    injection hl6 with h
    exact congrArg FD.pl h
  have hc0 : w6.cell? ⟨b, o, none⟩ = some (.int .i64 12) := by
    have h := hc 0 f rfl 0 (by omega)
    rw [← hpl]
    exact h
  have hcap := hG6.reads.2.1
  clear hb6 hG6 hl6 hto hc hpl hb
  go_wp2
  go_ret
  exact ⟨rfl, HB6.out⟩

end Go.Proofs.Ytidcgobnhfganaa
