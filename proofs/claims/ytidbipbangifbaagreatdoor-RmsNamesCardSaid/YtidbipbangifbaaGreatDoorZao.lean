/- The walks over bytes.Count (one byte) and page.state. -/
import Derived.Test.YtidbipbangifbaaGreatDoorZan
import Derived.Shelf.Bytes.SlCountOne
namespace Go.Proofs.YtidbipbangifbaaGreatDoor
set_option maxRecDepth 100000
open Go.RowKit

/-- How often the byte c stands among bytes that lie somewhere. -/
theorem count_run (A : Option Addr) (n cap : Nat) (xs : List UInt8) (c : UInt8) (w : World) (hB : ByteSl w Empty A n cap xs) :
    (Extern.BytealgCount.count #[.slice A n cap, .int .u8 (c.toNat : Int)]).run Tryz.prog w = .ok (.int .i64 ((xs.count c : Nat) : Int)) w := by
  have hback : Lib.bytesOf (xs.map fun x => ((x.toNat : Int))) = xs := by
    unfold Lib.bytesOf
    rw [List.map_map]
    conv => rhs; rw [← List.map_id xs]
    apply List.map_congr_left
    intro x _
    apply UInt8.toNat_inj.1
    simp
  by_cases h0 : n = 0
  · subst h0
    have hx : xs = [] := List.eq_nil_of_length_eq_zero hB.1
    subst hx
    rcases A with _ | ad
    · exact Lib.run_countNil w 0 cap _
    · exact Lib.run_countAt w ad 0 cap [] rfl (fun i hi => absurd hi (by omega)) _
  · obtain ⟨ad, rfl, hbl, -, hc⟩ := hB.2.2.2 (by omega)
    have h := Lib.run_countAt (P := Tryz.prog) w ad n cap (xs.map fun x => ((x.toNat : Int))) (by simp [hB.1]) (fun i hi => by
      have hl : i < xs.length := by have := hB.1; omega
      rw [hc i _ (List.getElem?_eq_getElem hl)]
      simp [List.getD, hl, B8]) (c.toNat : Int)
    rw [hback] at h
    have hcc : ((c.toNat : Int)).toNat.toUInt8 = c := by
      apply UInt8.toNat_inj.1
      simp
    rw [hcc] at h
    exact h

set_option maxHeartbeats 1000000 in
theorem count_any (A : Option Addr) (n cap : Nat) (xs : List UInt8) (g : Nat) (w : World) (hB : ByteSl w Empty A n cap xs) (hc : w.cell? ⟨g, 0, none⟩ = some (.int .u8 255)) :
    Calls Tryz.prog 120 #[.slice A n cap, .slice (some ⟨g, 0, none⟩) 1 1] w fun e w' => e = .returned (.int .i64 ((xs.count 255 : Nat) : Int)) ∧ w = w' := by
  have hr : (Extern.BytealgCount.count #[.slice A n cap, .int .u8 255]).run Tryz.prog w = .ok (.int .i64 ((xs.count 255 : Nat) : Int)) w := count_run A n cap xs 255 w hB
  have Hr := Lib.hid hr
  clear hr
  clear hB
  go_enter Tryz.func120, Tryz.ntmps120
  go_wp2
  rw [run_callFunc_extern Tryz.func155 (by kernel_rfl) (by kernel_rfl) (by kernel_rfl) (e := Extern.BytealgCount.count) (by kernel_rfl), Hr.out]
  simp only [Result.andThen]
  rw [Oper.upon_value]
  go_wp2
  go_ret
  exact ⟨rfl, rfl⟩

/-- Do bytes begin with a header that is right, live and not void? -/
def stU (xs : List UInt8) : Bool := decide (parseC xs = 0) && (parseH xs).live && !(parseH xs).void
/-- What state a sector of these bytes has: 2 used, 0 blank, 1 dirty. -/
def stS (xs : List UInt8) : Int := if stU xs = true then 2 else if xs.count 255 = xs.length then 0 else 1
/-- Its number. -/
def stQ (xs : List UInt8) : Int := if stU xs = true then ((parseH xs).seq : Int) else 0
def stV (xs : List UInt8) : Value := .agg #[.int .i64 (stS xs), .int .u32 (stQ xs), .int .i64 0]

set_option maxHeartbeats 4000000 in
theorem state_any (A : Option Addr) (n cap : Nat) (xs : List UInt8) (w : World) (hB : ByteSl w Empty A n cap xs) (hM : Mark w) (hn : n ≤ 1048576) :
    Calls Tryz.prog 93 #[.slice A n cap] w fun e w' => e = .returned (stV xs) ∧ Below w.heap.size w w' := by
  have Hl := Lib.hid hB.1
  obtain ⟨q, l, v, hv⟩ : ∃ (q : Int) (l v : Bool), (parseH xs).v = .agg #[.int .u32 q, .bool l, .bool v] ∧ (parseH xs).live = l ∧ (parseH xs).void = v ∧ ((parseH xs).seq : Int) = q := ⟨_, _, _, rfl, rfl, rfl, rfl⟩
  obtain ⟨c, hc⟩ : ∃ c, parseC xs = c := ⟨_, rfl⟩
  have Hv := Lib.hid hv
  have Hc := Lib.hid hc
  have HB := Lib.hid (hB.only ((Only.refl Empty w).alloc (.cells #[.int .i64 0, .int .u32 0, .int .i64 0] 81)) (fun _ _ h => h))
  have HM := Lib.hid (hM.below ((Below.refl w.heap.size w).alloc (Nat.le_refl _) (.cells #[.int .i64 0, .int .u32 0, .int .i64 0] 81)))
  have Hk0 := Lib.hid (Blk.new w 81 #[.int .i64 0, .int .u32 0, .int .i64 0])
  clear hv hc hB hM
  go_enter Tryz.func93, Tryz.ntmps93
  go_wp2_with fail
  refine (parse_any A n cap xs _ HB.out HM.out hn).mono ?_
  rintro e1 w1 ⟨he, hb1⟩
  rw [Hv.out.1, Hc.out] at he
  subst he
  have Hk1 := Lib.hid (Hk0.out.of (hb1.block w.heap.size (by simp)))
  have Hb1 := Lib.hid ((((Below.refl w.heap.size w).alloc (Nat.le_refl _) (.cells #[.int .i64 0, .int .u32 0, .int .i64 0] 81))).trans (hb1.mono (by simp)))
  have HB1 := Lib.hid ((HB.out.only (Only.of_below (S := Empty) hb1) (fun _ _ h => h)).only ((Only.refl Empty w1).alloc (.cells #[.int .u32 q, .bool l, .bool v] 194)) (fun _ _ h => h))
  have hz1 : w.heap.size < w1.heap.size := Hk1.out.lt
  clear hb1
  have Hk2 := Lib.hid (Hk1.out.alloc (.cells #[.int .u32 q, .bool l, .bool v] 194))
  have c0 := Hk2.out.cell 0
  have c1 := Hk2.out.cell 1
  have c2 := Hk2.out.cell 2
  have f0 := Hk2.out.frozen 0
  have f1 := Hk2.out.frozen 1
  have f2 := Hk2.out.frozen 2
  have d0 := Hk1.out.cell 0
  have d1 := Hk1.out.cell 1
  have d2 := Hk1.out.cell 2
  have g0 := Hk1.out.frozen 0
  have g1 := Hk1.out.frozen 1
  have g2 := Hk1.out.frozen 2
  simp at c0 c1 c2 d0 d1 d2
  by_cases hu : stU xs = true
  · have hu2 := hu
    unfold stU at hu2
    rw [Hc.out, Hv.out.2.1, Hv.out.2.2.1] at hu2
    simp at hu2
    obtain ⟨⟨rfl, rfl⟩, rfl⟩ := hu2
    have Hu := Lib.hid hu
    clear hu
    go_wp2
    refine bodyPost_ret (v := .agg #[.int .i64 2, .int .u32 q, .int .i64 0]) (by simp [results, Tryz.results93, go_sem, d0, d1, d2, hz1]) rfl ⟨?_, ?_⟩
    · rw [stV, stS, stQ, if_pos Hu.out, if_pos Hu.out, Hv.out.2.2.2]
    · exact ((((Hb1.out.setCell (by simp) _).setCell (by simp) _).setCell (by simp) _).alloc (by have := Hb1.out.size; simp [World.setCell]; omega) _)
  · have hu2 : (c == 0 && l && !v) = false := by
      have h : stU xs = false := by simpa using hu
      unfold stU at h
      rw [Hc.out, Hv.out.2.1, Hv.out.2.2.1] at h
      rw [← h]
      congr 2
    have Hu := Lib.hid hu
    clear hu
    have hB2 := HB1.out.only ((Only.refl Empty _).alloc (.cells #[.int .u8 255] 5)) (fun _ _ h => h)
    have HB2 := Lib.hid hB2
    have hcnt : xs.count 255 ≤ xs.length := List.count_le_length
    have hxl := Hl.out
    obtain ⟨k, hk⟩ : ∃ k, xs.count 255 = k := ⟨_, rfl⟩
    rw [hk] at hcnt
    have Hk := Lib.hid hk
    have hkn : k ≤ n := by omega
    clear hB2 hcnt hk hxl
    have hway : ((c == 0) = false) ∨ (c = 0 ∧ l = false) ∨ (c = 0 ∧ l = true ∧ v = true) := by
      by_cases h : c = 0
      · subst h
        cases l <;> cases v <;> simp_all
      · exact Or.inl (by simpa using h)
    have hend : Hid (stV xs = .agg #[.int .i64 (if k = n then 0 else 1), .int .u32 0, .int .i64 0]) := Lib.hid (by rw [stV, stS, stQ, if_neg Hu.out, if_neg Hu.out, Hk.out, Hl.out])
    clear hu2 Hc Hv
    by_cases hkk : k = n
    · rw [if_pos hkk] at hend
      subst hkk
      have heq : ((k : Int) == (k : Int)) = true := by simp
      rcases hway with hq | ⟨rfl, rfl⟩ | ⟨rfl, rfl, rfl⟩
      all_goals
        go_wp2_with fail
        refine (count_any A k cap xs (w1.heap.size + 1) _ HB2.out (by go_simp)).mono ?_
        rintro e1 w2 ⟨rfl, rfl⟩
        rw [Hk.out]
        go_wp2
        refine bodyPost_ret (v := .agg #[.int .i64 0, .int .u32 0, .int .i64 0]) (by simp [results, Tryz.results93, go_sem, d0, d1, d2, hz1]) rfl ⟨by rw [hend.out], ?_⟩
        exact (((((Hb1.out.setCell (by simp) _).setCell (by simp) _).setCell (by simp) _).alloc (by have := Hb1.out.size; simp [World.setCell]; omega) _).alloc (by have := Hb1.out.size; simp [World.setCell]; omega) _)
    · rw [if_neg hkk] at hend
      have heq : ((k : Int) == (n : Int)) = false := by rw [beq_eq_false_iff_ne]; omega
      rcases hway with hq | ⟨rfl, rfl⟩ | ⟨rfl, rfl, rfl⟩
      all_goals
        go_wp2_with fail
        refine (count_any A n cap xs (w1.heap.size + 1) _ HB2.out (by go_simp)).mono ?_
        rintro e1 w2 ⟨rfl, rfl⟩
        rw [Hk.out]
        go_wp2
        refine bodyPost_ret (v := .agg #[.int .i64 1, .int .u32 0, .int .i64 0]) (by simp [results, Tryz.results93, go_sem, d0, d1, d2, hz1]) rfl ⟨by rw [hend.out], ?_⟩
        exact (((((Hb1.out.setCell (by simp) _).setCell (by simp) _).setCell (by simp) _).alloc (by have := Hb1.out.size; simp [World.setCell]; omega) _).alloc (by have := Hb1.out.size; simp [World.setCell]; omega) _)

end Go.Proofs.YtidbipbangifbaaGreatDoor
