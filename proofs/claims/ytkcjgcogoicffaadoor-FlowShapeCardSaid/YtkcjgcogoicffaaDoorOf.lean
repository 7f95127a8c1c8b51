/- The walks over flow's closures, over isRising. -/
import Derived.Test.YtkcjgcogoicffaaDoorOe
namespace Go.Proofs.YtkcjgcogoicffaaDoor
set_option maxRecDepth 100000
open Go.RowKit

theorem flFormed1_any (x : InD) (g : Nat) (lo : Int) (w : World) (hlo : 0 ≤ lo ∧ lo ≤ 64) (hT : Spans w) (hg : w.cell? ⟨g, 4, none⟩ = some (.int .i64 lo)) :
    Calls Tryd.prog 25 #[inV x, .pointer (some ⟨g, 0, none⟩)] w fun e w' => e = .returned (.bool (!rightB x lo)) ∧ Below w.heap.size w w' := by
  have hgl := cell_lt hg
  have hal : Below w.heap.size w (w.alloc (.cells (inA x) 32)) := (Below.refl _ _).alloc (Nat.le_refl _) _
  have C := Lib.hid (flRight_any x lo _ hlo (hT.below hal))
  have HAL := Lib.hid hal
  unfold inV inA at *
  clear hal hT
  go_enter Tryd.func25, Tryd.ntmps25
  go_wp2_with fail
  refine C.out.mono ?_
  rintro e w1 ⟨rfl, hb⟩
  go_wp2
  go_ret
  exact ⟨rfl, HAL.out.trans (hb.mono HAL.out.size)⟩

theorem flPlaced1_any (x : InD) (g : Nat) (n : Nat) (w : World) (hn : n ≤ 9223372036854775807) (hT : Spans w) (hg : w.cell? ⟨g, 0, none⟩ = some (.int .i64 (n : Int))) :
    Calls Tryd.prog 28 #[inV x, .pointer (some ⟨g, 0, none⟩)] w fun e w' => e = .returned (.bool (astrayB n x)) ∧ Below w.heap.size w w' := by
  have hgl := cell_lt hg
  have hal : Below w.heap.size w (w.alloc (.cells (inA x) 32)) := (Below.refl _ _).alloc (Nat.le_refl _) _
  have k0 := Blk.new w 32 (inA x)
  obtain ⟨W1, hW1⟩ : ∃ W1, w.alloc (.cells (inA x) 32) = W1 := ⟨_, rfl⟩
  rw [hW1] at hal k0
  have C := Lib.hid (flBranch_any x.op W1 (hT.below hal))
  have CP := Lib.hid (fun (W : World) => flPlaceL_any x.n (n : Int) W (by omega))
  have hsz : w.heap.size < W1.heap.size := k0.lt
  have K1 : Hid (∀ W : World, Below W1.heap.size W1 W → W.cell? ⟨w.heap.size, 1, none⟩ = some (.int .i64 x.n) ∧ W.cell? ⟨g, 0, none⟩ = some (.int .i64 (n : Int))) := Lib.hid (fun W h => ⟨(k0.of (h.block _ hsz)).cell 1, ((hal.trans (h.mono hal.size)).cell (p := ⟨g, 0, none⟩) hgl).trans hg⟩)
  have p0 : W1.cell? ⟨w.heap.size, 0, none⟩ = some (.int .u8 (x.op.toNat : Int)) := k0.cell 0
  have HAL := Lib.hid hal
  have HW1 := Lib.hid hW1
  have HA : Hid (astrayB n x = (branchB x.op && !inI x.n (n : Int))) := Lib.hid rfl
  unfold inV
  unfold inA at HW1
  clear hal hT hW1 k0
  cases hb : branchB x.op with
  | false =>
    rw [hb] at C HA
    go_enter Tryd.func28, Tryd.ntmps28
    go_wp2_with fail
    rw [HW1.out]
    go_wp2_with fail
    refine C.out.mono ?_
    rintro e w1 ⟨rfl, hb⟩
    go_wp2
    go_ret
    exact ⟨by rw [HA.out]; rfl, HAL.out.trans (hb.mono HAL.out.size)⟩
  | true =>
    rw [hb] at C HA
    go_enter Tryd.func28, Tryd.ntmps28
    go_wp2_with fail
    rw [HW1.out]
    go_wp2_with fail
    refine C.out.mono ?_
    rintro e w1 ⟨rfl, hb⟩
    obtain ⟨q0, q1⟩ := K1.out _ hb
    go_wp2_with fail
    refine (CP.out _).mono ?_
    rintro e w2 ⟨rfl, rfl⟩
    go_wp2
    go_ret
    exact ⟨by rw [HA.out]; rfl, HAL.out.trans (hb.mono HAL.out.size)⟩

def trV (t : TrD) : Value := .agg #[.int .i64 t.a, .int .i64 t.b, .int .i64 t.c, .string (strB t.cls)]
theorem flPlaced2_any (t : TrD) (g : Nat) (n : Nat) (w : World) (hg : w.cell? ⟨g, 0, none⟩ = some (.int .i64 (n : Int))) :
    Calls Tryd.prog 29 #[trV t, .pointer (some ⟨g, 0, none⟩)] w fun e w' => e = .returned (.bool (wrongB n t)) ∧ Below w.heap.size w w' := by
  have hgl := cell_lt hg
  have hal : Below w.heap.size w (w.alloc (.cells #[.int .i64 t.a, .int .i64 t.b, .int .i64 t.c, .string (strB t.cls)] 56)) := (Below.refl _ _).alloc (Nat.le_refl _) _
  have HAL := Lib.hid hal
  have CP := Lib.hid (fun (W : World) => flPlaceI_any t.c (n : Int) W)
  have HA : Hid (wrongB n t = ((decide (t.b ≤ t.a) || decide ((n : Int) < t.b)) || !inI t.c (n : Int))) := Lib.hid rfl
  unfold trV
  clear hal
  by_cases h1 : t.b ≤ t.a
  · go_enter Tryd.func29, Tryd.ntmps29
    go_wp2
    go_ret
    exact ⟨by rw [HA.out]; simp [h1], HAL.out⟩
  · by_cases h2 : (n : Int) < t.b
    · go_enter Tryd.func29, Tryd.ntmps29
      go_wp2
      go_ret
      exact ⟨by rw [HA.out]; simp [h2], HAL.out⟩
    · have HA2 : Hid (wrongB n t = !inI t.c (n : Int)) := Lib.hid (by rw [HA.out]; simp [h1, h2])
      go_enter Tryd.func29, Tryd.ntmps29
      go_wp2_with fail
      refine (CP.out _).mono ?_
      rintro e w2 ⟨rfl, rfl⟩
      go_wp2
      go_ret
      exact ⟨by rw [HA2.out]; rfl, HAL.out⟩

/-- Marks of places as they lie. -/
theorem flMapped1_any (t : TrD) (g b n : Nat) (v : Bool) (w : World) (hc : 0 ≤ t.c ∧ t.c < (n : Int)) (hn : n ≤ 1000001) (hg : w.cell? ⟨g, 0, none⟩ = some (.slice (some ⟨b, 0, none⟩) n n)) (hb : w.cell? ⟨b, t.c.toNat, none⟩ = some (.bool v)) :
    Calls Tryd.prog 32 #[trV t, .pointer (some ⟨g, 0, none⟩)] w fun e w' => e = .returned (.bool (!v)) ∧ Below w.heap.size w w' := by
  have hgl := cell_lt hg
  have hbl := cell_lt hb
  obtain ⟨k, hk⟩ : ∃ k : Nat, t.c = (k : Int) := ⟨t.c.toNat, by omega⟩
  have hal : Below w.heap.size w (w.alloc (.cells #[.int .i64 t.a, .int .i64 t.b, .int .i64 (k : Int), .string (strB t.cls)] 56)) := (Below.refl _ _).alloc (Nat.le_refl _) _
  have HAL := Lib.hid hal
  unfold trV
  rw [hk] at hc hb ⊢
  rw [Int.toNat_natCast] at hb
  clear hal hk
  go_enter Tryd.func32, Tryd.ntmps32
  go_wp2
  go_ret
  exact ⟨rfl, HAL.out⟩

/-- A row of maps. -/
theorem mpRow_at {w : World} {A : Option Addr} {n c : Nat} {l : List MpD} (h : RowS mpT w Empty A n c l) {k : Nat} (hk : k < n) : ∃ b o x A1 n1 q1 A2 n2 q2, A = some ⟨b, o, none⟩ ∧ b < w.heap.size ∧ l[k]? = some x ∧ w.cell? ⟨b, o + k * 3, none⟩ = some (.int .i64 x.at_) ∧ w.cell? ⟨b, o + k * 3 + 1, none⟩ = some (.slice A1 n1 q1) ∧ w.cell? ⟨b, o + k * 3 + 2, none⟩ = some (.slice A2 n2 q2) ∧ RowS strT w Empty A1 n1 q1 x.locals ∧ RowS strT w Empty A2 n2 q2 x.stack := by
  obtain ⟨b, o, x, cs, rfl, hb, _, hx, hcl, hcs, hr⟩ := RowS.at_ h hk
  obtain ⟨_, _, rfl, ⟨A1, n1, q1, e1, hR1⟩, ⟨A2, n2, q2, e2, hR2⟩⟩ := hr
  cases e1
  cases e2
  change ∀ j' v, [.int .i64 x.at_, .slice A1 n1 q1, .slice A2 n2 q2][j']? = some v → w.cell? ⟨b, o + k * 3 + j', none⟩ = some v at hcs
  exact ⟨b, o, x, A1, n1, q1, A2, n2, q2, rfl, hb, hx, by have := hcs 0 _ rfl; simpa using this, hcs 1 _ rfl, hcs 2 _ rfl, hR1, hR2⟩

theorem rising_drop {n : Nat} {l : List MpD} {k : Nat} {x : MpD} {last : Int} (hx : l[k]? = some x) : risingB n last (l.drop k) = (!(decide (x.at_ ≤ last) || decide ((n : Int) ≤ x.at_)) && risingB n x.at_ (l.drop (k + 1))) := by
  have hk : k < l.length := (List.getElem?_eq_some_iff.1 hx).1
  rw [List.drop_eq_getElem_cons hk, (List.getElem?_eq_some_iff.1 hx).2]
  rfl
/-- Where isRising stands. -/
def RelRs (l : List MpD) (N n : Nat) (w : World) (v i : Value) (wr : World) : Prop := ∃ (k : Nat) (last : Int), k ≤ n ∧ i = .int .i64 (k : Int) ∧ v = .int .i64 last ∧ risingB N (-1) l = risingB N last (l.drop k) ∧ Below w.heap.size w wr
set_option maxHeartbeats 1000000 in
theorem flRising_any (A : Option Addr) (n c : Nat) (l : List MpD) (N : Nat) (w : World) (h : RowS mpT w Empty A n c l) :
    Calls Tryd.prog 31 #[.slice A n c, .int .i64 (N : Int)] w fun e w' => e = .returned (.bool (risingB N (-1) l)) ∧ Below w.heap.size w w' := by
  have HR := Lib.hid h
  have hc := h.2.1
  have hm := h.2.2.1
  unfold maxLen at hm
  have HL := Lib.hid h.1
  clear h
  have HRel : Hid (RelRs l N n w (.int .i64 (-1)) (.int .i64 0) w) := Lib.hid ⟨0, -1, Nat.zero_le _, rfl, rfl, rfl, Below.refl _ _⟩
  go_enter Tryd.func31, Tryd.ntmps31
  go_wp2_with fail
  go_loopw [5, 10] (fun v i wr => RelRs l N n w v i wr) (fun _ i _ => n - (intOf i).toNat)
  case atStart => exact HRel.out
  case round =>
    clear HRel
    obtain ⟨k, last, hk, rfl, rfl, hr, hB⟩ := hrel
    have HRR := Lib.hid hr
    have HB := Lib.hid hB
    by_cases hlt : k < n
    · obtain ⟨b, o, x, A1, n1, q1, A2, n2, q2, rfl, hb, hx, d0, d1, d2, -, -⟩ := mpRow_at (HR.out.below hB) hlt
      have HD := Lib.hid (rising_drop (n := N) (last := last) hx)
      have HBA := Lib.hid (hB.alloc hB.size (.cells #[.int .i64 x.at_, .slice A1 n1 q1, .slice A2 n2 q2] 38))
      clear hx hr hB
      by_cases h1 : x.at_ ≤ last
      · have HF : Hid (risingB N (-1) l = false) := Lib.hid (by rw [HRR.out, HD.out]; simp [h1])
        go_wp2
        go_ret
        exact ⟨by rw [HF.out]; rfl, HBA.out⟩
      · by_cases h2 : (N : Int) ≤ x.at_
        · have HF : Hid (risingB N (-1) l = false) := Lib.hid (by rw [HRR.out, HD.out]; simp [h2])
          go_wp2
          go_ret
          exact ⟨by rw [HF.out]; rfl, HBA.out⟩
        · have HF : Hid (risingB N (-1) l = risingB N x.at_ (l.drop (k + 1))) := Lib.hid (by rw [HRR.out, HD.out]; simp [h1, h2])
          go_wp2
          go_roundw
          case rel => exact ⟨k + 1, x.at_, hlt, by simp, rfl, HF.out, HBA.out⟩
          case measure => simp [intOf]; omega
    · have HF : Hid (risingB N (-1) l = true) := Lib.hid (by rw [HRR.out, List.drop_eq_nil_of_le (by rw [HL.out]; omega)]; rfl)
      go_wp2
      go_ret
      exact ⟨by rw [HF.out]; rfl, HB.out⟩

end Go.Proofs.YtkcjgcogoicffaaDoor
