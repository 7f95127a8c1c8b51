/- The walk over pool.Parse; what was written is parsed. -/
import Derived.Test.YtinkjeifkjfkgaaVu
namespace Go.Proofs.Ytinkjeifkjfkgaa
set_option maxRecDepth 100000
open Go.RowKit

def preP (bs : List UInt8) : List Cst × RS := (placesR bs (countR bs).1 (countR bs).1 (countR bs).2 [zeroC])
theorem parseR_eq (bs : List UInt8) : parseR bs = ((preP bs).1, if (endP (countR bs).1 (preP bs)).fault = 0 then ⟨(endP (countR bs).1 (preP bs)).at_, checkC (preP bs).1⟩ else endP (countR bs).1 (preP bs)) := rfl
theorem preP_ok (bs : List UInt8) : ∀ c ∈ (preP bs).1, c.ok := placesR_cst bs _ _ _ _ (by intro c hc; simp at hc; rw [hc]; exact zeroC_ok)
theorem preP_len (bs : List UInt8) : (preP bs).1.length ≤ 65537 := by
  have h := placesR_len bs (countR bs).1 (countR bs).1 (countR bs).2 [zeroC] (by simp)
  have h2 : (countR bs).1 < 65536 := numR_lt bs ⟨0, 0⟩ 2
  unfold preP
  omega

/-- What Parse answers. -/
def Parsed (bs : List UInt8) (e : Ending) (w w' : World) : Prop :=
  (if (parseR bs).2.fault = 0 then ∃ B c, e = .returned (.tuple #[.slice B (parseR bs).1.length c, .int .i64 ((parseR bs).2.at_ : Int), .int .i64 0]) ∧ PoolSl w' B (parseR bs).1.length c (parseR bs).1
    else e = .returned (.tuple #[.slice none 0 0, .int .i64 0, .int .i64 (parseR bs).2.fault])) ∧ Below w.heap.size w w'

set_option maxHeartbeats 1000000 in
theorem parse_any (A : Option Addr) (n cap : Nat) (bs : List UInt8) (w : World) (hB : ByteSl w Empty A n cap bs) (hm : n ≤ 1048576) :
    Calls Try.prog 11 #[.slice A n cap] w fun e w' => Parsed bs e w w' := by
  have hR : RdP (w.alloc (.cells #[.slice A n cap, .int .i64 0, .int .i64 0] 50)) w.heap.size A n cap bs ⟨0, 0⟩ := by
    refine ⟨Blk.new _ _ _, ?_, Nat.zero_le _⟩
    refine ⟨hB.1, hB.2.1, hB.2.2.1, fun h0 => ?_⟩
    obtain ⟨ad, e, hb, _, hc⟩ := hB.2.2.2 h0
    exact ⟨ad, e, by simp; omega, by omega, fun j x hx => (((Only.refl Empty w).alloc _).cell (p := ad.add j) (by rw [addr_add_block]; exact hb) (fun h => h)).trans (hc j x hx)⟩
  have CP := Lib.hid (places_any w.heap.size A n cap bs _ hR hm)
  have hpe := parseR_eq bs
  have hok := preP_ok bs
  have hln := preP_len bs
  have e1 : (placesR bs (countR bs).1 (countR bs).1 (countR bs).2 [zeroC]) = preP bs := rfl
  rw [e1] at CP
  obtain ⟨N, hN⟩ : ∃ N, (countR bs).1 = N := ⟨_, rfl⟩
  rw [hN] at CP hpe
  obtain ⟨l, s0, hP⟩ : ∃ l s0, preP bs = (l, s0) := ⟨_, _, rfl⟩
  rw [hP] at CP hpe hok hln
  obtain ⟨s, hs⟩ : ∃ s, endP N (l, s0) = s := ⟨_, rfl⟩
  rw [hs] at CP hpe
  simp only at CP hpe hok hln
  have CC : Hid (∀ (B : Option Addr) (c : Nat) (W : World), PoolSl W B l.length c l → Calls Try.prog 10 #[.slice B l.length c] W fun e w' => e = .returned (.int .i64 (checkC l)) ∧ Below W.heap.size W w') := Lib.hid (fun B c W h => check_any B l.length c l W h (by omega) hok)
  have Hpe := Lib.hid hpe
  obtain ⟨m, hml⟩ : ∃ m, l.length = m := ⟨_, rfl⟩
  have Hml := Lib.hid hml
  rw [hml] at CP CC
  clear hB hR hm hpe hok hln e1 hP hs hN hml
  go_enter Try.func11, Try.ntmps11
  go_wp2_with fail
  refine CP.out.mono ?_
  rintro e w1 ⟨⟨B, c, rfl, hPl⟩, hR1, hO1⟩
  have HR1 := Lib.hid hR1
  have HP1 : Hid (RowSl Cst.cells 5 w1 (· = w.heap.size) B m c l) := Lib.hid hPl
  have HB1 : Hid (Below w.heap.size w w1) := Lib.hid (((Below.refl w.heap.size w).alloc (Nat.le_refl _) _).trans (hO1.below (by simp) (fun k hk e => by omega)))
  have c2 : w1.cell? ⟨w.heap.size, 2, none⟩ = some (.int .i64 s.fault) := hR1.blk.cell 2
  have c1 : w1.cell? ⟨w.heap.size, 1, none⟩ = some (.int .i64 (s.at_ : Int)) := hR1.blk.cell 1
  clear hR1 hPl hO1
  by_cases hf : s.fault = 0
  · have hq : (s.fault == 0) = true := by simpa using hf
    have hp2 : parseR bs = (l, ⟨s.at_, checkC l⟩) := by rw [Hpe.out, if_pos hf]
    have HE := Lib.hid hp2
    have Hf := Lib.hid hf
    clear hp2 hf
    go_wp2_with fail
    refine (CC.out B c w1 (HP1.out.mono (fun _ _ h => h.elim))).mono ?_
    rintro e w2 ⟨rfl, hb2⟩
    have HB2 := Lib.hid (HB1.out.trans (hb2.mono HB1.out.size))
    have HP2 := Lib.hid (HP1.out.below hb2)
    have HR2 := Lib.hid (HR1.out.only (Only.of_below hb2))
    have f2 := HR2.out.blk.frozen 2
    have d2 : w2.cell? ⟨w.heap.size, 2, none⟩ = some (.int .i64 s.fault) := HR2.out.blk.cell 2
    have hlt := HR2.out.blk.lt
    clear hb2 c1 c2
    have HR3 := Lib.hid (HR2.out.set 2 (.int .i64 (checkC l)) ⟨s.at_, checkC l⟩ (by simp) HR2.out.le)
    have HO3 : Hid (Only (· = w.heap.size) w2 (w2.setCell ⟨w.heap.size, 2, none⟩ (.int .i64 (checkC l)))) := Lib.hid ((Only.refl (· = w.heap.size) w2).setCell (p := ⟨w.heap.size, 2, none⟩) (Or.inl rfl) _)
    have HB3 : Hid (Below w.heap.size w (w2.setCell ⟨w.heap.size, 2, none⟩ (.int .i64 (checkC l)))) := Lib.hid (HB2.out.trans (HO3.out.below HB2.out.size (fun k hk e => by omega)))
    have HP3 : Hid (PoolSl (w2.setCell ⟨w.heap.size, 2, none⟩ (.int .i64 (checkC l))) B m c l) := Lib.hid (by
      exact (HP2.out.only HO3.out (fun _ _ h => h)).mono (fun _ _ h => h.elim))
    have e1_ : (w2.setCell ⟨w.heap.size, 2, none⟩ (.int .i64 (checkC l))).cell? ⟨w.heap.size, 1, none⟩ = some (.int .i64 (s.at_ : Int)) := HR3.out.blk.cell 1
    have e2_ : (w2.setCell ⟨w.heap.size, 2, none⟩ (.int .i64 (checkC l))).cell? ⟨w.heap.size, 2, none⟩ = some (.int .i64 (checkC l)) := HR3.out.blk.cell 2
    clear hlt
    have hlt := HR2.out.blk.lt
    cases hc : checkC l == 0 with
    | true =>
      have hz : checkC l = 0 := by simpa using hc
      have hq2 : (checkC l != 0) = false := by simp [hz]
      have Hz := Lib.hid hz
      clear hz
      go_wp2
      go_quiet (fail)
      go_wp2
      go_ret3
      refine ⟨?_, HB3.out.drewN nq⟩
      rw [HE.out, if_pos Hz.out]
      exact ⟨B, c, by rw [Hml.out]; rfl, by rw [Hml.out]; exact HP3.out.only ((Only.refl Empty _).drewN nq) (fun _ _ h => h)⟩
    | false =>
      have hz : checkC l ≠ 0 := by simpa using hc
      have hq2 : (checkC l != 0) = true := by simp [hz]
      have Hz := Lib.hid hz
      clear hz
      go_wp2
      go_quiet (fail)
      go_wp2
      go_ret3
      refine ⟨?_, HB3.out.drewN nq⟩
      rw [HE.out, if_neg Hz.out]
      rfl
  · have hq : (s.fault == 0) = false := by simpa using hf
    have hq2 : (s.fault != 0) = true := by simpa using hf
    have hp2 : parseR bs = (l, s) := by rw [Hpe.out, if_neg hf]
    have HE := Lib.hid hp2
    have Hf := Lib.hid hf
    clear hp2 hf
    go_wp2
    go_quiet (fail)
    go_wp2
    go_ret3
    refine ⟨?_, HB1.out.drewN nq⟩
    rw [HE.out, if_neg Hf.out]
    rfl

end Go.Proofs.Ytinkjeifkjfkgaa
