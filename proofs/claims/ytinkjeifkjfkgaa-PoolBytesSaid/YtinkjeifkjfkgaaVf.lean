/- The walks over pool.isText, mayStand, Check. -/
import Derived.Test.YtinkjeifkjfkgaaVe
import Derived.Lib.ConvBytes
namespace Go.Proofs.Ytinkjeifkjfkgaa
set_option maxRecDepth 100000
open Go.RowKit

theorem bytesWorld_below (w : World) (e : TypeId) (s : ByteArray) : Below w.heap.size w (Lib.bytesWorld w e s) :=
  ⟨by simp [Lib.bytesWorld, World.freeze, World.alloc, World.drew, -World.alloc_eq, -World.drew_eq], by simp [Lib.bytesWorld, World.freeze, World.alloc, World.drew, -World.alloc_eq, -World.drew_eq], by simp [Lib.bytesWorld, World.freeze, World.alloc, World.drew, -World.alloc_eq, -World.drew_eq],
    by rw [Lib.bytesWorld_size]; omega, fun k hk => Lib.bytesWorld_at_old w e s k hk⟩
theorem conv_str (s : List UInt8) (n : Nat) (hl : s.length = n) (hn : n ≤ 1048576) (W : World) :
    ∃ cap w', (convert 9 23 (.string (strB s))).run Try.prog W = .ok (.slice (some ⟨W.heap.size, 0, none⟩) n cap) w' ∧ Below W.heap.size W w' ∧ ByteSl w' Empty (some ⟨W.heap.size, 0, none⟩) n cap s := by
  have hsz : (strB s).size = n := by rw [strB_size, hl]
  refine ⟨grownCap W n 0 5, Lib.bytesWorld W 5 (strB s), ?_, bytesWorld_below _ _ _, hl, grownCap_ge _ _ _ _, grownCap_le_maxLen _ _ _ _ (by unfold maxLen; omega), fun _ => ⟨_, rfl, by rw [Lib.bytesWorld_size]; exact Nat.lt_succ_self _, fun h => h, fun j x hx => ?_⟩⟩
  · have h := Lib.run_convert_string_bytes (P := Try.prog) W 9 23 5 (strB s) Try.underlying9 Try.underlying23 Try.underlying5
    rw [hsz] at h
    exact h
  · have hj : j < n := by rw [← hl]; exact (List.getElem?_eq_some_iff.mp hx).1
    have ha : (⟨W.heap.size, 0, none⟩ : Addr).add j = ⟨W.heap.size, j, none⟩ := by unfold Addr.add; split <;> simp_all
    rw [ha, Lib.bytesWorld_cell W 5 (strB s) j (by rw [hsz]; exact hj)]
    simp [strB, List.getD, hx, B8]

theorem isText_any (s : List UInt8) (w : World) (hs : s.length ≤ 9223372036854775807) : Calls Try.prog 34 #[.string (strB s)] w fun e w' => e = .returned (.bool (isTextF s)) ∧ Below w.heap.size w w' := by
  have hsz := strB_size s
  obtain ⟨n, hn⟩ : ∃ n, s.length = n := ⟨_, rfl⟩
  rw [hn] at hsz hs
  by_cases h : n ≤ 65535
  · have HE : Hid (isTextF s = (decF s).isSome) := Lib.hid (by unfold isTextF; rw [decide_eq_true (by omega)]; rfl)
    obtain ⟨cap, w1, hcv, hb, hB⟩ := conv_str s n hn (by omega) w
    have CL : Hid (Calls Try.prog 43 #[.slice (some ⟨w.heap.size, 0, none⟩) n cap] w1 fun e w' => e = .returned (lenV (decF s)) ∧ ∃ q, w' = w1.drewN q) :=
      Lib.hid (len_any _ n cap s _ w1 hB (decF_is s) (by omega))
    have Hn := Lib.hid hn
    have hd : decide ((65535 : Int) < (n : Int)) = false := decide_eq_false (by omega)
    have Hb := Lib.hid hb
    clear hn hB hb
    go_enter Try.func34, Try.ntmps34
    go_wp2_with fail
    refine CL.out.mono ?_
    rintro e w2 ⟨rfl, q, rfl⟩
    cases hdec : decF s with
    | none =>
      simp only [lenV]
      go_wp2
      go_ret
      exact ⟨by rw [HE.out, hdec]; rfl, Hb.out.drewN q⟩
    | some t =>
      simp only [lenV]
      go_wp2
      go_ret
      exact ⟨by rw [HE.out, hdec]; rfl, Hb.out.drewN q⟩
  · have HE : Hid (isTextF s = false) := Lib.hid (by unfold isTextF; rw [decide_eq_false (by omega)]; rfl)
    have hd : decide ((65535 : Int) < (n : Int)) = true := decide_eq_true (by omega)
    clear hn h
    go_enter Try.func34, Try.ntmps34
    go_wp2
    go_ret
    exact ⟨by rw [HE.out]; rfl, Below.refl _ _⟩

/-! ### Constants compared -/
theorem eq_const (c d : Cst) (W : World) : (binOp .eql 41 c.v d.v).run Try.prog W = .ok (.bool (decide (c = d))) W := by
  unfold Cst.v
  rw [run_eql_struct]
  simp [go_sem, Try.underlying41, strB_toList]
  obtain ⟨t, a, b, n, s⟩ := c
  obtain ⟨t', a', b', n', s'⟩ := d
  simp only [Cst.mk.injEq]
  repeat' split
  all_goals simp_all
theorem neq_const (c d : Cst) (W : World) : (binOp .neq 41 c.v d.v).run Try.prog W = .ok (.bool (decide (c ≠ d))) W := by
  unfold Cst.v
  rw [run_neq_struct]
  simp [go_sem, Try.underlying41, strB_toList]
  obtain ⟨t, a, b, n, s⟩ := c
  obtain ⟨t', a', b', n', s'⟩ := d
  simp only [Cst.mk.injEq]
  repeat' split
  all_goals simp_all
theorem eq_form (f g : Frm) (W : World) : (binOp .eql 59 f.v g.v).run Try.prog W = .ok (.bool (decide (f = g))) W := by
  unfold Frm.v
  rw [run_eql_struct]
  simp [go_sem, Try.underlying59]
  obtain ⟨t, a, b, n⟩ := f
  obtain ⟨t', a', b', n'⟩ := g
  simp only [Frm.mk.injEq]
  repeat' split
  all_goals simp_all

end Go.Proofs.Ytinkjeifkjfkgaa
