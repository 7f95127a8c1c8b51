/- The walks over the document's Parse, where a header is refused by its bytes or its sum. -/
import Derived.Test.YtglagchgaclhaaaHi
import Derived.Test.YtglagchgaclhaaaHg
import Derived.Test.YtglagchgaclhaaaHb
namespace Go.Proofs.Ytglagchgaclhaaa
open Go.RowKit

theorem out_head {xs : List UInt8} {er : Int} (h : hdE xs = er) (h0 : er ≠ 0) : out xs = ⟨0, 0, [], [], 0, 0, false, er⟩ := by
  have hp : pE xs = er := by unfold pE; rw [if_neg (by rw [h]; exact h0), h]
  unfold out
  rw [hp, if_neg h0]

set_option maxRecDepth 100000 in
set_option maxHeartbeats 1000000 in
theorem refParse_none (A : Option Addr) (cap : Nat) (w : World) : Calls Try.prog 14 #[.slice A 0 cap] w fun e w' => ParseOk [] w w' e := by
  have HC : Hid (∀ w', Below w.heap.size w w' → ParseOk [] w w' (zeroA 0 11)) := Lib.hid (fun w' hb => zero_ok (s := 0) (out_head (by unfold hdE; rw [if_pos (by rfl)]) (by decide)) hb)
  go_enter Try.func14, Try.ntmps14
  go_wp2
  refine bodyPost_ret (v := .tuple #[.agg #[.int .i64 0, .int .u32 0, .string ⟨#[]⟩, .slice none 0 0, .int .i64 0], .int .i64 0, .bool false, .int .i64 11]) (by simp [results, Try.results14, go_sem]) rfl (HC.out _ ?_)
  exact (Below.refl _ _).alloc (Nat.le_refl _) _

set_option maxRecDepth 100000 in
set_option maxHeartbeats 1000000 in
theorem refParse_blank (ad : Addr) (n cap : Nat) (xs : List UInt8) (w : World) (hB : ByteSl w Empty (some ad) n cap xs) (hn : 0 < n) (h0 : xs[0]? = some 255) :
    Calls Try.prog 14 #[.slice (some ad) n cap] w fun e w' => ParseOk xs w w' e := by
  have HC : Hid (∀ w', Below w.heap.size w w' → ParseOk xs w w' (zeroA 0 11)) := Lib.hid (fun w' hb => zero_ok (s := 0) (out_head (by unfold hdE; rw [if_pos (by rw [h0]; rfl)]) (by decide)) hb)
  obtain ⟨ad', e, hbl, -, hcell⟩ := hB.2.2.2 hn
  cases e
  obtain ⟨b, o, sp⟩ := ad
  have k0 : w.cell? ⟨b, o, sp⟩ = some (.int .u8 255) := hcell 0 255 h0
  have hbl : b < w.heap.size := hbl
  have q0 : ((n : Int) == 0) = false := by simp; omega
  clear hcell hB h0
  go_enter Try.func14, Try.ntmps14
  go_wp2
  refine bodyPost_ret (v := .tuple #[.agg #[.int .i64 0, .int .u32 0, .string ⟨#[]⟩, .slice none 0 0, .int .i64 0], .int .i64 0, .bool false, .int .i64 11]) (by simp [results, Try.results14, go_sem]) rfl (HC.out _ ?_)
  exact (Below.refl _ _).alloc (Nat.le_refl _) _

set_option maxRecDepth 100000 in
set_option maxHeartbeats 1000000 in
theorem refParse_short (ad : Addr) (n cap : Nat) (xs : List UInt8) (x : UInt8) (w : World) (hB : ByteSl w Empty (some ad) n cap xs) (hn : 0 < n) (h11 : n < 11) (h0 : xs[0]? = some x) (hx : x ≠ 255) :
    Calls Try.prog 14 #[.slice (some ad) n cap] w fun e w' => ParseOk xs w w' e := by
  have HC : Hid (∀ w', Below w.heap.size w w' → ParseOk xs w w' (zeroA 0 6)) := Lib.hid (fun w' hb => zero_ok (s := 0) (out_head (by unfold hdE; rw [if_neg (by rw [h0]; exact hx), if_pos (by have := hB.1; omega)]) (by decide)) hb)
  obtain ⟨ad', e, hbl, -, hcell⟩ := hB.2.2.2 hn
  cases e
  obtain ⟨b, o, sp⟩ := ad
  have k0 : w.cell? ⟨b, o, sp⟩ = some (.int .u8 (x.toNat : Int)) := hcell 0 x h0
  have hbl : b < w.heap.size := hbl
  have q0 : ((n : Int) == 0) = false := by simp; omega
  have q1 := u8_dec x 255 255 rfl
  rw [decide_eq_false hx] at q1
  clear hcell hB h0 hx
  go_enter Try.func14, Try.ntmps14
  go_wp2
  refine bodyPost_ret (v := .tuple #[.agg #[.int .i64 0, .int .u32 0, .string ⟨#[]⟩, .slice none 0 0, .int .i64 0], .int .i64 0, .bool false, .int .i64 6]) (by simp [results, Try.results14, go_sem]) rfl (HC.out _ ?_)
  exact (Below.refl _ _).alloc (Nat.le_refl _) _

set_option maxRecDepth 100000 in
set_option maxHeartbeats 1000000 in
theorem refParse_sum (b o : Nat) (sp : Option Nat) (n cap : Nat) (xs : List UInt8) (x : UInt8) (w : World) (hB : ByteSl w Empty (some ⟨b, o, sp⟩) n cap xs) (h11 : 11 ≤ n) (hm : n ≤ 1048576) (h0 : xs[0]? = some x) (hx : x ≠ 255)
    (hne : nS xs ≠ (crc16 (xs.take 9)).toNat) :
    Calls Try.prog 14 #[.slice (some ⟨b, o, sp⟩) n cap] w fun e w' => ParseOk xs w w' e := by
  have HC : Hid (∀ w', Below w.heap.size w w' → ParseOk xs w w' (zeroA 0 7)) := Lib.hid (fun w' hb => zero_ok (s := 0) (out_head (by unfold hdE; rw [if_neg (by rw [h0]; exact hx), if_neg (by have := hB.1; omega), if_pos hne]) (by decide)) hb)
  obtain ⟨ad', e, hbl, -, hcell⟩ := hB.2.2.2 (by omega)
  cases e
  have k0 : w.cell? ⟨b, o, sp⟩ = some (.int .u8 (x.toNat : Int)) := hcell 0 x h0
  have hbl : b < w.heap.size := hbl
  have hcap := hB.2.1
  have hcap2 : cap ≤ 9223372036854775807 := by have := hB.2.2.1; unfold maxLen at this; omega
  have q0 : ((n : Int) == 0) = false := by simp; omega
  have q1 := u8_dec x 255 255 rfl
  rw [decide_eq_false hx] at q1
  obtain ⟨v6, e6, b6⟩ : ∃ v, v = nS xs ∧ v ≤ 65535 := ⟨_, rfl, nS_le xs⟩
  obtain ⟨v7, e7, b7⟩ : ∃ v, v = (crc16 (xs.take 9)).toNat ∧ v ≤ 65535 := ⟨_, rfl, by have := (crc16 (xs.take 9)).isLt; omega⟩
  have hO0 := (Only.refl Empty w).alloc (.cells #[.int .i64 0, .int .u32 0, .string ⟨#[]⟩, .slice none 0 0, .int .i64 0] 25)
  have hB1 := hB.only hO0 (fun _ _ h => h)
  have N6 := refGet_yes (some ⟨b, o, sp⟩) n cap 9 2 xs _ hB1 (by omega) (by omega) hm (by omega)
  have N7 := refSum16_any (some ⟨b, o, sp⟩) 9 cap (xs.take 9) _ (hB1.take_ 9 (by omega))
  unfold nS at e6
  unfold V16 at N7
  rw [← e6] at N6
  rw [← e7] at N7
  have N6 := Lib.hid N6
  have N7 := Lib.hid N7
  have hne1 : ((v6 : Int) == (v7 : Int)) = false := by
    rw [beq_eq_false_iff_ne]
    intro e
    apply hne
    unfold nS
    rw [← e6, ← e7]
    omega
  have hne2 : ((v6 : Int) != (v7 : Int)) = true := by simp only [bne, hne1]; rfl
  clear hcell hB h0 hx hne hO0 hB1 e6 e7
  go_enter Try.func14, Try.ntmps14
  go_wp2_with fail
  clear k0
  refine N6.out.mono ?_
  rintro e1 w1 ⟨rfl, rfl⟩
  go_wp2_with fail
  refine N7.out.mono ?_
  rintro e1 w1 ⟨rfl, rfl⟩
  go_wp2
  refine bodyPost_ret (v := .tuple #[.agg #[.int .i64 0, .int .u32 0, .string ⟨#[]⟩, .slice none 0 0, .int .i64 0], .int .i64 0, .bool false, .int .i64 7]) (by simp [results, Try.results14, go_sem]) rfl (HC.out _ ?_)
  exact (Below.refl _ _).alloc (Nat.le_refl _) _

end Go.Proofs.Ytglagchgaclhaaa
