/- The walks of OpsDecodes and OpsEncodes. -/
import Derived.Test.YtcpcjcbeeeoabaaDoorEv
namespace Go.Proofs.YtcpcjcbeeeoabaaDoor
set_option maxRecDepth 100000
open Go.RowKit

theorem refDecode_long (A : Option Addr) (n cap : Nat) (xs : List UInt8) (w : World) (hB : ByteSl w Empty A n cap xs) (h : 4096 < n) :
    Calls Tryd.prog 13 #[.slice A n cap] w fun e w' => GotRaws w w' e 9 [] := by
  have hcap := hB.2.2.1
  have hncap := hB.2.1
  unfold maxLen at hcap
  clear hB
  go_enter Tryd.func13, Tryd.ntmps13
  go_wp2
  go_ret2
  exact ⟨⟨none, 0, rfl, GotR.nil_ _ _ _ _ _⟩, Below.refl _ _⟩
theorem refDecode_all (A : Option Addr) (n cap : Nat) (xs : List UInt8) (E : Int) (L : List RawD) (w : World) (hB : ByteSl w Empty A n cap xs) (hD : Dec xs E L) :
    Calls Tryd.prog 13 #[.slice A n cap] w fun e w' => GotRaws w w' e E L := by
  by_cases hn : n ≤ 4096
  · exact refDecode_any A n cap xs E L w hB hn hD
  · have hx := hB.1
    have : E = 9 ∧ L = [] := by
      cases hD with
      | long h => exact ⟨rfl, rfl⟩
      | bad h => omega
      | range h => omega
      | ok h => omega
    obtain ⟨rfl, rfl⟩ := this
    exact refDecode_long A n cap xs w hB (by omega)
theorem dec_ok {xs : List UInt8} {E : Int} {L : List RawD} (h : Dec xs E L) : (∀ r ∈ L, r.ok) ∧ L.length ≤ 4096 ∧ (E ≠ 0 → L = []) := by
  cases h with
  | long _ => exact ⟨fun r hr => by simp at hr, by simp, fun _ => rfl⟩
  | bad _ _ _ => exact ⟨fun r hr => by simp at hr, by simp, fun _ => rfl⟩
  | range _ _ _ => exact ⟨fun r hr => by simp at hr, by simp, fun _ => rfl⟩
  | ok hn hc _ =>
    obtain ⟨_, h1, h2⟩ := cuts_all (by omega) hc
    exact ⟨h1, by omega, fun h => absurd rfl h⟩
theorem enc_nil {l : List RawD} {E : Int} {bs : List UInt8} (h : Enc l E bs) (hE : E ≠ 0) : bs = [] := by
  cases h with
  | form _ => rfl
  | range _ _ => rfl
  | long _ _ _ => rfl
  | ok _ _ _ => exact absurd rfl hE
theorem enc_len {l : List RawD} {E : Int} {bs : List UInt8} (h : Enc l E bs) : bs.length ≤ 4 * l.length := by
  cases h with
  | form _ => simp
  | range _ _ => simp
  | long _ _ _ => simp
  | ok _ _ _ => exact codesB_le l

set_option maxHeartbeats 4000000 in
theorem opsDecodes_calls (A : Option Addr) (n cap : Nat) (xs : List UInt8) (w : World) (hT : Tables w) (hB : ByteSl w Empty A n cap xs) :
    Calls Tryd.prog 4 #[.slice A n cap] w fun e w' => e = .returned (.bool true) ∧ Below w.heap.size w w' := by
  have HFx : Hid (Calls Tryd.prog 7 #[] w fun e w' => e = .returned (.bool true) ∧ Below w.heap.size w w') := Lib.hid (fixed13_any w hT)
  have hcap := hB.2.2.1
  have hncap := hB.2.1
  have hxl := hB.1
  unfold maxLen at hcap
  obtain ⟨E, L, hD⟩ := dec_ex xs
  obtain ⟨hLok, hLl, hLE⟩ := dec_ok hD
  obtain ⟨E2, bs2, hE2, hEE⟩ : ∃ E2 bs2, Enc L E2 bs2 ∧ (E = 0 → E2 = 0 ∧ bs2 = xs) := by
    by_cases h : E = 0
    · subst h
      exact ⟨0, xs, dec_enc hD, fun _ => ⟨rfl, rfl⟩⟩
    · obtain ⟨E2, bs2, h2⟩ := enc_ex L
      exact ⟨E2, bs2, h2, fun h' => absurd h' h⟩
  have HD : Hid (∀ W, Below w.heap.size w W → Calls Tryd.prog 12 #[.slice A n cap] W fun e w' => GotRaws W w' e E L) := Lib.hid (fun W h => decode_any A n cap xs E L W (hT.below h) (hB.only (Only.of_below h) (fun _ _ h => h)) hD)
  have HRD : Hid (∀ W, Below w.heap.size w W → Calls Tryd.prog 13 #[.slice A n cap] W fun e w' => GotRaws W w' e E L) := Lib.hid (fun W h => refDecode_all A n cap xs E L W (hB.only (Only.of_below h) (fun _ _ h => h)) hD)
  have HEn : Hid (∀ W B m c, Below w.heap.size w W → m = L.length → RawSl W B m c L → Calls Tryd.prog 15 #[.slice B m c] W fun e w' => GotEnc W w' e E2 bs2) := Lib.hid (fun W B m c h hm hL => encode_any B m c L E2 bs2 W (hT.below h) hL (by omega) hLok hE2)
  have HCv : Hid (∀ W, Below w.heap.size w W → (convert 25 9 (.slice A n cap)).run Tryd.prog W = .ok (.string (strB xs)) W) := Lib.hid (fun W h => conv_bytes (hB.only (Only.of_below h) (fun _ _ h => h)))
  have HEE := Lib.hid hEE
  clear hT hB hD hLok hE2 hEE
  obtain ⟨b1, hb1⟩ : ∃ b, decide ((600 : Int) < (n : Int)) = b := ⟨_, rfl⟩
  obtain ⟨b2, hb2⟩ : ∃ b, decide ((n : Int) ≤ 4096) = b := ⟨_, rfl⟩
  obtain ⟨b3, hb3⟩ : ∃ b, decide ((4106 : Int) < (n : Int)) = b := ⟨_, rfl⟩
  by_cases hg : ((b1 && b2) || b3) = true
  · cases b1 <;> cases b2 <;> cases b3 <;> simp at hg
    all_goals
      go_enter Tryd.func4, Tryd.ntmps4
      go_wp2_with fail
      refine HFx.out.mono ?_
      rintro e1 w1 ⟨rfl, hb1⟩
      have HW1 := Lib.hid hb1
      clear hb1
      go_wp2
      go_ret
      exact ⟨rfl, HW1.out⟩
  · cases b1 <;> cases b2 <;> cases b3 <;> simp at hg
    all_goals
      go_enter Tryd.func4, Tryd.ntmps4
      go_wp2_with fail
      refine HFx.out.mono ?_
      rintro e1 w1 ⟨rfl, hb1⟩
      have HW1 := Lib.hid hb1
      clear hb1
      go_wp2_with fail
      refine (HD.out _ HW1.out).mono ?_
      rintro e2 w2 ⟨⟨B, c, rfl, hG⟩, hb2⟩
      have HW2 := Lib.hid (HW1.out.trans (hb2.mono HW1.out.size))
      have HR2 : Hid (RawSl w2 B L.length c L) := Lib.hid hG.row
      clear hG hb2
      go_wp2_with fail
      refine (HRD.out _ HW2.out).mono ?_
      rintro e3 w3 ⟨⟨B', c', rfl, hG⟩, hb3⟩
      have HW3 := Lib.hid (HW2.out.trans (hb3.mono HW2.out.size))
      have HR3 : Hid (RawSl w3 B L.length c L) := Lib.hid (HR2.out.below hb3)
      have HR3' : Hid (RawSl w3 B' L.length c' L) := Lib.hid hG.row
      clear hG hb3
      go_wp2_with fail
      refine (refSame_yes B B' L.length c c' L w3 HR3.out HR3'.out (by omega)).mono ?_
      rintro e4 w4 ⟨rfl, q, rfl⟩
      have HW4 : Hid (Below w.heap.size w (w3.drewN q)) := Lib.hid (HW3.out.drewN q)
      go_wp2_with fail
      refine (HEn.out _ B L.length c HW4.out rfl (HR3.out.below ((Below.refl _ _).drewN q))).mono ?_
      rintro e5 w5 ⟨⟨u, rfl, hu⟩, hb5⟩
      have HW5 := Lib.hid (HW4.out.trans (hb5.mono HW4.out.size))
      obtain ⟨A5, c5, rfl, hB5, hN5⟩ := own_open hu
      have hc1 := conv_bytes hB5
      have hc2 := HCv.out _ HW5.out
      clear hu hb5 hB5 hN5
      by_cases hE : E = 0
      · obtain ⟨hx1, hx2⟩ := HEE.out hE
        have hE0 : (E == 0) = true := by simpa using hE
        have hE0' : (E != 0) = false := by simp [hE]
        rw [hx2] at hc1 ⊢
        rw [hxl] at hc1 ⊢
        subst hx1
        clear hE hx2
        go_wp2
        go_ret
        exact ⟨by simp, HW5.out⟩
      · have hE0 : (E == 0) = false := by simpa using hE
        have hE0' : (E != 0) = true := by simp [hE]
        clear hE
        go_wp2
        go_ret
        exact ⟨rfl, HW5.out⟩

set_option maxHeartbeats 4000000 in
theorem opsEncodes_calls (A : Option Addr) (n cap : Nat) (l : List RawD) (w : World) (hT : Tables w) (hL : RawSl w A n cap l) (hok : ∀ r ∈ l, r.ok) :
    Calls Tryd.prog 5 #[.slice A n cap] w fun e w' => e = .returned (.bool true) ∧ Below w.heap.size w w' := by
  have HFx : Hid (Calls Tryd.prog 7 #[] w fun e w' => e = .returned (.bool true) ∧ Below w.heap.size w w') := Lib.hid (fixed13_any w hT)
  have hcap := hL.2.2.1
  have hncap := hL.2.1
  have hll := hL.1
  unfold maxLen at hcap
  by_cases hn : n ≤ 150
  · obtain ⟨E, bs, hE⟩ := enc_ex l
    have hbl := enc_len hE
    obtain ⟨E2, L2, hD2, hDD⟩ : ∃ E2 L2, Dec bs E2 L2 ∧ (E = 0 → E2 = 0 ∧ L2 = l) := by
      by_cases h : E = 0
      · subst h
        exact ⟨0, l, enc_dec (fun r hr => (hok r hr).op) hE, fun _ => ⟨rfl, rfl⟩⟩
      · obtain ⟨E2, L2, h2⟩ := dec_ex bs
        exact ⟨E2, L2, h2, fun h' => absurd h' h⟩
    have HEn : Hid (∀ W, Below w.heap.size w W → Calls Tryd.prog 15 #[.slice A n cap] W fun e w' => GotEnc W w' e E bs) := Lib.hid (fun W h => encode_any A n cap l E bs W (hT.below h) (hL.below h) (by omega) hok hE)
    have HRE : Hid (∀ W, Below w.heap.size w W → Calls Tryd.prog 16 #[.slice A n cap] W fun e w' => GotEnc W w' e E bs) := Lib.hid (fun W h => refEncode_any A n cap l E bs W (hL.below h) (by omega) hok hE)
    have HD : Hid (∀ W B c, Below w.heap.size w W → ByteSl W Empty B bs.length c bs → Calls Tryd.prog 12 #[.slice B bs.length c] W fun e w' => GotRaws W w' e E2 L2) := Lib.hid (fun W B c h hB => decode_any B bs.length c bs E2 L2 W (hT.below h) hB hD2)
    have HLc : Hid (∀ W, Below w.heap.size w W → RawSl W A n cap l) := Lib.hid (fun W h => hL.below h)
    have HDD := Lib.hid hDD
    have Hll := Lib.hid hll
    have hd : decide ((150 : Int) < (n : Int)) = false := by simp; omega
    clear hT hL hok hE hD2 hDD hll
    go_enter Tryd.func5, Tryd.ntmps5
    go_wp2_with fail
    refine HFx.out.mono ?_
    rintro e1 w1 ⟨rfl, hb1⟩
    have HW1 := Lib.hid hb1
    clear hb1
    go_wp2_with fail
    refine (HEn.out _ HW1.out).mono ?_
    rintro e2 w2 ⟨⟨u, rfl, hu⟩, hb2⟩
    have HW2 := Lib.hid (HW1.out.trans (hb2.mono HW1.out.size))
    obtain ⟨A2, c2, rfl, hB2, hN2⟩ := own_open hu
    have HB2 := Lib.hid hB2
    clear hu hb2 hB2 hN2
    go_wp2_with fail
    refine (HRE.out _ HW2.out).mono ?_
    rintro e3 w3 ⟨⟨u, rfl, hu⟩, hb3⟩
    have HW3 := Lib.hid (HW2.out.trans (hb3.mono HW2.out.size))
    obtain ⟨A3, c3, rfl, hB3, hN3⟩ := own_open hu
    have HB3 := Lib.hid (HB2.out.only (Only.of_below (S := Empty) hb3) (fun _ _ h => h))
    have hc1 := conv_bytes hB3
    have hc2 := conv_bytes HB3.out
    clear hu hb3 hB3 hN3
    go_wp2_with fail
    refine (HD.out _ _ _ HW3.out HB3.out).mono ?_
    rintro e4 w4 ⟨⟨B4, c4, rfl, hG4⟩, hb4⟩
    have HW4 := Lib.hid (HW3.out.trans (hb4.mono HW3.out.size))
    have HR4 : Hid (RawSl w4 B4 L2.length c4 L2) := Lib.hid hG4.row
    clear hG4 hb4 hc1 hc2
    by_cases hE : E = 0
    · obtain ⟨hx1, hx2⟩ := HDD.out hE
      have hE0 : (E == 0) = true := by simpa using hE
      have hE0' : (E != 0) = false := by simp [hE]
      have HR5 : Hid (RawSl w4 B4 n c4 l) := Lib.hid (by have h := HR4.out; rw [hx2, Hll.out] at h; exact h)
      rw [hx2, Hll.out]
      subst hx1
      clear hE hx2 HR4
      go_wp2_with fail
      refine (refSame_yes B4 A n c4 cap l w4 HR5.out (HLc.out _ HW4.out) (by omega)).mono ?_
      rintro e5 w5 ⟨rfl, q, rfl⟩
      go_wp2
      go_ret
      exact ⟨rfl, HW4.out.drewN q⟩
    · have hE0 : (E == 0) = false := by simpa using hE
      have hE0' : (E != 0) = true := by simp [hE]
      clear hE
      go_wp2
      go_ret
      exact ⟨rfl, HW4.out⟩
  · have hd : decide ((150 : Int) < (n : Int)) = true := by simp; omega
    clear hT hL hok hll hn
    go_enter Tryd.func5, Tryd.ntmps5
    go_wp2_with fail
    refine HFx.out.mono ?_
    rintro e1 w1 ⟨rfl, hb1⟩
    have HW1 := Lib.hid hb1
    clear hb1
    go_wp2
    go_ret
    exact ⟨rfl, HW1.out⟩

end Go.Proofs.YtcpcjcbeeeoabaaDoor
