/- The walks over utf.Len, utf.Decode, Plain and the document's Same, Plain. -/
import Derived.Test.YtinkjeifkjfkgaaUc
import Derived.Test.YtinkjeifkjfkgaaUe
namespace Go.Proofs.Ytinkjeifkjfkgaa
set_option maxRecDepth 100000
open Go.RowKit

theorem add_add_u (ad : Addr) (k j : Nat) (h : k ≠ 0) : (ad.add k).add j = ad.add (k + j) := by
  by_cases h0 : j = 0
  · subst h0
    show (if 0 = 0 then _ else _) = _
    rw [if_pos rfl]
    rfl
  · unfold Addr.add
    rw [if_neg h, if_neg h0, if_neg (by omega)]
    show (⟨ad.block, ad.off + k + j, none⟩ : Addr) = ⟨ad.block, ad.off + (k + j), none⟩
    rw [Nat.add_assoc]
theorem ByteSl.from_ {w : World} {S : Nat → Prop} {ad : Addr} {n cap : Nat} {xs : List UInt8} (h : ByteSl w S (some ad) n cap xs) (k : Nat) (hk : k ≤ n) (h0 : k ≠ 0) : ByteSl w S (some (ad.add k)) (n - k) (cap - k) (xs.drop k) := by
  obtain ⟨hl, hnc, hcm, hc⟩ := h
  refine ⟨by rw [List.length_drop]; omega, by omega, by omega, fun hn => ?_⟩
  obtain ⟨a, e, hb, hs, hcell⟩ := hc (by omega)
  cases e
  refine ⟨_, rfl, by rw [addr_add_block]; exact hb, by rw [addr_add_block]; exact hs, fun j x hj => ?_⟩
  rw [List.getElem?_drop] at hj
  rw [add_add_u _ _ _ h0]
  exact hcell (k + j) x hj

/-- What Len answers. -/
def lenV (r : Option (List Nat)) : Value := match r with
  | some l => .tuple #[.int .i64 (l.length : Int), .int .i64 0]
  | none => .tuple #[.int .i64 0, .int .i64 8]

set_option maxHeartbeats 1000000 in
theorem len_any (A : Option Addr) (n cap : Nat) (xs : List UInt8) (r : Option (List Nat)) (w : World) (hB : ByteSl w Empty A n cap xs) (hr : DecR xs r) (hn : n ≤ 100000) :
    Calls Try.prog 43 #[.slice A n cap] w fun e w' => e = .returned (lenV r) ∧ ∃ q, w' = w.drewN q := by
  have HB := Lib.hid hB
  have HR := Lib.hid hr
  clear hB hr
  go_enter Try.func43, Try.ntmps43
  go_wp2
  go_loopw [0, 4, 5, 6] (fun b c _ _ wr => ∃ (A1 : Option Addr) (n1 cap1 k q : Nat) (ys : List UInt8) (r1 : Option (List Nat)), b = .slice A1 n1 cap1 ∧ c = .int .i64 (k : Int) ∧ wr = w.drewN q ∧ k + n1 ≤ n ∧ Hid (ByteSl w Empty A1 n1 cap1 ys) ∧ Hid (DecR ys r1) ∧ Hid (r.map List.length = r1.map (fun l => k + l.length))) (fun b _ _ _ _ => match b with | .slice _ m _ => m | _ => 0)
  case atStart => exact ⟨A, n, cap, 0, 0, xs, r, rfl, rfl, rfl, by omega, HB, HR, Lib.hid (by simp)⟩
  case round =>
    obtain ⟨A1, n1, cap1, k, q, ys, r1, rfl, rfl, rfl, hkn, HB1, HR1, HM⟩ := hrel
    by_cases hlt : 0 < n1
    · obtain ⟨ad, x, rfl, hb, _, hx, hc⟩ := HB1.out.at_ hlt
      obtain ⟨u, m, hum⟩ : ∃ u m, unitF ys = (u, m) := ⟨_, _, rfl⟩
      have HB2 := Lib.hid (HB1.out.only ((Only.refl Empty w).drewN q) (fun _ _ h => h))
      have c := unit_any ad n1 cap1 ys _ HB2.out hlt
      rw [hum] at c
      have c : Calls Try.prog 46 #[.slice (some ad) n1 cap1] (w.drewN q) fun e w' => e = .returned (.tuple #[.int .u16 (u : Int), .int .i64 (m : Int)]) ∧ ∃ q2, w' = (w.drewN q).drewN q2 := c
      have C := Lib.hid c
      have hle := unitF_le ys
      rw [hum] at hle
      have hmle : m ≤ n1 := by have := HB1.out.1; have hle : m ≤ ys.length := hle; omega
      have hcm : cap1 ≤ 9223372036854775807 := by have := HB1.out.2.2.1; unfold maxLen at this; exact this
      have hnc : n1 ≤ cap1 := HB1.out.2.1
      clear c hle hx hc hb
      by_cases hm0 : m = 0
      · have hr1 : r1 = none := decR_fun (.bad (by intro e; have := HB1.out.1; rw [e] at this; simp at this; omega) (by rw [hum]; exact hm0)) _ HR1.out
        have hrn : r = none := by
          have := HM.out
          rw [hr1] at this
          simpa using this
        have Hrn := Lib.hid hrn
        have hq : ((m : Int) == 0) = true := by simp; omega
        clear hum hm0 hr1 hrn
        go_wp2_with fail
        refine C.out.mono ?_
        rintro e1 w1 ⟨rfl, q2, rfl⟩
        go_wp2
        go_ret2
        exact ⟨by rw [Hrn.out]; rfl, _, rfl⟩
      · have hq : ((m : Int) == 0) = false := by simp; omega
        obtain ⟨r2, hr2⟩ : ∃ r2, DecR (ys.drop m) r2 := decR_ex _ _ (Nat.le_refl _)
        have hr1 : r1 = r2.map (u :: ·) := by
          have h := DecR.go (b := ys) (r := r2) (by rw [hum]; exact hm0) (by rw [hum]; exact hr2)
          rw [hum] at h
          exact decR_fun h _ HR1.out
        have hM2 : r.map List.length = r2.map (fun l => (k + 1) + l.length) := by
          rw [HM.out, hr1]
          cases r2 with
          | none => rfl
          | some l2 =>
            show some _ = some _
            congr 1
            simp only [List.length_cons]
            omega
        have HM2 := Lib.hid hM2
        have HR2 := Lib.hid hr2
        have HB3 := Lib.hid (HB1.out.from_ m hmle hm0)
        have HB4 : Hid (m = n1 → ByteSl w Empty (some ad) 0 0 (ys.drop m)) := Lib.hid (fun e => by
          rw [List.drop_of_length_le (by have := HB1.out.1; omega)]
          exact ByteSl.nil_ _ _ _ _ (by unfold maxLen; omega))
        clear hum hr1 hM2 hr2
        by_cases hcap : cap1 = m
        · have Hcap : Hid (m = n1) := Lib.hid (by omega)
          have hcap2 : m = cap1 := hcap.symm
          clear hcap
          go_wp2_with fail
          refine C.out.mono ?_
          rintro e1 w1 ⟨rfl, q2, rfl⟩
          go_wp2
          go_roundw
          case rel => exact ⟨some ad, 0, 0, k + 1, _, _, _, rfl, by go_num, rfl, by omega, Lib.hid (HB4.out Hcap.out), HR2, HM2⟩
          case measure => exact hlt
        · go_wp2_with fail
          refine C.out.mono ?_
          rintro e1 w1 ⟨rfl, q2, rfl⟩
          go_wp2
          go_roundw
          case rel => exact ⟨_, _, _, k + 1, _, _, _, rfl, by go_num, rfl, by omega, HB3, HR2, HM2⟩
          case measure => show n1 - m < n1; omega
    · obtain rfl : n1 = 0 := by omega
      have hys : ys = [] := List.eq_nil_of_length_eq_zero HB1.out.1
      have hr1 : r1 = some [] := decR_fun (by rw [hys]; exact .nil) _ HR1.out
      have hrk : ∃ l, r = some l ∧ l.length = k := by
        have := HM.out
        rw [hr1] at this
        cases r with
        | none => cases this
        | some l =>
          refine ⟨l, rfl, ?_⟩
          simpa using this
      obtain ⟨l, rfl, hlk⟩ := hrk
      have Hlk := Lib.hid hlk
      clear hys hr1 hlk
      go_wp2
      go_ret2
      exact ⟨by unfold lenV; rw [← Hlk.out]; rfl, _, rfl⟩


theorem plain_take (xs : List UInt8) (k : Nat) (x : UInt8) (h : xs[k]? = some x) (ht : (xs.take k).all plainB = true) : (xs.take (k + 1)).all plainB = plainB x := by
  rw [take_one xs k x h, List.all_append, ht]
  simp
theorem plain_no (xs : List UInt8) (k : Nat) (x : UInt8) (h : xs[k]? = some x) (hx : plainB x = false) : xs.all plainB = false := by
  rw [List.all_eq_false]
  exact ⟨x, List.mem_of_getElem? h, by rw [hx]; exact Bool.false_ne_true⟩



end Go.Proofs.Ytinkjeifkjfkgaa
