/- The document's Decode: what any bytes tell. Printed by gen/gen_el.py. -/
import Derived.Test.YtcpcjcbeeeoabaaDoorEk
namespace Go.Proofs.YtcpcjcbeeeoabaaDoor
set_option maxRecDepth 100000
open Go.RowKit

theorem get1 (xs : List UInt8) (k : Nat) (h : k + 1 < xs.length) : getV ((xs.drop (k + 1)).take 1) < 256 := by
  have := getV_lt ((xs.drop (k + 1)).take 1)
  have hl : ((xs.drop (k + 1)).take 1).length = 1 := by simp; omega
  rw [hl] at this
  exact this
theorem get2 (xs : List UInt8) (k : Nat) (h : k + 2 < xs.length) : getV ((xs.drop (k + 1)).take 2) < 65536 := by
  have := getV_lt ((xs.drop (k + 1)).take 2)
  have hl : ((xs.drop (k + 1)).take 2).length = 2 := by simp; omega
  rw [hl] at this
  exact this
theorem get_two (xs : List UInt8) (k : Nat) (h : k + 2 < xs.length) : getV ((xs.drop (k + 1)).take 2) = getV ((xs.drop (k + 1)).take 1) * 256 + getV ((xs.drop (k + 2)).take 1) := by
  obtain ⟨x, hx⟩ : ∃ x, xs[k + 1]? = some x := ⟨_, List.getElem?_eq_getElem (by omega)⟩
  obtain ⟨y, hy⟩ : ∃ y, xs[k + 2]? = some y := ⟨_, List.getElem?_eq_getElem (by omega)⟩
  have h1 : (xs.drop (k + 1)).take 1 = [x] := by
    rw [take_one _ 0 x (by simpa using hx)]
    rfl
  have h2 : (xs.drop (k + 2)).take 1 = [y] := by
    rw [take_one _ 0 y (by simpa using hy)]
    rfl
  have h3 : (xs.drop (k + 1)).take 2 = [x, y] := by
    rw [take_one _ 1 y (by rw [List.getElem?_drop]; exact hy), h1]
    rfl
  rw [h1, h2, h3]
  simp [getV]

/-- The round's state in memory. -/
structure DecSt (w wr : World) (xs : List UInt8) (k m c : Nat) (B : Option Addr) (l : List RawD) (E : Int) (L : List RawD) : Prop where
  got : GotR RawD.cells 4 36 w.heap.size wr B m c l
  cuts : Cuts xs k l E L
  below : Below w.heap.size w wr

theorem sgn1_bd (v : Nat) : -128 ≤ sgn v 1 ∧ sgn v 1 ≤ 127 := by
  simp only [sgn]; simp; split <;> omega
theorem sgn2_bd (v : Nat) : -32768 ≤ sgn v 2 ∧ sgn v 2 ≤ 32767 := by
  simp only [sgn]; simp; split <;> omega
theorem sgn_low (v v1 v2 : Nat) (h : v = v1 * 256 + v2) : sgn v 1 = sgn v2 1 := by
  simp only [sgn]; simp; split <;> split <;> omega
section
variable (xs : List UInt8) (k : Nat)
theorem aN_1 : aN 1 xs k = 0 := by simp [aN, aW, worthF, shapeF, shapeL]
theorem aN_small (f : Nat) (hf : f = 2 ∨ f = 5 ∨ f = 9) (h : k + 1 < xs.length) : aN f xs k = (getV ((xs.drop (k + 1)).take 1) : Int) := by
  have := get1 xs k h
  rcases hf with rfl | rfl | rfl <;> (simp [aN, aW, worthF, shapeF, shapeL]; omega)
theorem aN_3 : aN 3 xs k = sgn (getV ((xs.drop (k + 1)).take 1)) 1 := by simp [aN, aW, worthF, shapeF, shapeL]
theorem aN_4 : aN 4 xs k = sgn (getV ((xs.drop (k + 1)).take 2)) 2 := by simp [aN, aW, worthF, shapeF, shapeL]
theorem aN_6 (h : k + 2 < xs.length) : aN 6 xs k = (getV ((xs.drop (k + 1)).take 2) : Int) := by
  have := get2 xs k h
  simp [aN, aW, worthF, shapeF, shapeL]
  omega
theorem aN_7 : aN 7 xs k = (k : Int) + sgn (getV ((xs.drop (k + 1)).take 2)) 2 := by simp [aN, aW, worthF, shapeF, shapeL]; omega
theorem aN_8 (h : k + 2 < xs.length) : aN 8 xs k = (getV ((xs.drop (k + 1)).take 2) : Int) / 256 := by
  have h1 := get1 xs k (by omega)
  have h2 := get_two xs k h
  have h3 : getV ((xs.drop (k + 2)).take 1) < 256 := by
    have := getV_lt ((xs.drop (k + 2)).take 1)
    have hl : ((xs.drop (k + 2)).take 1).length = 1 := by simp; omega
    rw [hl] at this
    exact this
  simp [aN, aW, worthF, shapeF, shapeL]
  omega
theorem bW_8 (h : k + 2 < xs.length) : bW 8 xs k = sgn (getV ((xs.drop (k + 1)).take 2)) 1 := by
  have h2 := get_two xs k h
  rw [sgn_low _ _ _ h2]
  simp [bW, worthF, shapeF, shapeL]
theorem bW_0 (f : Nat) (h9 : f ≤ 9) (hf : f ≠ 8) : bW f xs k = 0 := by
  rcases (by omega : f = 0 ∨ f = 1 ∨ f = 2 ∨ f = 3 ∨ f = 4 ∨ f = 5 ∨ f = 6 ∨ f = 7 ∨ f = 9) with rfl | rfl | rfl | rfl | rfl | rfl | rfl | rfl | rfl <;> simp [bW, worthF, shapeF, shapeL]
theorem readE_ok (f : Nat) (h0 : f ≠ 0) (h9 : f ≠ 9) (hs : ¬ xs.length - k < lenF f) : readE' f xs k = 0 := by
  unfold readE'
  rw [if_neg h0, if_neg hs, if_neg (fun h => h9 h.1)]
end

set_option maxHeartbeats 4000000 in
theorem refDecode_any (A : Option Addr) (n cap : Nat) (xs : List UInt8) (E : Int) (L : List RawD) (w : World) (hB : ByteSl w Empty A n cap xs) (hn : n ≤ 4096) (hD : Dec xs E L) :
    Calls Tryd.prog 13 #[.slice A n cap] w fun e w' => GotRaws w w' e E L := by
  have hxl := hB.1
  have hncap := hB.2.1
  obtain ⟨E', l', hC, hEL⟩ : ∃ E' l, Cuts xs 0 [] E' l ∧ ((E' ≠ 0 ∧ E = E' ∧ L = []) ∨ (E' = 0 ∧ meetF l = false ∧ E = 2 ∧ L = []) ∨ (E' = 0 ∧ meetF l = true ∧ E = 0 ∧ L = l)) := by
    cases hD with
    | long h => omega
    | bad _ hc he => exact ⟨_, _, hc, .inl ⟨he, rfl, rfl⟩⟩
    | range _ hc hm => exact ⟨_, _, hc, .inr (.inl ⟨rfl, hm, rfl, rfl⟩)⟩
    | ok _ hc hm => exact ⟨_, _, hc, .inr (.inr ⟨rfl, hm, rfl, rfl⟩)⟩
  obtain ⟨hRi, hok, hll⟩ := cuts_all (by omega) hC
  have HM : Hid (∀ W B m c, RawSl W B m c l' → Calls Tryd.prog 23 #[.slice B m c] W fun e w' => e = .returned (.bool (meetF l')) ∧ Below W.heap.size W w') :=
    Lib.hid (fun W B m c hL => refGoes_any B m c l' W hL hok)
  have HB := Lib.hid hB
  have HC := Lib.hid hC
  have HEL := Lib.hid hEL
  have Hxl := Lib.hid hxl
  clear hB hD hC hEL hRi hok hll hxl
  go_enter Tryd.func13, Tryd.ntmps13
  go_wp2
  go_loopw [4, 5] (fun b i wr => ∃ (k m c : Nat) (B : Option Addr) (l : List RawD), k ≤ n ∧ m ≤ k ∧ b = .slice B m c ∧ i = .int .i64 (k : Int) ∧ DecSt w wr xs k m c B l E' l') (fun _ i _ => n - (intOf i).toNat)
  case atStart => exact ⟨0, 0, 0, none, [], by omega, by omega, rfl, rfl, GotR.nil_ _ _ _ _ _, HC.out, Below.refl _ _⟩
  case round =>
    obtain ⟨k, m, c, B, l, hk, hmk, rfl, rfl, HQ⟩ := hrel
    have hml : l.length = m := HQ.got.row.1
    have hmc : m ≤ c := HQ.got.row.2.1
    have hcx : c ≤ 9223372036854775807 := by have := HQ.got.row.2.2.1; unfold maxLen at this; exact this
    have Hml := Lib.hid hml
    clear hml HC
    by_cases hlt : k < n
    · obtain ⟨ad, x, rfl, hbl, -, hx, hc⟩ := HB.out.at_ hlt
      have hxo : opN xs k = x.toNat := by unfold opN; rw [hx]; rfl
      have hc0 : wr.cell? (ad.add k) = some (.int .u8 (opN xs k : Int)) := by
        rw [HQ.below.cell (by rw [addr_add_block]; exact hbl), hxo]
        exact hc
      have hop := opN_lt xs k
      have hf9 := formN_le (opN xs k)
      have HLen : Hid (∀ W, Calls Tryd.prog 11 #[.int .u8 (opN xs k : Int)] W fun e w' => e = .returned (.int .i64 (lenF (formN (opN xs k)) : Int)) ∧ W = w') := Lib.hid (fun W => refLen_any _ hop W)
      have HFm : Hid (∀ W, Calls Tryd.prog 9 #[.int .u8 (opN xs k : Int)] W fun e w' => e = .returned (.int .i64 (formN (opN xs k) : Int)) ∧ W = w') := Lib.hid (fun W => refForm_any _ hop W)
      have HE : Hid (readE xs k = readE' (formN (opN xs k)) xs k) := Lib.hid rfl
      have HR : Hid (readR xs k = ⟨k, opN xs k, aN (formN (opN xs k)) xs k, bW (formN (opN xs k)) xs k⟩) := Lib.hid rfl
      have HGt : Hid (∀ W M, Below w.heap.size w W → 1 ≤ M → M ≤ 8 → k + 1 + M ≤ n → Calls Tryd.prog 21 #[.slice (some ad) n cap, .int .i64 ((k : Int) + 1), .int .i64 (M : Int)] W fun e w' => e = .returned (.tuple #[.int .u64 (getV ((xs.drop (k + 1)).take M) : Int), .int .i64 0]) ∧ W = w') :=
        Lib.hid (fun W M h h1 h8 hM => by
          have := refGet_yes (some ad) n cap (k + 1) M xs W (HB.out.only (Only.of_below h) (fun _ _ h => h)) h1 h8 (by omega) hM
          rwa [show ((k + 1 : Nat) : Int) = (k : Int) + 1 by omega] at this)
      have Hlq : lenN (opN xs k) = lenF (formN (opN xs k)) := rfl
      have HCu : Hid ((readE xs k ≠ 0 → E' = readE xs k) ∧ (readE xs k = 0 → Cuts xs (k + lenF (formN (opN xs k))) (l ++ [readR xs k]) E' l')) := Lib.hid (by
        have hlt2 : k < xs.length := by have := Hxl.out; omega
        refine ⟨fun h => ?_, fun h => ?_⟩
        · cases HQ.cuts with
          | stop h => omega
          | bad _ h => rfl
          | go _ h' _ => exact absurd h' h
        · cases HQ.cuts with
          | stop h => omega
          | bad _ h' => exact absurd h h'
          | go _ _ h => exact h)
      have HG0 := Lib.hid HQ.got
      have HW0 := Lib.hid HQ.below
      clear hx hxo hc HQ Hlq
      generalize formN (opN xs k) = f at *
      generalize opN xs k = o at *
      by_cases h0 : f = 0
      · have hE8 : E' = 8 := by
          have h8 : readE xs k = 8 := by rw [HE.out, h0]; rfl
          have := HCu.out.1 (by rw [h8]; decide)
          omega
        have HEL8 : Hid (E = 8 ∧ L = []) := Lib.hid (by
          rcases HEL.out with ⟨_, h, h2⟩ | ⟨h, _⟩ | ⟨h, _⟩
          · exact ⟨by omega, h2⟩
          · omega
          · omega)
        have HLen2 : Hid (∀ W, Calls Tryd.prog 11 #[.int .u8 (o : Int)] W fun e w' => e = .returned (.int .i64 0) ∧ W = w') := Lib.hid (fun W => by have := HLen.out W; rw [h0] at this; exact this)
        clear HLen HFm h0 hE8 HEL HE HR
        go_wp2_with fail
        refine (HLen2.out _).mono ?_
        rintro e1 w1 ⟨rfl, rfl⟩
        go_wp2
        go_ret2
        refine ⟨?_, HW0.out.alloc HW0.out.size _⟩
        rw [HEL8.out.1, HEL8.out.2]
        exact ⟨none, 0, rfl, GotR.nil_ _ _ _ _ _⟩
      by_cases hs : n - k < lenF f
      · have hE6 : E' = 6 := by
          have h6 : readE xs k = 6 := by rw [HE.out]; unfold readE'; rw [if_neg h0, if_pos (by have := Hxl.out; omega)]
          have := HCu.out.1 (by rw [h6]; decide)
          omega
        have HEL6 : Hid (E = 6 ∧ L = []) := Lib.hid (by
          rcases HEL.out with ⟨_, h, h2⟩ | ⟨h, _⟩ | ⟨h, _⟩
          · exact ⟨by omega, h2⟩
          · omega
          · omega)
        have hlp := lenF_pos f hf9 h0
        have hl3 := lenF_le f hf9
        obtain ⟨ln, hln⟩ : ∃ ln, ln = lenF f := ⟨_, rfl⟩
        rw [← hln] at hs hlp HLen hl3
        have hd : decide ((n : Int) - (k : Int) < (ln : Int)) = true := by simp; omega
        have hne : ((ln : Int) == 0) = false := by simp; omega
        clear HFm h0 hE6 HEL HE HR HCu hlp hln
        go_wp2_with fail
        refine (HLen.out _).mono ?_
        rintro e1 w1 ⟨rfl, rfl⟩
        go_wp2
        go_ret2
        refine ⟨?_, HW0.out.alloc HW0.out.size _⟩
        rw [HEL6.out.1, HEL6.out.2]
        exact ⟨none, 0, rfl, GotR.nil_ _ _ _ _ _⟩
      rcases (by omega : f = 1 ∨ f = 2 ∨ f = 3 ∨ f = 4 ∨ f = 5 ∨ f = 6 ∨ f = 7 ∨ f = 8 ∨ f = 9) with rfl | rfl | rfl | rfl | rfl | rfl | rfl | rfl | rfl
      · have hs2 : ¬ n - k < 1 := hs
        have hd : decide ((n : Int) - (k : Int) < 1) = false := by simp; omega
        have hx2 := Hxl.out
        have HLen2 : Hid (∀ W, Calls Tryd.prog 11 #[.int .u8 (o : Int)] W fun e w' => e = .returned (.int .i64 1) ∧ W = w') := HLen
        have HFm2 : Hid (∀ W, Calls Tryd.prog 9 #[.int .u8 (o : Int)] W fun e w' => e = .returned (.int .i64 1) ∧ W = w') := HFm
        have HW1 : Hid (Below w.heap.size w (wr.alloc (.cells #[.int .i64 (k : Int), .int .u8 (o : Int), .int .i64 0, .int .i64 0] 36))) := Lib.hid (HW0.out.alloc HW0.out.size _)
        have HGs : Hid (∀ W, Below w.heap.size w W → Calls Tryd.prog 21 #[.slice (some ad) n cap, .int .i64 ((k : Int) + 1), .int .i64 1] W fun e w' => (∃ v ec : Int, e = .returned (.tuple #[.int .u64 v, .int .i64 ec])) ∧ W = w') := Lib.hid (fun W h => by
          by_cases hk2 : k + 1 + 1 ≤ n
          · exact (HGt.out W 1 h (by omega) (by omega) hk2).mono (by rintro e w' ⟨rfl, rfl⟩; exact ⟨⟨_, _, rfl⟩, rfl⟩)
          · exact (refGet_short (some ad) n cap ((k : Int) + 1) 1 W (by omega) (by omega) (by omega) (by omega)).mono (by rintro e w' ⟨rfl, rfl⟩; exact ⟨⟨_, _, rfl⟩, rfl⟩))
        have HRR : Hid (readR xs k = (⟨(k : Int), o, 0, 0⟩ : RawD)) := Lib.hid (by rw [HR.out, aN_1 xs k, bW_0 xs k 1 (by omega) (by omega)])
        have HNx : Hid (Cuts xs (k + 1) (l ++ [(⟨(k : Int), o, 0, 0⟩ : RawD)]) E' l') := Lib.hid (by
          have h := HCu.out.2 (by rw [HE.out]; exact readE_ok xs k 1 (by omega) (by omega) (by rw [hx2]; exact hs))
          rw [HRR.out] at h
          exact h)
        clear HLen HFm hs h0 hf9 HE HR HCu HGt HRR hx2
        go_wp2_with fail
        refine (HLen2.out _).mono ?_
        rintro e1 w1 ⟨rfl, rfl⟩
        go_wp2_with fail
        refine (HGs.out _ HW1.out).mono ?_
        rintro e2 w2 ⟨⟨v, ec, rfl⟩, rfl⟩
        go_wp2_with fail
        refine (HFm2.out _).mono ?_
        rintro e3 w3 ⟨rfl, rfl⟩
        go_wp2_with fail
        refine (HFm2.out _).mono ?_
        rintro e5 w5 ⟨rfl, rfl⟩
        have HW2 : Hid (Below w.heap.size w (wr.alloc (.cells #[.int .i64 (k : Int), .int .u8 (o : Int), .int .i64 0, .int .i64 0] 36))) := Lib.hid (HW0.out.alloc HW0.out.size _)
        have HW3 : Hid (Below w.heap.size w ((wr.alloc (.cells #[.int .i64 (k : Int), .int .u8 (o : Int), .int .i64 0, .int .i64 0] 36)).alloc (.cells #[.int .i64 (k : Int), .int .u8 (o : Int), .int .i64 0, .int .i64 0] 36))) := Lib.hid (HW2.out.alloc HW2.out.size _)
        have HG3 := Lib.hid ((HG0.out.alloc RawD.cells_len (.cells #[.int .i64 (k : Int), .int .u8 (o : Int), .int .i64 0, .int .i64 0] 36)).alloc RawD.cells_len (.cells #[.int .i64 (k : Int), .int .u8 (o : Int), .int .i64 0, .int .i64 0] 36))
        have HX : Hid (RawSl ((wr.alloc (.cells #[.int .i64 (k : Int), .int .u8 (o : Int), .int .i64 0, .int .i64 0] 36)).alloc (.cells #[.int .i64 (k : Int), .int .u8 (o : Int), .int .i64 0, .int .i64 0] 36)) (some ⟨wr.heap.size + 1, 0, none⟩) 1 1 [(⟨(k : Int), o, 0, 0⟩ : RawD)]) := Lib.hid (by
          have h := raw_lit (⟨(k : Int), o, 0, 0⟩ : RawD) (wr.alloc (.cells #[.int .i64 (k : Int), .int .u8 (o : Int), .int .i64 0, .int .i64 0] 36))
          rwa [show (wr.alloc (.cells #[.int .i64 (k : Int), .int .u8 (o : Int), .int .i64 0, .int .i64 0] 36)).heap.size = wr.heap.size + 1 by simp] at h)
        go_wp2_with (at_builtin; refine wpList_append_raw rfl (.tmp 95) (.tmp 97) rfl w.heap.size B m c l rfl HG3.out (some ⟨wr.heap.size + 1, 0, none⟩) 1 1 [(⟨(k : Int), o, 0, 0⟩ : RawD)] rfl HX.out (fun h => by cases h) (by omega) HW3.out.size ?_; intro B5 c5 w5 hg5 hgr5 hr5; have HG5 := Lib.hid hg5; have HW5 : Hid (Below w.heap.size w w5) := Lib.hid (below_gotR (base := w.heap.size) HW3.out HW3.out.size hgr5 hr5 (Nat.le_refl _)); clear hg5 hgr5 hr5)
        go_roundw
        case rel => exact ⟨k + 1, m + 1, c5, B5, l ++ [(⟨(k : Int), o, 0, 0⟩ : RawD)], by omega, by omega, rfl, by go_num, HG5.out, HNx.out, HW5.out⟩
        case measure => simp [intOf]; omega
      · have hs2 : ¬ n - k < 2 := hs
        have hd : decide ((n : Int) - (k : Int) < 2) = false := by simp; omega
        have hx2 := Hxl.out
        have HLen2 : Hid (∀ W, Calls Tryd.prog 11 #[.int .u8 (o : Int)] W fun e w' => e = .returned (.int .i64 2) ∧ W = w') := HLen
        have HFm2 : Hid (∀ W, Calls Tryd.prog 9 #[.int .u8 (o : Int)] W fun e w' => e = .returned (.int .i64 2) ∧ W = w') := HFm
        have HW1 : Hid (Below w.heap.size w (wr.alloc (.cells #[.int .i64 (k : Int), .int .u8 (o : Int), .int .i64 0, .int .i64 0] 36))) := Lib.hid (HW0.out.alloc HW0.out.size _)
        obtain ⟨v, hv⟩ : ∃ v, v = getV ((xs.drop (k + 1)).take 1) := ⟨_, rfl⟩
        have hvb : v ≤ 255 := by rw [hv]; have := get1 xs k (by omega); omega
        have HGs : Hid (∀ W, Below w.heap.size w W → Calls Tryd.prog 21 #[.slice (some ad) n cap, .int .i64 ((k : Int) + 1), .int .i64 1] W fun e w' => e = .returned (.tuple #[.int .u64 (v : Int), .int .i64 0]) ∧ W = w') := Lib.hid (fun W h => by rw [hv]; exact HGt.out W 1 h (by omega) (by omega) (by omega))
        have HRR : Hid (readR xs k = (⟨(k : Int), o, (v : Int), 0⟩ : RawD)) := Lib.hid (by rw [HR.out, aN_small xs k 2 (.inl rfl) (by omega), bW_0 xs k 2 (by omega) (by omega), ← hv])
        have HNx : Hid (Cuts xs (k + 2) (l ++ [(⟨(k : Int), o, (v : Int), 0⟩ : RawD)]) E' l') := Lib.hid (by
          have h := HCu.out.2 (by rw [HE.out]; exact readE_ok xs k 2 (by omega) (by omega) (by rw [hx2]; exact hs))
          rw [HRR.out] at h
          exact h)
        clear HLen HFm hs h0 hf9 HE HR HCu HGt HRR hv hx2
        go_wp2_with fail
        refine (HLen2.out _).mono ?_
        rintro e1 w1 ⟨rfl, rfl⟩
        go_wp2_with fail
        refine (HGs.out _ HW1.out).mono ?_
        rintro e2 w2 ⟨rfl, rfl⟩
        go_wp2_with fail
        refine (HFm2.out _).mono ?_
        rintro e3 w3 ⟨rfl, rfl⟩
        go_wp2_with fail
        refine (HFm2.out _).mono ?_
        rintro e5 w5 ⟨rfl, rfl⟩
        have HW2 : Hid (Below w.heap.size w (wr.alloc (.cells #[.int .i64 (k : Int), .int .u8 (o : Int), .int .i64 (v : Int), .int .i64 0] 36))) := Lib.hid (HW0.out.alloc HW0.out.size _)
        have HW3 : Hid (Below w.heap.size w ((wr.alloc (.cells #[.int .i64 (k : Int), .int .u8 (o : Int), .int .i64 (v : Int), .int .i64 0] 36)).alloc (.cells #[.int .i64 (k : Int), .int .u8 (o : Int), .int .i64 (v : Int), .int .i64 0] 36))) := Lib.hid (HW2.out.alloc HW2.out.size _)
        have HG3 := Lib.hid ((HG0.out.alloc RawD.cells_len (.cells #[.int .i64 (k : Int), .int .u8 (o : Int), .int .i64 (v : Int), .int .i64 0] 36)).alloc RawD.cells_len (.cells #[.int .i64 (k : Int), .int .u8 (o : Int), .int .i64 (v : Int), .int .i64 0] 36))
        have HX : Hid (RawSl ((wr.alloc (.cells #[.int .i64 (k : Int), .int .u8 (o : Int), .int .i64 (v : Int), .int .i64 0] 36)).alloc (.cells #[.int .i64 (k : Int), .int .u8 (o : Int), .int .i64 (v : Int), .int .i64 0] 36)) (some ⟨wr.heap.size + 1, 0, none⟩) 1 1 [(⟨(k : Int), o, (v : Int), 0⟩ : RawD)]) := Lib.hid (by
          have h := raw_lit (⟨(k : Int), o, (v : Int), 0⟩ : RawD) (wr.alloc (.cells #[.int .i64 (k : Int), .int .u8 (o : Int), .int .i64 (v : Int), .int .i64 0] 36))
          rwa [show (wr.alloc (.cells #[.int .i64 (k : Int), .int .u8 (o : Int), .int .i64 (v : Int), .int .i64 0] 36)).heap.size = wr.heap.size + 1 by simp] at h)
        go_wp2_with (at_builtin; refine wpList_append_raw rfl (.tmp 95) (.tmp 97) rfl w.heap.size B m c l rfl HG3.out (some ⟨wr.heap.size + 1, 0, none⟩) 1 1 [(⟨(k : Int), o, (v : Int), 0⟩ : RawD)] rfl HX.out (fun h => by cases h) (by omega) HW3.out.size ?_; intro B5 c5 w5 hg5 hgr5 hr5; have HG5 := Lib.hid hg5; have HW5 : Hid (Below w.heap.size w w5) := Lib.hid (below_gotR (base := w.heap.size) HW3.out HW3.out.size hgr5 hr5 (Nat.le_refl _)); clear hg5 hgr5 hr5)
        go_roundw
        case rel => exact ⟨k + 2, m + 1, c5, B5, l ++ [(⟨(k : Int), o, (v : Int), 0⟩ : RawD)], by omega, by omega, rfl, by go_num, HG5.out, HNx.out, HW5.out⟩
        case measure => simp [intOf]; omega
      · have hs2 : ¬ n - k < 2 := hs
        have hd : decide ((n : Int) - (k : Int) < 2) = false := by simp; omega
        have hx2 := Hxl.out
        have HLen2 : Hid (∀ W, Calls Tryd.prog 11 #[.int .u8 (o : Int)] W fun e w' => e = .returned (.int .i64 2) ∧ W = w') := HLen
        have HFm2 : Hid (∀ W, Calls Tryd.prog 9 #[.int .u8 (o : Int)] W fun e w' => e = .returned (.int .i64 3) ∧ W = w') := HFm
        have HW1 : Hid (Below w.heap.size w (wr.alloc (.cells #[.int .i64 (k : Int), .int .u8 (o : Int), .int .i64 0, .int .i64 0] 36))) := Lib.hid (HW0.out.alloc HW0.out.size _)
        obtain ⟨v, hv⟩ : ∃ v, v = getV ((xs.drop (k + 1)).take 1) := ⟨_, rfl⟩
        have hvb : v ≤ 255 := by rw [hv]; have := get1 xs k (by omega); omega
        have HGs : Hid (∀ W, Below w.heap.size w W → Calls Tryd.prog 21 #[.slice (some ad) n cap, .int .i64 ((k : Int) + 1), .int .i64 1] W fun e w' => e = .returned (.tuple #[.int .u64 (v : Int), .int .i64 0]) ∧ W = w') := Lib.hid (fun W h => by rw [hv]; exact HGt.out W 1 h (by omega) (by omega) (by omega))
        obtain ⟨s, hsg⟩ : ∃ s, s = sgn v 1 := ⟨_, rfl⟩
        have hsb := sgn1_bd v
        rw [← hsg] at hsb
        have HSg : Hid (∀ W, Calls Tryd.prog 22 #[.int .u64 (v : Int), .int .i64 1] W fun e w' => e = .returned (.int .i64 s) ∧ W = w') := Lib.hid (fun W => by rw [hsg]; exact refSign_yes v 1 W (by omega) (by omega) (by omega))
        have HRR : Hid (readR xs k = (⟨(k : Int), o, s, 0⟩ : RawD)) := Lib.hid (by rw [HR.out, aN_3 xs k, bW_0 xs k 3 (by omega) (by omega), ← hv, ← hsg])
        have HNx : Hid (Cuts xs (k + 2) (l ++ [(⟨(k : Int), o, s, 0⟩ : RawD)]) E' l') := Lib.hid (by
          have h := HCu.out.2 (by rw [HE.out]; exact readE_ok xs k 3 (by omega) (by omega) (by rw [hx2]; exact hs))
          rw [HRR.out] at h
          exact h)
        clear HLen HFm hs h0 hf9 HE HR HCu HGt HRR hv hsg hx2
        go_wp2_with fail
        refine (HLen2.out _).mono ?_
        rintro e1 w1 ⟨rfl, rfl⟩
        go_wp2_with fail
        refine (HGs.out _ HW1.out).mono ?_
        rintro e2 w2 ⟨rfl, rfl⟩
        go_wp2_with fail
        refine (HFm2.out _).mono ?_
        rintro e3 w3 ⟨rfl, rfl⟩
        go_wp2_with fail
        refine (HSg.out _).mono ?_
        rintro e4 w4 ⟨rfl, rfl⟩
        go_wp2_with fail
        refine (HFm2.out _).mono ?_
        rintro e5 w5 ⟨rfl, rfl⟩
        have HW2 : Hid (Below w.heap.size w (wr.alloc (.cells #[.int .i64 (k : Int), .int .u8 (o : Int), .int .i64 s, .int .i64 0] 36))) := Lib.hid (HW0.out.alloc HW0.out.size _)
        have HW3 : Hid (Below w.heap.size w ((wr.alloc (.cells #[.int .i64 (k : Int), .int .u8 (o : Int), .int .i64 s, .int .i64 0] 36)).alloc (.cells #[.int .i64 (k : Int), .int .u8 (o : Int), .int .i64 s, .int .i64 0] 36))) := Lib.hid (HW2.out.alloc HW2.out.size _)
        have HG3 := Lib.hid ((HG0.out.alloc RawD.cells_len (.cells #[.int .i64 (k : Int), .int .u8 (o : Int), .int .i64 s, .int .i64 0] 36)).alloc RawD.cells_len (.cells #[.int .i64 (k : Int), .int .u8 (o : Int), .int .i64 s, .int .i64 0] 36))
        have HX : Hid (RawSl ((wr.alloc (.cells #[.int .i64 (k : Int), .int .u8 (o : Int), .int .i64 s, .int .i64 0] 36)).alloc (.cells #[.int .i64 (k : Int), .int .u8 (o : Int), .int .i64 s, .int .i64 0] 36)) (some ⟨wr.heap.size + 1, 0, none⟩) 1 1 [(⟨(k : Int), o, s, 0⟩ : RawD)]) := Lib.hid (by
          have h := raw_lit (⟨(k : Int), o, s, 0⟩ : RawD) (wr.alloc (.cells #[.int .i64 (k : Int), .int .u8 (o : Int), .int .i64 s, .int .i64 0] 36))
          rwa [show (wr.alloc (.cells #[.int .i64 (k : Int), .int .u8 (o : Int), .int .i64 s, .int .i64 0] 36)).heap.size = wr.heap.size + 1 by simp] at h)
        go_wp2_with (at_builtin; refine wpList_append_raw rfl (.tmp 95) (.tmp 97) rfl w.heap.size B m c l rfl HG3.out (some ⟨wr.heap.size + 1, 0, none⟩) 1 1 [(⟨(k : Int), o, s, 0⟩ : RawD)] rfl HX.out (fun h => by cases h) (by omega) HW3.out.size ?_; intro B5 c5 w5 hg5 hgr5 hr5; have HG5 := Lib.hid hg5; have HW5 : Hid (Below w.heap.size w w5) := Lib.hid (below_gotR (base := w.heap.size) HW3.out HW3.out.size hgr5 hr5 (Nat.le_refl _)); clear hg5 hgr5 hr5)
        go_roundw
        case rel => exact ⟨k + 2, m + 1, c5, B5, l ++ [(⟨(k : Int), o, s, 0⟩ : RawD)], by omega, by omega, rfl, by go_num, HG5.out, HNx.out, HW5.out⟩
        case measure => simp [intOf]; omega
      · have hs2 : ¬ n - k < 3 := hs
        have hd : decide ((n : Int) - (k : Int) < 3) = false := by simp; omega
        have hx2 := Hxl.out
        have HLen2 : Hid (∀ W, Calls Tryd.prog 11 #[.int .u8 (o : Int)] W fun e w' => e = .returned (.int .i64 3) ∧ W = w') := HLen
        have HFm2 : Hid (∀ W, Calls Tryd.prog 9 #[.int .u8 (o : Int)] W fun e w' => e = .returned (.int .i64 4) ∧ W = w') := HFm
        have HW1 : Hid (Below w.heap.size w (wr.alloc (.cells #[.int .i64 (k : Int), .int .u8 (o : Int), .int .i64 0, .int .i64 0] 36))) := Lib.hid (HW0.out.alloc HW0.out.size _)
        obtain ⟨v, hv⟩ : ∃ v, v = getV ((xs.drop (k + 1)).take 2) := ⟨_, rfl⟩
        have hvb : v ≤ 65535 := by rw [hv]; have := get2 xs k (by omega); omega
        have HGs : Hid (∀ W, Below w.heap.size w W → Calls Tryd.prog 21 #[.slice (some ad) n cap, .int .i64 ((k : Int) + 1), .int .i64 2] W fun e w' => e = .returned (.tuple #[.int .u64 (v : Int), .int .i64 0]) ∧ W = w') := Lib.hid (fun W h => by rw [hv]; exact HGt.out W 2 h (by omega) (by omega) (by omega))
        obtain ⟨s, hsg⟩ : ∃ s, s = sgn v 2 := ⟨_, rfl⟩
        have hsb := sgn2_bd v
        rw [← hsg] at hsb
        have HSg : Hid (∀ W, Calls Tryd.prog 22 #[.int .u64 (v : Int), .int .i64 2] W fun e w' => e = .returned (.int .i64 s) ∧ W = w') := Lib.hid (fun W => by rw [hsg]; exact refSign_yes v 2 W (by omega) (by omega) (by omega))
        have HRR : Hid (readR xs k = (⟨(k : Int), o, s, 0⟩ : RawD)) := Lib.hid (by rw [HR.out, aN_4 xs k, bW_0 xs k 4 (by omega) (by omega), ← hv, ← hsg])
        have HNx : Hid (Cuts xs (k + 3) (l ++ [(⟨(k : Int), o, s, 0⟩ : RawD)]) E' l') := Lib.hid (by
          have h := HCu.out.2 (by rw [HE.out]; exact readE_ok xs k 4 (by omega) (by omega) (by rw [hx2]; exact hs))
          rw [HRR.out] at h
          exact h)
        clear HLen HFm hs h0 hf9 HE HR HCu HGt HRR hv hsg hx2
        go_wp2_with fail
        refine (HLen2.out _).mono ?_
        rintro e1 w1 ⟨rfl, rfl⟩
        go_wp2_with fail
        refine (HGs.out _ HW1.out).mono ?_
        rintro e2 w2 ⟨rfl, rfl⟩
        go_wp2_with fail
        refine (HFm2.out _).mono ?_
        rintro e3 w3 ⟨rfl, rfl⟩
        go_wp2_with fail
        refine (HSg.out _).mono ?_
        rintro e4 w4 ⟨rfl, rfl⟩
        go_wp2_with fail
        refine (HFm2.out _).mono ?_
        rintro e5 w5 ⟨rfl, rfl⟩
        have HW2 : Hid (Below w.heap.size w (wr.alloc (.cells #[.int .i64 (k : Int), .int .u8 (o : Int), .int .i64 s, .int .i64 0] 36))) := Lib.hid (HW0.out.alloc HW0.out.size _)
        have HW3 : Hid (Below w.heap.size w ((wr.alloc (.cells #[.int .i64 (k : Int), .int .u8 (o : Int), .int .i64 s, .int .i64 0] 36)).alloc (.cells #[.int .i64 (k : Int), .int .u8 (o : Int), .int .i64 s, .int .i64 0] 36))) := Lib.hid (HW2.out.alloc HW2.out.size _)
        have HG3 := Lib.hid ((HG0.out.alloc RawD.cells_len (.cells #[.int .i64 (k : Int), .int .u8 (o : Int), .int .i64 s, .int .i64 0] 36)).alloc RawD.cells_len (.cells #[.int .i64 (k : Int), .int .u8 (o : Int), .int .i64 s, .int .i64 0] 36))
        have HX : Hid (RawSl ((wr.alloc (.cells #[.int .i64 (k : Int), .int .u8 (o : Int), .int .i64 s, .int .i64 0] 36)).alloc (.cells #[.int .i64 (k : Int), .int .u8 (o : Int), .int .i64 s, .int .i64 0] 36)) (some ⟨wr.heap.size + 1, 0, none⟩) 1 1 [(⟨(k : Int), o, s, 0⟩ : RawD)]) := Lib.hid (by
          have h := raw_lit (⟨(k : Int), o, s, 0⟩ : RawD) (wr.alloc (.cells #[.int .i64 (k : Int), .int .u8 (o : Int), .int .i64 s, .int .i64 0] 36))
          rwa [show (wr.alloc (.cells #[.int .i64 (k : Int), .int .u8 (o : Int), .int .i64 s, .int .i64 0] 36)).heap.size = wr.heap.size + 1 by simp] at h)
        go_wp2_with (at_builtin; refine wpList_append_raw rfl (.tmp 95) (.tmp 97) rfl w.heap.size B m c l rfl HG3.out (some ⟨wr.heap.size + 1, 0, none⟩) 1 1 [(⟨(k : Int), o, s, 0⟩ : RawD)] rfl HX.out (fun h => by cases h) (by omega) HW3.out.size ?_; intro B5 c5 w5 hg5 hgr5 hr5; have HG5 := Lib.hid hg5; have HW5 : Hid (Below w.heap.size w w5) := Lib.hid (below_gotR (base := w.heap.size) HW3.out HW3.out.size hgr5 hr5 (Nat.le_refl _)); clear hg5 hgr5 hr5)
        go_roundw
        case rel => exact ⟨k + 3, m + 1, c5, B5, l ++ [(⟨(k : Int), o, s, 0⟩ : RawD)], by omega, by omega, rfl, by go_num, HG5.out, HNx.out, HW5.out⟩
        case measure => simp [intOf]; omega
      · have hs2 : ¬ n - k < 2 := hs
        have hd : decide ((n : Int) - (k : Int) < 2) = false := by simp; omega
        have hx2 := Hxl.out
        have HLen2 : Hid (∀ W, Calls Tryd.prog 11 #[.int .u8 (o : Int)] W fun e w' => e = .returned (.int .i64 2) ∧ W = w') := HLen
        have HFm2 : Hid (∀ W, Calls Tryd.prog 9 #[.int .u8 (o : Int)] W fun e w' => e = .returned (.int .i64 5) ∧ W = w') := HFm
        have HW1 : Hid (Below w.heap.size w (wr.alloc (.cells #[.int .i64 (k : Int), .int .u8 (o : Int), .int .i64 0, .int .i64 0] 36))) := Lib.hid (HW0.out.alloc HW0.out.size _)
        obtain ⟨v, hv⟩ : ∃ v, v = getV ((xs.drop (k + 1)).take 1) := ⟨_, rfl⟩
        have hvb : v ≤ 255 := by rw [hv]; have := get1 xs k (by omega); omega
        have HGs : Hid (∀ W, Below w.heap.size w W → Calls Tryd.prog 21 #[.slice (some ad) n cap, .int .i64 ((k : Int) + 1), .int .i64 1] W fun e w' => e = .returned (.tuple #[.int .u64 (v : Int), .int .i64 0]) ∧ W = w') := Lib.hid (fun W h => by rw [hv]; exact HGt.out W 1 h (by omega) (by omega) (by omega))
        have HRR : Hid (readR xs k = (⟨(k : Int), o, (v : Int), 0⟩ : RawD)) := Lib.hid (by rw [HR.out, aN_small xs k 5 (.inr (.inl rfl)) (by omega), bW_0 xs k 5 (by omega) (by omega), ← hv])
        have HNx : Hid (Cuts xs (k + 2) (l ++ [(⟨(k : Int), o, (v : Int), 0⟩ : RawD)]) E' l') := Lib.hid (by
          have h := HCu.out.2 (by rw [HE.out]; exact readE_ok xs k 5 (by omega) (by omega) (by rw [hx2]; exact hs))
          rw [HRR.out] at h
          exact h)
        clear HLen HFm hs h0 hf9 HE HR HCu HGt HRR hv hx2
        go_wp2_with fail
        refine (HLen2.out _).mono ?_
        rintro e1 w1 ⟨rfl, rfl⟩
        go_wp2_with fail
        refine (HGs.out _ HW1.out).mono ?_
        rintro e2 w2 ⟨rfl, rfl⟩
        go_wp2_with fail
        refine (HFm2.out _).mono ?_
        rintro e3 w3 ⟨rfl, rfl⟩
        go_wp2_with fail
        refine (HFm2.out _).mono ?_
        rintro e5 w5 ⟨rfl, rfl⟩
        have HW2 : Hid (Below w.heap.size w (wr.alloc (.cells #[.int .i64 (k : Int), .int .u8 (o : Int), .int .i64 (v : Int), .int .i64 0] 36))) := Lib.hid (HW0.out.alloc HW0.out.size _)
        have HW3 : Hid (Below w.heap.size w ((wr.alloc (.cells #[.int .i64 (k : Int), .int .u8 (o : Int), .int .i64 (v : Int), .int .i64 0] 36)).alloc (.cells #[.int .i64 (k : Int), .int .u8 (o : Int), .int .i64 (v : Int), .int .i64 0] 36))) := Lib.hid (HW2.out.alloc HW2.out.size _)
        have HG3 := Lib.hid ((HG0.out.alloc RawD.cells_len (.cells #[.int .i64 (k : Int), .int .u8 (o : Int), .int .i64 (v : Int), .int .i64 0] 36)).alloc RawD.cells_len (.cells #[.int .i64 (k : Int), .int .u8 (o : Int), .int .i64 (v : Int), .int .i64 0] 36))
        have HX : Hid (RawSl ((wr.alloc (.cells #[.int .i64 (k : Int), .int .u8 (o : Int), .int .i64 (v : Int), .int .i64 0] 36)).alloc (.cells #[.int .i64 (k : Int), .int .u8 (o : Int), .int .i64 (v : Int), .int .i64 0] 36)) (some ⟨wr.heap.size + 1, 0, none⟩) 1 1 [(⟨(k : Int), o, (v : Int), 0⟩ : RawD)]) := Lib.hid (by
          have h := raw_lit (⟨(k : Int), o, (v : Int), 0⟩ : RawD) (wr.alloc (.cells #[.int .i64 (k : Int), .int .u8 (o : Int), .int .i64 (v : Int), .int .i64 0] 36))
          rwa [show (wr.alloc (.cells #[.int .i64 (k : Int), .int .u8 (o : Int), .int .i64 (v : Int), .int .i64 0] 36)).heap.size = wr.heap.size + 1 by simp] at h)
        go_wp2_with (at_builtin; refine wpList_append_raw rfl (.tmp 95) (.tmp 97) rfl w.heap.size B m c l rfl HG3.out (some ⟨wr.heap.size + 1, 0, none⟩) 1 1 [(⟨(k : Int), o, (v : Int), 0⟩ : RawD)] rfl HX.out (fun h => by cases h) (by omega) HW3.out.size ?_; intro B5 c5 w5 hg5 hgr5 hr5; have HG5 := Lib.hid hg5; have HW5 : Hid (Below w.heap.size w w5) := Lib.hid (below_gotR (base := w.heap.size) HW3.out HW3.out.size hgr5 hr5 (Nat.le_refl _)); clear hg5 hgr5 hr5)
        go_roundw
        case rel => exact ⟨k + 2, m + 1, c5, B5, l ++ [(⟨(k : Int), o, (v : Int), 0⟩ : RawD)], by omega, by omega, rfl, by go_num, HG5.out, HNx.out, HW5.out⟩
        case measure => simp [intOf]; omega
      · have hs2 : ¬ n - k < 3 := hs
        have hd : decide ((n : Int) - (k : Int) < 3) = false := by simp; omega
        have hx2 := Hxl.out
        have HLen2 : Hid (∀ W, Calls Tryd.prog 11 #[.int .u8 (o : Int)] W fun e w' => e = .returned (.int .i64 3) ∧ W = w') := HLen
        have HFm2 : Hid (∀ W, Calls Tryd.prog 9 #[.int .u8 (o : Int)] W fun e w' => e = .returned (.int .i64 6) ∧ W = w') := HFm
        have HW1 : Hid (Below w.heap.size w (wr.alloc (.cells #[.int .i64 (k : Int), .int .u8 (o : Int), .int .i64 0, .int .i64 0] 36))) := Lib.hid (HW0.out.alloc HW0.out.size _)
        obtain ⟨v, hv⟩ : ∃ v, v = getV ((xs.drop (k + 1)).take 2) := ⟨_, rfl⟩
        have hvb : v ≤ 65535 := by rw [hv]; have := get2 xs k (by omega); omega
        have HGs : Hid (∀ W, Below w.heap.size w W → Calls Tryd.prog 21 #[.slice (some ad) n cap, .int .i64 ((k : Int) + 1), .int .i64 2] W fun e w' => e = .returned (.tuple #[.int .u64 (v : Int), .int .i64 0]) ∧ W = w') := Lib.hid (fun W h => by rw [hv]; exact HGt.out W 2 h (by omega) (by omega) (by omega))
        have HRR : Hid (readR xs k = (⟨(k : Int), o, (v : Int), 0⟩ : RawD)) := Lib.hid (by rw [HR.out, aN_6 xs k (by omega), bW_0 xs k 6 (by omega) (by omega), ← hv])
        have HNx : Hid (Cuts xs (k + 3) (l ++ [(⟨(k : Int), o, (v : Int), 0⟩ : RawD)]) E' l') := Lib.hid (by
          have h := HCu.out.2 (by rw [HE.out]; exact readE_ok xs k 6 (by omega) (by omega) (by rw [hx2]; exact hs))
          rw [HRR.out] at h
          exact h)
        clear HLen HFm hs h0 hf9 HE HR HCu HGt HRR hv hx2
        go_wp2_with fail
        refine (HLen2.out _).mono ?_
        rintro e1 w1 ⟨rfl, rfl⟩
        go_wp2_with fail
        refine (HGs.out _ HW1.out).mono ?_
        rintro e2 w2 ⟨rfl, rfl⟩
        go_wp2_with fail
        refine (HFm2.out _).mono ?_
        rintro e3 w3 ⟨rfl, rfl⟩
        go_wp2_with fail
        refine (HFm2.out _).mono ?_
        rintro e5 w5 ⟨rfl, rfl⟩
        have HW2 : Hid (Below w.heap.size w (wr.alloc (.cells #[.int .i64 (k : Int), .int .u8 (o : Int), .int .i64 (v : Int), .int .i64 0] 36))) := Lib.hid (HW0.out.alloc HW0.out.size _)
        have HW3 : Hid (Below w.heap.size w ((wr.alloc (.cells #[.int .i64 (k : Int), .int .u8 (o : Int), .int .i64 (v : Int), .int .i64 0] 36)).alloc (.cells #[.int .i64 (k : Int), .int .u8 (o : Int), .int .i64 (v : Int), .int .i64 0] 36))) := Lib.hid (HW2.out.alloc HW2.out.size _)
        have HG3 := Lib.hid ((HG0.out.alloc RawD.cells_len (.cells #[.int .i64 (k : Int), .int .u8 (o : Int), .int .i64 (v : Int), .int .i64 0] 36)).alloc RawD.cells_len (.cells #[.int .i64 (k : Int), .int .u8 (o : Int), .int .i64 (v : Int), .int .i64 0] 36))
        have HX : Hid (RawSl ((wr.alloc (.cells #[.int .i64 (k : Int), .int .u8 (o : Int), .int .i64 (v : Int), .int .i64 0] 36)).alloc (.cells #[.int .i64 (k : Int), .int .u8 (o : Int), .int .i64 (v : Int), .int .i64 0] 36)) (some ⟨wr.heap.size + 1, 0, none⟩) 1 1 [(⟨(k : Int), o, (v : Int), 0⟩ : RawD)]) := Lib.hid (by
          have h := raw_lit (⟨(k : Int), o, (v : Int), 0⟩ : RawD) (wr.alloc (.cells #[.int .i64 (k : Int), .int .u8 (o : Int), .int .i64 (v : Int), .int .i64 0] 36))
          rwa [show (wr.alloc (.cells #[.int .i64 (k : Int), .int .u8 (o : Int), .int .i64 (v : Int), .int .i64 0] 36)).heap.size = wr.heap.size + 1 by simp] at h)
        go_wp2_with (at_builtin; refine wpList_append_raw rfl (.tmp 95) (.tmp 97) rfl w.heap.size B m c l rfl HG3.out (some ⟨wr.heap.size + 1, 0, none⟩) 1 1 [(⟨(k : Int), o, (v : Int), 0⟩ : RawD)] rfl HX.out (fun h => by cases h) (by omega) HW3.out.size ?_; intro B5 c5 w5 hg5 hgr5 hr5; have HG5 := Lib.hid hg5; have HW5 : Hid (Below w.heap.size w w5) := Lib.hid (below_gotR (base := w.heap.size) HW3.out HW3.out.size hgr5 hr5 (Nat.le_refl _)); clear hg5 hgr5 hr5)
        go_roundw
        case rel => exact ⟨k + 3, m + 1, c5, B5, l ++ [(⟨(k : Int), o, (v : Int), 0⟩ : RawD)], by omega, by omega, rfl, by go_num, HG5.out, HNx.out, HW5.out⟩
        case measure => simp [intOf]; omega
      · have hs2 : ¬ n - k < 3 := hs
        have hd : decide ((n : Int) - (k : Int) < 3) = false := by simp; omega
        have hx2 := Hxl.out
        have HLen2 : Hid (∀ W, Calls Tryd.prog 11 #[.int .u8 (o : Int)] W fun e w' => e = .returned (.int .i64 3) ∧ W = w') := HLen
        have HFm2 : Hid (∀ W, Calls Tryd.prog 9 #[.int .u8 (o : Int)] W fun e w' => e = .returned (.int .i64 7) ∧ W = w') := HFm
        have HW1 : Hid (Below w.heap.size w (wr.alloc (.cells #[.int .i64 (k : Int), .int .u8 (o : Int), .int .i64 0, .int .i64 0] 36))) := Lib.hid (HW0.out.alloc HW0.out.size _)
        obtain ⟨v, hv⟩ : ∃ v, v = getV ((xs.drop (k + 1)).take 2) := ⟨_, rfl⟩
        have hvb : v ≤ 65535 := by rw [hv]; have := get2 xs k (by omega); omega
        have HGs : Hid (∀ W, Below w.heap.size w W → Calls Tryd.prog 21 #[.slice (some ad) n cap, .int .i64 ((k : Int) + 1), .int .i64 2] W fun e w' => e = .returned (.tuple #[.int .u64 (v : Int), .int .i64 0]) ∧ W = w') := Lib.hid (fun W h => by rw [hv]; exact HGt.out W 2 h (by omega) (by omega) (by omega))
        obtain ⟨s, hsg⟩ : ∃ s, s = sgn v 2 := ⟨_, rfl⟩
        have hsb := sgn2_bd v
        rw [← hsg] at hsb
        have HSg : Hid (∀ W, Calls Tryd.prog 22 #[.int .u64 (v : Int), .int .i64 2] W fun e w' => e = .returned (.int .i64 s) ∧ W = w') := Lib.hid (fun W => by rw [hsg]; exact refSign_yes v 2 W (by omega) (by omega) (by omega))
        have HRR : Hid (readR xs k = (⟨(k : Int), o, ((k : Int) + s), 0⟩ : RawD)) := Lib.hid (by rw [HR.out, aN_7 xs k, bW_0 xs k 7 (by omega) (by omega), ← hv, ← hsg])
        have HNx : Hid (Cuts xs (k + 3) (l ++ [(⟨(k : Int), o, ((k : Int) + s), 0⟩ : RawD)]) E' l') := Lib.hid (by
          have h := HCu.out.2 (by rw [HE.out]; exact readE_ok xs k 7 (by omega) (by omega) (by rw [hx2]; exact hs))
          rw [HRR.out] at h
          exact h)
        clear HLen HFm hs h0 hf9 HE HR HCu HGt HRR hv hsg hx2
        go_wp2_with fail
        refine (HLen2.out _).mono ?_
        rintro e1 w1 ⟨rfl, rfl⟩
        go_wp2_with fail
        refine (HGs.out _ HW1.out).mono ?_
        rintro e2 w2 ⟨rfl, rfl⟩
        go_wp2_with fail
        refine (HFm2.out _).mono ?_
        rintro e3 w3 ⟨rfl, rfl⟩
        go_wp2_with fail
        refine (HSg.out _).mono ?_
        rintro e4 w4 ⟨rfl, rfl⟩
        go_wp2_with fail
        refine (HFm2.out _).mono ?_
        rintro e5 w5 ⟨rfl, rfl⟩
        have HW2 : Hid (Below w.heap.size w (wr.alloc (.cells #[.int .i64 (k : Int), .int .u8 (o : Int), .int .i64 ((k : Int) + s), .int .i64 0] 36))) := Lib.hid (HW0.out.alloc HW0.out.size _)
        have HW3 : Hid (Below w.heap.size w ((wr.alloc (.cells #[.int .i64 (k : Int), .int .u8 (o : Int), .int .i64 ((k : Int) + s), .int .i64 0] 36)).alloc (.cells #[.int .i64 (k : Int), .int .u8 (o : Int), .int .i64 ((k : Int) + s), .int .i64 0] 36))) := Lib.hid (HW2.out.alloc HW2.out.size _)
        have HG3 := Lib.hid ((HG0.out.alloc RawD.cells_len (.cells #[.int .i64 (k : Int), .int .u8 (o : Int), .int .i64 ((k : Int) + s), .int .i64 0] 36)).alloc RawD.cells_len (.cells #[.int .i64 (k : Int), .int .u8 (o : Int), .int .i64 ((k : Int) + s), .int .i64 0] 36))
        have HX : Hid (RawSl ((wr.alloc (.cells #[.int .i64 (k : Int), .int .u8 (o : Int), .int .i64 ((k : Int) + s), .int .i64 0] 36)).alloc (.cells #[.int .i64 (k : Int), .int .u8 (o : Int), .int .i64 ((k : Int) + s), .int .i64 0] 36)) (some ⟨wr.heap.size + 1, 0, none⟩) 1 1 [(⟨(k : Int), o, ((k : Int) + s), 0⟩ : RawD)]) := Lib.hid (by
          have h := raw_lit (⟨(k : Int), o, ((k : Int) + s), 0⟩ : RawD) (wr.alloc (.cells #[.int .i64 (k : Int), .int .u8 (o : Int), .int .i64 ((k : Int) + s), .int .i64 0] 36))
          rwa [show (wr.alloc (.cells #[.int .i64 (k : Int), .int .u8 (o : Int), .int .i64 ((k : Int) + s), .int .i64 0] 36)).heap.size = wr.heap.size + 1 by simp] at h)
        go_wp2_with (at_builtin; refine wpList_append_raw rfl (.tmp 95) (.tmp 97) rfl w.heap.size B m c l rfl HG3.out (some ⟨wr.heap.size + 1, 0, none⟩) 1 1 [(⟨(k : Int), o, ((k : Int) + s), 0⟩ : RawD)] rfl HX.out (fun h => by cases h) (by omega) HW3.out.size ?_; intro B5 c5 w5 hg5 hgr5 hr5; have HG5 := Lib.hid hg5; have HW5 : Hid (Below w.heap.size w w5) := Lib.hid (below_gotR (base := w.heap.size) HW3.out HW3.out.size hgr5 hr5 (Nat.le_refl _)); clear hg5 hgr5 hr5)
        go_roundw
        case rel => exact ⟨k + 3, m + 1, c5, B5, l ++ [(⟨(k : Int), o, ((k : Int) + s), 0⟩ : RawD)], by omega, by omega, rfl, by go_num, HG5.out, HNx.out, HW5.out⟩
        case measure => simp [intOf]; omega
      · have hs2 : ¬ n - k < 3 := hs
        have hd : decide ((n : Int) - (k : Int) < 3) = false := by simp; omega
        have hx2 := Hxl.out
        have HLen2 : Hid (∀ W, Calls Tryd.prog 11 #[.int .u8 (o : Int)] W fun e w' => e = .returned (.int .i64 3) ∧ W = w') := HLen
        have HFm2 : Hid (∀ W, Calls Tryd.prog 9 #[.int .u8 (o : Int)] W fun e w' => e = .returned (.int .i64 8) ∧ W = w') := HFm
        have HW1 : Hid (Below w.heap.size w (wr.alloc (.cells #[.int .i64 (k : Int), .int .u8 (o : Int), .int .i64 0, .int .i64 0] 36))) := Lib.hid (HW0.out.alloc HW0.out.size _)
        obtain ⟨v, hv⟩ : ∃ v, v = getV ((xs.drop (k + 1)).take 2) := ⟨_, rfl⟩
        have hvb : v ≤ 65535 := by rw [hv]; have := get2 xs k (by omega); omega
        have HGs : Hid (∀ W, Below w.heap.size w W → Calls Tryd.prog 21 #[.slice (some ad) n cap, .int .i64 ((k : Int) + 1), .int .i64 2] W fun e w' => e = .returned (.tuple #[.int .u64 (v : Int), .int .i64 0]) ∧ W = w') := Lib.hid (fun W h => by rw [hv]; exact HGt.out W 2 h (by omega) (by omega) (by omega))
        obtain ⟨s, hsg⟩ : ∃ s, s = sgn v 1 := ⟨_, rfl⟩
        have hsb := sgn1_bd v
        rw [← hsg] at hsb
        have HSg : Hid (∀ W, Calls Tryd.prog 22 #[.int .u64 (v : Int), .int .i64 1] W fun e w' => e = .returned (.int .i64 s) ∧ W = w') := Lib.hid (fun W => by rw [hsg]; exact refSign_yes v 1 W (by omega) (by omega) (by omega))
        have HRR : Hid (readR xs k = (⟨(k : Int), o, ((v : Int) / 256), s⟩ : RawD)) := Lib.hid (by rw [HR.out, aN_8 xs k (by omega), bW_8 xs k (by omega), ← hv, ← hsg])
        have HNx : Hid (Cuts xs (k + 3) (l ++ [(⟨(k : Int), o, ((v : Int) / 256), s⟩ : RawD)]) E' l') := Lib.hid (by
          have h := HCu.out.2 (by rw [HE.out]; exact readE_ok xs k 8 (by omega) (by omega) (by rw [hx2]; exact hs))
          rw [HRR.out] at h
          exact h)
        clear HLen HFm hs h0 hf9 HE HR HCu HGt HRR hv hsg hx2
        go_wp2_with fail
        refine (HLen2.out _).mono ?_
        rintro e1 w1 ⟨rfl, rfl⟩
        go_wp2_with fail
        refine (HGs.out _ HW1.out).mono ?_
        rintro e2 w2 ⟨rfl, rfl⟩
        go_wp2_with fail
        refine (HFm2.out _).mono ?_
        rintro e3 w3 ⟨rfl, rfl⟩
        go_wp2_with fail
        refine (HSg.out _).mono ?_
        rintro e4 w4 ⟨rfl, rfl⟩
        go_wp2_with fail
        refine (HFm2.out _).mono ?_
        rintro e5 w5 ⟨rfl, rfl⟩
        have HW2 : Hid (Below w.heap.size w (wr.alloc (.cells #[.int .i64 (k : Int), .int .u8 (o : Int), .int .i64 ((v : Int) / 256), .int .i64 s] 36))) := Lib.hid (HW0.out.alloc HW0.out.size _)
        have HW3 : Hid (Below w.heap.size w ((wr.alloc (.cells #[.int .i64 (k : Int), .int .u8 (o : Int), .int .i64 ((v : Int) / 256), .int .i64 s] 36)).alloc (.cells #[.int .i64 (k : Int), .int .u8 (o : Int), .int .i64 ((v : Int) / 256), .int .i64 s] 36))) := Lib.hid (HW2.out.alloc HW2.out.size _)
        have HG3 := Lib.hid ((HG0.out.alloc RawD.cells_len (.cells #[.int .i64 (k : Int), .int .u8 (o : Int), .int .i64 ((v : Int) / 256), .int .i64 s] 36)).alloc RawD.cells_len (.cells #[.int .i64 (k : Int), .int .u8 (o : Int), .int .i64 ((v : Int) / 256), .int .i64 s] 36))
        have HX : Hid (RawSl ((wr.alloc (.cells #[.int .i64 (k : Int), .int .u8 (o : Int), .int .i64 ((v : Int) / 256), .int .i64 s] 36)).alloc (.cells #[.int .i64 (k : Int), .int .u8 (o : Int), .int .i64 ((v : Int) / 256), .int .i64 s] 36)) (some ⟨wr.heap.size + 1, 0, none⟩) 1 1 [(⟨(k : Int), o, ((v : Int) / 256), s⟩ : RawD)]) := Lib.hid (by
          have h := raw_lit (⟨(k : Int), o, ((v : Int) / 256), s⟩ : RawD) (wr.alloc (.cells #[.int .i64 (k : Int), .int .u8 (o : Int), .int .i64 ((v : Int) / 256), .int .i64 s] 36))
          rwa [show (wr.alloc (.cells #[.int .i64 (k : Int), .int .u8 (o : Int), .int .i64 ((v : Int) / 256), .int .i64 s] 36)).heap.size = wr.heap.size + 1 by simp] at h)
        go_wp2_with (at_builtin; refine wpList_append_raw rfl (.tmp 95) (.tmp 97) rfl w.heap.size B m c l rfl HG3.out (some ⟨wr.heap.size + 1, 0, none⟩) 1 1 [(⟨(k : Int), o, ((v : Int) / 256), s⟩ : RawD)] rfl HX.out (fun h => by cases h) (by omega) HW3.out.size ?_; intro B5 c5 w5 hg5 hgr5 hr5; have HG5 := Lib.hid hg5; have HW5 : Hid (Below w.heap.size w w5) := Lib.hid (below_gotR (base := w.heap.size) HW3.out HW3.out.size hgr5 hr5 (Nat.le_refl _)); clear hg5 hgr5 hr5)
        go_roundw
        case rel => exact ⟨k + 3, m + 1, c5, B5, l ++ [(⟨(k : Int), o, ((v : Int) / 256), s⟩ : RawD)], by omega, by omega, rfl, by go_num, HG5.out, HNx.out, HW5.out⟩
        case measure => simp [intOf]; omega
      · have hs2 : ¬ n - k < 2 := hs
        have hd : decide ((n : Int) - (k : Int) < 2) = false := by simp; omega
        have hx2 := Hxl.out
        have HLen2 : Hid (∀ W, Calls Tryd.prog 11 #[.int .u8 (o : Int)] W fun e w' => e = .returned (.int .i64 2) ∧ W = w') := HLen
        have HFm2 : Hid (∀ W, Calls Tryd.prog 9 #[.int .u8 (o : Int)] W fun e w' => e = .returned (.int .i64 9) ∧ W = w') := HFm
        have HW1 : Hid (Below w.heap.size w (wr.alloc (.cells #[.int .i64 (k : Int), .int .u8 (o : Int), .int .i64 0, .int .i64 0] 36))) := Lib.hid (HW0.out.alloc HW0.out.size _)
        obtain ⟨v, hv⟩ : ∃ v, v = getV ((xs.drop (k + 1)).take 1) := ⟨_, rfl⟩
        have hvb : v ≤ 255 := by rw [hv]; have := get1 xs k (by omega); omega
        have HGs : Hid (∀ W, Below w.heap.size w W → Calls Tryd.prog 21 #[.slice (some ad) n cap, .int .i64 ((k : Int) + 1), .int .i64 1] W fun e w' => e = .returned (.tuple #[.int .u64 (v : Int), .int .i64 0]) ∧ W = w') := Lib.hid (fun W h => by rw [hv]; exact HGt.out W 1 h (by omega) (by omega) (by omega))
        have HRR : Hid (readR xs k = (⟨(k : Int), o, (v : Int), 0⟩ : RawD)) := Lib.hid (by rw [HR.out, aN_small xs k 9 (.inr (.inr rfl)) (by omega), bW_0 xs k 9 (by omega) (by omega), ← hv])
        have haw : aW 9 xs k = (v : Int) := by
          have h := aN_small xs k 9 (.inr (.inr rfl)) (by omega)
          rw [← hv] at h
          simpa [aN] using h
        by_cases hkd : v = 8 ∨ v = 10
        · have HNx : Hid (Cuts xs (k + 2) (l ++ [(⟨(k : Int), o, (v : Int), 0⟩ : RawD)]) E' l') := Lib.hid (by
            have h := HCu.out.2 (by rw [HE.out]; unfold readE'; rw [if_neg (by omega), if_neg (by rw [hx2]; exact hs), if_neg (fun h => h.2 (by rw [haw]; omega))])
            rw [HRR.out] at h
            exact h)
          clear HLen HFm hs h0 hf9 HE HR HCu HGt HRR hv hx2 haw
          rcases hkd with rfl | rfl
          · go_wp2_with fail
            refine (HLen2.out _).mono ?_
            rintro e1 w1 ⟨rfl, rfl⟩
            go_wp2_with fail
            refine (HGs.out _ HW1.out).mono ?_
            rintro e2 w2 ⟨rfl, rfl⟩
            go_wp2_with fail
            refine (HFm2.out _).mono ?_
            rintro e3 w3 ⟨rfl, rfl⟩
            go_wp2_with fail
            refine (HFm2.out _).mono ?_
            rintro e5 w5 ⟨rfl, rfl⟩
            have HW2 : Hid (Below w.heap.size w (wr.alloc (.cells #[.int .i64 (k : Int), .int .u8 (o : Int), .int .i64 (8 : Int), .int .i64 0] 36))) := Lib.hid (HW0.out.alloc HW0.out.size _)
            have HW3 : Hid (Below w.heap.size w ((wr.alloc (.cells #[.int .i64 (k : Int), .int .u8 (o : Int), .int .i64 (8 : Int), .int .i64 0] 36)).alloc (.cells #[.int .i64 (k : Int), .int .u8 (o : Int), .int .i64 (8 : Int), .int .i64 0] 36))) := Lib.hid (HW2.out.alloc HW2.out.size _)
            have HG3 := Lib.hid ((HG0.out.alloc RawD.cells_len (.cells #[.int .i64 (k : Int), .int .u8 (o : Int), .int .i64 (8 : Int), .int .i64 0] 36)).alloc RawD.cells_len (.cells #[.int .i64 (k : Int), .int .u8 (o : Int), .int .i64 (8 : Int), .int .i64 0] 36))
            have HX : Hid (RawSl ((wr.alloc (.cells #[.int .i64 (k : Int), .int .u8 (o : Int), .int .i64 (8 : Int), .int .i64 0] 36)).alloc (.cells #[.int .i64 (k : Int), .int .u8 (o : Int), .int .i64 (8 : Int), .int .i64 0] 36)) (some ⟨wr.heap.size + 1, 0, none⟩) 1 1 [(⟨(k : Int), o, (8 : Int), 0⟩ : RawD)]) := Lib.hid (by
              have h := raw_lit (⟨(k : Int), o, (8 : Int), 0⟩ : RawD) (wr.alloc (.cells #[.int .i64 (k : Int), .int .u8 (o : Int), .int .i64 (8 : Int), .int .i64 0] 36))
              rwa [show (wr.alloc (.cells #[.int .i64 (k : Int), .int .u8 (o : Int), .int .i64 (8 : Int), .int .i64 0] 36)).heap.size = wr.heap.size + 1 by simp] at h)
            go_wp2_with (at_builtin; refine wpList_append_raw rfl (.tmp 95) (.tmp 97) rfl w.heap.size B m c l rfl HG3.out (some ⟨wr.heap.size + 1, 0, none⟩) 1 1 [(⟨(k : Int), o, (8 : Int), 0⟩ : RawD)] rfl HX.out (fun h => by cases h) (by omega) HW3.out.size ?_; intro B5 c5 w5 hg5 hgr5 hr5; have HG5 := Lib.hid hg5; have HW5 : Hid (Below w.heap.size w w5) := Lib.hid (below_gotR (base := w.heap.size) HW3.out HW3.out.size hgr5 hr5 (Nat.le_refl _)); clear hg5 hgr5 hr5)
            go_roundw
            case rel => exact ⟨k + 2, m + 1, c5, B5, l ++ [(⟨(k : Int), o, (8 : Int), 0⟩ : RawD)], by omega, by omega, rfl, by go_num, HG5.out, HNx.out, HW5.out⟩
            case measure => simp [intOf]; omega
          · go_wp2_with fail
            refine (HLen2.out _).mono ?_
            rintro e1 w1 ⟨rfl, rfl⟩
            go_wp2_with fail
            refine (HGs.out _ HW1.out).mono ?_
            rintro e2 w2 ⟨rfl, rfl⟩
            go_wp2_with fail
            refine (HFm2.out _).mono ?_
            rintro e3 w3 ⟨rfl, rfl⟩
            go_wp2_with fail
            refine (HFm2.out _).mono ?_
            rintro e5 w5 ⟨rfl, rfl⟩
            have HW2 : Hid (Below w.heap.size w (wr.alloc (.cells #[.int .i64 (k : Int), .int .u8 (o : Int), .int .i64 (10 : Int), .int .i64 0] 36))) := Lib.hid (HW0.out.alloc HW0.out.size _)
            have HW3 : Hid (Below w.heap.size w ((wr.alloc (.cells #[.int .i64 (k : Int), .int .u8 (o : Int), .int .i64 (10 : Int), .int .i64 0] 36)).alloc (.cells #[.int .i64 (k : Int), .int .u8 (o : Int), .int .i64 (10 : Int), .int .i64 0] 36))) := Lib.hid (HW2.out.alloc HW2.out.size _)
            have HG3 := Lib.hid ((HG0.out.alloc RawD.cells_len (.cells #[.int .i64 (k : Int), .int .u8 (o : Int), .int .i64 (10 : Int), .int .i64 0] 36)).alloc RawD.cells_len (.cells #[.int .i64 (k : Int), .int .u8 (o : Int), .int .i64 (10 : Int), .int .i64 0] 36))
            have HX : Hid (RawSl ((wr.alloc (.cells #[.int .i64 (k : Int), .int .u8 (o : Int), .int .i64 (10 : Int), .int .i64 0] 36)).alloc (.cells #[.int .i64 (k : Int), .int .u8 (o : Int), .int .i64 (10 : Int), .int .i64 0] 36)) (some ⟨wr.heap.size + 1, 0, none⟩) 1 1 [(⟨(k : Int), o, (10 : Int), 0⟩ : RawD)]) := Lib.hid (by
              have h := raw_lit (⟨(k : Int), o, (10 : Int), 0⟩ : RawD) (wr.alloc (.cells #[.int .i64 (k : Int), .int .u8 (o : Int), .int .i64 (10 : Int), .int .i64 0] 36))
              rwa [show (wr.alloc (.cells #[.int .i64 (k : Int), .int .u8 (o : Int), .int .i64 (10 : Int), .int .i64 0] 36)).heap.size = wr.heap.size + 1 by simp] at h)
            go_wp2_with (at_builtin; refine wpList_append_raw rfl (.tmp 95) (.tmp 97) rfl w.heap.size B m c l rfl HG3.out (some ⟨wr.heap.size + 1, 0, none⟩) 1 1 [(⟨(k : Int), o, (10 : Int), 0⟩ : RawD)] rfl HX.out (fun h => by cases h) (by omega) HW3.out.size ?_; intro B5 c5 w5 hg5 hgr5 hr5; have HG5 := Lib.hid hg5; have HW5 : Hid (Below w.heap.size w w5) := Lib.hid (below_gotR (base := w.heap.size) HW3.out HW3.out.size hgr5 hr5 (Nat.le_refl _)); clear hg5 hgr5 hr5)
            go_roundw
            case rel => exact ⟨k + 2, m + 1, c5, B5, l ++ [(⟨(k : Int), o, (10 : Int), 0⟩ : RawD)], by omega, by omega, rfl, by go_num, HG5.out, HNx.out, HW5.out⟩
            case measure => simp [intOf]; omega
        · have hE8 : E' = 8 := by
            have h8 : readE xs k = 8 := by rw [HE.out]; unfold readE'; rw [if_neg (by omega), if_neg (by rw [hx2]; exact hs), if_pos ⟨rfl, by rw [haw]; omega⟩]
            have := HCu.out.1 (by rw [h8]; decide)
            omega
          have HEL8 : Hid (E = 8 ∧ L = []) := Lib.hid (by
            rcases HEL.out with ⟨_, h, h2⟩ | ⟨h, _⟩ | ⟨h, _⟩
            · exact ⟨by omega, h2⟩
            · omega
            · omega)
          have hq1 : ((v : Int) == 8) = false := by simp; omega
          have hq2 : ((v : Int) == 10) = false := by simp; omega
          have hq3 : ((v : Int) != 8) = true := by simp; omega
          have hq4 : ((v : Int) != 10) = true := by simp; omega
          clear HLen HFm hs h0 hf9 HE HR HCu HGt HRR hv hx2 haw hkd hE8 HEL
          go_wp2_with fail
          refine (HLen2.out _).mono ?_
          rintro e1 w1 ⟨rfl, rfl⟩
          go_wp2_with fail
          refine (HGs.out _ HW1.out).mono ?_
          rintro e2 w2 ⟨rfl, rfl⟩
          go_wp2_with fail
          refine (HFm2.out _).mono ?_
          rintro e3 w3 ⟨rfl, rfl⟩
          go_wp2_with fail
          refine (HFm2.out _).mono ?_
          rintro e5 w5 ⟨rfl, rfl⟩
          go_wp2
          go_ret2
          refine ⟨?_, HW0.out.alloc HW0.out.size _⟩
          rw [HEL8.out.1, HEL8.out.2]
          exact ⟨none, 0, rfl, GotR.nil_ _ _ _ _ _⟩
    · have hk2 : k = n := by omega
      have hQ2 : E' = 0 ∧ l' = l := by
        have hlt2 : xs.length ≤ k := by have := Hxl.out; omega
        cases HQ.cuts with
        | stop h => exact ⟨rfl, rfl⟩
        | bad h _ => omega
        | go h _ _ => omega
      obtain ⟨rfl, rfl⟩ := hQ2
      have hd : decide (k < n) = false := decide_eq_false hlt
      have HG0 := Lib.hid HQ.got
      have HW0 := Lib.hid HQ.below
      have HRw : Hid (RawSl wr B m c l') := Lib.hid HQ.got.row
      clear HQ hk2
      cases hm2 : meetF l' with
      | true =>
        rw [hm2] at HM
        have HEq : Hid (E = 0 ∧ L = l') := Lib.hid (by
          rcases HEL.out with ⟨h, _⟩ | ⟨_, h, _⟩ | ⟨_, _, h⟩
          · exact absurd rfl h
          · rw [hm2] at h; cases h
          · exact h)
        clear HEL hm2
        go_wp2_with fail
        refine (HM.out _ _ _ _ HRw.out).mono ?_
        rintro e4 w4 ⟨rfl, hb4⟩
        have HW4 := Lib.hid (HW0.out.trans (hb4.mono HW0.out.size))
        have HG4 := Lib.hid (HG0.out.below RawD.cells_len hb4)
        clear hb4
        go_wp2
        go_ret2
        refine ⟨?_, HW4.out⟩
        rw [HEq.out.1, HEq.out.2, Hml.out]
        exact ⟨B, c, rfl, HG4.out⟩
      | false =>
        rw [hm2] at HM
        have HEq : Hid (E = 2 ∧ L = []) := Lib.hid (by
          rcases HEL.out with ⟨h, _⟩ | ⟨_, _, h⟩ | ⟨_, h, _⟩
          · exact absurd rfl h
          · exact h
          · rw [hm2] at h; cases h)
        clear HEL hm2
        go_wp2_with fail
        refine (HM.out _ _ _ _ HRw.out).mono ?_
        rintro e4 w4 ⟨rfl, hb4⟩
        have HW4 := Lib.hid (HW0.out.trans (hb4.mono HW0.out.size))
        clear hb4
        go_wp2
        go_ret2
        refine ⟨?_, HW4.out⟩
        rw [HEq.out.1, HEq.out.2]
        exact ⟨none, 0, rfl, GotR.nil_ _ _ _ _ _⟩

end Go.Proofs.YtcpcjcbeeeoabaaDoor
