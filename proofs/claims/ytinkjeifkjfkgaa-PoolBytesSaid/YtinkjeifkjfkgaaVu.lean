/- The walks over a pool's reader.places and pool.Parse. -/
import Derived.Test.YtinkjeifkjfkgaaVt
import Derived.Test.YtinkjeifkjfkgaaVp
namespace Go.Proofs.Ytinkjeifkjfkgaa
set_option maxRecDepth 100000
open Go.RowKit

/-! ### What is read has the machine's numbers -/
theorem sgn_bd (v k : Nat) (h1 : 1 ≤ k) (h2 : k ≤ 8) : -9223372036854775808 ≤ sgn v k ∧ sgn v k ≤ 9223372036854775807 := by
  have hp : 2 ^ (8 * k) = 2 * 2 ^ (8 * k - 1) := by
    rw [show 8 * k = (8 * k - 1) + 1 by omega, Nat.pow_succ]
    simp
    omega
  have hle : 2 ^ (8 * k - 1) ≤ 2 ^ 63 := Nat.pow_le_pow_right (by decide) (by omega)
  have hm := Nat.mod_lt v (show 0 < 2 ^ (8 * k) from Nat.pow_pos (by decide))
  have e63 : (2 ^ 63 : Nat) = 9223372036854775808 := rfl
  unfold sgn
  split <;> omega
theorem textR_len (bs : List UInt8) (s : RS) : (textR bs s).1.length ≤ 65535 := by
  have h := numR_lt bs s 2
  have h : (numR bs s 2).1 < 65536 := h
  unfold textR
  simp only
  split
  all_goals
    split
    · simp
    · simp only [List.length_take]
      omega
theorem optR_lt (bs : List UInt8) (s : RS) (on : Bool) : (optR bs s on 2).1 < 65536 := by
  unfold optR
  split
  · exact numR_lt bs s 2
  · exact (by decide : 0 < 65536)
theorem constR_cst (bs : List UInt8) (s : RS) : (constR bs s).1.ok := by
  have h0 : (numR bs s 1).1 < 256 := numR_lt bs s 1
  unfold constR
  simp only
  refine ⟨by simp only; omega, ?_, ?_, ?_, ?_⟩
  · simp only
    have := optR_lt bs (optR bs (if (formF ((numR bs s 1).1 : Int)).text = true then textR bs (if formF ((numR bs s 1).1 : Int) = noFrm then (numR bs s 1).2.refuse 8 else (numR bs s 1).2) else ([], if formF ((numR bs s 1).1 : Int) = noFrm then (numR bs s 1).2.refuse 8 else (numR bs s 1).2)).2 ((formF ((numR bs s 1).1 : Int)).num != 0) (formF ((numR bs s 1).1 : Int)).num.toNat).2 ((formF ((numR bs s 1).1 : Int)).a != 0)
    omega
  · simp only
    generalize (optR bs (optR bs (if (formF ((numR bs s 1).1 : Int)).text = true then textR bs (if formF ((numR bs s 1).1 : Int) = noFrm then (numR bs s 1).2.refuse 8 else (numR bs s 1).2) else ([], if formF ((numR bs s 1).1 : Int) = noFrm then (numR bs s 1).2.refuse 8 else (numR bs s 1).2)).2 ((formF ((numR bs s 1).1 : Int)).num != 0) (formF ((numR bs s 1).1 : Int)).num.toNat).2 ((formF ((numR bs s 1).1 : Int)).a != 0) 2).2 = z
    have := optR_lt bs z ((formF ((numR bs s 1).1 : Int)).b != 0)
    omega
  · simp only
    split
    · decide
    · next hn =>
      have hk : (formF ((numR bs s 1).1 : Int)).num.toNat = 4 ∨ (formF ((numR bs s 1).1 : Int)).num.toNat = 8 := by
        rcases form_ways ((numR bs s 1).1 : Int) with h | h | h | h | h | h | h <;> rw [h] at hn ⊢ <;> simp at hn ⊢
      rcases hk with hk | hk <;> rw [hk] <;> exact sgn_bd _ _ (by omega) (by omega)
  · simp only
    split
    · have := textR_len bs (if formF ((numR bs s 1).1 : Int) = noFrm then (numR bs s 1).2.refuse 8 else (numR bs s 1).2)
      omega
    · simp
theorem withSecond_ok {c : Cst} (h : c.ok) : ∀ d ∈ withSecond c, d.ok := by
  unfold withSecond
  split
  · intro d hd
    simp at hd
    rcases hd with rfl | rfl
    · exact h
    · exact zeroC_ok
  · intro d hd
    simp at hd
    rw [hd]
    exact h
theorem placesR_cst (bs : List UInt8) (n : Nat) : ∀ (k : Nat) (s : RS) (l : List Cst), (∀ c ∈ l, c.ok) → ∀ c ∈ (placesR bs n k s l).1, c.ok := by
  intro k
  induction k with
  | zero => intro s l h; exact h
  | succ k ih =>
    intro s l h
    unfold placesR
    split
    · refine ih _ _ (fun c hc => ?_)
      rw [List.mem_append] at hc
      rcases hc with hc | hc
      · exact h c hc
      · exact withSecond_ok (constR_cst bs s) c hc
    · exact h
theorem placesR_len (bs : List UInt8) (n : Nat) : ∀ (k : Nat) (s : RS) (l : List Cst), l.length ≤ n + 1 → (placesR bs n k s l).1.length ≤ n + 1 := by
  intro k
  induction k with
  | zero => intro s l h; exact h
  | succ k ih =>
    intro s l h
    unfold placesR
    split
    · next hc =>
      refine ih _ _ ?_
      have := withSecond_len (constR bs s).1
      rw [List.length_append]
      omega
    · exact h
theorem placesR_stop (bs : List UInt8) (n k : Nat) (s : RS) (l : List Cst) (h : ¬ (s.fault = 0 ∧ l.length < n)) : placesR bs n k s l = (l, s) := by
  cases k with
  | zero => rfl
  | succ k =>
    unfold placesR
    rw [if_neg h]

/-! ### A reader whose bytes lie where they lay -/
structure RdL (w : World) (g : Nat) (A : Option Addr) (n cap : Nat) (bs : List UInt8) (s : RS) (W : World) : Prop where
  rd : RdP W g A n cap bs s
  only : Only (· = g) w W
  lt : g < w.heap.size
  b0 : ByteSl w (· = g) A n cap bs
theorem RdL.next {w W W' : World} {g n cap : Nat} {A : Option Addr} {bs : List UInt8} {s s' : RS} (h : RdL w g A n cap bs s W) (hR : RdP W' g A n cap bs s') (hO : Only (· = g) W W') : RdL w g A n cap bs s' W' := ⟨hR, h.only.trans hO, h.lt, h.b0⟩
theorem RdL.far {w W W' : World} {g n cap : Nat} {A : Option Addr} {bs : List UInt8} {s : RS} {S : Nat → Prop} (h : RdL w g A n cap bs s W) (k : Only S W W') (hS : ∀ q, q < W.heap.size → S q → w.heap.size ≤ q) : RdL w g A n cap bs s W' := by
  have hO : Only (· = g) w W' := h.only.trans' k (fun i hi hs => by
    by_cases hi2 : i < W.heap.size
    · have := hS i hi2 hs
      omega
    · have := h.only.size
      omega)
  exact ⟨⟨k.blk h.rd.blk (fun hs => by have := hS g h.rd.blk.lt hs; have := h.lt; omega), h.b0.only hO (fun _ _ h => h), h.rd.le⟩, hO, h.lt, h.b0⟩
theorem RdL.start {w : World} {g n cap : Nat} {A : Option Addr} {bs : List UInt8} {s : RS} (h : RdP w g A n cap bs s) : RdL w g A n cap bs s w := ⟨h, Only.refl _ _, h.blk.lt, h.bytes⟩

theorem cst_lit (c : Cst) (W : World) : PoolSl (W.alloc (.cells #[.int .i64 c.tag, .int .i64 c.a, .int .i64 c.b, .int .i64 c.n, .string (strB c.s)] 41)) (some ⟨W.heap.size, 0, none⟩) 1 1 [c] :=
  RowSl.lit Cst.cells_len W Empty 41 [c] 1 [.int .i64 c.tag, .int .i64 c.a, .int .i64 c.b, .int .i64 c.n, .string (strB c.s)] (by simp [Cst.cells]) rfl (by unfold maxLen; omega) (fun h => h)
theorem GotR.other {W W' : World} {base n cap q : Nat} {A : Option Addr} {l : List Cst} {cs : Array Value} (h : GotR Cst.cells 5 41 base W A n cap l) (hq : Blk W q 41 cs) (hne : ∀ g, (Value.slice A n cap).ownBlock = some g → g ≠ q) (k : W.grownBy W' (Value.slice A n cap).ownBlock) : Blk W' q 41 cs := by
  have hO : Only (fun p => (Value.slice A n cap).ownBlock = some p) W W' := Only.of_grown k (fun k e _ => e)
  exact hO.blk hq (fun e => hne q e rfl)
theorem GotR.own_lt {W : World} {base n cap : Nat} {A : Option Addr} {l : List Cst} (h : GotR Cst.cells 5 41 base W A n cap l) : ∀ g, (Value.slice A n cap).ownBlock = some g → g < W.heap.size := by
  intro g hg
  rcases h.here with rfl | ⟨g', cur, rfl, _, hb, _⟩
  · cases hg
  · cases hg
    exact hb.lt

theorem zero_row (wa : World) (base : Nat) (h : base ≤ wa.heap.size) : GotR Cst.cells 5 41 base (wa.alloc (.cells #[.int .i64 0, .int .i64 0, .int .i64 0, .int .i64 0, .string ⟨#[]⟩] 41)) (some ⟨wa.heap.size, 0, none⟩) 1 1 [zeroC] := by
  obtain ⟨A, c, e, hG⟩ := GotR.of_own (cells := Cst.cells) (k := 5) (t := 41) (base := base) (l := [zeroC]) (n := 1) (v := .slice (some ⟨wa.heap.size, 0, none⟩) 1 1) (w := wa.alloc (.cells #[.int .i64 0, .int .i64 0, .int .i64 0, .int .i64 0, .string ⟨#[]⟩] 41)) Cst.cells_len
    ⟨rfl, Or.inr ⟨wa.heap.size, 1, #[.int .i64 0, .int .i64 0, .int .i64 0, .int .i64 0, .string ⟨#[]⟩], rfl, h, Blk.new _ _ _, Nat.le_refl _, by unfold maxLen; omega, rfl, rfl⟩⟩ rfl
  cases e
  exact hG
def endP (n : Nat) (p : List Cst × RS) : RS := if n < p.1.length then p.2.refuse 8 else p.2
set_option maxHeartbeats 2000000 in
theorem places_any (g : Nat) (A : Option Addr) (n cap : Nat) (bs : List UInt8) (w : World) (hR : RdP w g A n cap bs ⟨0, 0⟩) (hm : n ≤ 1048576) :
    Calls Try.prog 25 #[.pointer (some ⟨g, 0, none⟩)] w fun e w' => (∃ B c, e = .returned (.slice B (placesR bs (countR bs).1 (countR bs).1 (countR bs).2 [zeroC]).1.length c) ∧ RowSl Cst.cells 5 w' (· = g) B (placesR bs (countR bs).1 (countR bs).1 (countR bs).2 [zeroC]).1.length c (placesR bs (countR bs).1 (countR bs).1 (countR bs).2 [zeroC]).1) ∧
      RdP w' g A n cap bs (endP (countR bs).1 (placesR bs (countR bs).1 (countR bs).1 (countR bs).2 [zeroC])) ∧ Only (· = g) w w' := by
  have C0 := Lib.hid (prNumber_any g A n cap 2 bs ⟨0, 0⟩ w hR (by omega) (by omega) hm)
  have hN := numR_lt bs ⟨0, 0⟩ 2
  obtain ⟨N, s0, hr⟩ : ∃ N s0, numR bs ⟨0, 0⟩ 2 = (N, s0) := ⟨_, _, rfl⟩
  have hcnt : countR bs = (N, if 1 ≤ N ∧ N ≤ 1024 then s0 else s0.refuse 8) := by unfold countR; rw [hr]
  rw [hr] at C0 hN
  have hN : N < 65536 := hN
  rw [hcnt]
  obtain ⟨s1, hs1⟩ : ∃ s1, (if 1 ≤ N ∧ N ≤ 1024 then s0 else s0.refuse 8) = s1 := ⟨_, rfl⟩
  rw [hs1]
  simp only
  obtain ⟨P, hP⟩ : ∃ P, placesR bs N N s1 [zeroC] = P := ⟨_, rfl⟩
  rw [hP]
  have hPl : P.1.length ≤ N + 1 := by rw [← hP]; exact placesR_len bs N N s1 [zeroC] (by simp)
  have hwN : IntKind.i64.wrap (N : Int) = (N : Int) := by rw [IntKind.wrap_i64]; omega
  have CI := isCount_any (N : Int)
  have CR : Hid (∀ (s : RS) (W : World), RdP W g A n cap bs s → Calls Try.prog 37 #[.pointer (some ⟨g, 0, none⟩), .int .i64 8] W fun e1 w' => e1 = .returned (.tuple #[]) ∧ RdP w' g A n cap bs (s.refuse 8) ∧ Only (· = g) W w') := Lib.hid (fun s W h => refuse_any g A n cap bs s 8 W h)
  have CC : Hid (∀ (s : RS) (W : World), RdP W g A n cap bs s → Calls Try.prog 38 #[.pointer (some ⟨g, 0, none⟩)] W fun e w' => e = .returned (constR bs s).1.v ∧ RdP w' g A n cap bs (constR bs s).2 ∧ Only (· = g) W w') := Lib.hid (fun s W h => prConstant_any g A n cap bs s W h hm)
  have HR := Lib.hid (RdL.start hR)
  have HP := Lib.hid hP
  have HPl := Lib.hid hPl
  clear hR hm hr hcnt hP hPl
  have HZ : Hid (∀ W : World, GotR Cst.cells 5 41 w.heap.size W none 0 0 []) := Lib.hid (fun W => GotR.nil_ _ _ _ _ _)
  have HCI : Hid (∀ W, Calls Try.prog 23 #[.int .i64 (N : Int)] W fun e w' => e = .returned (.bool (decide (1 ≤ (N : Int) ∧ (N : Int) ≤ 1024))) ∧ W = w') := Lib.hid CI
  clear CI
  by_cases hv : 1 ≤ N ∧ N ≤ 1024
  case pos =>
    rw [if_pos hv] at hs1
    subst hs1
    rw [decide_eq_true (by omega)] at HCI
    go_enter Try.func25, Try.ntmps25
    go_wp2_with fail
    refine C0.out.mono ?_
    rintro e wa ⟨rfl, hR1, hO1⟩
    have HRa := Lib.hid (HR.out.next hR1 hO1)
    clear hR1 hO1
    go_wp2_with fail
    refine (HCI.out _).mono ?_
    rintro e w2 ⟨rfl, rfl⟩
    go_wp2
    have HW0 : Hid (w.heap.size ≤ wa.heap.size) := Lib.hid HRa.out.only.size
    go_loopw [4] (fun b wr => ∃ (B : Option Addr) (m c k : Nat) (l : List Cst) (s : RS), b = .slice B m c ∧ m ≤ N + 1 ∧ N ≤ m + k ∧ Hid (GotR Cst.cells 5 41 w.heap.size wr B m c l) ∧ Hid (RdL w g A n cap bs s wr) ∧ Hid (placesR bs N k s l = P)) (fun b _ => match b with | .slice _ m _ => N - m | _ => 0)
    case atStart => exact ⟨some ⟨wa.heap.size, 0, none⟩, 1, 1, N, [zeroC], s0, rfl, by omega, by omega, Lib.hid (zero_row wa w.heap.size HW0.out), Lib.hid (HRa.out.far ((Only.refl Empty wa).alloc _) (fun _ _ h => h.elim)), HP⟩
    case round =>
      obtain ⟨B, m, c, k, l, s, rfl, hmN, hmk, HG, HL, HQ⟩ := hrel
      have hml : l.length = m := HG.out.row.1
      have Hml := Lib.hid hml
      have c2 : wr.cell? ⟨g, 2, none⟩ = some (.int .i64 s.fault) := HL.out.rd.blk.cell 2
      have hmc : m ≤ c := HG.out.row.2.1
      have hcx : c ≤ 9223372036854775807 := by have := HG.out.row.2.2.1; unfold maxLen at this; exact this
      clear hml
      by_cases hf : s.fault = 0
      · have hq : (s.fault == 0) = true := by simpa using hf
        by_cases hlt : m < N
        · have hd : decide ((m : Int) < (N : Int)) = true := decide_eq_true (by omega)
          obtain ⟨k', rfl⟩ : ∃ k', k = k' + 1 := ⟨k - 1, by omega⟩
          obtain ⟨x, s2, hx⟩ : ∃ x s2, constR bs s = (x, s2) := ⟨_, _, rfl⟩
          have hQ2 : placesR bs N k' s2 (l ++ withSecond x) = P := by
            have h := HQ.out
            unfold placesR at h
            rw [if_pos ⟨hf, by rw [Hml.out]; exact hlt⟩, hx] at h
            exact h
          have HQ2 := Lib.hid hQ2
          have C := CC.out s wr HL.out.rd
          rw [hx] at C
          have C := Lib.hid C
          have Hf := Lib.hid hf
          clear hx hQ2 hf
          go_wp2_with fail
          refine C.out.mono ?_
          rintro e w2 ⟨rfl, hR2, hO2⟩
          have HL2 := Lib.hid (HL.out.next hR2 hO2)
          have HG2 := Lib.hid (HG.out.only Cst.cells_len hO2 (fun i hi _ e => by have := HL.out.lt; omega))
          clear hR2 hO2 c2
          simp only [Cst.v]
          have HO4 : Hid (Only Empty w2 ((w2.alloc (.cells x.cells.toArray 41)).alloc (.cells x.cells.toArray 41))) := Lib.hid (((Only.refl Empty w2).alloc _).alloc _)
          have HG4 := Lib.hid (HG2.out.only Cst.cells_len HO4.out (fun _ _ _ h => h))
          have HL4 := Lib.hid (HL2.out.far HO4.out (fun _ _ h => h.elim))
          have HB4 : Hid (Blk ((w2.alloc (.cells x.cells.toArray 41)).alloc (.cells x.cells.toArray 41)) w2.heap.size 41 x.cells.toArray) := Lib.hid ((Blk.new w2 _ _).alloc _)
          have HN4 : Hid (∀ g', (Value.slice B m c).ownBlock = some g' → g' ≠ w2.heap.size) := Lib.hid (fun g' h => by have := HG2.out.own_lt g' h; omega)
          have hX4 := cst_lit x (w2.alloc (.cells x.cells.toArray 41))
          rw [show (w2.alloc (.cells x.cells.toArray 41)).heap.size = w2.heap.size + 1 by simp] at hX4
          have HX4 := Lib.hid hX4
          clear hX4
          have HS4 : Hid (w.heap.size ≤ ((w2.alloc (.cells x.cells.toArray 41)).alloc (.cells x.cells.toArray 41)).heap.size) := Lib.hid (Nat.le_trans HL2.out.only.size HO4.out.size)
          by_cases ht : x.tag = 5
          · have hw2 : withSecond x = [x, zeroC] := by unfold withSecond; rw [if_pos ht]
            rw [hw2] at HQ2
            have hq5 : (x.tag == 5) = true := by simpa using ht
            have Ht := Lib.hid ht
            clear ht hw2
            go_wp2_with (first | (at_builtin; refine wpList_append_cst rfl (.tmp 29) (.tmp 31) rfl w.heap.size B m c l rfl HG4.out (some ⟨w2.heap.size + 1, 0, none⟩) 1 1 [x] rfl HX4.out (fun h => by cases h) (by omega) HS4.out ?_; intro B5 c5 w5 hg5 hgr5 hr5; have HG5 := Lib.hid hg5; have HL5 := Lib.hid (HL4.out.far (S := fun q => (Value.slice B m c).ownBlock = some q) (Only.of_grown hgr5 (fun k e _ => e)) (fun q _ h => hr5 q h)); have HB5 := Lib.hid (HG4.out.other HB4.out HN4.out hgr5); have t5 : w5.cell? ⟨w2.heap.size, 0, none⟩ = some (.int .i64 x.tag) := HB5.out.cell 0; have HZ5 := Lib.hid (cst_lit zeroC w5); have HG6 := Lib.hid (HG5.out.alloc Cst.cells_len (.cells zeroC.cells.toArray 41)); have HL6 := Lib.hid (HL5.out.far ((Only.refl Empty w5).alloc (.cells zeroC.cells.toArray 41)) (fun _ _ h => h.elim)); have HS6 : Hid (w.heap.size ≤ (w5.alloc (.cells zeroC.cells.toArray 41)).heap.size) := Lib.hid (Nat.le_trans HL5.out.only.size (by simp)); clear hg5 hgr5 hr5) | (at_builtin; refine wpList_append_cst rfl (.tmp 36) (.tmp 38) rfl w.heap.size B5 (m + 1) c5 (l ++ [x]) rfl HG6.out (some ⟨w5.heap.size, 0, none⟩) 1 1 [zeroC] rfl HZ5.out (fun h => by cases h) (by omega) HS6.out ?_; intro B7 c7 w7 hg7 hgr7 hr7; have HG7 := Lib.hid hg7; have HL7 := Lib.hid (HL6.out.far (S := fun q => (Value.slice B5 (m + 1) c5).ownBlock = some q) (Only.of_grown hgr7 (fun k e _ => e)) (fun q _ h => hr7 q h)); clear hg7 hgr7 hr7))
            exact ⟨⟨B7, m + 1 + 1, c7, k', l ++ [x, zeroC], s2, rfl, by omega, by omega, Lib.hid (by have h := HG7.out; rw [List.append_assoc] at h; exact h), HL7, HQ2⟩, by show N - (m + 1 + 1) < N - m; omega⟩
          · have hw2 : withSecond x = [x] := by unfold withSecond; rw [if_neg ht]
            rw [hw2] at HQ2
            have hq5 : (x.tag == 5) = false := by simpa using ht
            have Ht := Lib.hid ht
            clear ht hw2
            go_wp2_with (at_builtin; refine wpList_append_cst rfl (.tmp 29) (.tmp 31) rfl w.heap.size B m c l rfl HG4.out (some ⟨w2.heap.size + 1, 0, none⟩) 1 1 [x] rfl HX4.out (fun h => by cases h) (by omega) HS4.out ?_; intro B5 c5 w5 hg5 hgr5 hr5; have HG5 := Lib.hid hg5; have HL5 := Lib.hid (HL4.out.far (S := fun q => (Value.slice B m c).ownBlock = some q) (Only.of_grown hgr5 (fun k e _ => e)) (fun q _ h => hr5 q h)); have HB5 := Lib.hid (HG4.out.other HB4.out HN4.out hgr5); have t5 : w5.cell? ⟨w2.heap.size, 0, none⟩ = some (.int .i64 x.tag) := HB5.out.cell 0; clear hg5 hgr5 hr5)
            exact ⟨⟨B5, m + 1, c5, k', l ++ [x], s2, rfl, by omega, by omega, HG5, HL5, HQ2⟩, by show N - (m + 1) < N - m; omega⟩
        · have hd : decide ((m : Int) < (N : Int)) = false := decide_eq_false (by omega)
          have HQ3 : Hid (P = (l, s)) := Lib.hid (by rw [← HQ.out]; exact placesR_stop bs N k s l (by rw [Hml.out]; omega))
          have Hf := Lib.hid hf
          clear hf
          by_cases hgt : N < m
          · have HE : Hid (endP N P = s.refuse 8) := Lib.hid (by rw [HQ3.out]; unfold endP; rw [if_pos (by rw [Hml.out]; exact hgt)])
            have hdg : decide ((N : Int) < (m : Int)) = true := decide_eq_true (by omega)
            have CRs := Lib.hid (CR.out s wr HL.out.rd)
            go_wp2_with fail
            refine CRs.out.mono ?_
            rintro e w8 ⟨rfl, hR8, hO8⟩
            have HL8 := Lib.hid (HL.out.next hR8 hO8)
            have HG8 := Lib.hid (HG.out.only Cst.cells_len hO8 (fun i hi _ e => by have := HL.out.lt; omega))
            clear hR8 hO8
            go_wp2
            go_ret
            rw [HE.out, HQ3.out]
            exact ⟨⟨B, c, by rw [← Hml.out]; rfl, by rw [Hml.out]; exact HG8.out.out (fun i hi _ e => by have := HL.out.lt; omega)⟩, HL8.out.rd, HL8.out.only⟩
          · have HE : Hid (endP N P = s) := Lib.hid (by rw [HQ3.out]; unfold endP; rw [if_neg (by rw [Hml.out]; exact hgt)])
            have hdg : decide ((N : Int) < (m : Int)) = false := decide_eq_false (by omega)
            go_wp2
            go_ret
            rw [HE.out, HQ3.out]
            exact ⟨⟨B, c, by rw [← Hml.out]; rfl, by rw [Hml.out]; exact HG.out.out (fun i hi _ e => by have := HL.out.lt; omega)⟩, HL.out.rd, HL.out.only⟩
      · have hq : (s.fault == 0) = false := by simpa using hf
        have HQ3 : Hid (P = (l, s)) := Lib.hid (by rw [← HQ.out]; exact placesR_stop bs N k s l (fun h => hf h.1))
        have Hf := Lib.hid hf
        clear hf
        by_cases hgt : N < m
        · have HE : Hid (endP N P = s.refuse 8) := Lib.hid (by rw [HQ3.out]; unfold endP; rw [if_pos (by rw [Hml.out]; exact hgt)])
          have hdg : decide ((N : Int) < (m : Int)) = true := decide_eq_true (by omega)
          have CRs := Lib.hid (CR.out s wr HL.out.rd)
          go_wp2_with fail
          refine CRs.out.mono ?_
          rintro e w8 ⟨rfl, hR8, hO8⟩
          have HL8 := Lib.hid (HL.out.next hR8 hO8)
          have HG8 := Lib.hid (HG.out.only Cst.cells_len hO8 (fun i hi _ e => by have := HL.out.lt; omega))
          clear hR8 hO8
          go_wp2
          go_ret
          rw [HE.out, HQ3.out]
          exact ⟨⟨B, c, by rw [← Hml.out]; rfl, by rw [Hml.out]; exact HG8.out.out (fun i hi _ e => by have := HL.out.lt; omega)⟩, HL8.out.rd, HL8.out.only⟩
        · have HE : Hid (endP N P = s) := Lib.hid (by rw [HQ3.out]; unfold endP; rw [if_neg (by rw [Hml.out]; exact hgt)])
          have hdg : decide ((N : Int) < (m : Int)) = false := decide_eq_false (by omega)
          go_wp2
          go_ret
          rw [HE.out, HQ3.out]
          exact ⟨⟨B, c, by rw [← Hml.out]; rfl, by rw [Hml.out]; exact HG.out.out (fun i hi _ e => by have := HL.out.lt; omega)⟩, HL.out.rd, HL.out.only⟩
  case neg =>
    rw [if_neg hv] at hs1
    rw [decide_eq_false (by omega)] at HCI
    go_enter Try.func25, Try.ntmps25
    go_wp2_with fail
    refine C0.out.mono ?_
    rintro e w1 ⟨rfl, hR1, hO1⟩
    have HR1 := Lib.hid (HR.out.next hR1 hO1)
    clear hR1 hO1
    go_wp2_with fail
    refine (HCI.out _).mono ?_
    rintro e w2 ⟨rfl, rfl⟩
    go_wp2_with fail
    refine (CR.out _ _ HR1.out.rd).mono ?_
    rintro e wa ⟨rfl, hR2, hO2⟩
    rw [hs1] at hR2
    have HRa := Lib.hid (HR1.out.next hR2 hO2)
    clear hR2 hO2
    go_wp2
    have HW0 : Hid (w.heap.size ≤ wa.heap.size) := Lib.hid HRa.out.only.size
    go_loopw [4] (fun b wr => ∃ (B : Option Addr) (m c k : Nat) (l : List Cst) (s : RS), b = .slice B m c ∧ m ≤ N + 1 ∧ N ≤ m + k ∧ Hid (GotR Cst.cells 5 41 w.heap.size wr B m c l) ∧ Hid (RdL w g A n cap bs s wr) ∧ Hid (placesR bs N k s l = P)) (fun b _ => match b with | .slice _ m _ => N - m | _ => 0)
    case atStart => exact ⟨some ⟨wa.heap.size, 0, none⟩, 1, 1, N, [zeroC], s1, rfl, by omega, by omega, Lib.hid (zero_row wa w.heap.size HW0.out), Lib.hid (HRa.out.far ((Only.refl Empty wa).alloc _) (fun _ _ h => h.elim)), HP⟩
    case round =>
      obtain ⟨B, m, c, k, l, s, rfl, hmN, hmk, HG, HL, HQ⟩ := hrel
      have hml : l.length = m := HG.out.row.1
      have Hml := Lib.hid hml
      have c2 : wr.cell? ⟨g, 2, none⟩ = some (.int .i64 s.fault) := HL.out.rd.blk.cell 2
      have hmc : m ≤ c := HG.out.row.2.1
      have hcx : c ≤ 9223372036854775807 := by have := HG.out.row.2.2.1; unfold maxLen at this; exact this
      clear hml
      by_cases hf : s.fault = 0
      · have hq : (s.fault == 0) = true := by simpa using hf
        by_cases hlt : m < N
        · have hd : decide ((m : Int) < (N : Int)) = true := decide_eq_true (by omega)
          obtain ⟨k', rfl⟩ : ∃ k', k = k' + 1 := ⟨k - 1, by omega⟩
          obtain ⟨x, s2, hx⟩ : ∃ x s2, constR bs s = (x, s2) := ⟨_, _, rfl⟩
          have hQ2 : placesR bs N k' s2 (l ++ withSecond x) = P := by
            have h := HQ.out
            unfold placesR at h
            rw [if_pos ⟨hf, by rw [Hml.out]; exact hlt⟩, hx] at h
            exact h
          have HQ2 := Lib.hid hQ2
          have C := CC.out s wr HL.out.rd
          rw [hx] at C
          have C := Lib.hid C
          have Hf := Lib.hid hf
          clear hx hQ2 hf
          go_wp2_with fail
          refine C.out.mono ?_
          rintro e w2 ⟨rfl, hR2, hO2⟩
          have HL2 := Lib.hid (HL.out.next hR2 hO2)
          have HG2 := Lib.hid (HG.out.only Cst.cells_len hO2 (fun i hi _ e => by have := HL.out.lt; omega))
          clear hR2 hO2 c2
          simp only [Cst.v]
          have HO4 : Hid (Only Empty w2 ((w2.alloc (.cells x.cells.toArray 41)).alloc (.cells x.cells.toArray 41))) := Lib.hid (((Only.refl Empty w2).alloc _).alloc _)
          have HG4 := Lib.hid (HG2.out.only Cst.cells_len HO4.out (fun _ _ _ h => h))
          have HL4 := Lib.hid (HL2.out.far HO4.out (fun _ _ h => h.elim))
          have HB4 : Hid (Blk ((w2.alloc (.cells x.cells.toArray 41)).alloc (.cells x.cells.toArray 41)) w2.heap.size 41 x.cells.toArray) := Lib.hid ((Blk.new w2 _ _).alloc _)
          have HN4 : Hid (∀ g', (Value.slice B m c).ownBlock = some g' → g' ≠ w2.heap.size) := Lib.hid (fun g' h => by have := HG2.out.own_lt g' h; omega)
          have hX4 := cst_lit x (w2.alloc (.cells x.cells.toArray 41))
          rw [show (w2.alloc (.cells x.cells.toArray 41)).heap.size = w2.heap.size + 1 by simp] at hX4
          have HX4 := Lib.hid hX4
          clear hX4
          have HS4 : Hid (w.heap.size ≤ ((w2.alloc (.cells x.cells.toArray 41)).alloc (.cells x.cells.toArray 41)).heap.size) := Lib.hid (Nat.le_trans HL2.out.only.size HO4.out.size)
          by_cases ht : x.tag = 5
          · have hw2 : withSecond x = [x, zeroC] := by unfold withSecond; rw [if_pos ht]
            rw [hw2] at HQ2
            have hq5 : (x.tag == 5) = true := by simpa using ht
            have Ht := Lib.hid ht
            clear ht hw2
            go_wp2_with (first | (at_builtin; refine wpList_append_cst rfl (.tmp 29) (.tmp 31) rfl w.heap.size B m c l rfl HG4.out (some ⟨w2.heap.size + 1, 0, none⟩) 1 1 [x] rfl HX4.out (fun h => by cases h) (by omega) HS4.out ?_; intro B5 c5 w5 hg5 hgr5 hr5; have HG5 := Lib.hid hg5; have HL5 := Lib.hid (HL4.out.far (S := fun q => (Value.slice B m c).ownBlock = some q) (Only.of_grown hgr5 (fun k e _ => e)) (fun q _ h => hr5 q h)); have HB5 := Lib.hid (HG4.out.other HB4.out HN4.out hgr5); have t5 : w5.cell? ⟨w2.heap.size, 0, none⟩ = some (.int .i64 x.tag) := HB5.out.cell 0; have HZ5 := Lib.hid (cst_lit zeroC w5); have HG6 := Lib.hid (HG5.out.alloc Cst.cells_len (.cells zeroC.cells.toArray 41)); have HL6 := Lib.hid (HL5.out.far ((Only.refl Empty w5).alloc (.cells zeroC.cells.toArray 41)) (fun _ _ h => h.elim)); have HS6 : Hid (w.heap.size ≤ (w5.alloc (.cells zeroC.cells.toArray 41)).heap.size) := Lib.hid (Nat.le_trans HL5.out.only.size (by simp)); clear hg5 hgr5 hr5) | (at_builtin; refine wpList_append_cst rfl (.tmp 36) (.tmp 38) rfl w.heap.size B5 (m + 1) c5 (l ++ [x]) rfl HG6.out (some ⟨w5.heap.size, 0, none⟩) 1 1 [zeroC] rfl HZ5.out (fun h => by cases h) (by omega) HS6.out ?_; intro B7 c7 w7 hg7 hgr7 hr7; have HG7 := Lib.hid hg7; have HL7 := Lib.hid (HL6.out.far (S := fun q => (Value.slice B5 (m + 1) c5).ownBlock = some q) (Only.of_grown hgr7 (fun k e _ => e)) (fun q _ h => hr7 q h)); clear hg7 hgr7 hr7))
            exact ⟨⟨B7, m + 1 + 1, c7, k', l ++ [x, zeroC], s2, rfl, by omega, by omega, Lib.hid (by have h := HG7.out; rw [List.append_assoc] at h; exact h), HL7, HQ2⟩, by show N - (m + 1 + 1) < N - m; omega⟩
          · have hw2 : withSecond x = [x] := by unfold withSecond; rw [if_neg ht]
            rw [hw2] at HQ2
            have hq5 : (x.tag == 5) = false := by simpa using ht
            have Ht := Lib.hid ht
            clear ht hw2
            go_wp2_with (at_builtin; refine wpList_append_cst rfl (.tmp 29) (.tmp 31) rfl w.heap.size B m c l rfl HG4.out (some ⟨w2.heap.size + 1, 0, none⟩) 1 1 [x] rfl HX4.out (fun h => by cases h) (by omega) HS4.out ?_; intro B5 c5 w5 hg5 hgr5 hr5; have HG5 := Lib.hid hg5; have HL5 := Lib.hid (HL4.out.far (S := fun q => (Value.slice B m c).ownBlock = some q) (Only.of_grown hgr5 (fun k e _ => e)) (fun q _ h => hr5 q h)); have HB5 := Lib.hid (HG4.out.other HB4.out HN4.out hgr5); have t5 : w5.cell? ⟨w2.heap.size, 0, none⟩ = some (.int .i64 x.tag) := HB5.out.cell 0; clear hg5 hgr5 hr5)
            exact ⟨⟨B5, m + 1, c5, k', l ++ [x], s2, rfl, by omega, by omega, HG5, HL5, HQ2⟩, by show N - (m + 1) < N - m; omega⟩
        · have hd : decide ((m : Int) < (N : Int)) = false := decide_eq_false (by omega)
          have HQ3 : Hid (P = (l, s)) := Lib.hid (by rw [← HQ.out]; exact placesR_stop bs N k s l (by rw [Hml.out]; omega))
          have Hf := Lib.hid hf
          clear hf
          by_cases hgt : N < m
          · have HE : Hid (endP N P = s.refuse 8) := Lib.hid (by rw [HQ3.out]; unfold endP; rw [if_pos (by rw [Hml.out]; exact hgt)])
            have hdg : decide ((N : Int) < (m : Int)) = true := decide_eq_true (by omega)
            have CRs := Lib.hid (CR.out s wr HL.out.rd)
            go_wp2_with fail
            refine CRs.out.mono ?_
            rintro e w8 ⟨rfl, hR8, hO8⟩
            have HL8 := Lib.hid (HL.out.next hR8 hO8)
            have HG8 := Lib.hid (HG.out.only Cst.cells_len hO8 (fun i hi _ e => by have := HL.out.lt; omega))
            clear hR8 hO8
            go_wp2
            go_ret
            rw [HE.out, HQ3.out]
            exact ⟨⟨B, c, by rw [← Hml.out]; rfl, by rw [Hml.out]; exact HG8.out.out (fun i hi _ e => by have := HL.out.lt; omega)⟩, HL8.out.rd, HL8.out.only⟩
          · have HE : Hid (endP N P = s) := Lib.hid (by rw [HQ3.out]; unfold endP; rw [if_neg (by rw [Hml.out]; exact hgt)])
            have hdg : decide ((N : Int) < (m : Int)) = false := decide_eq_false (by omega)
            go_wp2
            go_ret
            rw [HE.out, HQ3.out]
            exact ⟨⟨B, c, by rw [← Hml.out]; rfl, by rw [Hml.out]; exact HG.out.out (fun i hi _ e => by have := HL.out.lt; omega)⟩, HL.out.rd, HL.out.only⟩
      · have hq : (s.fault == 0) = false := by simpa using hf
        have HQ3 : Hid (P = (l, s)) := Lib.hid (by rw [← HQ.out]; exact placesR_stop bs N k s l (fun h => hf h.1))
        have Hf := Lib.hid hf
        clear hf
        by_cases hgt : N < m
        · have HE : Hid (endP N P = s.refuse 8) := Lib.hid (by rw [HQ3.out]; unfold endP; rw [if_pos (by rw [Hml.out]; exact hgt)])
          have hdg : decide ((N : Int) < (m : Int)) = true := decide_eq_true (by omega)
          have CRs := Lib.hid (CR.out s wr HL.out.rd)
          go_wp2_with fail
          refine CRs.out.mono ?_
          rintro e w8 ⟨rfl, hR8, hO8⟩
          have HL8 := Lib.hid (HL.out.next hR8 hO8)
          have HG8 := Lib.hid (HG.out.only Cst.cells_len hO8 (fun i hi _ e => by have := HL.out.lt; omega))
          clear hR8 hO8
          go_wp2
          go_ret
          rw [HE.out, HQ3.out]
          exact ⟨⟨B, c, by rw [← Hml.out]; rfl, by rw [Hml.out]; exact HG8.out.out (fun i hi _ e => by have := HL.out.lt; omega)⟩, HL8.out.rd, HL8.out.only⟩
        · have HE : Hid (endP N P = s) := Lib.hid (by rw [HQ3.out]; unfold endP; rw [if_neg (by rw [Hml.out]; exact hgt)])
          have hdg : decide ((N : Int) < (m : Int)) = false := decide_eq_false (by omega)
          go_wp2
          go_ret
          rw [HE.out, HQ3.out]
          exact ⟨⟨B, c, by rw [← Hml.out]; rfl, by rw [Hml.out]; exact HG.out.out (fun i hi _ e => by have := HL.out.lt; omega)⟩, HL.out.rd, HL.out.only⟩

end Go.Proofs.Ytinkjeifkjfkgaa
