/- The walks over a pool's reader.places and pool.Parse. -/
import Derived.Test.YtendpbklcgiafaaZan
import Derived.Test.YtendpbklcgiafaaZab
import Derived.Test.YtendpbklcgiafaaZag
import Derived.Test.YtendpbklcgiafaaZac
import Derived.Test.YtendpbklcgiafaaZah
namespace Go.Proofs.Ytendpbklcgiafaa
set_option maxRecDepth 100000
open Go.RowKit

/-! ### What is read has the machine's numbers -/
theorem sgn_bd (v k : Nat) (h1 : 1 ≤ k) (h2 : k ≤ 8) : -9223372036854775808 ≤ sgn v k ∧ sgn v k ≤ 9223372036854775807 := by
  have hp : 2 ^ (8 * k) = 2 * 2 ^ (8 * k - 1) := by
    rw [show 8 * k = (8 * k - 1) + 1 by omega, Nat.pow_succ]
    simp
    omega
  have hle : 2 ^ (8 * k - 1) ≤ 2 ^ 63 := Nat.pow_le_pow_right (by decide) (by omega)
  have hm := Nat.mod_lt v (show 0 < 2 ^ (8 * k) from Nat.pow_pos (by decide))
  have e63 : (2 ^ 63 : Nat) = 9223372036854775808 := rfl
  unfold sgn
  split <;> omega
theorem textR_len (bs : List UInt8) (s : RS) : (textR bs s).1.length ≤ 65535 := by
  have h := numR_lt bs s 2
  have h : (numR bs s 2).1 < 65536 := h
  unfold textR
  simp only
  split
  all_goals
    split
    · simp
    · simp only [List.length_take]
      omega
theorem optR_lt (bs : List UInt8) (s : RS) (on : Bool) : (optR bs s on 2).1 < 65536 := by
  unfold optR
  split
  · exact numR_lt bs s 2
  · exact (by decide : 0 < 65536)
theorem constR_cst (bs : List UInt8) (s : RS) : (constR bs s).1.ok := by
  have h0 : (numR bs s 1).1 < 256 := numR_lt bs s 1
  unfold constR
  simp only
  refine ⟨by simp only; omega, ?_, ?_, ?_, ?_⟩
  · simp only
    have := optR_lt bs (optR bs (if (formF ((numR bs s 1).1 : Int)).text = true then textR bs (if formF ((numR bs s 1).1 : Int) = noFrm then (numR bs s 1).2.refuse 8 else (numR bs s 1).2) else ([], if formF ((numR bs s 1).1 : Int) = noFrm then (numR bs s 1).2.refuse 8 else (numR bs s 1).2)).2 ((formF ((numR bs s 1).1 : Int)).num != 0) (formF ((numR bs s 1).1 : Int)).num.toNat).2 ((formF ((numR bs s 1).1 : Int)).a != 0)
    omega
  · simp only
    generalize (optR bs (optR bs (if (formF ((numR bs s 1).1 : Int)).text = true then textR bs (if formF ((numR bs s 1).1 : Int) = noFrm then (numR bs s 1).2.refuse 8 else (numR bs s 1).2) else ([], if formF ((numR bs s 1).1 : Int) = noFrm then (numR bs s 1).2.refuse 8 else (numR bs s 1).2)).2 ((formF ((numR bs s 1).1 : Int)).num != 0) (formF ((numR bs s 1).1 : Int)).num.toNat).2 ((formF ((numR bs s 1).1 : Int)).a != 0) 2).2 = z
    have := optR_lt bs z ((formF ((numR bs s 1).1 : Int)).b != 0)
    omega
  · simp only
    split
    · decide
    · next hn =>
      have hk : (formF ((numR bs s 1).1 : Int)).num.toNat = 4 ∨ (formF ((numR bs s 1).1 : Int)).num.toNat = 8 := by
        rcases form_ways ((numR bs s 1).1 : Int) with h | h | h | h | h | h | h <;> rw [h] at hn ⊢ <;> simp at hn ⊢
      rcases hk with hk | hk <;> rw [hk] <;> exact sgn_bd _ _ (by omega) (by omega)
  · simp only
    split
    · have := textR_len bs (if formF ((numR bs s 1).1 : Int) = noFrm then (numR bs s 1).2.refuse 8 else (numR bs s 1).2)
      omega
    · simp
theorem withSecond_ok {c : Cst} (h : c.ok) : ∀ d ∈ withSecond c, d.ok := by
  unfold withSecond
  split
  · intro d hd
    simp at hd
    rcases hd with rfl | rfl
    · exact h
    · exact zeroC_ok
  · intro d hd
    simp at hd
    rw [hd]
    exact h
theorem placesR_cst (bs : List UInt8) (n : Nat) : ∀ (k : Nat) (s : RS) (l : List Cst), (∀ c ∈ l, c.ok) → ∀ c ∈ (placesR bs n k s l).1, c.ok := by
  intro k
  induction k with
  | zero => intro s l h; exact h
  | succ k ih =>
    intro s l h
    unfold placesR
    split
    · refine ih _ _ (fun c hc => ?_)
      rw [List.mem_append] at hc
      rcases hc with hc | hc
      · exact h c hc
      · exact withSecond_ok (constR_cst bs s) c hc
    · exact h
theorem placesR_len (bs : List UInt8) (n : Nat) : ∀ (k : Nat) (s : RS) (l : List Cst), l.length ≤ n + 1 → (placesR bs n k s l).1.length ≤ n + 1 := by
  intro k
  induction k with
  | zero => intro s l h; exact h
  | succ k ih =>
    intro s l h
    unfold placesR
    split
    · next hc =>
      refine ih _ _ ?_
      have := withSecond_len (constR bs s).1
      rw [List.length_append]
      omega
    · exact h
theorem placesR_stop (bs : List UInt8) (n k : Nat) (s : RS) (l : List Cst) (h : ¬ (s.fault = 0 ∧ l.length < n)) : placesR bs n k s l = (l, s) := by
  cases k with
  | zero => rfl
  | succ k =>
    unfold placesR
    rw [if_neg h]

/-! ### A reader whose bytes lie where they lay -/
structure RdL (w : World) (g : Nat) (A : Option Addr) (n cap : Nat) (bs : List UInt8) (s : RS) (W : World) : Prop where
  rd : RdP W g A n cap bs s
  only : Only (· = g) w W
  lt : g < w.heap.size
  b0 : ByteSl w (· = g) A n cap bs
theorem RdL.next {w W W' : World} {g n cap : Nat} {A : Option Addr} {bs : List UInt8} {s s' : RS} (h : RdL w g A n cap bs s W) (hR : RdP W' g A n cap bs s') (hO : Only (· = g) W W') : RdL w g A n cap bs s' W' := ⟨hR, h.only.trans hO, h.lt, h.b0⟩
theorem RdL.far {w W W' : World} {g n cap : Nat} {A : Option Addr} {bs : List UInt8} {s : RS} {S : Nat → Prop} (h : RdL w g A n cap bs s W) (k : Only S W W') (hS : ∀ q, q < W.heap.size → S q → w.heap.size ≤ q) : RdL w g A n cap bs s W' := by
  have hO : Only (· = g) w W' := h.only.trans' k (fun i hi hs => by
    by_cases hi2 : i < W.heap.size
    · have := hS i hi2 hs
      omega
    · have := h.only.size
      omega)
  exact ⟨⟨k.blk h.rd.blk (fun hs => by have := hS g h.rd.blk.lt hs; have := h.lt; omega), h.b0.only hO (fun _ _ h => h), h.rd.le⟩, hO, h.lt, h.b0⟩
theorem RdL.start {w : World} {g n cap : Nat} {A : Option Addr} {bs : List UInt8} {s : RS} (h : RdP w g A n cap bs s) : RdL w g A n cap bs s w := ⟨h, Only.refl _ _, h.blk.lt, h.bytes⟩

theorem cst_lit (c : Cst) (W : World) : PoolSl (W.alloc (.cells #[.int .i64 c.tag, .int .i64 c.a, .int .i64 c.b, .int .i64 c.n, .string (strB c.s)] 30)) (some ⟨W.heap.size, 0, none⟩) 1 1 [c] :=
  RowSl.lit Cst.cells_len W Empty 30 [c] 1 [.int .i64 c.tag, .int .i64 c.a, .int .i64 c.b, .int .i64 c.n, .string (strB c.s)] (by simp [Cst.cells]) rfl (by unfold maxLen; omega) (fun h => h)
theorem GotR.other {W W' : World} {base n cap q : Nat} {A : Option Addr} {l : List Cst} {cs : Array Value} (h : GotR Cst.cells 5 30 base W A n cap l) (hq : Blk W q 30 cs) (hne : ∀ g, (Value.slice A n cap).ownBlock = some g → g ≠ q) (k : W.grownBy W' (Value.slice A n cap).ownBlock) : Blk W' q 30 cs := by
  have hO : Only (fun p => (Value.slice A n cap).ownBlock = some p) W W' := Only.of_grown k (fun k e _ => e)
  exact hO.blk hq (fun e => hne q e rfl)
theorem GotR.own_lt {W : World} {base n cap : Nat} {A : Option Addr} {l : List Cst} (h : GotR Cst.cells 5 30 base W A n cap l) : ∀ g, (Value.slice A n cap).ownBlock = some g → g < W.heap.size := by
  intro g hg
  rcases h.here with rfl | ⟨g', cur, rfl, _, hb, _⟩
  · cases hg
  · cases hg
    exact hb.lt

theorem zero_row (wa : World) (base : Nat) (h : base ≤ wa.heap.size) : GotR Cst.cells 5 30 base (wa.alloc (.cells #[.int .i64 0, .int .i64 0, .int .i64 0, .int .i64 0, .string ⟨#[]⟩] 30)) (some ⟨wa.heap.size, 0, none⟩) 1 1 [zeroC] := by
  obtain ⟨A, c, e, hG⟩ := GotR.of_own (cells := Cst.cells) (k := 5) (t := 30) (base := base) (l := [zeroC]) (n := 1) (v := .slice (some ⟨wa.heap.size, 0, none⟩) 1 1) (w := wa.alloc (.cells #[.int .i64 0, .int .i64 0, .int .i64 0, .int .i64 0, .string ⟨#[]⟩] 30)) Cst.cells_len
    ⟨rfl, Or.inr ⟨wa.heap.size, 1, #[.int .i64 0, .int .i64 0, .int .i64 0, .int .i64 0, .string ⟨#[]⟩], rfl, h, Blk.new _ _ _, Nat.le_refl _, by unfold maxLen; omega, rfl, rfl⟩⟩ rfl
  cases e
  exact hG
def endP (n : Nat) (p : List Cst × RS) : RS := if n < p.1.length then p.2.refuse 8 else p.2
set_option maxHeartbeats 2000000 in
theorem places_any (g : Nat) (A : Option Addr) (n cap : Nat) (bs : List UInt8) (w : World) (hR : RdP w g A n cap bs ⟨0, 0⟩) (hm : n ≤ 1048576) :
    Calls Try.prog 109 #[.pointer (some ⟨g, 0, none⟩)] w fun e w' => (∃ B c, e = .returned (.slice B (placesR bs (countR bs).1 (countR bs).1 (countR bs).2 [zeroC]).1.length c) ∧ RowSl Cst.cells 5 w' (fun q => q < w.heap.size) B (placesR bs (countR bs).1 (countR bs).1 (countR bs).2 [zeroC]).1.length c (placesR bs (countR bs).1 (countR bs).1 (countR bs).2 [zeroC]).1) ∧
      RdP w' g A n cap bs (endP (countR bs).1 (placesR bs (countR bs).1 (countR bs).1 (countR bs).2 [zeroC])) ∧ Only (· = g) w w' := by
  have C0 := Lib.hid (prNumber_any g A n cap 2 bs ⟨0, 0⟩ w hR (by omega) (by omega) hm)
  have hN := numR_lt bs ⟨0, 0⟩ 2
  obtain ⟨N, s0, hr⟩ : ∃ N s0, numR bs ⟨0, 0⟩ 2 = (N, s0) := ⟨_, _, rfl⟩
  have hcnt : countR bs = (N, if 1 ≤ N ∧ N ≤ 1024 then s0 else s0.refuse 8) := by unfold countR; rw [hr]
  rw [hr] at C0 hN
  have hN : N < 65536 := hN
  rw [hcnt]
  obtain ⟨s1, hs1⟩ : ∃ s1, (if 1 ≤ N ∧ N ≤ 1024 then s0 else s0.refuse 8) = s1 := ⟨_, rfl⟩
  rw [hs1]
  simp only
  obtain ⟨P, hP⟩ : ∃ P, placesR bs N N s1 [zeroC] = P := ⟨_, rfl⟩
  rw [hP]
  have hPl : P.1.length ≤ N + 1 := by rw [← hP]; exact placesR_len bs N N s1 [zeroC] (by simp)
  have hwN : IntKind.i64.wrap (N : Int) = (N : Int) := by rw [IntKind.wrap_i64]; omega
  have CI := isCount_any (N : Int)
  have CR : Hid (∀ (s : RS) (W : World), RdP W g A n cap bs s → Calls Try.prog 111 #[.pointer (some ⟨g, 0, none⟩), .int .i64 8] W fun e1 w' => e1 = .returned (.tuple #[]) ∧ RdP w' g A n cap bs (s.refuse 8) ∧ Only (· = g) W w') := Lib.hid (fun s W h => refuse_any g A n cap bs s 8 W h)
  have CC : Hid (∀ (s : RS) (W : World), RdP W g A n cap bs s → Calls Try.prog 112 #[.pointer (some ⟨g, 0, none⟩)] W fun e w' => e = .returned (constR bs s).1.v ∧ RdP w' g A n cap bs (constR bs s).2 ∧ Only (· = g) W w') := Lib.hid (fun s W h => prConstant_any g A n cap bs s W h hm)
  have HR := Lib.hid (RdL.start hR)
  have HP := Lib.hid hP
  have HPl := Lib.hid hPl
  clear hR hm hr hcnt hP hPl
  have HZ : Hid (∀ W : World, GotR Cst.cells 5 30 w.heap.size W none 0 0 []) := Lib.hid (fun W => GotR.nil_ _ _ _ _ _)
  have HCI : Hid (∀ W, Calls Try.prog 90 #[.int .i64 (N : Int)] W fun e w' => e = .returned (.bool (decide (1 ≤ (N : Int) ∧ (N : Int) ≤ 1024))) ∧ W = w') := Lib.hid CI
  clear CI
  by_cases hv : 1 ≤ N ∧ N ≤ 1024
  case pos =>
    rw [if_pos hv] at hs1
    subst hs1
    rw [decide_eq_true (by omega)] at HCI
    go_enter Try.func109, Try.ntmps109
    go_wp2_with fail
    refine C0.out.mono ?_
    rintro e wa ⟨rfl, hR1, hO1⟩
    have HRa := Lib.hid (HR.out.next hR1 hO1)
    clear hR1 hO1
    go_wp2_with fail
    refine (HCI.out _).mono ?_
    rintro e w2 ⟨rfl, rfl⟩
    go_wp2
    have HW0 : Hid (w.heap.size ≤ wa.heap.size) := Lib.hid HRa.out.only.size
    go_loopw [4] (fun b wr => ∃ (B : Option Addr) (m c k : Nat) (l : List Cst) (s : RS), b = .slice B m c ∧ m ≤ N + 1 ∧ N ≤ m + k ∧ Hid (GotR Cst.cells 5 30 w.heap.size wr B m c l) ∧ Hid (RdL w g A n cap bs s wr) ∧ Hid (placesR bs N k s l = P)) (fun b _ => match b with | .slice _ m _ => N - m | _ => 0)
    case atStart => exact ⟨some ⟨wa.heap.size, 0, none⟩, 1, 1, N, [zeroC], s0, rfl, by omega, by omega, Lib.hid (zero_row wa w.heap.size HW0.out), Lib.hid (HRa.out.far ((Only.refl Empty wa).alloc _) (fun _ _ h => h.elim)), HP⟩
    case round =>
      obtain ⟨B, m, c, k, l, s, rfl, hmN, hmk, HG, HL, HQ⟩ := hrel
      have hml : l.length = m := HG.out.row.1
      have Hml := Lib.hid hml
      have c2 : wr.cell? ⟨g, 2, none⟩ = some (.int .i64 s.fault) := HL.out.rd.blk.cell 2
      have hmc : m ≤ c := HG.out.row.2.1
      have hcx : c ≤ 9223372036854775807 := by have := HG.out.row.2.2.1; unfold maxLen at this; exact this
      clear hml
      by_cases hf : s.fault = 0
      · have hq : (s.fault == 0) = true := by simpa using hf
        by_cases hlt : m < N
        · have hd : decide ((m : Int) < (N : Int)) = true := decide_eq_true (by omega)
          obtain ⟨k', rfl⟩ : ∃ k', k = k' + 1 := ⟨k - 1, by omega⟩
          obtain ⟨x, s2, hx⟩ : ∃ x s2, constR bs s = (x, s2) := ⟨_, _, rfl⟩
          have hQ2 : placesR bs N k' s2 (l ++ withSecond x) = P := by
            have h := HQ.out
            unfold placesR at h
            rw [if_pos ⟨hf, by rw [Hml.out]; exact hlt⟩, hx] at h
            exact h
          have HQ2 := Lib.hid hQ2
          have C := CC.out s wr HL.out.rd
          rw [hx] at C
          have C := Lib.hid C
          have Hf := Lib.hid hf
          clear hx hQ2 hf
          go_wp2_with fail
          refine C.out.mono ?_
          rintro e w2 ⟨rfl, hR2, hO2⟩
          have HL2 := Lib.hid (HL.out.next hR2 hO2)
          have HG2 := Lib.hid (HG.out.only Cst.cells_len hO2 (fun i hi _ e => by have := HL.out.lt; omega))
          clear hR2 hO2 c2
          simp only [Cst.v]
          have HO4 : Hid (Only Empty w2 ((w2.alloc (.cells x.cells.toArray 30)).alloc (.cells x.cells.toArray 30))) := Lib.hid (((Only.refl Empty w2).alloc _).alloc _)
          have HG4 := Lib.hid (HG2.out.only Cst.cells_len HO4.out (fun _ _ _ h => h))
          have HL4 := Lib.hid (HL2.out.far HO4.out (fun _ _ h => h.elim))
          have HB4 : Hid (Blk ((w2.alloc (.cells x.cells.toArray 30)).alloc (.cells x.cells.toArray 30)) w2.heap.size 30 x.cells.toArray) := Lib.hid ((Blk.new w2 _ _).alloc _)
          have HN4 : Hid (∀ g', (Value.slice B m c).ownBlock = some g' → g' ≠ w2.heap.size) := Lib.hid (fun g' h => by have := HG2.out.own_lt g' h; omega)
          have hX4 := cst_lit x (w2.alloc (.cells x.cells.toArray 30))
          rw [show (w2.alloc (.cells x.cells.toArray 30)).heap.size = w2.heap.size + 1 by simp] at hX4
          have HX4 := Lib.hid hX4
          clear hX4
          have HS4 : Hid (w.heap.size ≤ ((w2.alloc (.cells x.cells.toArray 30)).alloc (.cells x.cells.toArray 30)).heap.size) := Lib.hid (Nat.le_trans HL2.out.only.size HO4.out.size)
          by_cases ht : x.tag = 5
          · have hw2 : withSecond x = [x, zeroC] := by unfold withSecond; rw [if_pos ht]
            rw [hw2] at HQ2
            have hq5 : (x.tag == 5) = true := by simpa using ht
            have Ht := Lib.hid ht
            clear ht hw2
            go_wp2_with (first | (at_builtin; refine wpList_append_cst rfl (.tmp 29) (.tmp 31) rfl w.heap.size B m c l rfl HG4.out (some ⟨w2.heap.size + 1, 0, none⟩) 1 1 [x] rfl HX4.out (fun h => by cases h) (by omega) HS4.out ?_; intro B5 c5 w5 hg5 hgr5 hr5; have HG5 := Lib.hid hg5; have HL5 := Lib.hid (HL4.out.far (S := fun q => (Value.slice B m c).ownBlock = some q) (Only.of_grown hgr5 (fun k e _ => e)) (fun q _ h => hr5 q h)); have HB5 := Lib.hid (HG4.out.other HB4.out HN4.out hgr5); have t5 : w5.cell? ⟨w2.heap.size, 0, none⟩ = some (.int .i64 x.tag) := HB5.out.cell 0; have HZ5 := Lib.hid (cst_lit zeroC w5); have HG6 := Lib.hid (HG5.out.alloc Cst.cells_len (.cells zeroC.cells.toArray 30)); have HL6 := Lib.hid (HL5.out.far ((Only.refl Empty w5).alloc (.cells zeroC.cells.toArray 30)) (fun _ _ h => h.elim)); have HS6 : Hid (w.heap.size ≤ (w5.alloc (.cells zeroC.cells.toArray 30)).heap.size) := Lib.hid (Nat.le_trans HL5.out.only.size (by simp)); clear hg5 hgr5 hr5) | (at_builtin; refine wpList_append_cst rfl (.tmp 36) (.tmp 38) rfl w.heap.size B5 (m + 1) c5 (l ++ [x]) rfl HG6.out (some ⟨w5.heap.size, 0, none⟩) 1 1 [zeroC] rfl HZ5.out (fun h => by cases h) (by omega) HS6.out ?_; intro B7 c7 w7 hg7 hgr7 hr7; have HG7 := Lib.hid hg7; have HL7 := Lib.hid (HL6.out.far (S := fun q => (Value.slice B5 (m + 1) c5).ownBlock = some q) (Only.of_grown hgr7 (fun k e _ => e)) (fun q _ h => hr7 q h)); clear hg7 hgr7 hr7))
            exact ⟨⟨B7, m + 1 + 1, c7, k', l ++ [x, zeroC], s2, rfl, by omega, by omega, Lib.hid (by have h := HG7.out; rw [List.append_assoc] at h; exact h), HL7, HQ2⟩, by show N - (m + 1 + 1) < N - m; omega⟩
          · have hw2 : withSecond x = [x] := by unfold withSecond; rw [if_neg ht]
            rw [hw2] at HQ2
            have hq5 : (x.tag == 5) = false := by simpa using ht
            have Ht := Lib.hid ht
            clear ht hw2
            go_wp2_with (at_builtin; refine wpList_append_cst rfl (.tmp 29) (.tmp 31) rfl w.heap.size B m c l rfl HG4.out (some ⟨w2.heap.size + 1, 0, none⟩) 1 1 [x] rfl HX4.out (fun h => by cases h) (by omega) HS4.out ?_; intro B5 c5 w5 hg5 hgr5 hr5; have HG5 := Lib.hid hg5; have HL5 := Lib.hid (HL4.out.far (S := fun q => (Value.slice B m c).ownBlock = some q) (Only.of_grown hgr5 (fun k e _ => e)) (fun q _ h => hr5 q h)); have HB5 := Lib.hid (HG4.out.other HB4.out HN4.out hgr5); have t5 : w5.cell? ⟨w2.heap.size, 0, none⟩ = some (.int .i64 x.tag) := HB5.out.cell 0; clear hg5 hgr5 hr5)
            exact ⟨⟨B5, m + 1, c5, k', l ++ [x], s2, rfl, by omega, by omega, HG5, HL5, HQ2⟩, by show N - (m + 1) < N - m; omega⟩
        · have hd : decide ((m : Int) < (N : Int)) = false := decide_eq_false (by omega)
          have HQ3 : Hid (P = (l, s)) := Lib.hid (by rw [← HQ.out]; exact placesR_stop bs N k s l (by rw [Hml.out]; omega))
          have Hf := Lib.hid hf
          clear hf
          by_cases hgt : N < m
          · have HE : Hid (endP N P = s.refuse 8) := Lib.hid (by rw [HQ3.out]; unfold endP; rw [if_pos (by rw [Hml.out]; exact hgt)])
            have hdg : decide ((N : Int) < (m : Int)) = true := decide_eq_true (by omega)
            have CRs := Lib.hid (CR.out s wr HL.out.rd)
            go_wp2_with fail
            refine CRs.out.mono ?_
            rintro e w8 ⟨rfl, hR8, hO8⟩
            have HL8 := Lib.hid (HL.out.next hR8 hO8)
            have HG8 := Lib.hid (HG.out.only Cst.cells_len hO8 (fun i hi _ e => by have := HL.out.lt; omega))
            clear hR8 hO8
            go_wp2
            go_ret
            rw [HE.out, HQ3.out]
            exact ⟨⟨B, c, by rw [← Hml.out]; rfl, by rw [Hml.out]; exact HG8.out.out (fun i hi _ e => by have := HL.out.lt; omega)⟩, HL8.out.rd, HL8.out.only⟩
          · have HE : Hid (endP N P = s) := Lib.hid (by rw [HQ3.out]; unfold endP; rw [if_neg (by rw [Hml.out]; exact hgt)])
            have hdg : decide ((N : Int) < (m : Int)) = false := decide_eq_false (by omega)
            go_wp2
            go_ret
            rw [HE.out, HQ3.out]
            exact ⟨⟨B, c, by rw [← Hml.out]; rfl, by rw [Hml.out]; exact HG.out.out (fun i hi _ e => by have := HL.out.lt; omega)⟩, HL.out.rd, HL.out.only⟩
      · have hq : (s.fault == 0) = false := by simpa using hf
        have HQ3 : Hid (P = (l, s)) := Lib.hid (by rw [← HQ.out]; exact placesR_stop bs N k s l (fun h => hf h.1))
        have Hf := Lib.hid hf
        clear hf
        by_cases hgt : N < m
        · have HE : Hid (endP N P = s.refuse 8) := Lib.hid (by rw [HQ3.out]; unfold endP; rw [if_pos (by rw [Hml.out]; exact hgt)])
          have hdg : decide ((N : Int) < (m : Int)) = true := decide_eq_true (by omega)
          have CRs := Lib.hid (CR.out s wr HL.out.rd)
          go_wp2_with fail
          refine CRs.out.mono ?_
          rintro e w8 ⟨rfl, hR8, hO8⟩
          have HL8 := Lib.hid (HL.out.next hR8 hO8)
          have HG8 := Lib.hid (HG.out.only Cst.cells_len hO8 (fun i hi _ e => by have := HL.out.lt; omega))
          clear hR8 hO8
          go_wp2
          go_ret
          rw [HE.out, HQ3.out]
          exact ⟨⟨B, c, by rw [← Hml.out]; rfl, by rw [Hml.out]; exact HG8.out.out (fun i hi _ e => by have := HL.out.lt; omega)⟩, HL8.out.rd, HL8.out.only⟩
        · have HE : Hid (endP N P = s) := Lib.hid (by rw [HQ3.out]; unfold endP; rw [if_neg (by rw [Hml.out]; exact hgt)])
          have hdg : decide ((N : Int) < (m : Int)) = false := decide_eq_false (by omega)
          go_wp2
          go_ret
          rw [HE.out, HQ3.out]
          exact ⟨⟨B, c, by rw [← Hml.out]; rfl, by rw [Hml.out]; exact HG.out.out (fun i hi _ e => by have := HL.out.lt; omega)⟩, HL.out.rd, HL.out.only⟩
  case neg =>
    rw [if_neg hv] at hs1
    rw [decide_eq_false (by omega)] at HCI
    go_enter Try.func109, Try.ntmps109
    go_wp2_with fail
    refine C0.out.mono ?_
    rintro e w1 ⟨rfl, hR1, hO1⟩
    have HR1 := Lib.hid (HR.out.next hR1 hO1)
    clear hR1 hO1
    go_wp2_with fail
    refine (HCI.out _).mono ?_
    rintro e w2 ⟨rfl, rfl⟩
    go_wp2_with fail
    refine (CR.out _ _ HR1.out.rd).mono ?_
    rintro e wa ⟨rfl, hR2, hO2⟩
    rw [hs1] at hR2
    have HRa := Lib.hid (HR1.out.next hR2 hO2)
    clear hR2 hO2
    go_wp2
    have HW0 : Hid (w.heap.size ≤ wa.heap.size) := Lib.hid HRa.out.only.size
    go_loopw [4] (fun b wr => ∃ (B : Option Addr) (m c k : Nat) (l : List Cst) (s : RS), b = .slice B m c ∧ m ≤ N + 1 ∧ N ≤ m + k ∧ Hid (GotR Cst.cells 5 30 w.heap.size wr B m c l) ∧ Hid (RdL w g A n cap bs s wr) ∧ Hid (placesR bs N k s l = P)) (fun b _ => match b with | .slice _ m _ => N - m | _ => 0)
    case atStart => exact ⟨some ⟨wa.heap.size, 0, none⟩, 1, 1, N, [zeroC], s1, rfl, by omega, by omega, Lib.hid (zero_row wa w.heap.size HW0.out), Lib.hid (HRa.out.far ((Only.refl Empty wa).alloc _) (fun _ _ h => h.elim)), HP⟩
    case round =>
      obtain ⟨B, m, c, k, l, s, rfl, hmN, hmk, HG, HL, HQ⟩ := hrel
      have hml : l.length = m := HG.out.row.1
      have Hml := Lib.hid hml
      have c2 : wr.cell? ⟨g, 2, none⟩ = some (.int .i64 s.fault) := HL.out.rd.blk.cell 2
      have hmc : m ≤ c := HG.out.row.2.1
      have hcx : c ≤ 9223372036854775807 := by have := HG.out.row.2.2.1; unfold maxLen at this; exact this
      clear hml
      by_cases hf : s.fault = 0
      · have hq : (s.fault == 0) = true := by simpa using hf
        by_cases hlt : m < N
        · have hd : decide ((m : Int) < (N : Int)) = true := decide_eq_true (by omega)
          obtain ⟨k', rfl⟩ : ∃ k', k = k' + 1 := ⟨k - 1, by omega⟩
          obtain ⟨x, s2, hx⟩ : ∃ x s2, constR bs s = (x, s2) := ⟨_, _, rfl⟩
          have hQ2 : placesR bs N k' s2 (l ++ withSecond x) = P := by
            have h := HQ.out
            unfold placesR at h
            rw [if_pos ⟨hf, by rw [Hml.out]; exact hlt⟩, hx] at h
            exact h
          have HQ2 := Lib.hid hQ2
          have C := CC.out s wr HL.out.rd
          rw [hx] at C
          have C := Lib.hid C
          have Hf := Lib.hid hf
          clear hx hQ2 hf
          go_wp2_with fail
          refine C.out.mono ?_
          rintro e w2 ⟨rfl, hR2, hO2⟩
          have HL2 := Lib.hid (HL.out.next hR2 hO2)
          have HG2 := Lib.hid (HG.out.only Cst.cells_len hO2 (fun i hi _ e => by have := HL.out.lt; omega))
          clear hR2 hO2 c2
          simp only [Cst.v]
          have HO4 : Hid (Only Empty w2 ((w2.alloc (.cells x.cells.toArray 30)).alloc (.cells x.cells.toArray 30))) := Lib.hid (((Only.refl Empty w2).alloc _).alloc _)
          have HG4 := Lib.hid (HG2.out.only Cst.cells_len HO4.out (fun _ _ _ h => h))
          have HL4 := Lib.hid (HL2.out.far HO4.out (fun _ _ h => h.elim))
          have HB4 : Hid (Blk ((w2.alloc (.cells x.cells.toArray 30)).alloc (.cells x.cells.toArray 30)) w2.heap.size 30 x.cells.toArray) := Lib.hid ((Blk.new w2 _ _).alloc _)
          have HN4 : Hid (∀ g', (Value.slice B m c).ownBlock = some g' → g' ≠ w2.heap.size) := Lib.hid (fun g' h => by have := HG2.out.own_lt g' h; omega)
          have hX4 := cst_lit x (w2.alloc (.cells x.cells.toArray 30))
          rw [show (w2.alloc (.cells x.cells.toArray 30)).heap.size = w2.heap.size + 1 by simp] at hX4
          have HX4 := Lib.hid hX4
          clear hX4
          have HS4 : Hid (w.heap.size ≤ ((w2.alloc (.cells x.cells.toArray 30)).alloc (.cells x.cells.toArray 30)).heap.size) := Lib.hid (Nat.le_trans HL2.out.only.size HO4.out.size)
          by_cases ht : x.tag = 5
          · have hw2 : withSecond x = [x, zeroC] := by unfold withSecond; rw [if_pos ht]
            rw [hw2] at HQ2
            have hq5 : (x.tag == 5) = true := by simpa using ht
            have Ht := Lib.hid ht
            clear ht hw2
            go_wp2_with (first | (at_builtin; refine wpList_append_cst rfl (.tmp 29) (.tmp 31) rfl w.heap.size B m c l rfl HG4.out (some ⟨w2.heap.size + 1, 0, none⟩) 1 1 [x] rfl HX4.out (fun h => by cases h) (by omega) HS4.out ?_; intro B5 c5 w5 hg5 hgr5 hr5; have HG5 := Lib.hid hg5; have HL5 := Lib.hid (HL4.out.far (S := fun q => (Value.slice B m c).ownBlock = some q) (Only.of_grown hgr5 (fun k e _ => e)) (fun q _ h => hr5 q h)); have HB5 := Lib.hid (HG4.out.other HB4.out HN4.out hgr5); have t5 : w5.cell? ⟨w2.heap.size, 0, none⟩ = some (.int .i64 x.tag) := HB5.out.cell 0; have HZ5 := Lib.hid (cst_lit zeroC w5); have HG6 := Lib.hid (HG5.out.alloc Cst.cells_len (.cells zeroC.cells.toArray 30)); have HL6 := Lib.hid (HL5.out.far ((Only.refl Empty w5).alloc (.cells zeroC.cells.toArray 30)) (fun _ _ h => h.elim)); have HS6 : Hid (w.heap.size ≤ (w5.alloc (.cells zeroC.cells.toArray 30)).heap.size) := Lib.hid (Nat.le_trans HL5.out.only.size (by simp)); clear hg5 hgr5 hr5) | (at_builtin; refine wpList_append_cst rfl (.tmp 36) (.tmp 38) rfl w.heap.size B5 (m + 1) c5 (l ++ [x]) rfl HG6.out (some ⟨w5.heap.size, 0, none⟩) 1 1 [zeroC] rfl HZ5.out (fun h => by cases h) (by omega) HS6.out ?_; intro B7 c7 w7 hg7 hgr7 hr7; have HG7 := Lib.hid hg7; have HL7 := Lib.hid (HL6.out.far (S := fun q => (Value.slice B5 (m + 1) c5).ownBlock = some q) (Only.of_grown hgr7 (fun k e _ => e)) (fun q _ h => hr7 q h)); clear hg7 hgr7 hr7))
            exact ⟨⟨B7, m + 1 + 1, c7, k', l ++ [x, zeroC], s2, rfl, by omega, by omega, Lib.hid (by have h := HG7.out; rw [List.append_assoc] at h; exact h), HL7, HQ2⟩, by show N - (m + 1 + 1) < N - m; omega⟩
          · have hw2 : withSecond x = [x] := by unfold withSecond; rw [if_neg ht]
            rw [hw2] at HQ2
            have hq5 : (x.tag == 5) = false := by simpa using ht
            have Ht := Lib.hid ht
            clear ht hw2
            go_wp2_with (at_builtin; refine wpList_append_cst rfl (.tmp 29) (.tmp 31) rfl w.heap.size B m c l rfl HG4.out (some ⟨w2.heap.size + 1, 0, none⟩) 1 1 [x] rfl HX4.out (fun h => by cases h) (by omega) HS4.out ?_; intro B5 c5 w5 hg5 hgr5 hr5; have HG5 := Lib.hid hg5; have HL5 := Lib.hid (HL4.out.far (S := fun q => (Value.slice B m c).ownBlock = some q) (Only.of_grown hgr5 (fun k e _ => e)) (fun q _ h => hr5 q h)); have HB5 := Lib.hid (HG4.out.other HB4.out HN4.out hgr5); have t5 : w5.cell? ⟨w2.heap.size, 0, none⟩ = some (.int .i64 x.tag) := HB5.out.cell 0; clear hg5 hgr5 hr5)
            exact ⟨⟨B5, m + 1, c5, k', l ++ [x], s2, rfl, by omega, by omega, HG5, HL5, HQ2⟩, by show N - (m + 1) < N - m; omega⟩
        · have hd : decide ((m : Int) < (N : Int)) = false := decide_eq_false (by omega)
          have HQ3 : Hid (P = (l, s)) := Lib.hid (by rw [← HQ.out]; exact placesR_stop bs N k s l (by rw [Hml.out]; omega))
          have Hf := Lib.hid hf
          clear hf
          by_cases hgt : N < m
          · have HE : Hid (endP N P = s.refuse 8) := Lib.hid (by rw [HQ3.out]; unfold endP; rw [if_pos (by rw [Hml.out]; exact hgt)])
            have hdg : decide ((N : Int) < (m : Int)) = true := decide_eq_true (by omega)
            have CRs := Lib.hid (CR.out s wr HL.out.rd)
            go_wp2_with fail
            refine CRs.out.mono ?_
            rintro e w8 ⟨rfl, hR8, hO8⟩
            have HL8 := Lib.hid (HL.out.next hR8 hO8)
            have HG8 := Lib.hid (HG.out.only Cst.cells_len hO8 (fun i hi _ e => by have := HL.out.lt; omega))
            clear hR8 hO8
            go_wp2
            go_ret
            rw [HE.out, HQ3.out]
            exact ⟨⟨B, c, by rw [← Hml.out]; rfl, by rw [Hml.out]; exact HG8.out.out (fun i hi _ e => by have := HL.out.lt; omega)⟩, HL8.out.rd, HL8.out.only⟩
          · have HE : Hid (endP N P = s) := Lib.hid (by rw [HQ3.out]; unfold endP; rw [if_neg (by rw [Hml.out]; exact hgt)])
            have hdg : decide ((N : Int) < (m : Int)) = false := decide_eq_false (by omega)
            go_wp2
            go_ret
            rw [HE.out, HQ3.out]
            exact ⟨⟨B, c, by rw [← Hml.out]; rfl, by rw [Hml.out]; exact HG.out.out (fun i hi _ e => by have := HL.out.lt; omega)⟩, HL.out.rd, HL.out.only⟩
      · have hq : (s.fault == 0) = false := by simpa using hf
        have HQ3 : Hid (P = (l, s)) := Lib.hid (by rw [← HQ.out]; exact placesR_stop bs N k s l (fun h => hf h.1))
        have Hf := Lib.hid hf
        clear hf
        by_cases hgt : N < m
        · have HE : Hid (endP N P = s.refuse 8) := Lib.hid (by rw [HQ3.out]; unfold endP; rw [if_pos (by rw [Hml.out]; exact hgt)])
          have hdg : decide ((N : Int) < (m : Int)) = true := decide_eq_true (by omega)
          have CRs := Lib.hid (CR.out s wr HL.out.rd)
          go_wp2_with fail
          refine CRs.out.mono ?_
          rintro e w8 ⟨rfl, hR8, hO8⟩
          have HL8 := Lib.hid (HL.out.next hR8 hO8)
          have HG8 := Lib.hid (HG.out.only Cst.cells_len hO8 (fun i hi _ e => by have := HL.out.lt; omega))
          clear hR8 hO8
          go_wp2
          go_ret
          rw [HE.out, HQ3.out]
          exact ⟨⟨B, c, by rw [← Hml.out]; rfl, by rw [Hml.out]; exact HG8.out.out (fun i hi _ e => by have := HL.out.lt; omega)⟩, HL8.out.rd, HL8.out.only⟩
        · have HE : Hid (endP N P = s) := Lib.hid (by rw [HQ3.out]; unfold endP; rw [if_neg (by rw [Hml.out]; exact hgt)])
          have hdg : decide ((N : Int) < (m : Int)) = false := decide_eq_false (by omega)
          go_wp2
          go_ret
          rw [HE.out, HQ3.out]
          exact ⟨⟨B, c, by rw [← Hml.out]; rfl, by rw [Hml.out]; exact HG.out.out (fun i hi _ e => by have := HL.out.lt; omega)⟩, HL.out.rd, HL.out.only⟩

end Go.Proofs.Ytendpbklcgiafaa

/- The walk over pool.Parse; what was written is parsed. -/
namespace Go.Proofs.Ytendpbklcgiafaa
set_option maxRecDepth 100000
open Go.RowKit

def preP (bs : List UInt8) : List Cst × RS := (placesR bs (countR bs).1 (countR bs).1 (countR bs).2 [zeroC])
theorem parseR_eq (bs : List UInt8) : parseR bs = ((preP bs).1, if (endP (countR bs).1 (preP bs)).fault = 0 then ⟨(endP (countR bs).1 (preP bs)).at_, checkC (preP bs).1⟩ else endP (countR bs).1 (preP bs)) := rfl
theorem preP_ok (bs : List UInt8) : ∀ c ∈ (preP bs).1, c.ok := placesR_cst bs _ _ _ _ (by intro c hc; simp at hc; rw [hc]; exact zeroC_ok)
theorem preP_len (bs : List UInt8) : (preP bs).1.length ≤ 65537 := by
  have h := placesR_len bs (countR bs).1 (countR bs).1 (countR bs).2 [zeroC] (by simp)
  have h2 : (countR bs).1 < 65536 := numR_lt bs ⟨0, 0⟩ 2
  unfold preP
  omega

/-- What Parse answers. -/
def Parsed (bs : List UInt8) (e : Ending) (w w' : World) : Prop :=
  (if (parseR bs).2.fault = 0 then ∃ B c, e = .returned (.tuple #[.slice B (parseR bs).1.length c, .int .i64 ((parseR bs).2.at_ : Int), .int .i64 0]) ∧ RowSl Cst.cells 5 w' (fun q => q < w.heap.size) B (parseR bs).1.length c (parseR bs).1
    else e = .returned (.tuple #[.slice none 0 0, .int .i64 0, .int .i64 (parseR bs).2.fault])) ∧ Below w.heap.size w w'

set_option maxHeartbeats 1000000 in
theorem parse_any (A : Option Addr) (n cap : Nat) (bs : List UInt8) (w : World) (hB : ByteSl w Empty A n cap bs) (hm : n ≤ 1048576) :
    Calls Try.prog 108 #[.slice A n cap] w fun e w' => Parsed bs e w w' := by
  have hR : RdP (w.alloc (.cells #[.slice A n cap, .int .i64 0, .int .i64 0] 176)) w.heap.size A n cap bs ⟨0, 0⟩ := by
    refine ⟨Blk.new _ _ _, ?_, Nat.zero_le _⟩
    refine ⟨hB.1, hB.2.1, hB.2.2.1, fun h0 => ?_⟩
    obtain ⟨ad, e, hb, _, hc⟩ := hB.2.2.2 h0
    exact ⟨ad, e, by simp; omega, by omega, fun j x hx => (((Only.refl Empty w).alloc _).cell (p := ad.add j) (by rw [addr_add_block]; exact hb) (fun h => h)).trans (hc j x hx)⟩
  have CP := Lib.hid (places_any w.heap.size A n cap bs _ hR hm)
  have hpe := parseR_eq bs
  have hok := preP_ok bs
  have hln := preP_len bs
  have e1 : (placesR bs (countR bs).1 (countR bs).1 (countR bs).2 [zeroC]) = preP bs := rfl
  rw [e1] at CP
  obtain ⟨N, hN⟩ : ∃ N, (countR bs).1 = N := ⟨_, rfl⟩
  rw [hN] at CP hpe
  obtain ⟨l, s0, hP⟩ : ∃ l s0, preP bs = (l, s0) := ⟨_, _, rfl⟩
  rw [hP] at CP hpe hok hln
  obtain ⟨s, hs⟩ : ∃ s, endP N (l, s0) = s := ⟨_, rfl⟩
  rw [hs] at CP hpe
  simp only at CP hpe hok hln
  have CC : Hid (∀ (B : Option Addr) (c : Nat) (W : World), PoolSl W B l.length c l → Calls Try.prog 87 #[.slice B l.length c] W fun e w' => e = .returned (.int .i64 (checkC l)) ∧ Below W.heap.size W w') := Lib.hid (fun B c W h => check_any B l.length c l W h (by omega) hok)
  have Hpe := Lib.hid hpe
  obtain ⟨m, hml⟩ : ∃ m, l.length = m := ⟨_, rfl⟩
  have Hml := Lib.hid hml
  rw [hml] at CP CC
  clear hB hR hm hpe hok hln e1 hP hs hN hml
  go_enter Try.func108, Try.ntmps108
  go_wp2_with fail
  refine CP.out.mono ?_
  rintro e w1 ⟨⟨B, c, rfl, hPl⟩, hR1, hO1⟩
  have HR1 := Lib.hid hR1
  have HP1 : Hid (RowSl Cst.cells 5 w1 (fun q => q ≤ w.heap.size) B m c l) := Lib.hid (hPl.mono (fun q _ h => by simp; omega))
  have HB1 : Hid (Below w.heap.size w w1) := Lib.hid (((Below.refl w.heap.size w).alloc (Nat.le_refl _) _).trans (hO1.below (by simp) (fun k hk e => by omega)))
  have c2 : w1.cell? ⟨w.heap.size, 2, none⟩ = some (.int .i64 s.fault) := hR1.blk.cell 2
  have c1 : w1.cell? ⟨w.heap.size, 1, none⟩ = some (.int .i64 (s.at_ : Int)) := hR1.blk.cell 1
  clear hR1 hPl hO1
  by_cases hf : s.fault = 0
  · have hq : (s.fault == 0) = true := by simpa using hf
    have hp2 : parseR bs = (l, ⟨s.at_, checkC l⟩) := by rw [Hpe.out, if_pos hf]
    have HE := Lib.hid hp2
    have Hf := Lib.hid hf
    clear hp2 hf
    go_wp2_with fail
    refine (CC.out B c w1 (HP1.out.mono (fun _ _ h => h.elim))).mono ?_
    rintro e w2 ⟨rfl, hb2⟩
    have HB2 := Lib.hid (HB1.out.trans (hb2.mono HB1.out.size))
    have HP2 := Lib.hid (HP1.out.below hb2)
    have HR2 := Lib.hid (HR1.out.only (Only.of_below hb2))
    have f2 := HR2.out.blk.frozen 2
    have d2 : w2.cell? ⟨w.heap.size, 2, none⟩ = some (.int .i64 s.fault) := HR2.out.blk.cell 2
    have hlt := HR2.out.blk.lt
    clear hb2 c1 c2
    have HR3 := Lib.hid (HR2.out.set 2 (.int .i64 (checkC l)) ⟨s.at_, checkC l⟩ (by simp) HR2.out.le)
    have HO3 : Hid (Only (· = w.heap.size) w2 (w2.setCell ⟨w.heap.size, 2, none⟩ (.int .i64 (checkC l)))) := Lib.hid ((Only.refl (· = w.heap.size) w2).setCell (p := ⟨w.heap.size, 2, none⟩) (Or.inl rfl) _)
    have HB3 : Hid (Below w.heap.size w (w2.setCell ⟨w.heap.size, 2, none⟩ (.int .i64 (checkC l)))) := Lib.hid (HB2.out.trans (HO3.out.below HB2.out.size (fun k hk e => by omega)))
    have HP3 : Hid (RowSl Cst.cells 5 (w2.setCell ⟨w.heap.size, 2, none⟩ (.int .i64 (checkC l))) (fun q => q < w.heap.size) B m c l) := Lib.hid (by
      exact (HP2.out.only HO3.out (fun _ _ h => Nat.le_of_eq h)).mono (fun _ _ h => Nat.le_of_lt h))
    have e1_ : (w2.setCell ⟨w.heap.size, 2, none⟩ (.int .i64 (checkC l))).cell? ⟨w.heap.size, 1, none⟩ = some (.int .i64 (s.at_ : Int)) := HR3.out.blk.cell 1
    have e2_ : (w2.setCell ⟨w.heap.size, 2, none⟩ (.int .i64 (checkC l))).cell? ⟨w.heap.size, 2, none⟩ = some (.int .i64 (checkC l)) := HR3.out.blk.cell 2
    clear hlt
    have hlt := HR2.out.blk.lt
    cases hc : checkC l == 0 with
    | true =>
      have hz : checkC l = 0 := by simpa using hc
      have hq2 : (checkC l != 0) = false := by simp [hz]
      have Hz := Lib.hid hz
      clear hz
      go_wp2
      go_quiet (fail)
      go_wp2
      go_ret3
      refine ⟨?_, HB3.out.drewN nq⟩
      rw [HE.out, if_pos Hz.out]
      exact ⟨B, c, by rw [Hml.out]; rfl, by rw [Hml.out]; exact HP3.out.only ((Only.refl Empty _).drewN nq) (fun _ _ h => h.elim)⟩
    | false =>
      have hz : checkC l ≠ 0 := by simpa using hc
      have hq2 : (checkC l != 0) = true := by simp [hz]
      have Hz := Lib.hid hz
      clear hz
      go_wp2
      go_quiet (fail)
      go_wp2
      go_ret3
      refine ⟨?_, HB3.out.drewN nq⟩
      rw [HE.out, if_neg Hz.out]
      rfl
  · have hq : (s.fault == 0) = false := by simpa using hf
    have hq2 : (s.fault != 0) = true := by simpa using hf
    have hp2 : parseR bs = (l, s) := by rw [Hpe.out, if_neg hf]
    have HE := Lib.hid hp2
    have Hf := Lib.hid hf
    clear hp2 hf
    go_wp2
    go_quiet (fail)
    go_wp2
    go_ret3
    refine ⟨?_, HB1.out.drewN nq⟩
    rw [HE.out, if_neg Hf.out]
    rfl

end Go.Proofs.Ytendpbklcgiafaa

/- What was written of a pool that may be is parsed as it was. Nothing of the program. -/
namespace Go.Proofs.Ytendpbklcgiafaa
set_option maxRecDepth 100000
open Go.RowKit

theorem tagAt_place (l : List Cst) (p t : Int) (ht : t ≠ 0) (h : tagAtF l p = t) : 1 ≤ p ∧ p < (l.length : Int) := by
  refine ⟨?_, tagAt_lt l p t ht h⟩
  by_cases h1 : 1 ≤ p
  · exact h1
  · unfold tagAtF at h
    rw [atF_no l p (.inl h1)] at h
    exact absurd h.symm ht
theorem may_cases {l : List Cst} (hc : checkF l = true) (k : Nat) (c : Cst) (hk : l[k]? = some c) :
    ((k = 0 ∨ (l[k - 1]?.map (·.tag)) = some 5) ∧ c = zeroC) ∨ (¬ (k = 0 ∨ (l[k - 1]?.map (·.tag)) = some 5) ∧ Fit c) := by
  have hlen : l.length ≤ 1024 := by
    unfold checkF at hc
    rw [Bool.and_eq_true, Bool.and_eq_true] at hc
    exact (of_decide_eq_true hc.1.1).2
  have hm := may_all hc k (List.getElem?_eq_some_iff.mp hk).1
  unfold mayF at hm
  rw [hk] at hm
  simp only at hm
  by_cases hz : k = 0 ∨ (l[k - 1]?.map (·.tag)) = some 5
  · rw [if_pos hz] at hm
    exact .inl ⟨hz, of_decide_eq_true hm⟩
  · rw [if_neg hz] at hm
    by_cases hf : formF c.tag = noFrm ∨ c ≠ partF (formF c.tag) c
    · rw [if_pos hf] at hm
      cases hm
    · rw [if_neg hf, Bool.and_eq_true, Bool.and_eq_true, beq_iff_eq, beq_iff_eq] at hm
      obtain ⟨⟨h1, h2⟩, h3⟩ := hm
      have hp : c = partF (formF c.tag) c := Decidable.not_not.mp (fun h => hf (.inr h))
      obtain ⟨hza, hzb⟩ := part_zero hp
      refine .inr ⟨hz, fun h => hf (.inl h), hp, ?_, ?_, ?_⟩
      · unfold isTextF at h1
        rw [Bool.and_eq_true] at h1
        exact of_decide_eq_true h1.1
      · by_cases h0 : (formF c.tag).a = 0
        · rw [hza h0]; exact ⟨by decide, by decide⟩
        · have := tagAt_place l c.a _ h0 h2
          omega
      · by_cases h0 : (formF c.tag).b = 0
        · rw [hzb h0]; exact ⟨by decide, by decide⟩
        · have := tagAt_place l c.b _ h0 h3
          omega
theorem Fit.tag {c : Cst} (h : Fit c) : c.tag ≠ 0 := by
  intro h0
  apply h.form
  rw [h0]
  rfl

theorem places_put (l : List Cst) (more : List UInt8) (hc : checkF l = true) : ∀ (k j : Nat), 1 ≤ j → j ≤ l.length → l.length ≤ j + k → (l[j - 1]?.map (·.tag)) ≠ some 5 →
    placesR (poolB l ++ more) l.length k ⟨2 + ((l.take j).flatMap cB).length, 0⟩ (l.take j) = (l, ⟨(poolB l).length, 0⟩) := by
  have hpl : (poolB l).length = 2 + (l.flatMap cB).length := by unfold poolB; rw [List.length_append, putL_len]
  intro k
  induction k with
  | zero =>
    intro j h1 h2 h3 h4
    have hj : j = l.length := by omega
    subst hj
    unfold placesR
    rw [List.take_length, hpl]
  | succ k ih =>
    intro j h1 h2 h3 h4
    by_cases hj : j = l.length
    · subst hj
      rw [placesR_stop _ _ _ _ _ (by rw [List.take_length]; simp), List.take_length, hpl]
    · have hlt : j < l.length := by omega
      have hget : l[j]? = some l[j] := List.getElem?_eq_getElem hlt
      generalize l[j] = c at hget
      rcases may_cases hc j c hget with ⟨hz, _⟩ | ⟨_, hfit⟩
      · exact absurd hz (by rintro (h | h); omega; exact h4 h)
      · have hcb : cB c = constB c := by unfold cB; rw [if_neg hfit.tag]
        have htk := take_one l j c hget
        have hdrop : (poolB l ++ more).drop (2 + ((l.take j).flatMap cB).length) = constB c ++ ((l.drop (j + 1)).flatMap cB ++ more) := by
          unfold poolB
          rw [List.append_assoc, ← List.drop_drop, List.drop_left' (putL_len _ _)]
          have hs : l.flatMap cB = (l.take j).flatMap cB ++ (constB c ++ (l.drop (j + 1)).flatMap cB) := by
            have h := List.take_append_drop j l
            have hd : l.drop j = c :: l.drop (j + 1) := by
              rw [List.drop_eq_getElem_cons hlt]
              congr 1
              have := List.getElem?_eq_getElem hlt
              rw [this] at hget
              exact Option.some.inj hget
            calc l.flatMap cB = (l.take j ++ l.drop j).flatMap cB := by rw [h]
              _ = (l.take j).flatMap cB ++ (l.drop j).flatMap cB := List.flatMap_append
              _ = _ := by rw [hd, List.flatMap_cons, hcb]
          rw [hs, List.append_assoc, List.drop_left' rfl, List.append_assoc]
        have hcr := constR_put (poolB l ++ more) _ c _ hfit hdrop
        unfold placesR
        rw [if_pos ⟨rfl, by rw [List.length_take]; omega⟩, hcr]
        simp only
        by_cases ht : c.tag = 5
        · have hlast := check_last hc
          have hj1 : j + 1 < l.length := by
            rcases Nat.lt_or_ge (j + 1) l.length with h | h
            · exact h
            · exfalso
              apply hlast
              have := lastTag_at l (by omega)
              rw [show l.length - 1 = j by omega, hget] at this
              simp only [Option.map_some, Option.some.injEq] at this
              omega
          have hget2 : l[j + 1]? = some l[j + 1] := List.getElem?_eq_getElem hj1
          generalize l[j + 1] = d at hget2
          have hd : d = zeroC := by
            rcases may_cases hc (j + 1) d hget2 with ⟨_, h⟩ | ⟨h, _⟩
            · exact h
            · exact absurd (Or.inr (by rw [Nat.add_sub_cancel, hget]; simp [ht])) h
          have hws : withSecond c = [c, zeroC] := by unfold withSecond; rw [if_pos ht]
          have htk2 : l.take (j + 1 + 1) = l.take j ++ [c, zeroC] := by
            rw [take_one l (j + 1) d hget2, htk, hd, List.append_assoc]
            rfl
          rw [hws, ← htk2]
          have hz : cB zeroC = [] := rfl
          have hlen2 : ((l.take (j + 1 + 1)).flatMap cB).length = ((l.take j).flatMap cB).length + (constB c).length := by
            rw [htk2, List.flatMap_append, List.length_append]
            simp [hcb, hz]
          have h := ih (j + 1 + 1) (by omega) (by omega) (by omega) (by rw [Nat.add_sub_cancel, hget2, hd]; simp [zeroC])
          rw [hlen2, ← Nat.add_assoc] at h
          exact h
        · have hws : withSecond c = [c] := by unfold withSecond; rw [if_neg ht]
          rw [hws, ← htk]
          have hlen2 : ((l.take (j + 1)).flatMap cB).length = ((l.take j).flatMap cB).length + (constB c).length := by
            rw [htk, List.flatMap_append, List.length_append]
            simp [hcb]
          have h := ih (j + 1) (by omega) (by omega) (by omega) (by rw [Nat.add_sub_cancel, hget]; simp [ht])
          rw [hlen2, ← Nat.add_assoc] at h
          exact h

theorem parse_put (l : List Cst) (more : List UInt8) (hc : checkF l = true) : parseR (poolB l ++ more) = (l, ⟨(poolB l).length, 0⟩) := by
  have hlen : 1 ≤ l.length ∧ l.length ≤ 1024 := by
    have h := hc
    unfold checkF at h
    rw [Bool.and_eq_true, Bool.and_eq_true] at h
    exact of_decide_eq_true h.1.1
  have h0 : l.take 1 = [zeroC] := by
    have hget : l[0]? = some l[0] := List.getElem?_eq_getElem (by omega)
    rcases may_cases hc 0 _ hget with ⟨_, h⟩ | ⟨h, _⟩
    · have := take_one l 0 _ hget
      rw [this, h]
      rfl
    · exact absurd (Or.inl rfl) h
  have hcnt : countR (poolB l ++ more) = (l.length, ⟨2, 0⟩) := by
    unfold countR
    have h := numR_put (poolB l ++ more) 0 l.length 2 (l.flatMap cB ++ more) (by unfold poolB; rw [List.drop_zero, List.append_assoc]) (by omega) (by omega)
    rw [h]
    simp only
    rw [if_pos hlen]
  have hp := places_put l more hc l.length 1 (by omega) hlen.1 (by omega) (by rw [Nat.sub_self, List.getElem?_eq_getElem (by omega : 0 < l.length)]; have := List.getElem?_eq_getElem (by omega : 0 < l.length); rcases may_cases hc 0 _ this with ⟨_, h⟩ | ⟨h, _⟩; rw [h]; simp [zeroC]; exact absurd (Or.inl rfl) h)
  rw [h0] at hp
  have hz : ([zeroC].flatMap cB).length = 0 := rfl
  rw [hz] at hp
  have hpre : preP (poolB l ++ more) = (l, ⟨(poolB l).length, 0⟩) := by
    unfold preP
    rw [hcnt]
    exact hp
  rw [parseR_eq, hpre, hcnt]
  have he : endP l.length (l, ⟨(poolB l).length, 0⟩) = ⟨(poolB l).length, 0⟩ := by
    unfold endP
    rw [if_neg (Nat.lt_irrefl _)]
  simp only
  rw [he, if_pos rfl]
  simp only
  rw [show checkC l = 0 by unfold checkC; rw [hc]; rfl]

end Go.Proofs.Ytendpbklcgiafaa

/- What is parsed of a pool has just these bytes. Nothing of the program. -/
namespace Go.Proofs.Ytendpbklcgiafaa
set_option maxRecDepth 100000
open Go.RowKit

theorem putL_mod (v k : Nat) : putL v k = putL (v % 2 ^ (8 * k)) k := by
  have h := putL_get k (putL v k) (putL_len v k)
  rw [getV_putL] at h
  exact h.symm
theorem refuse_ok {s : RS} {e : Int} (he : e ≠ 0) (h : (s.refuse e).fault = 0) : False := by
  unfold RS.refuse at h
  by_cases h0 : s.fault = 0
  · rw [if_pos h0] at h; exact he h
  · rw [if_neg h0] at h; exact h0 h
theorem numR_back {bs : List UInt8} {s : RS} {k : Nat} (h : (numR bs s k).2.fault = 0) :
    s.fault = 0 ∧ s.at_ + k ≤ bs.length ∧ (numR bs s k).2 = ⟨s.at_ + k, 0⟩ ∧ bs.drop s.at_ = putL (numR bs s k).1 k ++ bs.drop (s.at_ + k) ∧ (numR bs s k).1 < 256 ^ k := by
  have hlt := numR_lt bs s k
  unfold numR at *
  by_cases h0 : s.fault ≠ 0
  · rw [if_pos h0] at h; exact absurd h h0
  · rw [if_neg h0] at *
    by_cases h1 : s.at_ + k ≤ bs.length
    · rw [if_pos h1] at *
      refine ⟨by omega, h1, rfl, ?_, hlt⟩
      show bs.drop s.at_ = putL (getV ((bs.drop s.at_).take k)) k ++ bs.drop (s.at_ + k)
      rw [putL_get k _ (by rw [List.length_take, List.length_drop]; omega), ← List.drop_drop]
      exact (List.take_append_drop _ _).symm
    · rw [if_neg h1] at h
      cases h
theorem textR_back {bs : List UInt8} {s : RS} (h : (textR bs s).2.fault = 0) :
    s.fault = 0 ∧ bs.drop s.at_ = putL (textR bs s).1.length 2 ++ ((textR bs s).1 ++ bs.drop (textR bs s).2.at_) ∧ (textR bs s).2.at_ ≤ bs.length := by
  unfold textR at *
  simp only at *
  by_cases hg : (bs.length : Int) - (numR bs s 2).2.at_ < (numR bs s 2).1
  · rw [if_pos hg] at *
    by_cases h2 : ((numR bs s 2).2.refuse 6).fault ≠ 0
    · rw [if_pos h2] at h; exact absurd h h2
    · exact (refuse_ok (by decide) (Decidable.not_not.1 h2)).elim
  · rw [if_neg hg] at *
    by_cases h2 : (numR bs s 2).2.fault ≠ 0
    · rw [if_pos h2] at h; exact absurd h h2
    · rw [if_neg h2] at *
      obtain ⟨h0, h1, h3, h4, h5⟩ := numR_back (Decidable.not_not.1 h2)
      rw [h3] at hg ⊢
      simp only at hg ⊢
      have hl : ((bs.drop (s.at_ + 2)).take (numR bs s 2).1).length = (numR bs s 2).1 := by rw [List.length_take, List.length_drop]; omega
      refine ⟨h0, ?_, by omega⟩
      rw [hl, h4]
      congr 1
      rw [← List.drop_drop (i := (numR bs s 2).1)]
      exact (List.take_append_drop _ _).symm
theorem optR_back {bs : List UInt8} {s : RS} {on : Bool} {k : Nat} (h : (optR bs s on k).2.fault = 0) :
    s.fault = 0 ∧ bs.drop s.at_ = (if on = true then putL (optR bs s on k).1 k else []) ++ bs.drop (optR bs s on k).2.at_ ∧ (optR bs s on k).1 < 256 ^ k ∧ (on = false → (optR bs s on k).1 = 0) ∧ (s.at_ ≤ bs.length → (optR bs s on k).2.at_ ≤ bs.length) := by
  unfold optR at *
  cases on with
  | false => exact ⟨h, rfl, Nat.pow_pos (by decide), fun _ => rfl, id⟩
  | true =>
    simp only [if_pos] at *
    obtain ⟨h0, h1, h3, h4, h5⟩ := numR_back h
    rw [h3]
    exact ⟨h0, h4, h5, (fun h => by cases h), fun _ => h1⟩
theorem sgn_bits4 (v : Nat) (h : v < 4294967296) : putL (bits64 (sgn v 4)) 4 = putL v 4 := by
  rw [putL_mod]
  congr 1
  have e1 : (2 ^ (8 * 4) : Nat) = 4294967296 := rfl
  have e2 : (2 ^ (8 * 4 - 1) : Nat) = 2147483648 := rfl
  unfold bits64 sgn
  rw [e1, e2]
  split <;> omega
theorem sgn_bits8 (v : Nat) (h : v < 18446744073709551616) : putL (bits64 (sgn v 8)) 8 = putL v 8 := by
  rw [putL_mod]
  congr 1
  have e1 : (2 ^ (8 * 8) : Nat) = 18446744073709551616 := rfl
  have e2 : (2 ^ (8 * 8 - 1) : Nat) = 9223372036854775808 := rfl
  unfold bits64 sgn
  rw [e1, e2]
  split <;> omega
theorem bits_small (v : Nat) (h : v < 18446744073709551616) : bits64 (v : Int) = v := by unfold bits64; omega

theorem constR_back {bs : List UInt8} {s : RS} (h : (constR bs s).2.fault = 0) :
    s.fault = 0 ∧ (constR bs s).1.tag ≠ 0 ∧ bs.drop s.at_ = constB (constR bs s).1 ++ bs.drop (constR bs s).2.at_ ∧ (constR bs s).2.at_ ≤ bs.length := by
  have hN := numR_back (bs := bs) (s := s) (k := 1)
  unfold constR constB at *
  simp only at *
  generalize numR bs s 1 = T at *
  have hF : (T.1 : Int) = 0 → formF (T.1 : Int) = noFrm := fun e => by rw [e]; rfl
  generalize hf : formF (T.1 : Int) = f at *
  have hform : f ≠ noFrm := fun e => by
    rw [if_pos e] at h
    subst e
    have h := (optR_back (optR_back (optR_back h).1).1).1
    exact refuse_ok (by decide) h
  rw [if_neg hform] at *
  generalize hr1 : (if f.text = true then textR bs T.2 else ([], T.2)) = r1 at *
  generalize hr2 : optR bs r1.2 (f.num != 0) f.num.toNat = r2 at *
  generalize hr3 : optR bs r2.2 (f.a != 0) 2 = r3 at *
  generalize hr4 : optR bs r3.2 (f.b != 0) 2 = r4 at *
  have k4 := optR_back (bs := bs) (s := r3.2) (on := (f.b != 0)) (k := 2)
  rw [hr4] at k4
  obtain ⟨f3, d3, l3, z3, a3⟩ := k4 h
  have k3 := optR_back (bs := bs) (s := r2.2) (on := (f.a != 0)) (k := 2)
  rw [hr3] at k3
  obtain ⟨f2, d2, l2, z2, a2⟩ := k3 f3
  have k2 := optR_back (bs := bs) (s := r1.2) (on := (f.num != 0)) (k := f.num.toNat)
  rw [hr2] at k2
  obtain ⟨f1, d1, l1, z1, a1⟩ := k2 f2
  have hT0 : T.2.fault = 0 ∧ bs.drop T.2.at_ = (if f.text = true then putL r1.1.length 2 ++ r1.1 else []) ++ bs.drop r1.2.at_ ∧ (T.2.at_ ≤ bs.length → r1.2.at_ ≤ bs.length) := by
    by_cases ht : f.text = true
    · rw [if_pos ht] at hr1 ⊢
      subst hr1
      obtain ⟨h1, h2, h3⟩ := textR_back f1
      exact ⟨h1, by rw [h2, List.append_assoc], fun _ => h3⟩
    · rw [if_neg ht] at hr1 ⊢
      subst hr1
      exact ⟨f1, rfl, id⟩
  obtain ⟨f0, d0, a0⟩ := hT0
  obtain ⟨g0, g1, g2, g3, g4⟩ := hN f0
  have ha0 : T.2.at_ ≤ bs.length := by rw [g2]; exact g1
  refine ⟨g0, fun e => hform (hF e), ?_, a3 (a2 (a1 (a0 ha0)))⟩
  have hs1 : bs.drop s.at_ = putL T.1 1 ++ bs.drop T.2.at_ := by rw [g2]; exact g3
  have l2' : r3.1 < 65536 := l2
  have l3' : r4.1 < 65536 := l3
  rw [hs1, d0, d1, d2, d3, bits_small T.1 (by omega), bits_small r3.1 (by omega), bits_small r4.1 (by omega)]
  have hnum : (if (f.num != 0) = true then putL r2.1 f.num.toNat else []) = (if f.num ≠ 0 then putL (bits64 (if f.num = 0 then 0 else sgn r2.1 f.num.toNat)) f.num.toNat else []) := by
    rcases form_ways (T.1 : Int) with e | e | e | e | e | e | e
    all_goals
      rw [hf] at e
      subst e
    · rfl
    · exact (sgn_bits8 r2.1 l1).symm
    · exact (sgn_bits4 r2.1 l1).symm
    all_goals rfl
  rw [hnum]
  have ha : ∀ (x : Int) (y : List UInt8), (if (x != 0) = true then y else []) = (if x ≠ 0 then y else []) := fun x y => by
    by_cases hx : x = 0 <;> simp [hx]
  rw [ha, ha]
  simp only [List.append_assoc]

theorem withSecond_cB (c : Cst) (h : c.tag ≠ 0) : (withSecond c).flatMap cB = constB c := by
  unfold withSecond cB
  split
  · simp [h, zeroC]
  · simp [h]
theorem placesR_back (bs : List UInt8) (n : Nat) : ∀ (k : Nat) (s : RS) (l : List Cst), (placesR bs n k s l).2.fault = 0 → s.at_ ≤ bs.length → n ≤ l.length + k →
    s.fault = 0 ∧ n ≤ (placesR bs n k s l).1.length ∧ (placesR bs n k s l).2.at_ ≤ bs.length ∧ ∃ m, (placesR bs n k s l).1 = l ++ m ∧ bs.drop s.at_ = m.flatMap cB ++ bs.drop (placesR bs n k s l).2.at_ := by
  intro k
  induction k with
  | zero => exact fun s l h ha hn => ⟨h, hn, ha, [], by simp [placesR], rfl⟩
  | succ k ih =>
    intro s l h ha hn
    unfold placesR at h ⊢
    by_cases hc : s.fault = 0 ∧ l.length < n
    · rw [if_pos hc] at h ⊢
      have hw := withSecond_len (constR bs s).1
      obtain ⟨h1, h2, h3, m, h4, h5⟩ := ih _ _ h (constR_ok bs s ha) (by rw [List.length_append]; omega)
      obtain ⟨_, g1, g2, g3⟩ := constR_back h1
      refine ⟨hc.1, h2, h3, withSecond (constR bs s).1 ++ m, by rw [h4, List.append_assoc], ?_⟩
      rw [g2, h5, List.flatMap_append, withSecond_cB _ g1, List.append_assoc]
    · rw [if_neg hc] at h ⊢
      refine ⟨h, ?_, ha, [], by simp, rfl⟩
      have : ¬ l.length < n := fun h2 => hc ⟨h, h2⟩
      show n ≤ l.length
      omega
/-- What is parsed has just these bytes, and may be. -/
theorem parse_back (bs : List UInt8) (h : (parseR bs).2.fault = 0) : checkF (parseR bs).1 = true ∧ bs = poolB (parseR bs).1 ++ bs.drop (parseR bs).2.at_ ∧ (parseR bs).2.at_ ≤ bs.length := by
  unfold parseR at *
  simp only at *
  generalize hp : placesR bs (countR bs).1 (countR bs).1 (countR bs).2 [zeroC] = p at *
  by_cases hlen : (countR bs).1 < p.1.length
  · rw [if_pos hlen] at h
    by_cases h0 : (p.2.refuse 8).fault = 0
    · exact (refuse_ok (by decide) h0).elim
    · rw [if_neg h0] at h; exact absurd h h0
  · rw [if_neg hlen] at h ⊢
    by_cases h0 : p.2.fault = 0
    · rw [if_pos h0] at h ⊢
      simp only at h ⊢
      have hck : checkF p.1 = true := by
        cases hc : checkF p.1
        · unfold checkC at h; rw [hc] at h; cases h
        · rfl
      have hcb : (countR bs).2.at_ ≤ bs.length ∧ ((countR bs).2.fault = 0 → (countR bs).2 = ⟨2, 0⟩ ∧ bs = putL (countR bs).1 2 ++ bs.drop 2) := by
        unfold countR
        simp only
        have hk := numR_ok bs ⟨0, 0⟩ 2 (Nat.zero_le _)
        refine ⟨?_, ?_⟩
        · split
          · exact hk
          · rw [refuse_at]; exact hk
        · split
          · intro hz
            obtain ⟨_, _, e, d, _⟩ := numR_back hz
            exact ⟨e, d⟩
          · intro hz
            exact (refuse_ok (by decide) hz).elim
      have hb := placesR_back bs (countR bs).1 (countR bs).1 (countR bs).2 [zeroC]
      rw [hp] at hb
      obtain ⟨h1, h2, h3, m, h4, h5⟩ := hb h0 hcb.1 (by omega)
      obtain ⟨h6, h7⟩ := hcb.2 h1
      refine ⟨hck, ?_, h3⟩
      rw [h6] at h5
      have hl : p.1.length = (countR bs).1 := by omega
      unfold poolB
      rw [hl, h4, List.flatMap_append, List.append_assoc]
      have hz : [zeroC].flatMap cB = [] := rfl
      rw [hz, List.nil_append, ← h5]
      exact h7
    · rw [if_neg h0] at h; exact absurd h h0

/-! ### The codec of pools -/
/-- What encodes a pool. -/
noncomputable def poolE : Enc (List Cst) := fun l => if checkF l = true then some (poolB l) else none
theorem pool_reads {b r : List UInt8} {l : List Cst} (h : Reads poolE b l r) : (parseR b).2.fault = 0 ∧ (parseR b).1 = l ∧ r = b.drop (parseR b).2.at_ := by
  obtain ⟨x, hx, rfl⟩ := h
  unfold poolE at hx
  split at hx
  · rename_i hc
    cases hx
    rw [parse_put l r hc]
    exact ⟨rfl, rfl, by simp⟩
  · cases hx
theorem Uniq.pool : Uniq poolE := by
  intro b v r v' r' h1 h2
  obtain ⟨_, rfl, rfl⟩ := pool_reads h1
  obtain ⟨_, rfl, rfl⟩ := pool_reads h2
  exact ⟨rfl, rfl⟩
theorem pool_yes {b : List UInt8} (h : (parseR b).2.fault = 0) (v : List Cst) : Stp true poolE (some b) v (some (b.drop (parseR b).2.at_)) (parseR b).1 := by
  obtain ⟨h1, h2, _⟩ := parse_back b h
  exact .inl ⟨_, rfl, poolB (parseR b).1, by unfold poolE; rw [if_pos h1], h2⟩
theorem pool_no {b : List UInt8} (h : (parseR b).2.fault ≠ 0) (v v' : List Cst) : Stp true poolE (some b) v none v' :=
  .inr ⟨rfl, fun _ _ hx => h (pool_reads hx).1⟩

def Fine (e : Int) : Prop := e = 0 ∨ e = 6 ∨ e = 8
theorem Fine.refuse {s : RS} (h : Fine s.fault) {e : Int} (he : Fine e) : Fine (s.refuse e).fault := by
  unfold RS.refuse
  split
  · exact he
  · exact h
theorem Fine.num {s : RS} (h : Fine s.fault) (bs : List UInt8) (k : Nat) : Fine (numR bs s k).2.fault := by
  unfold numR
  split
  · exact h
  · split
    · exact .inl rfl
    · exact .inr (.inl rfl)
theorem Fine.text {s : RS} (h : Fine s.fault) (bs : List UInt8) : Fine (textR bs s).2.fault := by
  unfold textR
  simp only
  split
  · split
    · exact (h.num bs 2).refuse (.inr (.inl rfl))
    · exact .inl rfl
  · split
    · exact h.num bs 2
    · exact .inl rfl
theorem Fine.opt {s : RS} (h : Fine s.fault) (bs : List UInt8) (on : Bool) (k : Nat) : Fine (optR bs s on k).2.fault := by
  unfold optR
  split
  · exact h.num bs k
  · exact h
theorem Fine.const {s : RS} (h : Fine s.fault) (bs : List UInt8) : Fine (constR bs s).2.fault := by
  unfold constR
  simp only
  refine Fine.opt (Fine.opt (Fine.opt ?_ _ _ _) _ _ _) _ _ _
  split
  · refine Fine.text ?_ _
    split
    · exact (h.num bs 1).refuse (.inr (.inr rfl))
    · exact h.num bs 1
  · simp only
    split
    · exact (h.num bs 1).refuse (.inr (.inr rfl))
    · exact h.num bs 1
theorem Fine.places (bs : List UInt8) (n : Nat) : ∀ (k : Nat) (s : RS) (l : List Cst), Fine s.fault → Fine (placesR bs n k s l).2.fault := by
  intro k
  induction k with
  | zero => exact fun s l h => h
  | succ k ih =>
    intro s l h
    unfold placesR
    split
    · exact ih _ _ (h.const bs)
    · exact h
theorem parse_fine (bs : List UInt8) : Fine (parseR bs).2.fault := by
  have h0 : Fine (countR bs).2.fault := by
    unfold countR
    simp only
    split
    · exact Fine.num (.inl rfl) bs 2
    · exact (Fine.num (.inl rfl) bs 2).refuse (.inr (.inr rfl))
  have h1 := Fine.places bs (countR bs).1 (countR bs).1 (countR bs).2 [zeroC] h0
  unfold parseR
  simp only
  have h2 : Fine (if (countR bs).1 < (placesR bs (countR bs).1 (countR bs).1 (countR bs).2 [zeroC]).1.length then (placesR bs (countR bs).1 (countR bs).1 (countR bs).2 [zeroC]).2.refuse 8 else (placesR bs (countR bs).1 (countR bs).1 (countR bs).2 [zeroC]).2).fault := by
    split
    · exact h1.refuse (.inr (.inr rfl))
    · exact h1
  by_cases hz : (if (countR bs).1 < (placesR bs (countR bs).1 (countR bs).1 (countR bs).2 [zeroC]).1.length then (placesR bs (countR bs).1 (countR bs).1 (countR bs).2 [zeroC]).2.refuse 8 else (placesR bs (countR bs).1 (countR bs).1 (countR bs).2 [zeroC]).2).fault = 0
  · rw [if_pos hz]
    show Fine (checkC _)
    unfold checkC
    split
    · exact .inl rfl
    · exact .inr (.inr rfl)
  · rw [if_neg hz]
    exact h2

end Go.Proofs.Ytendpbklcgiafaa

/- The walks over klass's writer: number, bytes, pool. -/
namespace Go.Proofs.Ytendpbklcgiafaa
set_option maxRecDepth 100000
open Go.RowKit

/-- append of bytes onto a row of the call's own: where it lies then. -/
theorem run_append_bytes_at {w : World} (ty : TypeId) (base : Nat) (v : Value) (k : Nat) (zs : List UInt8) (hown : w.ownsRow base 5 1 v k (zs.map B8)) (A : Option Addr) (m c : Nat) (ys : List UInt8) (S : Nat → Prop)
    (hB : ByteSl w S A m c ys) (hn : A = none → m = 0 ∧ c = 0) (hm : k + m ≤ 16777216) (hbase : base ≤ w.heap.size) :
    ∃ v' w', (Builtin.append_ #[31, 31] ty #[v, .slice A m c]).run Try.prog w = .ok v' w' ∧ w'.ownsRow base 5 1 v' (k + m) ((zs ++ ys).map B8) ∧ w.grownBy w' v.ownBlock ∧ (v'.ownBlock = v.ownBlock ∨ v'.ownBlock = some w.heap.size) := by
  obtain ⟨i0, hi, hz0, hz1, hz2⟩ := info_parts Try.infoU8
  rcases A with _ | ad
  · obtain ⟨rfl, rfl⟩ := hn rfl
    have hys : ys = [] := List.eq_nil_of_length_eq_zero hB.1
    subst hys
    exact ⟨v, w, run_append_owned_none (P := Try.prog) (w := w) base 31 ty 5 i0 1 Try.underlying31 hi v k (zs.map B8) hown, by simpa using hown, World.grownBy.refl w _, .inl rfl⟩
  · obtain ⟨v', w', hr, h2, h3, h4, h5⟩ := run_append_own_at (P := Try.prog) w base 31 ty 5 i0 (.int .u8 0) 1 1 Try.underlying31 hi hz0 hz1 hz2 rfl (by decide) v k (zs.map B8) hown ad m c (ys.map B8) (by simp [hB.1])
      (fun j y hj => by
        rw [List.getElem?_map] at hj
        cases hj2 : ys[j]? with
        | none => rw [hj2] at hj; cases hj
        | some z =>
          have hjm : j < m := by have := (List.getElem?_eq_some_iff.1 hj2).1; have := hB.1; omega
          obtain ⟨ad', he, _, _, hc⟩ := hB.2.2.2 (by omega)
          cases he
          rw [hj2] at hj
          rw [hc j z hj2]
          simpa using hj)
      (fun y hy => by obtain ⟨z, _, rfl⟩ := List.mem_map.1 hy; rfl) (by unfold maxLen; omega) (by omega) hbase
    exact ⟨v', w', hr, by simpa using h2, h3, h5⟩

/-- append by its equation, for the plain walk. -/
theorem wpList_append_eq {ops : Array Oper} {rest : List Oper} {o : Oper} {a : Act} {w w' : World} {Q : Exit → Act → World → Prop} {ts : TypeId} (hgd : o.guard = none) (s x : Operand)
    (ho : o.op = .call { callee := .builtin .append, args := #[s, x], argTypes := #[ts, ts] }) (hty : o.type = ts) {a0 a1 v : Value} (hs : a.eval s = a0) (hx : a.eval x = a1) (hr : (Builtin.append_ #[ts, ts] ts #[a0, a1]).run Try.prog w = .ok v w')
    (h : wpList Try.prog ops Q rest (a.put o.dst v) w') : wpList Try.prog ops Q (o :: rest) a w := by
  refine wpList_plain hgd fun K hK => ?_
  unfold Oper.wp execOp
  simp only [ho, hty, resolve, invoke, builtin, Sem.run_bind, Sem.run_pure, Result.andThen_ok, List.map_toArray, List.map_cons, List.map_nil, hs, hx, hr]
  exact hK _ _ h

/-- A writer as it lies. -/
structure WrB (c : Cx) (w : World) (g : Nat) (S : Nat → Prop) (N : Nat) (s : Option (List UInt8)) (e : Int) (B : Option Addr) (k cap : Nat) (zs : List UInt8) : Prop where
  pass : PassAt c w g S N s
  wr : c.m = .wr
  blk : Blk w g 57 #[.int .i64 e, .slice B k cap]
  own : w.ownsRow 0 5 1 (.slice B k cap) k (zs.map B8)
  le : k ≤ N
  e08 : e = 0 ∨ e = 8
  st : s = (if e = 0 then some zs else none)
  S_iff : ∀ q, S q ↔ q = g ∨ (Value.slice B k cap).ownBlock = some q
section
variable {c : Cx} {w w2 : World} {g : Nat} {S : Nat → Prop} {N N' : Nat} {s : Option (List UInt8)}
theorem PassAt.wr_raw (h : PassAt c w g S N s) (hm : c.m = .wr) : ∃ e B k cap zs, WrB c w g S N s e B k cap zs := by
  have ha := h.at_
  unfold Stands at ha
  rw [hm] at ha
  obtain ⟨e, B, k, c1, zs, h1, h2, h3, h4, h5, h6⟩ := ha
  exact ⟨e, B, k, c1, zs, h, hm, h1, h2, h3, h4, h5, h6⟩
theorem WrB.only {e : Int} {B : Option Addr} {k cap : Nat} {zs : List UInt8} {T : Nat → Prop} (h : WrB c w g S N s e B k cap zs) (q : Only T w w2) (hT : ∀ i, i < w.heap.size → T i → ¬ S i) (hX : ∀ i, i < w.heap.size → T i → c.X i) : WrB c w2 g S N s e B k cap zs := by
  refine ⟨h.pass.only q hT hX, h.wr, q.blk h.blk (fun ht => hT _ h.blk.lt ht h.pass.here), ⟨h.own.1, ?_⟩, h.le, h.e08, h.st, h.S_iff⟩
  rcases h.own.2 with h0 | ⟨g', c2, cur, e1, hb, hB, r⟩
  · exact Or.inl h0
  · have hB' : Blk w g' 5 cur := hB
    exact Or.inr ⟨g', c2, cur, e1, hb, q.blk hB' (fun ht => hT _ hB'.lt ht ((h.S_iff _).2 (.inr (by rw [e1]; rfl)))), r⟩
theorem WrB.grow {e : Int} {B B' : Option Addr} {k k' cap cap' : Nat} {zs ys : List UInt8} (h : WrB c w g S N s e B k cap zs) (hg : w.grownBy w2 (Value.slice B k cap).ownBlock) (hown : w2.ownsRow 0 5 1 (.slice B' k' cap') k' ((zs ++ ys).map B8))
    (hb : (Value.slice B' k' cap').ownBlock = (Value.slice B k cap).ownBlock ∨ (Value.slice B' k' cap').ownBlock = some w.heap.size) (hk : k' ≤ N') :
    (∃ S', PassAt c (w2.setCell ⟨g, 1, none⟩ (.slice B' k' cap')) g S' N' (s.map (· ++ ys)) ∧ (∀ q, S' q → S q ∨ w.heap.size ≤ q)) ∧ Only S w (w2.setCell ⟨g, 1, none⟩ (.slice B' k' cap')) ∧ Blk w2 g 57 #[.int .i64 e, .slice B k cap] ∧ Only S w w2 := by
  have hrow : ∀ q, (Value.slice B k cap).ownBlock = some q → ∃ cur, Blk w q 5 cur := by
    intro q hq
    rcases h.own.2 with ⟨e, _⟩ | ⟨g', c2, cur, e, hb, hB, -⟩
    · cases e
      cases hq
    · cases e
      cases hq
      exact ⟨cur, hB⟩
  have hO : Only (fun q => (Value.slice B k cap).ownBlock = some q) w w2 := Only.of_grown hg (fun k e _ => e)
  have hne : ∀ q, (Value.slice B k cap).ownBlock = some q → q ≠ g := fun q hq => by
    obtain ⟨cur, hB⟩ := hrow q hq
    exact Blk.ne_ hB h.blk (by decide)
  have hblk : Blk w2 g 57 #[.int .i64 e, .slice B k cap] := hO.blk h.blk (fun e => hne g e rfl)
  have hset : Only (· = g) w2 (w2.setCell ⟨g, 1, none⟩ (.slice B' k' cap')) := (Only.refl (· = g) w2).setCell (p := ⟨g, 1, none⟩) (Or.inl rfl) _
  have hOS : Only S w w2 := hO.mono (fun q _ e => (h.S_iff q).2 (.inr e))
  have hOS2 : Only S w (w2.setCell ⟨g, 1, none⟩ (.slice B' k' cap')) := hOS.trans (hset.mono (fun q _ e => e ▸ h.pass.here))
  have hsub : ∀ q, (q = g ∨ (Value.slice B' k' cap').ownBlock = some q) → S q ∨ w.heap.size ≤ q := by
    rintro q (rfl | hq)
    · exact .inl h.pass.here
    · rcases hb with hb | hb
      · exact .inl ((h.S_iff q).2 (.inr (hb ▸ hq)))
      · rw [hb] at hq
        cases hq
        exact .inr (Nat.le_refl _)
  have hlt2 : ∀ q, (Value.slice B' k' cap').ownBlock = some q → q < w2.heap.size := by
    intro q hq
    rcases hown.2 with ⟨e, _⟩ | ⟨g', c2, cur, e, _, hB, -⟩
    · cases e
      cases hq
    · cases e
      cases hq
      have hB' : Blk w2 g' 5 cur := hB
      exact hB'.lt
  refine ⟨⟨fun q => q = g ∨ (Value.slice B' k' cap').ownBlock = some q, ⟨?_, ?_, ?_, ?_, h.pass.small, .inl rfl, ?_⟩, hsub⟩, hOS2, hblk, hOS⟩
  · rintro q (rfl | hq)
    · exact Nat.lt_of_lt_of_le hblk.lt hset.size
    · exact Nat.lt_of_lt_of_le (hlt2 q hq) hset.size
  · intro q hq
    rcases hsub q hq with hq | hq
    · exact h.pass.inX q hq
    · exact h.pass.new q hq
  · exact fun q hq => h.pass.new q (Nat.le_trans hOS2.size hq)
  · exact h.pass.pool.only hOS2 (fun q _ hq => h.pass.inX q hq)
  · unfold Stands
    rw [h.wr]
    refine ⟨e, B', k', cap', zs ++ ys, hblk.set_ 1 _, ⟨hown.1, ?_⟩, hk, h.e08, ?_, fun q => Iff.rfl⟩
    · rcases hown.2 with h0 | ⟨g', c2, cur, e, hb, hB, r⟩
      · exact Or.inl h0
      · have hB' : Blk w2 g' 5 cur := hB
        exact Or.inr ⟨g', c2, cur, e, hb, hset.blk hB' (Blk.ne_ hB' hblk (by decide)), r⟩
    · rw [h.st]
      by_cases he : e = 0 <;> simp [he]
end

section
variable {c : Cx} {w : World} {g b off : Nat} {S : Nat → Prop} {N : Nat} {s : Option (List UInt8)}
/-- What a step of a writer's leaves. -/
def Wrote (c : Cx) (w : World) (g : Nat) (S : Nat → Prop) (N : Nat) (s : Option (List UInt8)) (e1 : Ending) (w' : World) : Prop :=
  e1 = .returned (.tuple #[]) ∧ (∃ S', PassAt c w' g S' N s ∧ (∀ q, S' q → S q ∨ w.heap.size ≤ q)) ∧ Only S w w'

set_option maxHeartbeats 1000000 in
theorem kwNumber_any (hm : c.m = .wr) (hP : PassAt c w g S N s) (x : Int) (k : Nat) (hb : ¬ S b) (hT : Tgt c w b off [.int .i64 x]) (h1 : 1 ≤ k) (h2 : k ≤ 8) (hN : N + k ≤ 16000000) :
    Calls Try.prog 82 #[.pointer (some ⟨g, 0, none⟩), .pointer (some ⟨b, off, none⟩), .int .i64 (k : Int)] w (Wrote c w g S (N + k) (s.map (· ++ putL (bits64 x) k))) := by
  obtain ⟨e, B, m, cp, zs, hA⟩ := hP.wr_raw hm
  have HA := Lib.hid hA
  have HU := u64_wrap x
  have CP : Hid (∀ W, Calls Try.prog 84 #[.slice none 0 0, .int .u64 (bits64 x : Int), .int .i64 (k : Int)] W fun e w' => (∃ A2 c2, e = .returned (.slice A2 k c2) ∧ ByteSl w' Empty A2 k c2 (putL (bits64 x) k) ∧ (A2 = none → k = 0 ∧ c2 = 0)) ∧ Below W.heap.size W w') := Lib.hid (fun W =>
    (put_yes none 0 0 [] (bits64 x) k W (ByteSl.nil_ _ _ _ _ (by unfold maxLen; omega)) (u64_le x) h1 h2 (by omega)).mono fun e w' ⟨⟨u, he, ho⟩, hb⟩ => by
      rw [Nat.zero_add, List.nil_append] at ho
      obtain ⟨A2, c2, rfl, hB2, hg⟩ := ByteSl.of_own (S := Empty) ho (fun _ _ _ h => h)
      refine ⟨⟨A2, c2, he, hB2, fun e => ?_⟩, hb⟩
      obtain ⟨_, h, _⟩ := hg (by omega)
      rw [e] at h
      cases h)
  have hc0 : w.cell? ⟨g, 1, none⟩ = some (.slice B m cp) := hA.blk.cell 1
  have hx0 : w.cell? ⟨b, off, none⟩ = some (.int .i64 x) := by simpa using hT.cell 0 _ rfl
  have hle := hA.le
  have HB : Hid (b < w.heap.size ∧ ¬ S b) := Lib.hid ⟨hT.lt, hb⟩
  clear hA hP hT hb hm
  go_enter Try.func82, Try.ntmps82
  refine wp_region_held_drew (S := fun W => W.cell? ⟨b, off, none⟩ = some (.int .i64 x)) (by kernel_rfl) hx0 (fun hHeld0 => ?_)
  refine take_yes 0 6 ?_ rfl rfl (by kernel_rfl) (by kernel_rfl) (by kernel_rfl) (fun _ _ _ h => h) (by kernel_rfl) ?_ (by assumption) ?_; rotate_left; (focus (intro w hSw; (try dsimp only at hSw); go_simp; all_goals first | with_reducible rfl)); simp only [Act.put, List.setIfInBounds_toArray, List.set_cons_zero, List.set_cons_succ]
  refine take_yes 1 7 ?_ rfl rfl (by kernel_rfl) (by kernel_rfl) (by kernel_rfl) (fun _ _ _ h => h) (by kernel_rfl) ?_ (by assumption) ?_; rotate_left; (focus (intro w hSw; (try dsimp only at hSw); go_simp; all_goals first | with_reducible rfl)); simp only [Act.put, List.setIfInBounds_toArray, List.set_cons_zero, List.set_cons_succ]
  refine take_yes 2 8 ?_ rfl rfl (by kernel_rfl) (by kernel_rfl) (by kernel_rfl) (fun _ _ _ h => h) (by kernel_rfl) ?_ (by assumption) ?_; rotate_left; (focus (intro w hSw; (try dsimp only at hSw); go_simp; all_goals first | with_reducible rfl)); simp only [Act.put, List.setIfInBounds_toArray, List.set_cons_zero, List.set_cons_succ]
  refine take_yes 3 9 ?_ rfl rfl (by kernel_rfl) (by kernel_rfl) (by kernel_rfl) (fun _ _ _ h => h) (by kernel_rfl) ?_ (by assumption) ?_; rotate_left; (focus (intro w hSw; (try dsimp only at hSw); go_simp; all_goals first | with_reducible rfl)); simp only [Act.put, List.setIfInBounds_toArray, List.set_cons_zero, List.set_cons_succ]
  refine take_yes 5 11 ?_ rfl rfl (by kernel_rfl) (by kernel_rfl) (by kernel_rfl) (fun _ _ _ h => h) (by kernel_rfl) ?_ (by assumption) ?_; rotate_left; (focus (intro w hSw; (try dsimp only at hSw); go_simp; all_goals first | with_reducible rfl)); simp only [Act.put, List.setIfInBounds_toArray, List.set_cons_zero, List.set_cons_succ]
  refine take_yes 6 12 ?_ rfl rfl (by kernel_rfl) (by kernel_rfl) (by kernel_rfl) (fun _ _ _ h => h) (by kernel_rfl) ?_ (by assumption) ?_; rotate_left; (focus (intro w hSw; (try dsimp only at hSw); go_simp; all_goals first | with_reducible rfl)); simp only [Act.put, List.setIfInBounds_toArray, List.set_cons_zero, List.set_cons_succ]
  refine take_yes 7 13 (.int .i64 x) rfl rfl (by kernel_rfl) (by kernel_rfl) (by kernel_rfl) (fun _ _ _ h => h) (by kernel_rfl) ?_ (by assumption) ?_; (focus (intro w hSw; (try dsimp only at hSw); go_simp; all_goals first | with_reducible rfl)); simp only [Act.put, List.setIfInBounds_toArray, List.set_cons_zero, List.set_cons_succ]
  refine take_yes 8 14 (.int .u64 (bits64 x : Int)) rfl rfl (by kernel_rfl) (by kernel_rfl) (by kernel_rfl) (fun _ _ _ h => h) (by kernel_rfl) ?_ (by assumption) ?_; (focus (intro w hSw; (try dsimp only at hSw); go_simp; all_goals first | with_reducible rfl)); simp only [Act.put, List.setIfInBounds_toArray, List.set_cons_zero, List.set_cons_succ]
  refine take_yes 9 15 ?_ rfl rfl (by kernel_rfl) (by kernel_rfl) (by kernel_rfl) (fun _ _ _ h => h) (by kernel_rfl) ?_ (by assumption) ?_; rotate_left; (focus (intro w hSw; (try dsimp only at hSw); go_simp; all_goals first | with_reducible rfl)); simp only [Act.put, List.setIfInBounds_toArray, List.set_cons_zero, List.set_cons_succ]
  refine wpAnyH_ready (rs := [4, 10]) (by kernel_rfl) (by simp) ?_
  refine AllReadyH.cons rfl (fun K hK => ?_) (AllReadyH.cons rfl (fun K hK => ?_) AllReadyH.nil)
  · go_simp
    refine hK.out _ _ (hx0) (fun _ => ?_)
    clear hK K
    try simp only [Act.put, List.setIfInBounds_toArray, List.set_cons_zero, List.set_cons_succ]
    refine wpAnyH_ready (rs := [10]) (by kernel_rfl) (by simp) ?_
    refine AllReadyH.cons rfl (fun K hK => ?_) AllReadyH.nil
    go_simp
    go_at_call 84; (with_reducible refine (CP.out _).mono ?_); rintro e10 w10 ⟨⟨A2, c2, rfl, hB2, hn2⟩, hb10⟩
    have hE10 : Only Empty w w10 := ((Only.refl Empty w).drew).trans (Only.of_below hb10)
    have HA10 := Lib.hid (HA.out.only hE10 (fun _ _ h => h.elim) (fun _ _ h => h.elim))
    have hc10 : w10.cell? ⟨g, 1, none⟩ = some (.slice B m cp) := HA10.out.blk.cell 1
    have hx10 : w10.cell? ⟨b, off, none⟩ = some (.int .i64 x) := (hE10.cell (p := ⟨b, off, none⟩) HB.out.1 (fun h => h)).trans hx0
    have HE10 := Lib.hid hE10
    clear hE10
    go_wp2_with fail
    refine hK.out _ _ (hx10) (fun _ => ?_)
    clear hK K
    try simp only [Act.put, List.setIfInBounds_toArray, List.set_cons_zero, List.set_cons_succ]
    refine wpAnyH_ready (rs := [11]) (by kernel_rfl) (by simp) ?_
    refine AllReadyH.cons rfl (fun K hK => ?_) AllReadyH.nil
    obtain ⟨v', w2, hrun, hown, hgr, hnb⟩ := run_append_bytes_at (w := w10) 31 0 (.slice B m cp) m zs HA10.out.own A2 k c2 (putL (bits64 x) k) Empty hB2 hn2 (by omega) (by omega)
    obtain ⟨B', c', rfl, -⟩ := ByteSl.of_own (S := Empty) hown (fun _ _ _ h => h)
    obtain ⟨hS3, hO3, hblk2, hO2⟩ := HA10.out.grow (N' := N + k) hgr hown hnb (by omega)
    have HS3 := Lib.hid hS3
    have HO3 := Lib.hid hO3
    have hg0 := hblk2.cell 1
    have hgf := hblk2.frozen 1
    have hgl2 := hblk2.lt
    have hx2 : w2.cell? ⟨b, off, none⟩ = some (.int .i64 x) := (hO2.cell (p := ⟨b, off, none⟩) (Nat.lt_of_lt_of_le HB.out.1 HE10.out.size) HB.out.2).trans hx10
    have hx3 : (w2.setCell ⟨g, 1, none⟩ (.slice B' (m + k) c')).cell? ⟨b, off, none⟩ = some (.int .i64 x) := (HO3.out.cell (p := ⟨b, off, none⟩) (Nat.lt_of_lt_of_le HB.out.1 HE10.out.size) HB.out.2).trans hx10
    clear hS3 hO3 hblk2 hown hgr hnb hO2
    refine step_append_eq (ts := 31) rfl (.tmp 10) (.tmp 16) rfl rfl rfl rfl hrun ?_
    refine hK.out _ _ (hx2) (fun _ => ?_)
    clear hK K
    try simp only [Act.put, List.setIfInBounds_toArray, List.set_cons_zero, List.set_cons_succ]
    refine take_yes 12 18 ?_ rfl rfl (by kernel_rfl) (by kernel_rfl) (by kernel_rfl) (fun _ _ _ h => h) (by kernel_rfl) ?_ (by assumption) ?_; rotate_left; (focus (intro w hSw; (try dsimp only at hSw); go_simp; all_goals first | with_reducible rfl)); simp only [Act.put, List.setIfInBounds_toArray, List.set_cons_zero, List.set_cons_succ]
    refine take_yes 13 19 ?_ rfl rfl (by kernel_rfl) (by kernel_rfl) (by kernel_rfl) (fun _ _ _ h => h) (by kernel_rfl) ?_ (by assumption) ?_; rotate_left; (focus (intro w hSw; (try dsimp only at hSw); go_simp; all_goals first | with_reducible rfl)); simp only [Act.put, List.setIfInBounds_toArray, List.set_cons_zero, List.set_cons_succ]
    refine wpAnyH_ready (rs := [14]) (by kernel_rfl) (by simp) ?_
    refine AllReadyH.cons rfl (fun K hK => ?_) AllReadyH.nil
    go_simp
    refine hK.out _ _ (hx3) (fun _ => ?_)
    clear hK K
    try simp only [Act.put, List.setIfInBounds_toArray, List.set_cons_zero, List.set_cons_succ]
    refine wpAnyH_done (by kernel_rfl) ?_ _
    go_wp2
    go_end0
    refine ⟨rfl, ?_, (HE10.out.mono (fun _ _ h => h.elim)).trans HO3.out⟩
    obtain ⟨S', h1, h2⟩ := HS3.out
    exact ⟨S', h1, fun q hq => (h2 q hq).imp id (fun h => Nat.le_trans HE10.out.size h)⟩
  · go_simp
    go_at_call 84; (with_reducible refine (CP.out _).mono ?_); rintro e10 w10 ⟨⟨A2, c2, rfl, hB2, hn2⟩, hb10⟩
    have hE10 : Only Empty w w10 := ((Only.refl Empty w).drew).trans (Only.of_below hb10)
    have HA10 := Lib.hid (HA.out.only hE10 (fun _ _ h => h.elim) (fun _ _ h => h.elim))
    have hc10 : w10.cell? ⟨g, 1, none⟩ = some (.slice B m cp) := HA10.out.blk.cell 1
    have hx10 : w10.cell? ⟨b, off, none⟩ = some (.int .i64 x) := (hE10.cell (p := ⟨b, off, none⟩) HB.out.1 (fun h => h)).trans hx0
    have HE10 := Lib.hid hE10
    clear hE10
    go_wp2_with fail
    refine hK.out _ _ (hx10) (fun _ => ?_)
    clear hK K
    try simp only [Act.put, List.setIfInBounds_toArray, List.set_cons_zero, List.set_cons_succ]
    refine wpAnyH_ready (rs := [4]) (by kernel_rfl) (by simp) ?_
    refine AllReadyH.cons rfl (fun K hK => ?_) AllReadyH.nil
    go_simp
    refine hK.out _ _ (hx10) (fun _ => ?_)
    clear hK K
    try simp only [Act.put, List.setIfInBounds_toArray, List.set_cons_zero, List.set_cons_succ]
    refine wpAnyH_ready (rs := [11]) (by kernel_rfl) (by simp) ?_
    refine AllReadyH.cons rfl (fun K hK => ?_) AllReadyH.nil
    obtain ⟨v', w2, hrun, hown, hgr, hnb⟩ := run_append_bytes_at (w := w10) 31 0 (.slice B m cp) m zs HA10.out.own A2 k c2 (putL (bits64 x) k) Empty hB2 hn2 (by omega) (by omega)
    obtain ⟨B', c', rfl, -⟩ := ByteSl.of_own (S := Empty) hown (fun _ _ _ h => h)
    obtain ⟨hS3, hO3, hblk2, hO2⟩ := HA10.out.grow (N' := N + k) hgr hown hnb (by omega)
    have HS3 := Lib.hid hS3
    have HO3 := Lib.hid hO3
    have hg0 := hblk2.cell 1
    have hgf := hblk2.frozen 1
    have hgl2 := hblk2.lt
    have hx2 : w2.cell? ⟨b, off, none⟩ = some (.int .i64 x) := (hO2.cell (p := ⟨b, off, none⟩) (Nat.lt_of_lt_of_le HB.out.1 HE10.out.size) HB.out.2).trans hx10
    have hx3 : (w2.setCell ⟨g, 1, none⟩ (.slice B' (m + k) c')).cell? ⟨b, off, none⟩ = some (.int .i64 x) := (HO3.out.cell (p := ⟨b, off, none⟩) (Nat.lt_of_lt_of_le HB.out.1 HE10.out.size) HB.out.2).trans hx10
    clear hS3 hO3 hblk2 hown hgr hnb hO2
    refine step_append_eq (ts := 31) rfl (.tmp 10) (.tmp 16) rfl rfl rfl rfl hrun ?_
    refine hK.out _ _ (hx2) (fun _ => ?_)
    clear hK K
    try simp only [Act.put, List.setIfInBounds_toArray, List.set_cons_zero, List.set_cons_succ]
    refine take_yes 12 18 ?_ rfl rfl (by kernel_rfl) (by kernel_rfl) (by kernel_rfl) (fun _ _ _ h => h) (by kernel_rfl) ?_ (by assumption) ?_; rotate_left; (focus (intro w hSw; (try dsimp only at hSw); go_simp; all_goals first | with_reducible rfl)); simp only [Act.put, List.setIfInBounds_toArray, List.set_cons_zero, List.set_cons_succ]
    refine take_yes 13 19 ?_ rfl rfl (by kernel_rfl) (by kernel_rfl) (by kernel_rfl) (fun _ _ _ h => h) (by kernel_rfl) ?_ (by assumption) ?_; rotate_left; (focus (intro w hSw; (try dsimp only at hSw); go_simp; all_goals first | with_reducible rfl)); simp only [Act.put, List.setIfInBounds_toArray, List.set_cons_zero, List.set_cons_succ]
    refine wpAnyH_ready (rs := [14]) (by kernel_rfl) (by simp) ?_
    refine AllReadyH.cons rfl (fun K hK => ?_) AllReadyH.nil
    go_simp
    refine hK.out _ _ (hx3) (fun _ => ?_)
    clear hK K
    try simp only [Act.put, List.setIfInBounds_toArray, List.set_cons_zero, List.set_cons_succ]
    refine wpAnyH_done (by kernel_rfl) ?_ _
    go_wp2
    go_end0
    refine ⟨rfl, ?_, (HE10.out.mono (fun _ _ h => h.elim)).trans HO3.out⟩
    obtain ⟨S', h1, h2⟩ := HS3.out
    exact ⟨S', h1, fun q hq => (h2 q hq).imp id (fun h => Nat.le_trans HE10.out.size h)⟩

set_option maxHeartbeats 1000000 in
theorem kwBytes_any (hm : c.m = .wr) (hP : PassAt c w g S N s) (A2 : Option Addr) (n c2 : Nat) (ys : List UInt8) (n0 : Int) (hb : ¬ S b) (hT : Tgt c w b off [.slice A2 n c2]) (hB : ByteSl w Empty A2 n c2 ys) (hn : A2 = none → n = 0 ∧ c2 = 0) (hN : N + n ≤ 16000000) :
    Calls Try.prog 81 #[.pointer (some ⟨g, 0, none⟩), .pointer (some ⟨b, off, none⟩), .int .i64 n0] w (Wrote c w g S (N + n) (s.map (· ++ ys))) := by
  obtain ⟨e, B, m, cp, zs, hA⟩ := hP.wr_raw hm
  have HA := Lib.hid hA
  have hc0 : w.cell? ⟨g, 1, none⟩ = some (.slice B m cp) := hA.blk.cell 1
  have hx0 : w.cell? ⟨b, off, none⟩ = some (.slice A2 n c2) := by simpa using hT.cell 0 _ rfl
  have hle := hA.le
  have HB : Hid (b < w.heap.size ∧ ¬ S b) := Lib.hid ⟨hT.lt, hb⟩
  have HBy := Lib.hid hB
  have HN := Lib.hid hn
  clear hA hP hT hb hm hB hn
  go_enter Try.func81, Try.ntmps81
  refine wp_region_held_drew (S := fun W => W.cell? ⟨b, off, none⟩ = some (.slice A2 n c2)) (by kernel_rfl) hx0 (fun hHeld0 => ?_)
  refine take_yes 0 6 ?_ rfl rfl (by kernel_rfl) (by kernel_rfl) (by kernel_rfl) (fun _ _ _ h => h) (by kernel_rfl) ?_ (by assumption) ?_; rotate_left; (focus (intro w hSw; (try dsimp only at hSw); go_simp; all_goals first | with_reducible rfl)); simp only [Act.put, List.setIfInBounds_toArray, List.set_cons_zero, List.set_cons_succ]
  refine take_yes 1 7 ?_ rfl rfl (by kernel_rfl) (by kernel_rfl) (by kernel_rfl) (fun _ _ _ h => h) (by kernel_rfl) ?_ (by assumption) ?_; rotate_left; (focus (intro w hSw; (try dsimp only at hSw); go_simp; all_goals first | with_reducible rfl)); simp only [Act.put, List.setIfInBounds_toArray, List.set_cons_zero, List.set_cons_succ]
  refine take_yes 2 8 ?_ rfl rfl (by kernel_rfl) (by kernel_rfl) (by kernel_rfl) (fun _ _ _ h => h) (by kernel_rfl) ?_ (by assumption) ?_; rotate_left; (focus (intro w hSw; (try dsimp only at hSw); go_simp; all_goals first | with_reducible rfl)); simp only [Act.put, List.setIfInBounds_toArray, List.set_cons_zero, List.set_cons_succ]
  refine take_yes 3 9 ?_ rfl rfl (by kernel_rfl) (by kernel_rfl) (by kernel_rfl) (fun _ _ _ h => h) (by kernel_rfl) ?_ (by assumption) ?_; rotate_left; (focus (intro w hSw; (try dsimp only at hSw); go_simp; all_goals first | with_reducible rfl)); simp only [Act.put, List.setIfInBounds_toArray, List.set_cons_zero, List.set_cons_succ]
  refine take_yes 5 11 ?_ rfl rfl (by kernel_rfl) (by kernel_rfl) (by kernel_rfl) (fun _ _ _ h => h) (by kernel_rfl) ?_ (by assumption) ?_; rotate_left; (focus (intro w hSw; (try dsimp only at hSw); go_simp; all_goals first | with_reducible rfl)); simp only [Act.put, List.setIfInBounds_toArray, List.set_cons_zero, List.set_cons_succ]
  refine take_yes 6 12 ?_ rfl rfl (by kernel_rfl) (by kernel_rfl) (by kernel_rfl) (fun _ _ _ h => h) (by kernel_rfl) ?_ (by assumption) ?_; rotate_left; (focus (intro w hSw; (try dsimp only at hSw); go_simp; all_goals first | with_reducible rfl)); simp only [Act.put, List.setIfInBounds_toArray, List.set_cons_zero, List.set_cons_succ]
  refine take_yes 7 13 (.slice A2 n c2) rfl rfl (by kernel_rfl) (by kernel_rfl) (by kernel_rfl) (fun _ _ _ h => h) (by kernel_rfl) ?_ (by assumption) ?_; (focus (intro w hSw; (try dsimp only at hSw); go_simp; all_goals first | with_reducible rfl)); simp only [Act.put, List.setIfInBounds_toArray, List.set_cons_zero, List.set_cons_succ]
  refine wpAnyH_ready (rs := [4]) (by kernel_rfl) (by simp) ?_
  refine AllReadyH.cons rfl (fun K hK => ?_) AllReadyH.nil
  go_simp
  refine hK.out _ _ (hx0) (fun _ => ?_)
  clear hK K
  try simp only [Act.put, List.setIfInBounds_toArray, List.set_cons_zero, List.set_cons_succ]
  refine wpAnyH_ready (rs := [8]) (by kernel_rfl) (by simp) ?_
  refine AllReadyH.cons rfl (fun K hK => ?_) AllReadyH.nil
  have HA10 := Lib.hid (HA.out.only ((Only.refl Empty w).drew) (fun _ _ h => h.elim) (fun _ _ h => h.elim))
  have HBy10 := Lib.hid (HBy.out.only ((Only.refl Empty w).drew) (fun _ _ h => h))
  obtain ⟨v', w2, hrun, hown, hgr, hnb⟩ := run_append_bytes_at (w := w.drew) 31 0 (.slice B m cp) m zs HA10.out.own A2 n c2 ys Empty HBy10.out HN.out (by omega) (by omega)
  obtain ⟨B', c', rfl, -⟩ := ByteSl.of_own (S := Empty) hown (fun _ _ _ h => h)
  obtain ⟨hS3, hO3, hblk2, hO2⟩ := HA10.out.grow (N' := N + n) hgr hown hnb (by omega)
  have HS3 := Lib.hid hS3
  have HO3 := Lib.hid hO3
  have hg0 := hblk2.cell 1
  have hgf := hblk2.frozen 1
  have hgl2 := hblk2.lt
  have hx2 : w2.cell? ⟨b, off, none⟩ = some (.slice A2 n c2) := (hO2.cell (p := ⟨b, off, none⟩) HB.out.1 HB.out.2).trans hx0
  have hx3 : (w2.setCell ⟨g, 1, none⟩ (.slice B' (m + n) c')).cell? ⟨b, off, none⟩ = some (.slice A2 n c2) := (HO3.out.cell (p := ⟨b, off, none⟩) HB.out.1 HB.out.2).trans hx0
  clear hS3 hO3 hblk2 hown hgr hnb hO2
  refine step_append_eq (ts := 31) rfl (.tmp 10) (.tmp 13) rfl rfl rfl rfl hrun ?_
  refine hK.out _ _ (hx2) (fun _ => ?_)
  clear hK K
  try simp only [Act.put, List.setIfInBounds_toArray, List.set_cons_zero, List.set_cons_succ]
  refine take_yes 9 15 ?_ rfl rfl (by kernel_rfl) (by kernel_rfl) (by kernel_rfl) (fun _ _ _ h => h) (by kernel_rfl) ?_ (by assumption) ?_; rotate_left; (focus (intro w hSw; (try dsimp only at hSw); go_simp; all_goals first | with_reducible rfl)); simp only [Act.put, List.setIfInBounds_toArray, List.set_cons_zero, List.set_cons_succ]
  refine take_yes 10 16 ?_ rfl rfl (by kernel_rfl) (by kernel_rfl) (by kernel_rfl) (fun _ _ _ h => h) (by kernel_rfl) ?_ (by assumption) ?_; rotate_left; (focus (intro w hSw; (try dsimp only at hSw); go_simp; all_goals first | with_reducible rfl)); simp only [Act.put, List.setIfInBounds_toArray, List.set_cons_zero, List.set_cons_succ]
  refine wpAnyH_ready (rs := [11]) (by kernel_rfl) (by simp) ?_
  refine AllReadyH.cons rfl (fun K hK => ?_) AllReadyH.nil
  go_simp
  refine hK.out _ _ (hx3) (fun _ => ?_)
  clear hK K
  try simp only [Act.put, List.setIfInBounds_toArray, List.set_cons_zero, List.set_cons_succ]
  refine wpAnyH_done (by kernel_rfl) ?_ _
  go_wp2
  go_end0
  refine ⟨rfl, HS3.out, ?_⟩
  exact ((Only.refl S w).drew).trans HO3.out

set_option maxHeartbeats 1000000 in
theorem kwPool_any (hm : c.m = .wr) (hP : PassAt c w g S N s) (A2 : Option Addr) (n c2 : Nat) (l : List Cst) (hb : ¬ S b) (hT : Tgt c w b off [.slice A2 n c2]) (hl : PoolSl w A2 n c2 l) (hok : ∀ c ∈ l, c.ok) (hs : ∀ c ∈ l, c.s.length ≤ 1000000) (hB : (poolB l).length ≤ 6000000) (hn : n ≤ 1000000) (hN : N + 6000000 ≤ 16000000) :
    Calls Try.prog 83 #[.pointer (some ⟨g, 0, none⟩), .pointer (some ⟨b, off, none⟩)] w (Wrote c w g S (N + 6000000) (s.bind fun out => (poolE l).map (out ++ ·))) := by
  have hx0 : w.cell? ⟨b, off, none⟩ = some (.slice A2 n c2) := by simpa using hT.cell 0 _ rfl
  have HP := Lib.hid hP
  have HM := Lib.hid hm
  have CR : Hid (∀ W (x : Int), PassAt c W g S N s → (x = 0 ∨ x = 8) → Calls Try.prog 35 #[.pointer (some ⟨g, 0, none⟩), .int .i64 x] W fun e1 w' => e1 = .returned (.tuple #[]) ∧ PassAt c w' g S N (if x = 0 then s else none) ∧ Only S W w') :=
    Lib.hid (fun W x h hx => refuse_k h x (hx.imp id .inl) (fun ⟨_, _, _, h2⟩ => by rw [hm] at h2; cases h2))
  cases hc : checkF l with
  | false =>
    have C := Lib.hid (bytes_no A2 n c2 l w hl hn hok hc)
    have HE : Hid (s.bind (fun out => (poolE l).map (out ++ ·)) = none) := Lib.hid (by unfold poolE; rw [hc]; cases s <;> rfl)
    rw [HE.out]
    clear hP hT hb hm hl hok hs hB hc
    go_enter Try.func83, Try.ntmps83
    go_wp2_with fail
    refine C.out.mono ?_
    rintro e w1 ⟨rfl, hb1⟩
    have HP1 := Lib.hid (HP.out.below hb1)
    have HO1 : Hid (Only S w w1) := Lib.hid (Only.of_below hb1)
    clear hb1 hx0
    go_wp2_with fail
    refine (CR.out w1 8 HP1.out (.inr rfl)).mono ?_
    rintro e w2 ⟨rfl, hP2, hO2⟩
    rw [if_neg (by decide)] at hP2
    have HP2 := Lib.hid hP2
    have HO2 := Lib.hid (HO1.out.trans hO2)
    obtain ⟨e, B, m, cp, zs, hA⟩ := hP2.wr_raw HM.out
    have HA := Lib.hid hA
    have hc0 : w2.cell? ⟨g, 1, none⟩ = some (.slice B m cp) := hA.blk.cell 1
    have hle := hA.le
    clear hP2 hO2 hA
    obtain ⟨v', w3, hrun, hown, hgr, hnb⟩ := run_append_bytes_at (w := w2) 31 0 (.slice B m cp) m zs HA.out.own none 0 0 [] Empty (ByteSl.nil_ _ _ _ _ (by unfold maxLen; omega)) (fun _ => ⟨rfl, rfl⟩) (by omega) (by omega)
    obtain ⟨B', c', rfl, -⟩ := ByteSl.of_own (S := Empty) hown (fun _ _ _ h => h)
    obtain ⟨hS3, hO3, hblk2, -⟩ := HA.out.grow (N' := N + 6000000) hgr hown hnb (by omega)
    have HS3 := Lib.hid hS3
    have HO3 := Lib.hid hO3
    have hg0 := hblk2.cell 1
    have hgf := hblk2.frozen 1
    have hgl2 := hblk2.lt
    have HR := Lib.hid hrun
    clear hS3 hO3 hblk2 hown hgr hnb hrun
    go_wp2_with (at_builtin; refine wpList_append_eq (ts := 31) rfl (.tmp 22) (.tmp 23) rfl rfl rfl rfl HR.out ?_)
    go_end0
    refine ⟨rfl, ?_, HO2.out.trans HO3.out⟩
    obtain ⟨S', h1, h2⟩ := HS3.out
    exact ⟨S', h1, fun q hq => (h2 q hq).imp id (fun h => Nat.le_trans HO2.out.size h)⟩
  | true =>
    have C := Lib.hid (bytes_yes A2 n c2 l w hl hok hc hs hB)
    have HE : Hid (s.bind (fun out => (poolE l).map (out ++ ·)) = s.map (· ++ poolB l)) := Lib.hid (by unfold poolE; rw [hc]; cases s <;> rfl)
    rw [HE.out]
    have HBl := Lib.hid hB
    clear hP hT hb hm hl hok hs hB hc
    go_enter Try.func83, Try.ntmps83
    go_wp2_with fail
    refine C.out.mono ?_
    rintro e w1 ⟨⟨A3, c3, rfl, -, hn3, hB3⟩, hb1⟩
    have HP1 := Lib.hid (HP.out.below hb1)
    have HO1 : Hid (Only S w w1) := Lib.hid (Only.of_below hb1)
    have HB3 := Lib.hid hB3
    have HN3 := Lib.hid hn3
    clear hb1 hx0 hB3 hn3
    go_wp2_with fail
    refine (CR.out w1 0 HP1.out (.inl rfl)).mono ?_
    rintro e w2 ⟨rfl, hP2, hO2⟩
    rw [if_pos rfl] at hP2
    obtain ⟨e, B, m, cp, zs, hA⟩ := hP2.wr_raw HM.out
    have HA := Lib.hid hA
    have hc0 : w2.cell? ⟨g, 1, none⟩ = some (.slice B m cp) := hA.blk.cell 1
    have hle := hA.le
    have HB4 : Hid (ByteSl w2 Empty A3 (poolB l).length c3 (poolB l)) := Lib.hid (by
      obtain ⟨A9, c9, e9, hB9, -⟩ := ByteSl.of_own (S := Empty) (own_only HB3.out hO2 (fun q hq _ hS => by have := HP.out.lt q hS; omega)) (fun _ _ _ h => h)
      cases e9
      exact hB9)
    have HO2 := Lib.hid (HO1.out.trans hO2)
    clear hP2 hO2 hA
    obtain ⟨v', w3, hrun, hown, hgr, hnb⟩ := run_append_bytes_at (w := w2) 31 0 (.slice B m cp) m zs HA.out.own A3 (poolB l).length c3 (poolB l) Empty HB4.out HN3.out (by have := HBl.out; omega) (by omega)
    obtain ⟨B', c', rfl, -⟩ := ByteSl.of_own (S := Empty) hown (fun _ _ _ h => h)
    obtain ⟨hS3, hO3, hblk2, -⟩ := HA.out.grow (N' := N + 6000000) hgr hown hnb (by have := HBl.out; omega)
    have HS3 := Lib.hid hS3
    have HO3 := Lib.hid hO3
    have hg0 := hblk2.cell 1
    have hgf := hblk2.frozen 1
    have hgl2 := hblk2.lt
    have HR := Lib.hid hrun
    clear hS3 hO3 hblk2 hown hgr hnb hrun
    go_wp2_with (at_builtin; refine wpList_append_eq (ts := 31) rfl (.tmp 22) (.tmp 23) rfl rfl rfl rfl HR.out ?_)
    go_end0
    refine ⟨rfl, ?_, HO2.out.trans HO3.out⟩
    obtain ⟨S', h1, h2⟩ := HS3.out
    exact ⟨S', h1, fun q hq => (h2 q hq).imp id (fun h => Nat.le_trans HO2.out.size h)⟩
end

end Go.Proofs.Ytendpbklcgiafaa
