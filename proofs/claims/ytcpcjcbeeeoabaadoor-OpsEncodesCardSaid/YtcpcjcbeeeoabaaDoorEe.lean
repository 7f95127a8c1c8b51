/- The walks over ops.part's methods: worth, fits, get, put; isKind. -/
import Derived.Test.YtcpcjcbeeeoabaaDoorEd
namespace Go.Proofs.YtcpcjcbeeeoabaaDoor
set_option maxRecDepth 100000
open Go.RowKit

/-- What a part's bytes are worth: so many bytes of a number, with a sign or not. -/
def worthF (s : Nat) (b : Bool) (v : Nat) : Int := if s = 0 then 0 else if b then sgn v s else ((v % 2 ^ (8 * s) : Nat) : Int)
/-- A number as the machine's unsigned one. -/
def uw (v : Int) : Nat := (v % 18446744073709551616).toNat
theorem uw_wrap (v : Int) : IntKind.u64.wrap v = (uw v : Int) := by
  rw [IntKind.wrap_u64]
  unfold uw
  omega
theorem uw_le (v : Int) : uw v ≤ 18446744073709551615 := by unfold uw; omega
def fitsF (s : Nat) (b : Bool) (v : Int) : Bool := decide (worthF s b (uw v) = v)

theorem uns_prog (v n : Nat) (hv : v ≤ 18446744073709551615) (h1 : 1 ≤ n) (h2 : n ≤ 2) : IntKind.u64.wrap ((v : Int) * 2 ^ (64 - 8 * n)) / 2 ^ (64 - 8 * n) = ((v % 2 ^ (8 * n) : Nat) : Int) := by
  rcases (by omega : n = 1 ∨ n = 2) with rfl | rfl
  all_goals
    rw [IntKind.wrap_u64]
    simp only [Nat.reduceMul, Nat.reduceSub, Nat.reducePow, Int.reducePow]
    omega

theorem worth_signed (s v : Nat) (w : World) (h1 : 1 ≤ s) (h2 : s ≤ 2) (hv : v ≤ 18446744073709551615) :
    Calls Tryd.prog 41 #[.agg #[.int .i64 (s : Int), .bool true], .int .u64 (v : Int)] w fun e w' => e = .returned (.int .i64 (worthF s true v)) ∧ Below w.heap.size w w' := by
  have hw : Hid (worthF s true v = sgn v s) := Lib.hid (by unfold worthF; rw [if_neg (by omega), if_pos rfl])
  go_enter Tryd.func41, Tryd.ntmps41
  go_wp2_with fail
  refine (sign_yes v s _ hv h1 (by omega)).mono ?_
  rintro e1 w1 ⟨rfl, rfl⟩
  go_wp2
  go_ret
  exact ⟨by rw [hw.out]; rfl, (Below.refl _ _).alloc (Nat.le_refl _) _⟩

theorem worth_plain (s v : Nat) (w : World) (h1 : 1 ≤ s) (h2 : s ≤ 2) (hv : v ≤ 18446744073709551615) :
    Calls Tryd.prog 41 #[.agg #[.int .i64 (s : Int), .bool false], .int .u64 (v : Int)] w fun e w' => e = .returned (.int .i64 (worthF s false v)) ∧ Below w.heap.size w w' := by
  have hw : Hid (worthF s false v = ((v % 2 ^ (8 * s) : Nat) : Int)) := Lib.hid (by unfold worthF; rw [if_neg (by omega)]; rfl)
  have hu : Hid (wrap64 (IntKind.u64.wrap ((v : Int) * 2 ^ (64 - 8 * s)) / 2 ^ (64 - 8 * s)) = ((v % 2 ^ (8 * s) : Nat) : Int)) := Lib.hid (by
    rw [uns_prog v s hv h1 h2]
    have : v % 2 ^ (8 * s) < 2 ^ (8 * s) := Nat.mod_lt _ (Nat.two_pow_pos _)
    have h3 : 2 ^ (8 * s) ≤ 65536 := by rcases (by omega : s = 1 ∨ s = 2) with rfl | rfl <;> decide
    unfold wrap64
    omega)
  go_enter Tryd.func41, Tryd.ntmps41
  go_wp2
  go_ret
  exact ⟨by rw [hw.out, ← hu.out]; rfl, (Below.refl _ _).alloc (Nat.le_refl _) _⟩

theorem worth_none (v : Nat) (w : World) (hv : v ≤ 18446744073709551615) :
    Calls Tryd.prog 41 #[.agg #[.int .i64 0, .bool false], .int .u64 (v : Int)] w fun e w' => e = .returned (.int .i64 0) ∧ Below w.heap.size w w' := by
  go_enter Tryd.func41, Tryd.ntmps41
  go_wp2
  go_ret
  refine ⟨?_, (Below.refl _ _).alloc (Nat.le_refl _) _⟩
  have h : wrap64 (IntKind.u64.wrap ((v : Int) * 18446744073709551616) / 18446744073709551616) = 0 := by
    rw [IntKind.wrap_u64]
    unfold wrap64
    omega
  exact congrArg (fun n => Ending.returned (Value.int .i64 n)) h

/-- The parts that are. -/
def PartOk (s : Nat) (b : Bool) : Prop := s ≤ 2 ∧ (s = 0 → b = false)
theorem worth_any (s v : Nat) (b : Bool) (w : World) (h : PartOk s b) (hv : v ≤ 18446744073709551615) :
    Calls Tryd.prog 41 #[.agg #[.int .i64 (s : Int), .bool b], .int .u64 (v : Int)] w fun e w' => e = .returned (.int .i64 (worthF s b v)) ∧ Below w.heap.size w w' := by
  rcases Nat.eq_zero_or_pos s with h0 | h0
  · subst h0
    rw [h.2 rfl]
    exact worth_none v w hv
  · cases b
    · exact worth_plain s v w h0 h.1 hv
    · exact worth_signed s v w h0 h.1 hv

theorem fits_any (s : Nat) (b : Bool) (v : Int) (w : World) (h : PartOk s b) :
    Calls Tryd.prog 38 #[.agg #[.int .i64 (s : Int), .bool b], .int .i64 v] w fun e w' => e = .returned (.bool (fitsF s b v)) ∧ Below w.heap.size w w' := by
  have hu : IntKind.u64.wrap v = (uw v : Int) := uw_wrap v
  have hle := uw_le v
  have hd : Hid (fitsF s b v = (worthF s b (uw v) == v)) := Lib.hid (by unfold fitsF; rw [Bool.eq_iff_iff]; simp)
  go_enter Tryd.func38, Tryd.ntmps38
  go_wp2_with fail
  refine (worth_any s _ b _ h hle).mono ?_
  rintro e1 w1 ⟨rfl, hb⟩
  have Hb := Lib.hid hb
  clear hb hu
  generalize worthF s b (uw v) = q at hd ⊢
  go_wp2
  go_ret
  exact ⟨by rw [hd.out]; rfl, ((Below.refl _ _).alloc (Nat.le_refl _) _).trans (Hb.out.mono (by simp))⟩

theorem get_part (s : Nat) (b : Bool) (A : Option Addr) (n cap at_ : Nat) (xs : List UInt8) (w : World) (h : PartOk s b) (hB : ByteSl w Empty A n cap xs) (hn : n ≤ 1048576) (ha : at_ + s ≤ n) :
    Calls Tryd.prog 33 #[.agg #[.int .i64 (s : Int), .bool b], .slice A n cap, .int .i64 (at_ : Int)] w fun e w' => e = .returned (.int .i64 (worthF s b (getV ((xs.drop at_).take s)))) ∧ Below w.heap.size w w' := by
  have hl : ((xs.drop at_).take s).length = s := by have := hB.1; simp; omega
  have hg := getV_lt ((xs.drop at_).take s)
  rw [hl] at hg
  have h3 : 256 ^ s ≤ 65536 := by rcases (by have := h.1; omega : s = 0 ∨ s = 1 ∨ s = 2) with rfl | rfl | rfl <;> decide
  have hg2 : getV ((xs.drop at_).take s) ≤ 65535 := by omega
  clear hg h3 hl
  rcases Nat.eq_zero_or_pos s with h0 | h0
  · subst h0
    have hb := h.2 rfl
    subst hb
    have hw : Hid (worthF 0 false (getV ((xs.drop at_).take 0)) = 0) := Lib.hid rfl
    clear h hg2 hB ha
    go_enter Tryd.func33, Tryd.ntmps33
    go_wp2_with fail
    refine (get_arg A n cap at_ 0 _ (by omega)).mono ?_
    rintro e1 w1 ⟨rfl, rfl⟩
    go_wp2_with fail
    refine (worth_none 0 _ (by omega)).mono ?_
    rintro e1 w1 ⟨rfl, hb⟩
    have Hb := Lib.hid hb
    clear hb
    go_wp2
    go_ret
    exact ⟨by rw [hw.out]; rfl, ((Below.refl _ _).alloc (Nat.le_refl _) _).trans (Hb.out.mono (by simp))⟩
  · have HB := Lib.hid (hB.only ((Only.refl Empty w).alloc (.cells #[.int .i64 (s : Int), .bool b] 56)) (fun _ _ h => h))
    clear hB
    go_enter Tryd.func33, Tryd.ntmps33
    go_wp2_with fail
    refine (get_yes A n cap at_ s xs _ HB.out h0 (by have := h.1; omega) hn ha).mono ?_
    rintro e1 w1 ⟨rfl, rfl⟩
    obtain ⟨q, hq⟩ : ∃ q, q = getV ((xs.drop at_).take s) := ⟨_, rfl⟩
    rw [← hq] at hg2 ⊢
    have Hq := Lib.hid hq
    clear hq
    go_wp2_with fail
    refine (worth_any s q b _ h (by omega)).mono ?_
    rintro e1 w1 ⟨rfl, hb⟩
    have Hb := Lib.hid hb
    clear hb
    go_wp2
    go_ret
    exact ⟨by rw [← Hq.out]; rfl, ((Below.refl _ _).alloc (Nat.le_refl _) _).trans (Hb.out.mono (by simp))⟩

theorem put_part (s : Nat) (b : Bool) (v : Int) (w : World) (h : PartOk s b) :
    Calls Tryd.prog 32 #[.agg #[.int .i64 (s : Int), .bool b], .int .i64 v] w fun e w' => (∃ u, e = .returned u ∧ w'.ownsRow w.heap.size 5 1 u s ((putL (uw v) s).map B8)) ∧ Below w.heap.size w w' := by
  have hu : IntKind.u64.wrap v = (uw v : Int) := uw_wrap v
  have hle := uw_le v
  have hp : ∀ w : World, Calls Tryd.prog 39 #[.slice none 0 0, .int .u64 (uw v : Int), .int .i64 (s : Int)] w fun e w' => (∃ u, e = .returned u ∧ w'.ownsRow w.heap.size 5 1 u s ((putL (uw v) s).map B8)) ∧ Below w.heap.size w w' := fun w => by
    rcases Nat.eq_zero_or_pos s with h0 | h0
    · subst h0
      have := put_no none 0 0 [] (uw v) 0 w (ByteSl.nil_ _ _ _ _ (by simp [maxLen])) (by omega) (by omega)
      simpa [putL] using this
    · have := put_yes none 0 0 [] (uw v) s w (ByteSl.nil_ _ _ _ _ (by simp [maxLen])) hle h0 (by have := h.1; omega) (by omega)
      simpa using this
  have Hp := Lib.hid hp
  clear hp h
  go_enter Tryd.func32, Tryd.ntmps32
  go_wp2_with fail
  refine (Hp.out _).mono ?_
  rintro e1 w1 ⟨⟨u, rfl, hr⟩, hb⟩
  have Hb := Lib.hid hb
  have Hr := Lib.hid hr
  clear hb hr hu
  go_wp2
  go_ret
  exact ⟨⟨u, rfl, own_base Hr.out (by simp)⟩, ((Below.refl _ _).alloc (Nat.le_refl _) _).trans (Hb.out.mono (by simp))⟩

theorem isKind_any (k : Int) (w : World) : Calls Tryd.prog 34 #[.int .i64 k] w fun e w' => e = .returned (.bool (decide (k = 8 ∨ k = 10))) ∧ w = w' := by
  by_cases h : k = 8
  · subst h
    go_enter Tryd.func34, Tryd.ntmps34
    go_wp2
    go_ret
    exact ⟨rfl, rfl⟩
  · have h8 : (k == 8) = false := by simpa using h
    have hd : Hid (decide (k = 8 ∨ k = 10) = (k == 10)) := Lib.hid (by rw [Bool.eq_iff_iff]; simp [h])
    clear h
    go_enter Tryd.func34, Tryd.ntmps34
    go_wp2
    go_ret
    exact ⟨by rw [hd.out]; rfl, rfl⟩

end Go.Proofs.YtcpcjcbeeeoabaaDoor
