/- The walks over a pool's reader: refuse, number, text. -/
import Derived.Test.YtendpbklcgiafaaZam
import Derived.Test.YtendpbklcgiafaaZal
import Derived.Test.YtendpbklcgiafaaZah
import Derived.Test.YtendpbklcgiafaaZag
import Derived.Test.YtendpbklcgiafaaZad
namespace Go.Proofs.Ytendpbklcgiafaa
set_option maxRecDepth 100000
open Go.RowKit

/-- A reader in memory: its bytes lie in no block of its own. -/
structure RdP (w : World) (g : Nat) (A : Option Addr) (n cap : Nat) (bs : List UInt8) (s : RS) : Prop where
  blk : Blk w g 176 #[.slice A n cap, .int .i64 (s.at_ : Int), .int .i64 s.fault]
  bytes : ByteSl w (· = g) A n cap bs
  le : s.at_ ≤ n
theorem RdP.only {w w' : World} {g : Nat} {A : Option Addr} {n cap : Nat} {bs : List UInt8} {s : RS} (h : RdP w g A n cap bs s) (k : Only Empty w w') : RdP w' g A n cap bs s :=
  ⟨k.blk h.blk (fun h => h), h.bytes.only k (fun _ _ h => h.elim), h.le⟩
theorem RdP.set {w : World} {g : Nat} {A : Option Addr} {n cap : Nat} {bs : List UInt8} {s : RS} (h : RdP w g A n cap bs s) (j : Nat) (v : Value) (s' : RS) (hs : (#[.slice A n cap, .int .i64 (s.at_ : Int), .int .i64 s.fault] : Array Value).setIfInBounds j v = #[.slice A n cap, .int .i64 (s'.at_ : Int), .int .i64 s'.fault]) (hle : s'.at_ ≤ n) :
    RdP (w.setCell ⟨g, j, none⟩ v) g A n cap bs s' := by
  have hb := h.blk.set_ j v
  rw [hs] at hb
  exact ⟨hb, h.bytes.only ((Only.refl (· = g) w).setCell (p := ⟨g, j, none⟩) (Or.inl rfl) _) (fun _ _ h => h), hle⟩

theorem refuse_any (g : Nat) (A : Option Addr) (n cap : Nat) (bs : List UInt8) (s : RS) (e : Int) (w : World) (hR : RdP w g A n cap bs s) :
    Calls Try.prog 111 #[.pointer (some ⟨g, 0, none⟩), .int .i64 e] w fun e1 w' => e1 = .returned (.tuple #[]) ∧ RdP w' g A n cap bs (s.refuse e) ∧ Only (· = g) w w' := by
  have HR := Lib.hid hR
  have c2 : w.cell? ⟨g, 2, none⟩ = some (.int .i64 s.fault) := hR.blk.cell 2
  have f2 := hR.blk.frozen 2
  have hlt := hR.blk.lt
  clear hR
  by_cases hf : s.fault = 0
  · have HE : Hid (s.refuse e = ⟨s.at_, e⟩) := Lib.hid (by unfold RS.refuse; rw [if_pos hf])
    have hq : (s.fault == 0) = true := by simpa using hf
    have Hf := Lib.hid hf
    clear hf
    go_enter Try.func111, Try.ntmps111
    go_wp2
    go_end0
    exact ⟨rfl, by rw [HE.out]; exact HR.out.set 2 _ _ (by simp) HR.out.le, (Only.refl (· = g) w).setCell (p := ⟨g, 2, none⟩) (Or.inl rfl) _⟩
  · have HE : Hid (s.refuse e = s) := Lib.hid (by unfold RS.refuse; rw [if_neg hf])
    have hq : (s.fault == 0) = false := by simpa using hf
    have Hf := Lib.hid hf
    clear hf
    go_enter Try.func111, Try.ntmps111
    go_wp2
    go_end0
    exact ⟨rfl, by rw [HE.out]; exact HR.out, Only.refl _ _⟩

/-- What Get tells where a reader stands. -/
def gotN (bs : List UInt8) (s : RS) (k : Nat) : Nat × Int := if s.at_ + k ≤ bs.length then (getV ((bs.drop s.at_).take k), 0) else (0, 6)
theorem prGet_any (A : Option Addr) (n cap k : Nat) (bs : List UInt8) (s : RS) (w : World) (hB : ByteSl w Empty A n cap bs) (h1 : 1 ≤ k) (h2 : k ≤ 8) (hm : n ≤ 1048576) (hle : s.at_ ≤ n) :
    Calls Try.prog 107 #[.slice A n cap, .int .i64 (s.at_ : Int), .int .i64 (k : Int)] w fun e w' => e = .returned (.tuple #[.int .u64 ((gotN bs s k).1 : Int), .int .i64 (gotN bs s k).2]) ∧ w = w' := by
  have hl := hB.1
  unfold gotN
  by_cases h : s.at_ + k ≤ bs.length
  · rw [if_pos h]
    exact get_yes A n cap s.at_ k bs w hB h1 h2 hm (by omega)
  · rw [if_neg h]
    exact get_short A n cap s.at_ k w (by omega) (by omega) (by omega) (.inr (by omega))
theorem numR_got (bs : List UInt8) (s : RS) (k : Nat) : numR bs s k = if (s.refuse (gotN bs s k).2).fault ≠ 0 then (0, s.refuse (gotN bs s k).2) else ((gotN bs s k).1, ⟨s.at_ + k, 0⟩) := by
  unfold numR gotN RS.refuse
  by_cases h0 : s.fault = 0
  · rw [if_pos h0]
    by_cases h1 : s.at_ + k ≤ bs.length
    · simp [h0, h1]
    · simp [h0, h1]
  · simp [h0]

theorem prNumber_any (g : Nat) (A : Option Addr) (n cap k : Nat) (bs : List UInt8) (s : RS) (w : World) (hR : RdP w g A n cap bs s) (h1 : 1 ≤ k) (h2 : k ≤ 8) (hm : n ≤ 1048576) :
    Calls Try.prog 110 #[.pointer (some ⟨g, 0, none⟩), .int .i64 (k : Int)] w fun e w' => e = .returned (.int .u64 ((numR bs s k).1 : Int)) ∧ RdP w' g A n cap bs (numR bs s k).2 ∧ Only (· = g) w w' := by
  have hl := hR.bytes.1
  have hle := hR.le
  have hN := numR_got bs s k
  have Hget := Lib.hid (fun m => prGet_any A n cap k bs s (w.drewN m) ((hR.bytes.mono (fun _ _ h => h.elim)).only ((Only.refl Empty w).drewN m) (fun _ _ h => h)) h1 h2 hm hR.le)
  obtain ⟨v, e, hg⟩ : ∃ v e, gotN bs s k = (v, e) := ⟨_, _, rfl⟩
  have hat : e = 0 → s.at_ + k ≤ n := fun he => by
    unfold gotN at hg
    by_cases h : s.at_ + k ≤ bs.length
    · omega
    · rw [if_neg h] at hg
      cases hg
      cases he
  rw [hg] at hN
  simp only [hg] at Hget hN
  have HR := Lib.hid hR
  have hlt := hR.blk.lt
  have c0 : w.cell? ⟨g, 0, none⟩ = some (.slice A n cap) := hR.blk.cell 0
  have c1 : w.cell? ⟨g, 1, none⟩ = some (.int .i64 (s.at_ : Int)) := hR.blk.cell 1
  have CR : Hid (∀ W, RdP W g A n cap bs s → Calls Try.prog 111 #[.pointer (some ⟨g, 0, none⟩), .int .i64 e] W fun e1 w' => e1 = .returned (.tuple #[]) ∧ RdP w' g A n cap bs (s.refuse e) ∧ Only (· = g) W w') := Lib.hid (fun W h => refuse_any g A n cap bs s e W h)
  have Hat : Hid (s.fault = 0 → e = 0 → s.at_ + k ≤ n) := Lib.hid (fun _ h => hat h)
  have HN := Lib.hid hN
  have Hl := Lib.hid hl
  clear hR hN hg hat hl
  go_enter Try.func110, Try.ntmps110
  go_wp2
  go_quiet ((go_at_call 107; exact Calls.quiet_of_same ((Hget.out _).mono fun _ _ ⟨h1, h2⟩ => ⟨h1, h2.symm⟩)))
  go_wp2_with fail
  refine (CR.out _ (HR.out.only ((Only.refl _ _).drewN nq))).mono ?_
  rintro e1 w1 ⟨rfl, hR1, hO1⟩
  have HR1 := Lib.hid hR1
  have HO1 : Hid (Only (· = g) w w1) := Lib.hid (((Only.refl (· = g) w).drewN nq).trans hO1)
  have d2 : w1.cell? ⟨g, 2, none⟩ = some (.int .i64 (s.refuse e).fault) := hR1.blk.cell 2
  have d1 : w1.cell? ⟨g, 1, none⟩ = some (.int .i64 ((s.refuse e).at_ : Int)) := hR1.blk.cell 1
  have f1 := hR1.blk.frozen 1
  have hlt1 := hR1.blk.lt
  rw [refuse_at] at d1
  clear hR1 hO1 c0 c1 hlt
  by_cases hf : (s.refuse e).fault = 0
  · have hq : ((s.refuse e).fault != 0) = false := by simpa using hf
    have hz : s.fault = 0 ∧ e = 0 := by
      unfold RS.refuse at hf
      by_cases h0 : s.fault = 0
      · rw [if_pos h0] at hf
        exact ⟨h0, hf⟩
      · rw [if_neg h0] at hf
        exact absurd hf h0
    have hle2 := Hat.out hz.1 hz.2
    have HE : Hid (numR bs s k = (v, ⟨s.at_ + k, 0⟩)) := Lib.hid (by rw [HN.out, if_neg (by simp [hf])])
    have Hf := Lib.hid hf
    clear hf hz
    go_wp2
    go_ret
    exact ⟨by rw [HE.out]; rfl, by rw [HE.out]; exact HR1.out.set 1 _ _ (by simp [refuse_at, Hf.out]) hle2, HO1.out.setCell (p := ⟨g, 1, none⟩) (Or.inl rfl) _⟩
  · have hq : ((s.refuse e).fault != 0) = true := by simpa using hf
    have HE : Hid (numR bs s k = (0, s.refuse e)) := Lib.hid (by rw [HN.out, if_pos hf])
    clear hf
    go_wp2
    go_ret
    exact ⟨by rw [HE.out]; rfl, by rw [HE.out]; exact HR1.out, HO1.out⟩

theorem numR_two (bs : List UInt8) (s : RS) (k : Nat) (h : (numR bs s k).2.fault = 0) : k ≤ (numR bs s k).2.at_ := by
  unfold numR at *
  by_cases h0 : s.fault ≠ 0
  · rw [if_pos h0] at h
    exact absurd h h0
  · rw [if_neg h0] at *
    by_cases h1 : s.at_ + k ≤ bs.length
    · rw [if_pos h1] at *
      show k ≤ s.at_ + k
      omega
    · rw [if_neg h1] at h
      cases h

set_option maxHeartbeats 1000000 in
theorem prText_any (g : Nat) (A : Option Addr) (n cap : Nat) (bs : List UInt8) (s : RS) (w : World) (hR : RdP w g A n cap bs s) (hm : n ≤ 1048576) :
    Calls Try.prog 113 #[.pointer (some ⟨g, 0, none⟩)] w fun e w' => e = .returned (.string (strB (textR bs s).1)) ∧ RdP w' g A n cap bs (textR bs s).2 ∧ Only (· = g) w w' := by
  have hl := hR.bytes.1
  have hnc : n ≤ cap := hR.bytes.2.1
  have hcm : cap ≤ 9223372036854775807 := by have := hR.bytes.2.2.1; unfold maxLen at this; exact this
  have C := Lib.hid (prNumber_any g A n cap 2 bs s w hR (by omega) (by omega) hm)
  have hlt := numR_lt bs s 2
  have h2 := numR_two bs s 2
  obtain ⟨k, s1, hr⟩ : ∃ k s1, numR bs s 2 = (k, s1) := ⟨_, _, rfl⟩
  have hT : textR bs s = (if (if (n : Int) - s1.at_ < k then s1.refuse 6 else s1).fault ≠ 0 then ([], if (n : Int) - s1.at_ < k then s1.refuse 6 else s1) else ((bs.drop (if (n : Int) - s1.at_ < k then s1.refuse 6 else s1).at_).take k, ⟨(if (n : Int) - s1.at_ < k then s1.refuse 6 else s1).at_ + k, 0⟩)) := by
    unfold textR
    rw [hr, hl]
  rw [hr] at C hlt h2
  have hlt : k < 65536 := hlt
  have h2 : s1.fault = 0 → 2 ≤ s1.at_ := h2
  have CR : Hid (∀ W, RdP W g A n cap bs s1 → Calls Try.prog 111 #[.pointer (some ⟨g, 0, none⟩), .int .i64 6] W fun e1 w' => e1 = .returned (.tuple #[]) ∧ RdP w' g A n cap bs (s1.refuse 6) ∧ Only (· = g) W w') := Lib.hid (fun W h => refuse_any g A n cap bs s1 6 W h)
  have Hl := Lib.hid hl
  have H2 := Lib.hid h2
  clear hR hl h2 hr
  have hwk : IntKind.i64.wrap (k : Int) = (k : Int) := by rw [IntKind.wrap_i64]; omega
  go_enter Try.func113, Try.ntmps113
  go_wp2_with fail
  refine C.out.mono ?_
  rintro e w1 ⟨rfl, hR1, hO1⟩
  have HR1 := Lib.hid hR1
  have HO1 := Lib.hid hO1
  have hat : s1.at_ ≤ n := hR1.le
  have c0 : w1.cell? ⟨g, 0, none⟩ = some (.slice A n cap) := hR1.blk.cell 0
  have c1 : w1.cell? ⟨g, 1, none⟩ = some (.int .i64 (s1.at_ : Int)) := hR1.blk.cell 1
  have c2 : w1.cell? ⟨g, 2, none⟩ = some (.int .i64 s1.fault) := hR1.blk.cell 2
  have f1 := hR1.blk.frozen 1
  have hgl := hR1.blk.lt
  have hwd : IntKind.i64.wrap ((n : Int) - (s1.at_ : Int)) = (n : Int) - (s1.at_ : Int) := by rw [IntKind.wrap_i64]; omega
  clear hR1 hO1
  by_cases hgt : (n : Int) - (s1.at_ : Int) < (k : Int)
  · rw [if_pos hgt] at hT
    have hd : decide ((n : Int) - (s1.at_ : Int) < (k : Int)) = true := decide_eq_true hgt
    have hfl : (s1.refuse 6).fault ≠ 0 := by
      unfold RS.refuse
      by_cases h0 : s1.fault = 0
      · rw [if_pos h0]; exact (by decide : (6 : Int) ≠ 0)
      · rw [if_neg h0]; exact h0
    rw [if_pos hfl] at hT
    have HT := Lib.hid hT
    have hq : ((s1.refuse 6).fault != 0) = true := by simpa using hfl
    clear hT hgt hfl
    go_wp2
    go_quiet (fail)
    go_wp2_with fail
    refine (CR.out _ (HR1.out.only ((Only.refl _ _).drewN nq))).mono ?_
    rintro e1 w2 ⟨rfl, hR2, hO2⟩
    have HR2 := Lib.hid hR2
    have HO2 : Hid (Only (· = g) w w2) := Lib.hid ((HO1.out.drewN nq).trans hO2)
    have d2 : w2.cell? ⟨g, 2, none⟩ = some (.int .i64 (s1.refuse 6).fault) := hR2.blk.cell 2
    clear hR2 hO2 c0 c1 c2
    go_wp2
    go_ret
    exact ⟨by rw [HT.out]; rfl, by rw [HT.out]; exact HR2.out, HO2.out⟩
  · rw [if_neg hgt] at hT
    have hd : decide ((n : Int) - (s1.at_ : Int) < (k : Int)) = false := decide_eq_false hgt
    by_cases hf : s1.fault = 0
    · rw [if_neg (by simp [hf])] at hT
      have hq : (s1.fault != 0) = false := by simpa using hf
      have h2 := H2.out hf
      have HT := Lib.hid hT
      have Hf := Lib.hid hf
      have hsum : IntKind.i64.wrap ((s1.at_ : Int) + (k : Int)) = (s1.at_ : Int) + (k : Int) := by rw [IntKind.wrap_i64]; omega
      have hle2 : s1.at_ + k ≤ n := by omega
      have HR2 := Lib.hid (HR1.out.only ((Only.refl Empty w1).drewN 1))
      clear hT hf
      go_wp2
      go_quiet (fail)
      go_wp2_with fail
      obtain ⟨w2, hw2⟩ : ∃ w2, w2 = (w1.drewN nq).setCell ⟨g, 1, none⟩ (.int .i64 ((s1.at_ : Int) + (k : Int))) := ⟨_, rfl⟩
      have hR3 : RdP w2 g A n cap bs ⟨s1.at_ + k, 0⟩ := by
        rw [hw2]
        exact (HR1.out.only ((Only.refl Empty w1).drewN nq)).set 1 _ _ (by simp [Hf.out]) hle2
      have HO3 : Hid (Only (· = g) w w2) := Lib.hid (by rw [hw2]; exact (HO1.out.drewN nq).setCell (p := ⟨g, 1, none⟩) (Or.inl rfl) _)
      rw [← hw2]
      have HR3 := Lib.hid hR3
      have e0 : w2.cell? ⟨g, 0, none⟩ = some (.slice A n cap) := hR3.blk.cell 0
      have e1 : w2.cell? ⟨g, 1, none⟩ = some (.int .i64 ((s1.at_ + k : Nat) : Int)) := hR3.blk.cell 1
      have hsn : ((s1.at_ + k : Nat) : Int) = (s1.at_ : Int) + (k : Int) := by omega
      rw [hsn] at e1
      obtain ⟨ad, rfl, -, -, -⟩ := hR3.bytes.2.2.2 (by omega)
      have hgl2 := hR3.blk.lt
      have hBt : ByteSl w2 Empty (some (ad.add s1.at_)) k (cap - s1.at_) ((bs.drop s1.at_).take k) := ((hR3.bytes.mono (fun _ _ h => h.elim)).from_ s1.at_ hat (by omega)).take_ k (by omega)
      have hcv : ∀ m, (convert 31 9 (.slice (some (ad.add s1.at_)) k (cap - s1.at_))).run Try.prog (w2.drewN m) = .ok (.string (strB ((bs.drop s1.at_).take k))) (w2.drewN m) := fun m => conv_bytes (hBt.only ((Only.refl Empty w2).drewN m) (fun _ _ h => h))
      clear hw2 hR3 hBt c0 c1 c2 hgt f1 hgl
      have hsub : s1.at_ + k - s1.at_ = k := by omega
      have htn : ((s1.at_ : Int) + (k : Int)).toNat = s1.at_ + k := by omega
      have hi1 : (s1.at_ : Int) + (k : Int) ≤ (cap : Int) := by omega
      have hi2 : (s1.at_ : Int) ≤ (s1.at_ : Int) + (k : Int) := by omega
      by_cases hcap : cap = s1.at_
      · obtain rfl : k = 0 := by omega
        have hcv0 : ∀ m, (convert 31 9 (.slice (some ad) 0 0)).run Try.prog (w2.drewN m) = .ok (.string (strB [])) (w2.drewN m) := fun m => conv_bytes (S := Empty) (ByteSl.nil_ _ _ _ _ (by unfold maxLen; omega))
        have HT2 : Hid (textR bs s = ([], ⟨s1.at_ + 0, 0⟩)) := Lib.hid (by rw [HT.out, List.take_zero])
        have hcs : cap - s1.at_ = 0 := by omega
        have hi4 : (s1.at_ : Int).toNat = s1.at_ := by omega
        have hi5 : (s1.at_ : Int) ≤ (cap : Int) := by omega
        have hcs2 : s1.at_ - s1.at_ = 0 := by omega
        go_quiet (fail)
        go_wp2
        go_ret
        exact ⟨by rw [HT2.out]; rfl, by rw [HT2.out]; exact HR3.out.only ((Only.refl _ _).drewN nq), HO3.out.drewN nq⟩
      · go_quiet (fail)
        go_wp2
        go_ret
        exact ⟨by rw [HT.out]; rfl, by rw [HT.out]; exact HR3.out.only ((Only.refl _ _).drewN nq), HO3.out.drewN nq⟩
    · rw [if_pos hf] at hT
      have hq : (s1.fault != 0) = true := by simpa using hf
      have HT := Lib.hid hT
      clear hT hf hgt
      go_wp2
      go_quiet (fail)
      go_wp2
      go_ret
      exact ⟨by rw [HT.out]; rfl, by rw [HT.out]; exact HR1.out.only ((Only.refl _ _).drewN nq), HO1.out.drewN nq⟩

end Go.Proofs.Ytendpbklcgiafaa

/- The walk over a pool's reader.constant. -/
namespace Go.Proofs.Ytendpbklcgiafaa
set_option maxRecDepth 100000
open Go.RowKit

theorem eq_noFrm' (f : Frm) (W : World) : (binOp .eql 155 (.agg #[.bool f.text, .int .i64 f.num, .int .i64 f.a, .int .i64 f.b]) (.agg #[.bool false, .int .i64 0, .int .i64 0, .int .i64 0])).run Try.prog W = .ok (.bool (decide (f = noFrm))) W := eq_form f noFrm W

/-- What a walk over constant stands on. -/
structure RdC (w : World) (g q1 q2 : Nat) (A : Option Addr) (n cap : Nat) (bs : List UInt8) (s : RS) (c : Cst) (f : Frm) (W : World) : Prop where
  rd : RdP W g A n cap bs s
  k0 : Blk W w.heap.size 30 zeroC.cells.toArray
  k1 : Blk W q1 30 c.cells.toArray
  k2 : Blk W q2 155 #[.bool f.text, .int .i64 f.num, .int .i64 f.a, .int .i64 f.b]
  only : Only (· = g) w W
  lt : g < w.heap.size
  le : w.heap.size < q1 ∧ q1 < q2
  b0 : ByteSl w (· = g) A n cap bs
theorem RdC.next {w W W' : World} {g q1 q2 n cap : Nat} {A : Option Addr} {bs : List UInt8} {s s' : RS} {c : Cst} {f : Frm} (h : RdC w g q1 q2 A n cap bs s c f W) (hR : RdP W' g A n cap bs s') (hO : Only (· = g) W W') : RdC w g q1 q2 A n cap bs s' c f W' :=
  ⟨hR, hO.blk h.k0 (by have := h.lt; omega), hO.blk h.k1 (by have := h.lt; have := h.le; omega), hO.blk h.k2 (by have := h.lt; have := h.le; omega), h.only.trans hO, h.lt, h.le, h.b0⟩
theorem RdC.set {w W : World} {g q1 q2 n cap : Nat} {A : Option Addr} {bs : List UInt8} {s : RS} {c c' : Cst} {f : Frm} (h : RdC w g q1 q2 A n cap bs s c f W) (j : Nat) (v : Value) (hc : c.cells.toArray.setIfInBounds j v = c'.cells.toArray) : RdC w g q1 q2 A n cap bs s c' f (W.setCell ⟨q1, j, none⟩ v) := by
  have hlt := h.lt
  have hle := h.le
  have hO : Only (· = q1) W (W.setCell ⟨q1, j, none⟩ v) := (Only.refl (· = q1) W).setCell (p := ⟨q1, j, none⟩) (Or.inl rfl) _
  have hb := h.k1.set_ j v
  rw [hc] at hb
  have hO2 := h.only.setCell (p := ⟨q1, j, none⟩) (Or.inr (by show w.heap.size ≤ q1; omega)) v
  exact ⟨⟨hO.blk h.rd.blk (by omega), h.b0.only hO2 (fun _ _ h => h), h.rd.le⟩, hO.blk h.k0 (by omega), hb, hO.blk h.k2 (by omega), hO2, h.lt, h.le, h.b0⟩
theorem RdC.start {w w1 w2 : World} {g n cap : Nat} {A : Option Addr} {bs : List UInt8} {s s0 : RS} {t : Int} (hR : RdP w g A n cap bs s) (hR1 : RdP w1 g A n cap bs s0) (hO1 : Only (· = g) (w.alloc (.cells zeroC.cells.toArray 30)) w1)
    (hb2 : Below (w1.alloc (.cells (⟨t, 0, 0, 0, []⟩ : Cst).cells.toArray 30)).heap.size (w1.alloc (.cells (⟨t, 0, 0, 0, []⟩ : Cst).cells.toArray 30)) w2) (f : Frm) :
    RdC w g w1.heap.size w2.heap.size A n cap bs s0 ⟨t, 0, 0, 0, []⟩ f (w2.alloc (.cells #[.bool f.text, .int .i64 f.num, .int .i64 f.a, .int .i64 f.b] 155)) := by
  have hlt := hR.blk.lt
  have h1 : w.heap.size < w1.heap.size := by have := hO1.size; simp at this; omega
  have h2 : w1.heap.size < w2.heap.size := by have := hb2.size; simp at this; omega
  have hO2 : Only Empty w1 (w2.alloc (.cells #[.bool f.text, .int .i64 f.num, .int .i64 f.a, .int .i64 f.b] 155)) := (((Only.refl Empty w1).alloc _).trans (Only.of_below hb2)).alloc _
  refine ⟨hR1.only hO2, ?_, ?_, Blk.new _ _ _, ?_, hlt, ⟨h1, h2⟩, hR.bytes⟩
  · exact hO2.blk (hO1.blk (Blk.new w 30 zeroC.cells.toArray) (by omega)) (fun h => h)
  · exact ((Blk.new w1 30 (⟨t, 0, 0, 0, []⟩ : Cst).cells.toArray).of (hb2.block _ (by simp))).alloc _
  · exact (((Only.refl (· = g) w).alloc _).trans hO1).trans (hO2.mono (fun _ _ h => h.elim))

theorem RdC.fin {w W : World} {g q1 q2 n cap : Nat} {A : Option Addr} {bs : List UInt8} {s : RS} {c : Cst} {f : Frm} (h : RdC w g q1 q2 A n cap bs s c f W) (v0 v1 v2 v3 v4 : Value) :
    RdP (((((W.setCell ⟨w.heap.size, 0, none⟩ v0).setCell ⟨w.heap.size, 1, none⟩ v1).setCell ⟨w.heap.size, 2, none⟩ v2).setCell ⟨w.heap.size, 3, none⟩ v3).setCell ⟨w.heap.size, 4, none⟩ v4) g A n cap bs s ∧
    Only (· = g) w (((((W.setCell ⟨w.heap.size, 0, none⟩ v0).setCell ⟨w.heap.size, 1, none⟩ v1).setCell ⟨w.heap.size, 2, none⟩ v2).setCell ⟨w.heap.size, 3, none⟩ v3).setCell ⟨w.heap.size, 4, none⟩ v4) := by
  have hlt := h.lt
  have hO : Only (· = w.heap.size) W (((((W.setCell ⟨w.heap.size, 0, none⟩ v0).setCell ⟨w.heap.size, 1, none⟩ v1).setCell ⟨w.heap.size, 2, none⟩ v2).setCell ⟨w.heap.size, 3, none⟩ v3).setCell ⟨w.heap.size, 4, none⟩ v4) :=
    (((((Only.refl (· = w.heap.size) W).setCell (p := ⟨w.heap.size, 0, none⟩) (Or.inl rfl) _).setCell (p := ⟨w.heap.size, 1, none⟩) (Or.inl rfl) _).setCell (p := ⟨w.heap.size, 2, none⟩) (Or.inl rfl) _).setCell (p := ⟨w.heap.size, 3, none⟩) (Or.inl rfl) _).setCell (p := ⟨w.heap.size, 4, none⟩) (Or.inl rfl) _
  have hO2 : Only (· = g) w (((((W.setCell ⟨w.heap.size, 0, none⟩ v0).setCell ⟨w.heap.size, 1, none⟩ v1).setCell ⟨w.heap.size, 2, none⟩ v2).setCell ⟨w.heap.size, 3, none⟩ v3).setCell ⟨w.heap.size, 4, none⟩ v4) := h.only.trans' hO (fun i hi e => by omega)
  exact ⟨⟨hO.blk h.rd.blk (by omega), h.b0.only hO2 (fun _ _ h => h), h.rd.le⟩, hO2⟩

set_option maxHeartbeats 1000000 in
theorem prConstant_any (g : Nat) (A : Option Addr) (n cap : Nat) (bs : List UInt8) (s : RS) (w : World) (hR : RdP w g A n cap bs s) (hm : n ≤ 1048576) :
    Calls Try.prog 112 #[.pointer (some ⟨g, 0, none⟩)] w fun e w' => e = .returned (constR bs s).1.v ∧ RdP w' g A n cap bs (constR bs s).2 ∧ Only (· = g) w w' := by
  have C0 := Lib.hid (fun W (h : RdP W g A n cap bs s) => prNumber_any g A n cap 1 bs s W h (by omega) (by omega) hm)
  have hlt0 := numR_lt bs s 1
  obtain ⟨t, s0, hr0⟩ : ∃ t s0, numR bs s 1 = (t, s0) := ⟨_, _, rfl⟩
  have hcon : constR bs s = (let f := formF (t : Int); let s1 := if f = noFrm then s0.refuse 8 else s0; let r1 := if f.text = true then textR bs s1 else ([], s1); let r2 := optR bs r1.2 (f.num != 0) f.num.toNat; let r3 := optR bs r2.2 (f.a != 0) 2; let r4 := optR bs r3.2 (f.b != 0) 2; (⟨(t : Int), (r3.1 : Int), (r4.1 : Int), if f.num = 0 then 0 else sgn r2.1 f.num.toNat, r1.1⟩, r4.2)) := by
    unfold constR
    rw [hr0]
  rw [hr0] at C0 hlt0
  have hlt0 : t < 256 := hlt0
  have hwt : IntKind.i64.wrap (t : Int) = (t : Int) := by rw [IntKind.wrap_i64]; omega
  have CF : ∀ W, Calls Try.prog 92 #[.int .i64 (t : Int)] W fun e w' => e = .returned (formF (t : Int)).v ∧ Below W.heap.size W w' := fun W => formOf_any _ W
  have CN : Hid (∀ (k : Nat) (s : RS) (W : World), 1 ≤ k → k ≤ 8 → RdP W g A n cap bs s → Calls Try.prog 110 #[.pointer (some ⟨g, 0, none⟩), .int .i64 (k : Int)] W fun e w' => e = .returned (.int .u64 ((numR bs s k).1 : Int)) ∧ RdP w' g A n cap bs (numR bs s k).2 ∧ Only (· = g) W w') := Lib.hid (fun k s W h1 h2 h => prNumber_any g A n cap k bs s W h h1 h2 hm)
  have CX : Hid (∀ (s : RS) (W : World), RdP W g A n cap bs s → Calls Try.prog 113 #[.pointer (some ⟨g, 0, none⟩)] W fun e w' => e = .returned (.string (strB (textR bs s).1)) ∧ RdP w' g A n cap bs (textR bs s).2 ∧ Only (· = g) W w') := Lib.hid (fun s W h => prText_any g A n cap bs s W h hm)
  have CR : Hid (∀ (s : RS) (e : Int) (W : World), RdP W g A n cap bs s → Calls Try.prog 111 #[.pointer (some ⟨g, 0, none⟩), .int .i64 e] W fun e1 w' => e1 = .returned (.tuple #[]) ∧ RdP w' g A n cap bs (s.refuse e) ∧ Only (· = g) W w') := Lib.hid (fun s e W h => refuse_any g A n cap bs s e W h)
  have CS : Hid (∀ (v k : Nat) W, v ≤ 18446744073709551615 → 1 ≤ k → k ≤ 8 → Calls Try.prog 96 #[.int .u64 (v : Int), .int .i64 (k : Int)] W fun e w' => e = .returned (.int .i64 (sgn v k)) ∧ W = w') := Lib.hid (fun v k W h0 h1 h2 => sign_yes v k W h0 h1 h2)
  have HL : Hid (∀ (s : RS) (k : Nat), (numR bs s k).1 < 256 ^ k) := Lib.hid (numR_lt bs)
  have HR := Lib.hid hR
  have Hcon := Lib.hid hcon
  clear hcon hr0 hR hm
  rcases form_ways (t : Int) with hf | hf | hf | hf | hf | hf | hf
  · obtain ⟨x, s1, hx⟩ : ∃ x s1, textR bs s0 = (x, s1) := ⟨_, _, rfl⟩
    have HE : Hid (constR bs s = (⟨t, 0, 0, 0, x⟩, s1)) := Lib.hid (by rw [Hcon.out]; simp [hf, noFrm, hx, optR])
    have HX := Lib.hid hx
    clear hx
    rw [hf] at CF
    have CF := Lib.hid CF
    simp only [Frm.v] at CF
    clear hf
    go_enter Try.func112, Try.ntmps112
    go_wp2_with fail
    refine (C0.out _ (HR.out.only ((Only.refl _ _).alloc _))).mono ?_
    rintro e w1 ⟨rfl, hR1, hO1⟩
    have HR1 := Lib.hid hR1
    have HO1 := Lib.hid hO1
    clear hR1 hO1
    go_wp2_with fail
    refine (CF.out _).mono ?_
    rintro e w2 ⟨rfl, hb2⟩
    have HC := Lib.hid (RdC.start HR.out HR1.out HO1.out hb2 ⟨true, 0, 0, 0⟩)
    clear hb2
    go_wp2_with fail
    refine (CX.out _ _ HC.out.rd).mono ?_
    rintro e w3 ⟨rfl, hR3, hO3⟩
    rw [HX.out] at hR3
    rw [HX.out]
    have HC3 := Lib.hid (HC.out.next hR3 hO3)
    clear hR3 hO3
    have hgl := HC3.out.k1.lt
    have hgf := HC3.out.k1.frozen 4
    have hgc : w3.cell? ⟨w1.heap.size, 4, none⟩ = some (.string ⟨#[]⟩) := HC3.out.k1.cell 4
    have HC4 : Hid (RdC w g w1.heap.size w2.heap.size A n cap bs s1 ⟨t, 0, 0, 0, x⟩ ⟨true, 0, 0, 0⟩ (w3.setCell ⟨w1.heap.size, 4, none⟩ (.string (strB x)))) := Lib.hid (HC3.out.set 4 _ (by simp [Cst.cells]))
    have b0 : (w3.setCell ⟨w1.heap.size, 4, none⟩ (.string (strB x))).cell? ⟨w2.heap.size, 0, none⟩ = some (.bool true) := HC4.out.k2.cell 0
    have b1 : (w3.setCell ⟨w1.heap.size, 4, none⟩ (.string (strB x))).cell? ⟨w2.heap.size, 1, none⟩ = some (.int .i64 0) := HC4.out.k2.cell 1
    have b2 : (w3.setCell ⟨w1.heap.size, 4, none⟩ (.string (strB x))).cell? ⟨w2.heap.size, 2, none⟩ = some (.int .i64 0) := HC4.out.k2.cell 2
    have b3 : (w3.setCell ⟨w1.heap.size, 4, none⟩ (.string (strB x))).cell? ⟨w2.heap.size, 3, none⟩ = some (.int .i64 0) := HC4.out.k2.cell 3
    have d0 : (w3.setCell ⟨w1.heap.size, 4, none⟩ (.string (strB x))).cell? ⟨w1.heap.size, 0, none⟩ = some (.int .i64 (t : Int)) := HC4.out.k1.cell 0
    have d1 : (w3.setCell ⟨w1.heap.size, 4, none⟩ (.string (strB x))).cell? ⟨w1.heap.size, 1, none⟩ = some (.int .i64 0) := HC4.out.k1.cell 1
    have d2 : (w3.setCell ⟨w1.heap.size, 4, none⟩ (.string (strB x))).cell? ⟨w1.heap.size, 2, none⟩ = some (.int .i64 0) := HC4.out.k1.cell 2
    have d3 : (w3.setCell ⟨w1.heap.size, 4, none⟩ (.string (strB x))).cell? ⟨w1.heap.size, 3, none⟩ = some (.int .i64 0) := HC4.out.k1.cell 3
    have d4 : (w3.setCell ⟨w1.heap.size, 4, none⟩ (.string (strB x))).cell? ⟨w1.heap.size, 4, none⟩ = some (.string (strB x)) := HC4.out.k1.cell 4
    have r0 : (w3.setCell ⟨w1.heap.size, 4, none⟩ (.string (strB x))).cell? ⟨w.heap.size, 0, none⟩ = some (.int .i64 0) := HC4.out.k0.cell 0
    have rf0 := HC4.out.k0.frozen 0
    have r1 : (w3.setCell ⟨w1.heap.size, 4, none⟩ (.string (strB x))).cell? ⟨w.heap.size, 1, none⟩ = some (.int .i64 0) := HC4.out.k0.cell 1
    have rf1 := HC4.out.k0.frozen 1
    have r2 : (w3.setCell ⟨w1.heap.size, 4, none⟩ (.string (strB x))).cell? ⟨w.heap.size, 2, none⟩ = some (.int .i64 0) := HC4.out.k0.cell 2
    have rf2 := HC4.out.k0.frozen 2
    have r3 : (w3.setCell ⟨w1.heap.size, 4, none⟩ (.string (strB x))).cell? ⟨w.heap.size, 3, none⟩ = some (.int .i64 0) := HC4.out.k0.cell 3
    have rf3 := HC4.out.k0.frozen 3
    have r4 : (w3.setCell ⟨w1.heap.size, 4, none⟩ (.string (strB x))).cell? ⟨w.heap.size, 4, none⟩ = some (.string ⟨#[]⟩) := HC4.out.k0.cell 4
    have rf4 := HC4.out.k0.frozen 4
    have rl := HC4.out.k0.lt
    go_wp2
    refine bodyPost_ret (v := .agg #[.int .i64 (t : Int), .int .i64 0, .int .i64 0, .int .i64 0, .string (strB x)]) (by simp [results, Try.results112, go_sem, r0, r1, r2, r3, r4]) rfl ⟨by rw [HE.out]; rfl, ?_⟩
    have hfin := HC4.out.fin (.int .i64 (t : Int)) (.int .i64 0) (.int .i64 0) (.int .i64 0) (.string (strB x))
    rw [HE.out]
    exact hfin
  · obtain ⟨v, s1, hx⟩ : ∃ v s1, numR bs s0 8 = (v, s1) := ⟨_, _, rfl⟩
    have HE : Hid (constR bs s = (⟨t, 0, 0, sgn v 8, []⟩, s1)) := Lib.hid (by rw [Hcon.out]; simp [hf, noFrm, hx, optR])
    have hv := HL.out s0 8
    rw [hx] at hv
    have HV : Hid (v ≤ 18446744073709551615) := Lib.hid (by have : v < 256 ^ 8 := hv; omega)
    have HX := Lib.hid hx
    clear hx hv
    rw [hf] at CF
    have CF := Lib.hid CF
    simp only [Frm.v] at CF
    clear hf
    go_enter Try.func112, Try.ntmps112
    go_wp2_with fail
    refine (C0.out _ (HR.out.only ((Only.refl _ _).alloc _))).mono ?_
    rintro e w1 ⟨rfl, hR1, hO1⟩
    have HR1 := Lib.hid hR1
    have HO1 := Lib.hid hO1
    clear hR1 hO1
    go_wp2_with fail
    refine (CF.out _).mono ?_
    rintro e w2 ⟨rfl, hb2⟩
    have HC := Lib.hid (RdC.start HR.out HR1.out HO1.out hb2 ⟨false, 8, 0, 0⟩)
    clear hb2
    have b1_ : (w2.alloc (.cells #[.bool false, .int .i64 8, .int .i64 0, .int .i64 0] 155)).cell? ⟨w2.heap.size, 1, none⟩ = some (.int .i64 8) := HC.out.k2.cell 1
    go_wp2_with fail
    refine wp_region_held_drew (S := fun W => W.cell? ⟨w2.heap.size, 1, none⟩ = some (.int .i64 8)) (by kernel_rfl) b1_ (fun hHeld0 => ?_)
    refine take_yes 0 25 ?_ rfl rfl (by kernel_rfl) (by kernel_rfl) (by kernel_rfl) (fun _ _ _ h => h) (by kernel_rfl) ?_ (by assumption) ?_; rotate_left; (focus (intro w hSw; (try dsimp only at hSw); go_simp; all_goals first | with_reducible rfl)); simp only [Act.put, List.setIfInBounds_toArray, List.set_cons_zero, List.set_cons_succ]
    refine take_yes 1 26 ?_ rfl rfl (by kernel_rfl) (by kernel_rfl) (by kernel_rfl) (fun _ _ _ h => h) (by kernel_rfl) ?_ (by assumption) ?_; rotate_left; (focus (intro w hSw; (try dsimp only at hSw); go_simp; all_goals first | with_reducible rfl)); simp only [Act.put, List.setIfInBounds_toArray, List.set_cons_zero, List.set_cons_succ]
    refine take_yes 2 27 ?_ rfl rfl (by kernel_rfl) (by kernel_rfl) (by kernel_rfl) (fun _ _ _ h => h) (by kernel_rfl) ?_ (by assumption) ?_; rotate_left; (focus (intro w hSw; (try dsimp only at hSw); go_simp; all_goals first | with_reducible rfl)); simp only [Act.put, List.setIfInBounds_toArray, List.set_cons_zero, List.set_cons_succ]
    refine take_yes 4 29 ?_ rfl rfl (by kernel_rfl) (by kernel_rfl) (by kernel_rfl) (fun _ _ _ h => h) (by kernel_rfl) ?_ (by assumption) ?_; rotate_left; (focus (intro w hSw; (try dsimp only at hSw); go_simp; all_goals first | with_reducible rfl)); simp only [Act.put, List.setIfInBounds_toArray, List.set_cons_zero, List.set_cons_succ]
    refine take_yes 5 30 ?_ rfl rfl (by kernel_rfl) (by kernel_rfl) (by kernel_rfl) (fun _ _ _ h => h) (by kernel_rfl) ?_ (by assumption) ?_; rotate_left; (focus (intro w hSw; (try dsimp only at hSw); go_simp; all_goals first | with_reducible rfl)); simp only [Act.put, List.setIfInBounds_toArray, List.set_cons_zero, List.set_cons_succ]
    refine wpAnyH_ready (rs := [3]) (by kernel_rfl) (by simp) ?_
    refine AllReadyH.cons rfl (fun K hK => ?_) AllReadyH.nil
    go_simp
    go_at_call 110
    (refine (CN.out 8 s0 _ (by omega) (by omega) (HC.out.rd.only ((Only.refl _ _).drew))).mono ?_)
    rintro e w3 ⟨rfl, hR3, hO3⟩
    rw [HX.out] at hR3
    rw [HX.out]
    have HC3 := Lib.hid (HC.out.next hR3 (((Only.refl (· = g) _).drew).trans hO3))
    clear hR3 hO3
    have b1_3 : w3.cell? ⟨w2.heap.size, 1, none⟩ = some (.int .i64 8) := HC3.out.k2.cell 1
    go_wp2_with fail
    refine hK.out _ _ (b1_3) (fun _ => ?_)
    clear hK K
    try simp only [Act.put, List.setIfInBounds_toArray, List.set_cons_zero, List.set_cons_succ]
    refine wpAnyH_ready (rs := [6]) (by kernel_rfl) (by simp) ?_
    refine AllReadyH.cons rfl (fun K hK => ?_) AllReadyH.nil
    go_simp
    go_at_call 96
    (refine (CS.out v 8 _ HV.out (by omega) (by omega)).mono ?_)
    rintro e w4 ⟨rfl, rfl⟩
    go_wp2_with fail
    refine hK.out _ _ (b1_3) (fun _ => ?_)
    clear hK K
    try simp only [Act.put, List.setIfInBounds_toArray, List.set_cons_zero, List.set_cons_succ]
    have hgl := HC3.out.k1.lt
    have hgf := HC3.out.k1.frozen 3
    have hgc : w3.cell? ⟨w1.heap.size, 3, none⟩ = some (.int .i64 0) := HC3.out.k1.cell 3
    have HC4 : Hid (RdC w g w1.heap.size w2.heap.size A n cap bs s1 ⟨t, 0, 0, sgn v 8, []⟩ ⟨false, 8, 0, 0⟩ (w3.setCell ⟨w1.heap.size, 3, none⟩ (.int .i64 (sgn v 8)))) := Lib.hid (HC3.out.set 3 _ (by simp [Cst.cells]))
    have b1_4 : (w3.setCell ⟨w1.heap.size, 3, none⟩ (.int .i64 (sgn v 8))).cell? ⟨w2.heap.size, 1, none⟩ = some (.int .i64 8) := HC4.out.k2.cell 1
    refine take_yes 7 32 ?_ rfl rfl (by kernel_rfl) (by kernel_rfl) (by kernel_rfl) (fun _ _ _ h => h) (by kernel_rfl) ?_ (by assumption) ?_; rotate_left; (focus (intro w hSw; (try dsimp only at hSw); go_simp; all_goals first | with_reducible rfl)); simp only [Act.put, List.setIfInBounds_toArray, List.set_cons_zero, List.set_cons_succ]
    refine wpAnyH_ready (rs := [8]) (by kernel_rfl) (by simp) ?_
    refine AllReadyH.cons rfl (fun K hK => ?_) AllReadyH.nil
    go_simp
    refine hK.out _ _ (b1_4) (fun _ => ?_)
    clear hK K
    try simp only [Act.put, List.setIfInBounds_toArray, List.set_cons_zero, List.set_cons_succ]
    refine wpAnyH_done (by kernel_rfl) ?_ _
    have b0 : (w3.setCell ⟨w1.heap.size, 3, none⟩ (.int .i64 (sgn v 8))).cell? ⟨w2.heap.size, 0, none⟩ = some (.bool false) := HC4.out.k2.cell 0
    have b1 : (w3.setCell ⟨w1.heap.size, 3, none⟩ (.int .i64 (sgn v 8))).cell? ⟨w2.heap.size, 1, none⟩ = some (.int .i64 8) := HC4.out.k2.cell 1
    have b2 : (w3.setCell ⟨w1.heap.size, 3, none⟩ (.int .i64 (sgn v 8))).cell? ⟨w2.heap.size, 2, none⟩ = some (.int .i64 0) := HC4.out.k2.cell 2
    have b3 : (w3.setCell ⟨w1.heap.size, 3, none⟩ (.int .i64 (sgn v 8))).cell? ⟨w2.heap.size, 3, none⟩ = some (.int .i64 0) := HC4.out.k2.cell 3
    have d0 : (w3.setCell ⟨w1.heap.size, 3, none⟩ (.int .i64 (sgn v 8))).cell? ⟨w1.heap.size, 0, none⟩ = some (.int .i64 (t : Int)) := HC4.out.k1.cell 0
    have d1 : (w3.setCell ⟨w1.heap.size, 3, none⟩ (.int .i64 (sgn v 8))).cell? ⟨w1.heap.size, 1, none⟩ = some (.int .i64 0) := HC4.out.k1.cell 1
    have d2 : (w3.setCell ⟨w1.heap.size, 3, none⟩ (.int .i64 (sgn v 8))).cell? ⟨w1.heap.size, 2, none⟩ = some (.int .i64 0) := HC4.out.k1.cell 2
    have d3 : (w3.setCell ⟨w1.heap.size, 3, none⟩ (.int .i64 (sgn v 8))).cell? ⟨w1.heap.size, 3, none⟩ = some (.int .i64 (sgn v 8)) := HC4.out.k1.cell 3
    have d4 : (w3.setCell ⟨w1.heap.size, 3, none⟩ (.int .i64 (sgn v 8))).cell? ⟨w1.heap.size, 4, none⟩ = some (.string ⟨#[]⟩) := HC4.out.k1.cell 4
    have r0 : (w3.setCell ⟨w1.heap.size, 3, none⟩ (.int .i64 (sgn v 8))).cell? ⟨w.heap.size, 0, none⟩ = some (.int .i64 0) := HC4.out.k0.cell 0
    have rf0 := HC4.out.k0.frozen 0
    have r1 : (w3.setCell ⟨w1.heap.size, 3, none⟩ (.int .i64 (sgn v 8))).cell? ⟨w.heap.size, 1, none⟩ = some (.int .i64 0) := HC4.out.k0.cell 1
    have rf1 := HC4.out.k0.frozen 1
    have r2 : (w3.setCell ⟨w1.heap.size, 3, none⟩ (.int .i64 (sgn v 8))).cell? ⟨w.heap.size, 2, none⟩ = some (.int .i64 0) := HC4.out.k0.cell 2
    have rf2 := HC4.out.k0.frozen 2
    have r3 : (w3.setCell ⟨w1.heap.size, 3, none⟩ (.int .i64 (sgn v 8))).cell? ⟨w.heap.size, 3, none⟩ = some (.int .i64 0) := HC4.out.k0.cell 3
    have rf3 := HC4.out.k0.frozen 3
    have r4 : (w3.setCell ⟨w1.heap.size, 3, none⟩ (.int .i64 (sgn v 8))).cell? ⟨w.heap.size, 4, none⟩ = some (.string ⟨#[]⟩) := HC4.out.k0.cell 4
    have rf4 := HC4.out.k0.frozen 4
    have rl := HC4.out.k0.lt
    go_wp2
    refine bodyPost_ret (v := .agg #[.int .i64 (t : Int), .int .i64 0, .int .i64 0, .int .i64 (sgn v 8), .string ⟨#[]⟩]) (by simp [results, Try.results112, go_sem, r0, r1, r2, r3, r4]) rfl ⟨by rw [HE.out]; rfl, ?_⟩
    have hfin := HC4.out.fin (.int .i64 (t : Int)) (.int .i64 0) (.int .i64 0) (.int .i64 (sgn v 8)) (.string ⟨#[]⟩)
    rw [HE.out]
    exact hfin
  · obtain ⟨v, s1, hx⟩ : ∃ v s1, numR bs s0 4 = (v, s1) := ⟨_, _, rfl⟩
    have HE : Hid (constR bs s = (⟨t, 0, 0, sgn v 4, []⟩, s1)) := Lib.hid (by rw [Hcon.out]; simp [hf, noFrm, hx, optR])
    have hv := HL.out s0 4
    rw [hx] at hv
    have HV : Hid (v ≤ 18446744073709551615) := Lib.hid (by have : v < 256 ^ 4 := hv; omega)
    have HX := Lib.hid hx
    clear hx hv
    rw [hf] at CF
    have CF := Lib.hid CF
    simp only [Frm.v] at CF
    clear hf
    go_enter Try.func112, Try.ntmps112
    go_wp2_with fail
    refine (C0.out _ (HR.out.only ((Only.refl _ _).alloc _))).mono ?_
    rintro e w1 ⟨rfl, hR1, hO1⟩
    have HR1 := Lib.hid hR1
    have HO1 := Lib.hid hO1
    clear hR1 hO1
    go_wp2_with fail
    refine (CF.out _).mono ?_
    rintro e w2 ⟨rfl, hb2⟩
    have HC := Lib.hid (RdC.start HR.out HR1.out HO1.out hb2 ⟨false, 4, 0, 0⟩)
    clear hb2
    have b1_ : (w2.alloc (.cells #[.bool false, .int .i64 4, .int .i64 0, .int .i64 0] 155)).cell? ⟨w2.heap.size, 1, none⟩ = some (.int .i64 4) := HC.out.k2.cell 1
    go_wp2_with fail
    refine wp_region_held_drew (S := fun W => W.cell? ⟨w2.heap.size, 1, none⟩ = some (.int .i64 4)) (by kernel_rfl) b1_ (fun hHeld0 => ?_)
    refine take_yes 0 25 ?_ rfl rfl (by kernel_rfl) (by kernel_rfl) (by kernel_rfl) (fun _ _ _ h => h) (by kernel_rfl) ?_ (by assumption) ?_; rotate_left; (focus (intro w hSw; (try dsimp only at hSw); go_simp; all_goals first | with_reducible rfl)); simp only [Act.put, List.setIfInBounds_toArray, List.set_cons_zero, List.set_cons_succ]
    refine take_yes 1 26 ?_ rfl rfl (by kernel_rfl) (by kernel_rfl) (by kernel_rfl) (fun _ _ _ h => h) (by kernel_rfl) ?_ (by assumption) ?_; rotate_left; (focus (intro w hSw; (try dsimp only at hSw); go_simp; all_goals first | with_reducible rfl)); simp only [Act.put, List.setIfInBounds_toArray, List.set_cons_zero, List.set_cons_succ]
    refine take_yes 2 27 ?_ rfl rfl (by kernel_rfl) (by kernel_rfl) (by kernel_rfl) (fun _ _ _ h => h) (by kernel_rfl) ?_ (by assumption) ?_; rotate_left; (focus (intro w hSw; (try dsimp only at hSw); go_simp; all_goals first | with_reducible rfl)); simp only [Act.put, List.setIfInBounds_toArray, List.set_cons_zero, List.set_cons_succ]
    refine take_yes 4 29 ?_ rfl rfl (by kernel_rfl) (by kernel_rfl) (by kernel_rfl) (fun _ _ _ h => h) (by kernel_rfl) ?_ (by assumption) ?_; rotate_left; (focus (intro w hSw; (try dsimp only at hSw); go_simp; all_goals first | with_reducible rfl)); simp only [Act.put, List.setIfInBounds_toArray, List.set_cons_zero, List.set_cons_succ]
    refine take_yes 5 30 ?_ rfl rfl (by kernel_rfl) (by kernel_rfl) (by kernel_rfl) (fun _ _ _ h => h) (by kernel_rfl) ?_ (by assumption) ?_; rotate_left; (focus (intro w hSw; (try dsimp only at hSw); go_simp; all_goals first | with_reducible rfl)); simp only [Act.put, List.setIfInBounds_toArray, List.set_cons_zero, List.set_cons_succ]
    refine wpAnyH_ready (rs := [3]) (by kernel_rfl) (by simp) ?_
    refine AllReadyH.cons rfl (fun K hK => ?_) AllReadyH.nil
    go_simp
    go_at_call 110
    (refine (CN.out 4 s0 _ (by omega) (by omega) (HC.out.rd.only ((Only.refl _ _).drew))).mono ?_)
    rintro e w3 ⟨rfl, hR3, hO3⟩
    rw [HX.out] at hR3
    rw [HX.out]
    have HC3 := Lib.hid (HC.out.next hR3 (((Only.refl (· = g) _).drew).trans hO3))
    clear hR3 hO3
    have b1_3 : w3.cell? ⟨w2.heap.size, 1, none⟩ = some (.int .i64 4) := HC3.out.k2.cell 1
    go_wp2_with fail
    refine hK.out _ _ (b1_3) (fun _ => ?_)
    clear hK K
    try simp only [Act.put, List.setIfInBounds_toArray, List.set_cons_zero, List.set_cons_succ]
    refine wpAnyH_ready (rs := [6]) (by kernel_rfl) (by simp) ?_
    refine AllReadyH.cons rfl (fun K hK => ?_) AllReadyH.nil
    go_simp
    go_at_call 96
    (refine (CS.out v 4 _ HV.out (by omega) (by omega)).mono ?_)
    rintro e w4 ⟨rfl, rfl⟩
    go_wp2_with fail
    refine hK.out _ _ (b1_3) (fun _ => ?_)
    clear hK K
    try simp only [Act.put, List.setIfInBounds_toArray, List.set_cons_zero, List.set_cons_succ]
    have hgl := HC3.out.k1.lt
    have hgf := HC3.out.k1.frozen 3
    have hgc : w3.cell? ⟨w1.heap.size, 3, none⟩ = some (.int .i64 0) := HC3.out.k1.cell 3
    have HC4 : Hid (RdC w g w1.heap.size w2.heap.size A n cap bs s1 ⟨t, 0, 0, sgn v 4, []⟩ ⟨false, 4, 0, 0⟩ (w3.setCell ⟨w1.heap.size, 3, none⟩ (.int .i64 (sgn v 4)))) := Lib.hid (HC3.out.set 3 _ (by simp [Cst.cells]))
    have b1_4 : (w3.setCell ⟨w1.heap.size, 3, none⟩ (.int .i64 (sgn v 4))).cell? ⟨w2.heap.size, 1, none⟩ = some (.int .i64 4) := HC4.out.k2.cell 1
    refine take_yes 7 32 ?_ rfl rfl (by kernel_rfl) (by kernel_rfl) (by kernel_rfl) (fun _ _ _ h => h) (by kernel_rfl) ?_ (by assumption) ?_; rotate_left; (focus (intro w hSw; (try dsimp only at hSw); go_simp; all_goals first | with_reducible rfl)); simp only [Act.put, List.setIfInBounds_toArray, List.set_cons_zero, List.set_cons_succ]
    refine wpAnyH_ready (rs := [8]) (by kernel_rfl) (by simp) ?_
    refine AllReadyH.cons rfl (fun K hK => ?_) AllReadyH.nil
    go_simp
    refine hK.out _ _ (b1_4) (fun _ => ?_)
    clear hK K
    try simp only [Act.put, List.setIfInBounds_toArray, List.set_cons_zero, List.set_cons_succ]
    refine wpAnyH_done (by kernel_rfl) ?_ _
    have b0 : (w3.setCell ⟨w1.heap.size, 3, none⟩ (.int .i64 (sgn v 4))).cell? ⟨w2.heap.size, 0, none⟩ = some (.bool false) := HC4.out.k2.cell 0
    have b1 : (w3.setCell ⟨w1.heap.size, 3, none⟩ (.int .i64 (sgn v 4))).cell? ⟨w2.heap.size, 1, none⟩ = some (.int .i64 4) := HC4.out.k2.cell 1
    have b2 : (w3.setCell ⟨w1.heap.size, 3, none⟩ (.int .i64 (sgn v 4))).cell? ⟨w2.heap.size, 2, none⟩ = some (.int .i64 0) := HC4.out.k2.cell 2
    have b3 : (w3.setCell ⟨w1.heap.size, 3, none⟩ (.int .i64 (sgn v 4))).cell? ⟨w2.heap.size, 3, none⟩ = some (.int .i64 0) := HC4.out.k2.cell 3
    have d0 : (w3.setCell ⟨w1.heap.size, 3, none⟩ (.int .i64 (sgn v 4))).cell? ⟨w1.heap.size, 0, none⟩ = some (.int .i64 (t : Int)) := HC4.out.k1.cell 0
    have d1 : (w3.setCell ⟨w1.heap.size, 3, none⟩ (.int .i64 (sgn v 4))).cell? ⟨w1.heap.size, 1, none⟩ = some (.int .i64 0) := HC4.out.k1.cell 1
    have d2 : (w3.setCell ⟨w1.heap.size, 3, none⟩ (.int .i64 (sgn v 4))).cell? ⟨w1.heap.size, 2, none⟩ = some (.int .i64 0) := HC4.out.k1.cell 2
    have d3 : (w3.setCell ⟨w1.heap.size, 3, none⟩ (.int .i64 (sgn v 4))).cell? ⟨w1.heap.size, 3, none⟩ = some (.int .i64 (sgn v 4)) := HC4.out.k1.cell 3
    have d4 : (w3.setCell ⟨w1.heap.size, 3, none⟩ (.int .i64 (sgn v 4))).cell? ⟨w1.heap.size, 4, none⟩ = some (.string ⟨#[]⟩) := HC4.out.k1.cell 4
    have r0 : (w3.setCell ⟨w1.heap.size, 3, none⟩ (.int .i64 (sgn v 4))).cell? ⟨w.heap.size, 0, none⟩ = some (.int .i64 0) := HC4.out.k0.cell 0
    have rf0 := HC4.out.k0.frozen 0
    have r1 : (w3.setCell ⟨w1.heap.size, 3, none⟩ (.int .i64 (sgn v 4))).cell? ⟨w.heap.size, 1, none⟩ = some (.int .i64 0) := HC4.out.k0.cell 1
    have rf1 := HC4.out.k0.frozen 1
    have r2 : (w3.setCell ⟨w1.heap.size, 3, none⟩ (.int .i64 (sgn v 4))).cell? ⟨w.heap.size, 2, none⟩ = some (.int .i64 0) := HC4.out.k0.cell 2
    have rf2 := HC4.out.k0.frozen 2
    have r3 : (w3.setCell ⟨w1.heap.size, 3, none⟩ (.int .i64 (sgn v 4))).cell? ⟨w.heap.size, 3, none⟩ = some (.int .i64 0) := HC4.out.k0.cell 3
    have rf3 := HC4.out.k0.frozen 3
    have r4 : (w3.setCell ⟨w1.heap.size, 3, none⟩ (.int .i64 (sgn v 4))).cell? ⟨w.heap.size, 4, none⟩ = some (.string ⟨#[]⟩) := HC4.out.k0.cell 4
    have rf4 := HC4.out.k0.frozen 4
    have rl := HC4.out.k0.lt
    go_wp2
    refine bodyPost_ret (v := .agg #[.int .i64 (t : Int), .int .i64 0, .int .i64 0, .int .i64 (sgn v 4), .string ⟨#[]⟩]) (by simp [results, Try.results112, go_sem, r0, r1, r2, r3, r4]) rfl ⟨by rw [HE.out]; rfl, ?_⟩
    have hfin := HC4.out.fin (.int .i64 (t : Int)) (.int .i64 0) (.int .i64 0) (.int .i64 (sgn v 4)) (.string ⟨#[]⟩)
    rw [HE.out]
    exact hfin
  · obtain ⟨v, s1, hx⟩ : ∃ v s1, numR bs s0 2 = (v, s1) := ⟨_, _, rfl⟩
    have hv := HL.out s0 2
    rw [hx] at hv
    have hv : v < 65536 := hv
    have hwv : IntKind.i64.wrap (v : Int) = (v : Int) := by rw [IntKind.wrap_i64]; omega
    obtain ⟨u, s2, hy⟩ : ∃ u s2, numR bs s1 2 = (u, s2) := ⟨_, _, rfl⟩
    have hu := HL.out s1 2
    rw [hy] at hu
    have hu : u < 65536 := hu
    have hwu : IntKind.i64.wrap (u : Int) = (u : Int) := by rw [IntKind.wrap_i64]; omega
    have HE : Hid (constR bs s = (⟨t, v, u, 0, []⟩, s2)) := Lib.hid (by rw [Hcon.out]; simp [hf, noFrm, hx, hy, optR])
    have HX := Lib.hid hx
    have HY := Lib.hid hy
    clear hx hy
    rw [hf] at CF
    have CF := Lib.hid CF
    simp only [Frm.v] at CF
    clear hf
    go_enter Try.func112, Try.ntmps112
    go_wp2_with fail
    refine (C0.out _ (HR.out.only ((Only.refl _ _).alloc _))).mono ?_
    rintro e w1 ⟨rfl, hR1, hO1⟩
    have HR1 := Lib.hid hR1
    have HO1 := Lib.hid hO1
    clear hR1 hO1
    go_wp2_with fail
    refine (CF.out _).mono ?_
    rintro e w2 ⟨rfl, hb2⟩
    have HC := Lib.hid (RdC.start HR.out HR1.out HO1.out hb2 ⟨false, 0, 7, 12⟩)
    clear hb2
    have b0_ : (w2.alloc (.cells #[.bool false, .int .i64 0, .int .i64 7, .int .i64 12] 155)).cell? ⟨w2.heap.size, 0, none⟩ = some (.bool false) := HC.out.k2.cell 0
    go_wp2_with fail
    refine (CN.out 2 s0 _ (by omega) (by omega) HC.out.rd).mono ?_
    rintro e w3 ⟨rfl, hR3, hO3⟩
    rw [HX.out] at hR3
    rw [HX.out]
    have HC3 := Lib.hid (HC.out.next hR3 hO3)
    clear hR3 hO3
    have hgl := HC3.out.k1.lt
    have hgf := HC3.out.k1.frozen 1
    have hgc : w3.cell? ⟨w1.heap.size, 1, none⟩ = some (.int .i64 0) := HC3.out.k1.cell 1
    have HC4 : Hid (RdC w g w1.heap.size w2.heap.size A n cap bs s1 ⟨t, v, 0, 0, []⟩ ⟨false, 0, 7, 12⟩ (w3.setCell ⟨w1.heap.size, 1, none⟩ (.int .i64 (v : Int)))) := Lib.hid (HC3.out.set 1 _ (by simp [Cst.cells]))
    have e3 : (w3.setCell ⟨w1.heap.size, 1, none⟩ (.int .i64 (v : Int))).cell? ⟨w2.heap.size, 3, none⟩ = some (.int .i64 12) := HC4.out.k2.cell 3
    go_wp2_with fail
    refine (CN.out 2 s1 _ (by omega) (by omega) HC4.out.rd).mono ?_
    rintro e w5 ⟨rfl, hR5, hO5⟩
    rw [HY.out] at hR5
    rw [HY.out]
    have HC5 := Lib.hid (HC4.out.next hR5 hO5)
    clear hR5 hO5 e3 hgl hgf hgc
    have hgl := HC5.out.k1.lt
    have hgf := HC5.out.k1.frozen 2
    have hgc : w5.cell? ⟨w1.heap.size, 2, none⟩ = some (.int .i64 0) := HC5.out.k1.cell 2
    have HC6 : Hid (RdC w g w1.heap.size w2.heap.size A n cap bs s2 ⟨t, v, u, 0, []⟩ ⟨false, 0, 7, 12⟩ (w5.setCell ⟨w1.heap.size, 2, none⟩ (.int .i64 (u : Int)))) := Lib.hid (HC5.out.set 2 _ (by simp [Cst.cells]))
    have b0 : (w5.setCell ⟨w1.heap.size, 2, none⟩ (.int .i64 (u : Int))).cell? ⟨w2.heap.size, 0, none⟩ = some (.bool false) := HC6.out.k2.cell 0
    have b1 : (w5.setCell ⟨w1.heap.size, 2, none⟩ (.int .i64 (u : Int))).cell? ⟨w2.heap.size, 1, none⟩ = some (.int .i64 0) := HC6.out.k2.cell 1
    have b2 : (w5.setCell ⟨w1.heap.size, 2, none⟩ (.int .i64 (u : Int))).cell? ⟨w2.heap.size, 2, none⟩ = some (.int .i64 7) := HC6.out.k2.cell 2
    have b3 : (w5.setCell ⟨w1.heap.size, 2, none⟩ (.int .i64 (u : Int))).cell? ⟨w2.heap.size, 3, none⟩ = some (.int .i64 12) := HC6.out.k2.cell 3
    have d0 : (w5.setCell ⟨w1.heap.size, 2, none⟩ (.int .i64 (u : Int))).cell? ⟨w1.heap.size, 0, none⟩ = some (.int .i64 (t : Int)) := HC6.out.k1.cell 0
    have d1 : (w5.setCell ⟨w1.heap.size, 2, none⟩ (.int .i64 (u : Int))).cell? ⟨w1.heap.size, 1, none⟩ = some (.int .i64 (v : Int)) := HC6.out.k1.cell 1
    have d2 : (w5.setCell ⟨w1.heap.size, 2, none⟩ (.int .i64 (u : Int))).cell? ⟨w1.heap.size, 2, none⟩ = some (.int .i64 (u : Int)) := HC6.out.k1.cell 2
    have d3 : (w5.setCell ⟨w1.heap.size, 2, none⟩ (.int .i64 (u : Int))).cell? ⟨w1.heap.size, 3, none⟩ = some (.int .i64 0) := HC6.out.k1.cell 3
    have d4 : (w5.setCell ⟨w1.heap.size, 2, none⟩ (.int .i64 (u : Int))).cell? ⟨w1.heap.size, 4, none⟩ = some (.string ⟨#[]⟩) := HC6.out.k1.cell 4
    have r0 : (w5.setCell ⟨w1.heap.size, 2, none⟩ (.int .i64 (u : Int))).cell? ⟨w.heap.size, 0, none⟩ = some (.int .i64 0) := HC6.out.k0.cell 0
    have rf0 := HC6.out.k0.frozen 0
    have r1 : (w5.setCell ⟨w1.heap.size, 2, none⟩ (.int .i64 (u : Int))).cell? ⟨w.heap.size, 1, none⟩ = some (.int .i64 0) := HC6.out.k0.cell 1
    have rf1 := HC6.out.k0.frozen 1
    have r2 : (w5.setCell ⟨w1.heap.size, 2, none⟩ (.int .i64 (u : Int))).cell? ⟨w.heap.size, 2, none⟩ = some (.int .i64 0) := HC6.out.k0.cell 2
    have rf2 := HC6.out.k0.frozen 2
    have r3 : (w5.setCell ⟨w1.heap.size, 2, none⟩ (.int .i64 (u : Int))).cell? ⟨w.heap.size, 3, none⟩ = some (.int .i64 0) := HC6.out.k0.cell 3
    have rf3 := HC6.out.k0.frozen 3
    have r4 : (w5.setCell ⟨w1.heap.size, 2, none⟩ (.int .i64 (u : Int))).cell? ⟨w.heap.size, 4, none⟩ = some (.string ⟨#[]⟩) := HC6.out.k0.cell 4
    have rf4 := HC6.out.k0.frozen 4
    have rl := HC6.out.k0.lt
    go_wp2
    refine bodyPost_ret (v := .agg #[.int .i64 (t : Int), .int .i64 (v : Int), .int .i64 (u : Int), .int .i64 0, .string ⟨#[]⟩]) (by simp [results, Try.results112, go_sem, r0, r1, r2, r3, r4]) rfl ⟨by rw [HE.out]; rfl, ?_⟩
    have hfin := HC6.out.fin (.int .i64 (t : Int)) (.int .i64 (v : Int)) (.int .i64 (u : Int)) (.int .i64 0) (.string ⟨#[]⟩)
    rw [HE.out]
    exact hfin
  · obtain ⟨v, s1, hx⟩ : ∃ v s1, numR bs s0 2 = (v, s1) := ⟨_, _, rfl⟩
    have hv := HL.out s0 2
    rw [hx] at hv
    have hv : v < 65536 := hv
    have hwv : IntKind.i64.wrap (v : Int) = (v : Int) := by rw [IntKind.wrap_i64]; omega
    obtain ⟨u, s2, hy⟩ : ∃ u s2, numR bs s1 2 = (u, s2) := ⟨_, _, rfl⟩
    have hu := HL.out s1 2
    rw [hy] at hu
    have hu : u < 65536 := hu
    have hwu : IntKind.i64.wrap (u : Int) = (u : Int) := by rw [IntKind.wrap_i64]; omega
    have HE : Hid (constR bs s = (⟨t, v, u, 0, []⟩, s2)) := Lib.hid (by rw [Hcon.out]; simp [hf, noFrm, hx, hy, optR])
    have HX := Lib.hid hx
    have HY := Lib.hid hy
    clear hx hy
    rw [hf] at CF
    have CF := Lib.hid CF
    simp only [Frm.v] at CF
    clear hf
    go_enter Try.func112, Try.ntmps112
    go_wp2_with fail
    refine (C0.out _ (HR.out.only ((Only.refl _ _).alloc _))).mono ?_
    rintro e w1 ⟨rfl, hR1, hO1⟩
    have HR1 := Lib.hid hR1
    have HO1 := Lib.hid hO1
    clear hR1 hO1
    go_wp2_with fail
    refine (CF.out _).mono ?_
    rintro e w2 ⟨rfl, hb2⟩
    have HC := Lib.hid (RdC.start HR.out HR1.out HO1.out hb2 ⟨false, 0, 1, 1⟩)
    clear hb2
    have b0_ : (w2.alloc (.cells #[.bool false, .int .i64 0, .int .i64 1, .int .i64 1] 155)).cell? ⟨w2.heap.size, 0, none⟩ = some (.bool false) := HC.out.k2.cell 0
    go_wp2_with fail
    refine (CN.out 2 s0 _ (by omega) (by omega) HC.out.rd).mono ?_
    rintro e w3 ⟨rfl, hR3, hO3⟩
    rw [HX.out] at hR3
    rw [HX.out]
    have HC3 := Lib.hid (HC.out.next hR3 hO3)
    clear hR3 hO3
    have hgl := HC3.out.k1.lt
    have hgf := HC3.out.k1.frozen 1
    have hgc : w3.cell? ⟨w1.heap.size, 1, none⟩ = some (.int .i64 0) := HC3.out.k1.cell 1
    have HC4 : Hid (RdC w g w1.heap.size w2.heap.size A n cap bs s1 ⟨t, v, 0, 0, []⟩ ⟨false, 0, 1, 1⟩ (w3.setCell ⟨w1.heap.size, 1, none⟩ (.int .i64 (v : Int)))) := Lib.hid (HC3.out.set 1 _ (by simp [Cst.cells]))
    have e3 : (w3.setCell ⟨w1.heap.size, 1, none⟩ (.int .i64 (v : Int))).cell? ⟨w2.heap.size, 3, none⟩ = some (.int .i64 1) := HC4.out.k2.cell 3
    go_wp2_with fail
    refine (CN.out 2 s1 _ (by omega) (by omega) HC4.out.rd).mono ?_
    rintro e w5 ⟨rfl, hR5, hO5⟩
    rw [HY.out] at hR5
    rw [HY.out]
    have HC5 := Lib.hid (HC4.out.next hR5 hO5)
    clear hR5 hO5 e3 hgl hgf hgc
    have hgl := HC5.out.k1.lt
    have hgf := HC5.out.k1.frozen 2
    have hgc : w5.cell? ⟨w1.heap.size, 2, none⟩ = some (.int .i64 0) := HC5.out.k1.cell 2
    have HC6 : Hid (RdC w g w1.heap.size w2.heap.size A n cap bs s2 ⟨t, v, u, 0, []⟩ ⟨false, 0, 1, 1⟩ (w5.setCell ⟨w1.heap.size, 2, none⟩ (.int .i64 (u : Int)))) := Lib.hid (HC5.out.set 2 _ (by simp [Cst.cells]))
    have b0 : (w5.setCell ⟨w1.heap.size, 2, none⟩ (.int .i64 (u : Int))).cell? ⟨w2.heap.size, 0, none⟩ = some (.bool false) := HC6.out.k2.cell 0
    have b1 : (w5.setCell ⟨w1.heap.size, 2, none⟩ (.int .i64 (u : Int))).cell? ⟨w2.heap.size, 1, none⟩ = some (.int .i64 0) := HC6.out.k2.cell 1
    have b2 : (w5.setCell ⟨w1.heap.size, 2, none⟩ (.int .i64 (u : Int))).cell? ⟨w2.heap.size, 2, none⟩ = some (.int .i64 1) := HC6.out.k2.cell 2
    have b3 : (w5.setCell ⟨w1.heap.size, 2, none⟩ (.int .i64 (u : Int))).cell? ⟨w2.heap.size, 3, none⟩ = some (.int .i64 1) := HC6.out.k2.cell 3
    have d0 : (w5.setCell ⟨w1.heap.size, 2, none⟩ (.int .i64 (u : Int))).cell? ⟨w1.heap.size, 0, none⟩ = some (.int .i64 (t : Int)) := HC6.out.k1.cell 0
    have d1 : (w5.setCell ⟨w1.heap.size, 2, none⟩ (.int .i64 (u : Int))).cell? ⟨w1.heap.size, 1, none⟩ = some (.int .i64 (v : Int)) := HC6.out.k1.cell 1
    have d2 : (w5.setCell ⟨w1.heap.size, 2, none⟩ (.int .i64 (u : Int))).cell? ⟨w1.heap.size, 2, none⟩ = some (.int .i64 (u : Int)) := HC6.out.k1.cell 2
    have d3 : (w5.setCell ⟨w1.heap.size, 2, none⟩ (.int .i64 (u : Int))).cell? ⟨w1.heap.size, 3, none⟩ = some (.int .i64 0) := HC6.out.k1.cell 3
    have d4 : (w5.setCell ⟨w1.heap.size, 2, none⟩ (.int .i64 (u : Int))).cell? ⟨w1.heap.size, 4, none⟩ = some (.string ⟨#[]⟩) := HC6.out.k1.cell 4
    have r0 : (w5.setCell ⟨w1.heap.size, 2, none⟩ (.int .i64 (u : Int))).cell? ⟨w.heap.size, 0, none⟩ = some (.int .i64 0) := HC6.out.k0.cell 0
    have rf0 := HC6.out.k0.frozen 0
    have r1 : (w5.setCell ⟨w1.heap.size, 2, none⟩ (.int .i64 (u : Int))).cell? ⟨w.heap.size, 1, none⟩ = some (.int .i64 0) := HC6.out.k0.cell 1
    have rf1 := HC6.out.k0.frozen 1
    have r2 : (w5.setCell ⟨w1.heap.size, 2, none⟩ (.int .i64 (u : Int))).cell? ⟨w.heap.size, 2, none⟩ = some (.int .i64 0) := HC6.out.k0.cell 2
    have rf2 := HC6.out.k0.frozen 2
    have r3 : (w5.setCell ⟨w1.heap.size, 2, none⟩ (.int .i64 (u : Int))).cell? ⟨w.heap.size, 3, none⟩ = some (.int .i64 0) := HC6.out.k0.cell 3
    have rf3 := HC6.out.k0.frozen 3
    have r4 : (w5.setCell ⟨w1.heap.size, 2, none⟩ (.int .i64 (u : Int))).cell? ⟨w.heap.size, 4, none⟩ = some (.string ⟨#[]⟩) := HC6.out.k0.cell 4
    have rf4 := HC6.out.k0.frozen 4
    have rl := HC6.out.k0.lt
    go_wp2
    refine bodyPost_ret (v := .agg #[.int .i64 (t : Int), .int .i64 (v : Int), .int .i64 (u : Int), .int .i64 0, .string ⟨#[]⟩]) (by simp [results, Try.results112, go_sem, r0, r1, r2, r3, r4]) rfl ⟨by rw [HE.out]; rfl, ?_⟩
    have hfin := HC6.out.fin (.int .i64 (t : Int)) (.int .i64 (v : Int)) (.int .i64 (u : Int)) (.int .i64 0) (.string ⟨#[]⟩)
    rw [HE.out]
    exact hfin
  · obtain ⟨v, s1, hx⟩ : ∃ v s1, numR bs s0 2 = (v, s1) := ⟨_, _, rfl⟩
    have hv := HL.out s0 2
    rw [hx] at hv
    have hv : v < 65536 := hv
    have hwv : IntKind.i64.wrap (v : Int) = (v : Int) := by rw [IntKind.wrap_i64]; omega
    have HE : Hid (constR bs s = (⟨t, v, 0, 0, []⟩, s1)) := Lib.hid (by rw [Hcon.out]; simp [hf, noFrm, hx, optR])
    have HX := Lib.hid hx
    clear hx
    rw [hf] at CF
    have CF := Lib.hid CF
    simp only [Frm.v] at CF
    clear hf
    go_enter Try.func112, Try.ntmps112
    go_wp2_with fail
    refine (C0.out _ (HR.out.only ((Only.refl _ _).alloc _))).mono ?_
    rintro e w1 ⟨rfl, hR1, hO1⟩
    have HR1 := Lib.hid hR1
    have HO1 := Lib.hid hO1
    clear hR1 hO1
    go_wp2_with fail
    refine (CF.out _).mono ?_
    rintro e w2 ⟨rfl, hb2⟩
    have HC := Lib.hid (RdC.start HR.out HR1.out HO1.out hb2 ⟨false, 0, 1, 0⟩)
    clear hb2
    have b0_ : (w2.alloc (.cells #[.bool false, .int .i64 0, .int .i64 1, .int .i64 0] 155)).cell? ⟨w2.heap.size, 0, none⟩ = some (.bool false) := HC.out.k2.cell 0
    go_wp2_with fail
    refine (CN.out 2 s0 _ (by omega) (by omega) HC.out.rd).mono ?_
    rintro e w3 ⟨rfl, hR3, hO3⟩
    rw [HX.out] at hR3
    rw [HX.out]
    have HC3 := Lib.hid (HC.out.next hR3 hO3)
    clear hR3 hO3
    have hgl := HC3.out.k1.lt
    have hgf := HC3.out.k1.frozen 1
    have hgc : w3.cell? ⟨w1.heap.size, 1, none⟩ = some (.int .i64 0) := HC3.out.k1.cell 1
    have HC4 : Hid (RdC w g w1.heap.size w2.heap.size A n cap bs s1 ⟨t, v, 0, 0, []⟩ ⟨false, 0, 1, 0⟩ (w3.setCell ⟨w1.heap.size, 1, none⟩ (.int .i64 (v : Int)))) := Lib.hid (HC3.out.set 1 _ (by simp [Cst.cells]))
    have b0 : (w3.setCell ⟨w1.heap.size, 1, none⟩ (.int .i64 (v : Int))).cell? ⟨w2.heap.size, 0, none⟩ = some (.bool false) := HC4.out.k2.cell 0
    have b1 : (w3.setCell ⟨w1.heap.size, 1, none⟩ (.int .i64 (v : Int))).cell? ⟨w2.heap.size, 1, none⟩ = some (.int .i64 0) := HC4.out.k2.cell 1
    have b2 : (w3.setCell ⟨w1.heap.size, 1, none⟩ (.int .i64 (v : Int))).cell? ⟨w2.heap.size, 2, none⟩ = some (.int .i64 1) := HC4.out.k2.cell 2
    have b3 : (w3.setCell ⟨w1.heap.size, 1, none⟩ (.int .i64 (v : Int))).cell? ⟨w2.heap.size, 3, none⟩ = some (.int .i64 0) := HC4.out.k2.cell 3
    have d0 : (w3.setCell ⟨w1.heap.size, 1, none⟩ (.int .i64 (v : Int))).cell? ⟨w1.heap.size, 0, none⟩ = some (.int .i64 (t : Int)) := HC4.out.k1.cell 0
    have d1 : (w3.setCell ⟨w1.heap.size, 1, none⟩ (.int .i64 (v : Int))).cell? ⟨w1.heap.size, 1, none⟩ = some (.int .i64 (v : Int)) := HC4.out.k1.cell 1
    have d2 : (w3.setCell ⟨w1.heap.size, 1, none⟩ (.int .i64 (v : Int))).cell? ⟨w1.heap.size, 2, none⟩ = some (.int .i64 0) := HC4.out.k1.cell 2
    have d3 : (w3.setCell ⟨w1.heap.size, 1, none⟩ (.int .i64 (v : Int))).cell? ⟨w1.heap.size, 3, none⟩ = some (.int .i64 0) := HC4.out.k1.cell 3
    have d4 : (w3.setCell ⟨w1.heap.size, 1, none⟩ (.int .i64 (v : Int))).cell? ⟨w1.heap.size, 4, none⟩ = some (.string ⟨#[]⟩) := HC4.out.k1.cell 4
    have r0 : (w3.setCell ⟨w1.heap.size, 1, none⟩ (.int .i64 (v : Int))).cell? ⟨w.heap.size, 0, none⟩ = some (.int .i64 0) := HC4.out.k0.cell 0
    have rf0 := HC4.out.k0.frozen 0
    have r1 : (w3.setCell ⟨w1.heap.size, 1, none⟩ (.int .i64 (v : Int))).cell? ⟨w.heap.size, 1, none⟩ = some (.int .i64 0) := HC4.out.k0.cell 1
    have rf1 := HC4.out.k0.frozen 1
    have r2 : (w3.setCell ⟨w1.heap.size, 1, none⟩ (.int .i64 (v : Int))).cell? ⟨w.heap.size, 2, none⟩ = some (.int .i64 0) := HC4.out.k0.cell 2
    have rf2 := HC4.out.k0.frozen 2
    have r3 : (w3.setCell ⟨w1.heap.size, 1, none⟩ (.int .i64 (v : Int))).cell? ⟨w.heap.size, 3, none⟩ = some (.int .i64 0) := HC4.out.k0.cell 3
    have rf3 := HC4.out.k0.frozen 3
    have r4 : (w3.setCell ⟨w1.heap.size, 1, none⟩ (.int .i64 (v : Int))).cell? ⟨w.heap.size, 4, none⟩ = some (.string ⟨#[]⟩) := HC4.out.k0.cell 4
    have rf4 := HC4.out.k0.frozen 4
    have rl := HC4.out.k0.lt
    go_wp2
    refine bodyPost_ret (v := .agg #[.int .i64 (t : Int), .int .i64 (v : Int), .int .i64 0, .int .i64 0, .string ⟨#[]⟩]) (by simp [results, Try.results112, go_sem, r0, r1, r2, r3, r4]) rfl ⟨by rw [HE.out]; rfl, ?_⟩
    have hfin := HC4.out.fin (.int .i64 (t : Int)) (.int .i64 (v : Int)) (.int .i64 0) (.int .i64 0) (.string ⟨#[]⟩)
    rw [HE.out]
    exact hfin
  · have HE : Hid (constR bs s = (⟨t, 0, 0, 0, []⟩, s0.refuse 8)) := Lib.hid (by rw [Hcon.out]; simp [hf, noFrm, optR])
    rw [hf] at CF
    have CF := Lib.hid CF
    simp only [Frm.v] at CF
    clear hf
    go_enter Try.func112, Try.ntmps112
    go_wp2_with fail
    refine (C0.out _ (HR.out.only ((Only.refl _ _).alloc _))).mono ?_
    rintro e w1 ⟨rfl, hR1, hO1⟩
    have HR1 := Lib.hid hR1
    have HO1 := Lib.hid hO1
    clear hR1 hO1
    go_wp2_with fail
    refine (CF.out _).mono ?_
    rintro e w2 ⟨rfl, hb2⟩
    have HC := Lib.hid (RdC.start HR.out HR1.out HO1.out hb2 ⟨false, 0, 0, 0⟩)
    clear hb2
    go_wp2_with fail
    refine (CR.out _ _ _ HC.out.rd).mono ?_
    rintro e w3 ⟨rfl, hR3, hO3⟩
    have HC3 := Lib.hid (HC.out.next hR3 hO3)
    clear hR3 hO3
    have b0 : w3.cell? ⟨w2.heap.size, 0, none⟩ = some (.bool false) := HC3.out.k2.cell 0
    have b1 : w3.cell? ⟨w2.heap.size, 1, none⟩ = some (.int .i64 0) := HC3.out.k2.cell 1
    have b2 : w3.cell? ⟨w2.heap.size, 2, none⟩ = some (.int .i64 0) := HC3.out.k2.cell 2
    have b3 : w3.cell? ⟨w2.heap.size, 3, none⟩ = some (.int .i64 0) := HC3.out.k2.cell 3
    have d0 : w3.cell? ⟨w1.heap.size, 0, none⟩ = some (.int .i64 (t : Int)) := HC3.out.k1.cell 0
    have d1 : w3.cell? ⟨w1.heap.size, 1, none⟩ = some (.int .i64 0) := HC3.out.k1.cell 1
    have d2 : w3.cell? ⟨w1.heap.size, 2, none⟩ = some (.int .i64 0) := HC3.out.k1.cell 2
    have d3 : w3.cell? ⟨w1.heap.size, 3, none⟩ = some (.int .i64 0) := HC3.out.k1.cell 3
    have d4 : w3.cell? ⟨w1.heap.size, 4, none⟩ = some (.string ⟨#[]⟩) := HC3.out.k1.cell 4
    have r0 : w3.cell? ⟨w.heap.size, 0, none⟩ = some (.int .i64 0) := HC3.out.k0.cell 0
    have rf0 := HC3.out.k0.frozen 0
    have r1 : w3.cell? ⟨w.heap.size, 1, none⟩ = some (.int .i64 0) := HC3.out.k0.cell 1
    have rf1 := HC3.out.k0.frozen 1
    have r2 : w3.cell? ⟨w.heap.size, 2, none⟩ = some (.int .i64 0) := HC3.out.k0.cell 2
    have rf2 := HC3.out.k0.frozen 2
    have r3 : w3.cell? ⟨w.heap.size, 3, none⟩ = some (.int .i64 0) := HC3.out.k0.cell 3
    have rf3 := HC3.out.k0.frozen 3
    have r4 : w3.cell? ⟨w.heap.size, 4, none⟩ = some (.string ⟨#[]⟩) := HC3.out.k0.cell 4
    have rf4 := HC3.out.k0.frozen 4
    have rl := HC3.out.k0.lt
    go_wp2
    refine bodyPost_ret (v := .agg #[.int .i64 (t : Int), .int .i64 0, .int .i64 0, .int .i64 0, .string ⟨#[]⟩]) (by simp [results, Try.results112, go_sem, r0, r1, r2, r3, r4]) rfl ⟨by rw [HE.out]; rfl, ?_⟩
    have hfin := HC3.out.fin (.int .i64 (t : Int)) (.int .i64 0) (.int .i64 0) (.int .i64 0) (.string ⟨#[]⟩)
    rw [HE.out]
    exact hfin

end Go.Proofs.Ytendpbklcgiafaa

/- The walks over the law's fixed and few (layer 11); pools that come in. -/
namespace Go.Proofs.Ytendpbklcgiafaa
set_option maxRecDepth 100000
open Go.ChangeShapes Go.WideShapes Go.ChangeAt Go.RowKit Go.Joins

/-! ### few -/
def fewF (l : List Cst) : Bool := l.all (fun c => decide (c.s.length ≤ 2000)) && (decide (l.length ≤ 60) || (decide (1024 < l.length) && decide (l.length < 1029)))
theorem fewF_s {l : List Cst} (h : fewF l = true) : ∀ c ∈ l, c.s.length ≤ 2000 := fun c hc => by
  unfold fewF at h
  rw [Bool.and_eq_true] at h
  have := List.all_eq_true.mp h.1 c hc
  simpa using this
theorem fewF_len {l : List Cst} (h : fewF l = true) : l.length < 1029 := by
  unfold fewF at h
  rw [Bool.and_eq_true] at h
  have := h.2
  simp at this
  omega


end Go.Proofs.Ytendpbklcgiafaa

/- Pools that come in; the law's fixed (layer 11). -/
namespace Go.Proofs.Ytendpbklcgiafaa
set_option maxRecDepth 100000
open Go.ChangeShapes Go.WideShapes Go.ChangeAt Go.RowKit Go.Joins

section
variable {H : Type} {enc : TypeId × Value → H} {W : World} {base : Nat}
theorem open_pool {v : Value} {d : DataW H} {p : List MemPlace} (hv : Value.okWide Try.prog W .any base 22 v) (h : DataW.Trod enc Try.prog W 0 (fun _ => true) true 22 v d p) :
    ∃ (A : Option Addr) (n cap : Nat) (l : List Cst), v = .slice A n cap ∧ PoolSl W A n cap l ∧ ∀ c ∈ l, c.ok := by
  obtain ⟨A, n, cap, l, rfl, hl, hn, hm, hA, hP⟩ := open_rows (enc := enc) zeroC 22 30 5 Try.underlying22 (by kernel_rfl) (by decide)
    (fun b off c => (∀ j, j < 5 → W.cell? ⟨b, off + j, none⟩ = c.cells[j]?) ∧ c.ok)
    (fun b off fuel cs x hc ht => by
      obtain ⟨ys, m, _, _, _, hyl, hg⟩ := DataW.trod_struct Try.underlying30 ht
      obtain ⟨_, hl, hat⟩ := World.cells?_some hc
      match cs, hl with
      | [c0, c1, c2, c3, c4], _ =>
        match ys, hyl with
        | [y0, y1, y2, y3, y4], _ =>
          have g0 : DataW.trod enc Try.prog W 0 (fun _ => true) true m 3 [c0] = some y0 := hg 0 _ rfl
          have g1 : DataW.trod enc Try.prog W 0 (fun _ => true) true m 3 [c1] = some y1 := hg 1 _ rfl
          have g2 : DataW.trod enc Try.prog W 0 (fun _ => true) true m 3 [c2] = some y2 := hg 2 _ rfl
          have g3 : DataW.trod enc Try.prog W 0 (fun _ => true) true m 2 [c3] = some y3 := hg 3 _ rfl
          have g4 : DataW.trod enc Try.prog W 0 (fun _ => true) true m 9 [c4] = some y4 := hg 4 _ rfl
          obtain ⟨t, e0, _, w0⟩ := DataW.trod_int Try.underlying3 g0
          obtain ⟨a, e1, _, w1⟩ := DataW.trod_int Try.underlying3 g1
          obtain ⟨b', e2, _, w2⟩ := DataW.trod_int Try.underlying3 g2
          obtain ⟨n, e3, _, w3⟩ := DataW.trod_int Try.underlying2 g3
          obtain ⟨s, e4, _, w4⟩ := DataW.trod_string Try.underlying9 g4
          simp at e0 e1 e2 e3 e4
          subst e0 e1 e2 e3 e4
          refine ⟨⟨t, a, b', n, s.data.toList⟩, fun j hj => ?_, ⟨bd_i64 w0, bd_i64 w1, bd_i64 w2, bd_i64 w3, by simpa [maxLen] using w4⟩⟩
          have h1 := hat j hj
          rw [add_off] at h1
          rw [h1]
          rfl)
    hv h
  refine ⟨A, n, cap, l, rfl, ⟨hl, hn, hm, fun h0 => ?_⟩, fun c hc => ?_⟩
  · obtain ⟨b, o, e, hb, hc⟩ := hP h0
    exact ⟨b, o, e, hb, fun h => h, fun i f hf j hj => (hc i f hf).1 j hj⟩
  · obtain ⟨i, hi, he⟩ := List.mem_iff_getElem.1 hc
    obtain ⟨b, o, e, hb, hcs⟩ := hP (by omega)
    exact (hcs i c (by rw [← he]; exact List.getElem?_eq_getElem hi)).2
end

/-! ### fixed -/
def fixL : List Cst := [zeroC, ⟨1, 0, 0, 0, [97]⟩, ⟨7, 1, 0, 0, []⟩]
theorem decF_a : (decF [97]).isSome = true := by
  have h := decR_enc [97] (by simp)
  have e : encT [97] = [97] := by decide
  rw [e] at h
  rw [decR_fun h _ (decF_is [97])]
  rfl
theorem fix_check : checkF fixL = true := by
  have h0 : mayF fixL 0 = true := by unfold mayF; rfl
  have h1 : mayF fixL 1 = true := by
    unfold mayF isTextF
    simp [fixL, formF, partF, noFrm, zeroC, decF_a, tagAtF, atF]
  have h2 : mayF fixL 2 = true := by
    unfold mayF
    simp [fixL, formF, partF, noFrm, zeroC, isTextF_nil, tagAtF, atF]
  unfold checkF
  simp [show fixL.length = 3 from rfl, List.range_succ, h0, h1, h2]
  decide
theorem fix_bytes : poolB fixL = [0, 3, 1, 0, 1, 97, 7, 0, 1] := by decide
theorem fix_ok : ∀ c ∈ fixL, c.ok := by
  intro c hc
  simp [fixL] at hc
  rcases hc with rfl | rfl | rfl <;> exact ⟨by decide, by decide, by decide, by decide, by decide⟩


end Go.Proofs.Ytendpbklcgiafaa

/- A pool with one text more: it may be, and tells the same. -/
namespace Go.Proofs.Ytendpbklcgiafaa
set_option maxRecDepth 100000
open Go.ChangeShapes Go.WideShapes Go.ChangeAt Go.RowKit Go.Joins

theorem Try.infoConst : (Try.prog.info? 30).map (fun i => (i.zero, i.size, i.bytes)) = some (some zeroC.v, 5, 48) := by kernel_rfl
theorem wpList_append_cst {ops : Array Oper} {rest : List Oper} {q : Oper} {u : Act} {w : World} {S : Nat → Prop} {Q : Exit → Act → World → Prop} (hgd : q.guard = none) (s x : Operand) (hq : q.op = .call { callee := .builtin .append, args := #[s, x], argTypes := #[22, 22] })
    (base : Nat) (B : Option Addr) (m0 c0 : Nat) (zs : List Cst) (hs : u.eval s = .slice B m0 c0) (hown : GotR Cst.cells 5 30 base w B m0 c0 zs) (A : Option Addr) (m c : Nat) (l : List Cst)
    (hx : u.eval x = .slice A m c) (hB : RowSl Cst.cells 5 w S A m c l) (hn : A = none → m = 0 ∧ c = 0) (hm : m0 + m ≤ 16777216) (hbase : base ≤ w.heap.size)
    (h : ∀ A' c' w', GotR Cst.cells 5 30 base w' A' (m0 + m) c' (zs ++ l) → w.grownBy w' (Value.slice B m0 c0).ownBlock → (∀ g, (Value.slice B m0 c0).ownBlock = some g → base ≤ g) → wpList Try.prog ops Q rest (u.put q.dst (.slice A' (m0 + m) c')) w') : wpList Try.prog ops Q (q :: rest) u w :=
  wpList_append_rows Cst.cells_len Cst.cells_one (by decide) 22 30 _ 48 Try.underlying22 Try.infoConst (by simp [zeroC, Cst.v, Value.cells]) (by decide) hgd s x hq base B m0 c0 zs hs hown A m c l hx hB hn hm hbase (fun A' c' w' h1 h2 h3 _ => h A' c' w' h1 h2 h3)
theorem made_consts (w : World) (base : Nat) (h : base ≤ w.heap.size) : GotR Cst.cells 5 30 base (w.alloc (.cells #[] 30)) (some ⟨w.heap.size, 0, none⟩) 0 0 [] := by
  obtain ⟨A, c, e, hG⟩ := GotR.of_own (cells := Cst.cells) (k := 5) (t := 30) (base := base) (l := []) Cst.cells_len (World.ownsRow_made (base := base) (e := 30) (size := 5) w #[] 0 h (by decide) rfl) rfl
  cases e
  exact hG

/-! ### A pool with one text more -/
def moreC : Cst := ⟨1, 0, 0, 0, [109, 111, 114, 101]⟩
theorem moreC_text : isTextF moreC.s = true := by
  have h := decR_enc [109, 111, 114, 101] (by simp)
  have e : encT [109, 111, 114, 101] = [109, 111, 114, 101] := by decide
  rw [e] at h
  unfold isTextF moreC
  simp only
  rw [← decR_fun (decF_is [109, 111, 114, 101]) _ h]
  rfl
theorem atF_snoc (l : List Cst) (x : Cst) (p : Int) (c : Cst) (h : atF l p = some c) : atF (l ++ [x]) p = some c := by
  unfold atF at *
  by_cases h1 : 1 ≤ p
  · rw [if_pos h1] at *
    rw [List.getElem?_append_left (List.getElem?_eq_some_iff.mp h).1]
    exact h
  · rw [if_neg h1] at h
    cases h
theorem atF_lt (l : List Cst) (x : Cst) (p : Int) (h : p < (l.length : Int)) : atF (l ++ [x]) p = atF l p := by
  unfold atF
  by_cases h1 : 1 ≤ p
  · rw [if_pos h1, if_pos h1, List.getElem?_append_left (by omega)]
  · rw [if_neg h1, if_neg h1]
theorem findF_lt (l : List Cst) (x : Cst) (p t : Int) (h : p < (l.length : Int)) : findF (l ++ [x]) p t = findF l p t := by
  unfold findF
  rw [atF_lt l x p h]
theorem textF_lt (l : List Cst) (x : Cst) (p : Int) (h : p < (l.length : Int)) : textF (l ++ [x]) p = textF l p := by
  unfold textF
  rw [findF_lt l x p 1 h]
theorem tagAt_snoc (l : List Cst) (x : Cst) (p t : Int) (ht : t ≠ 0) (h : tagAtF l p = t) : tagAtF (l ++ [x]) p = t := by
  unfold tagAtF at *
  cases hc : atF l p with
  | none => rw [hc] at h; exact absurd h.symm ht
  | some c =>
    rw [atF_snoc l x p c hc]
    rw [hc] at h
    exact h
theorem tagAt_lt (l : List Cst) (p t : Int) (ht : t ≠ 0) (h : tagAtF l p = t) : p < (l.length : Int) := by
  unfold tagAtF at h
  by_cases hp : p < (l.length : Int)
  · exact hp
  · rw [atF_no l p (.inr (by omega))] at h
    exact absurd h.symm ht
theorem may_all {l : List Cst} (h : checkF l = true) : ∀ k, k < l.length → mayF l k = true := fun k hk => by
  unfold checkF at h
  rw [Bool.and_eq_true, Bool.and_eq_true] at h
  exact List.all_eq_true.mp h.1.2 k (List.mem_range.mpr hk)
theorem check_last {l : List Cst} (h : checkF l = true) : lastTag l ≠ 5 := by
  unfold checkF at h
  rw [Bool.and_eq_true] at h
  simpa using h.2
theorem part_zero {c : Cst} (h : c = partF (formF c.tag) c) : ((formF c.tag).a = 0 → c.a = 0) ∧ ((formF c.tag).b = 0 → c.b = 0) := by
  refine ⟨fun h0 => ?_, fun h0 => ?_⟩
  · have := congrArg Cst.a h
    simp only [partF] at this
    rw [if_pos h0] at this
    exact this
  · have := congrArg Cst.b h
    simp only [partF] at this
    rw [if_pos h0] at this
    exact this

theorem may_snoc (l : List Cst) (x : Cst) (k : Nat) (hk : k < l.length) (h : mayF l k = true) : mayF (l ++ [x]) k = true := by
  unfold mayF at *
  have hc : l[k]? = some l[k] := List.getElem?_eq_getElem hk
  generalize l[k] = c at hc
  rw [List.getElem?_append_left hk, List.getElem?_append_left (by omega : k - 1 < l.length)]
  rw [hc] at h ⊢
  simp only at h ⊢
  by_cases hz : k = 0 ∨ (l[k - 1]?.map (·.tag)) = some 5
  · rw [if_pos hz] at h ⊢
    exact h
  · rw [if_neg hz] at h ⊢
    by_cases hf : formF c.tag = noFrm ∨ c ≠ partF (formF c.tag) c
    · rw [if_pos hf] at h
      cases h
    · rw [if_neg hf] at h ⊢
      rw [Bool.and_eq_true, Bool.and_eq_true] at h
      obtain ⟨⟨h1, h2⟩, h3⟩ := h
      have hp : c = partF (formF c.tag) c := Decidable.not_not.mp (fun h => hf (.inr h))
      obtain ⟨hza, hzb⟩ := part_zero hp
      rw [h1, Bool.true_and, Bool.and_eq_true]
      refine ⟨?_, ?_⟩
      · by_cases h0 : (formF c.tag).a = 0
        · rw [hza h0, tagAt_zero, h0]
          rfl
        · rw [beq_iff_eq] at h2 ⊢
          exact tagAt_snoc l x _ _ h0 h2
      · by_cases h0 : (formF c.tag).b = 0
        · rw [hzb h0, tagAt_zero, h0]
          rfl
        · rw [beq_iff_eq] at h3 ⊢
          exact tagAt_snoc l x _ _ h0 h3

theorem check_more (l : List Cst) (h : checkF l = true) (hl : l.length + 1 ≤ 1024) : checkF (l ++ [moreC]) = true := by
  have hlen : 1 ≤ l.length := by
    unfold checkF at h
    rw [Bool.and_eq_true, Bool.and_eq_true] at h
    exact (of_decide_eq_true h.1.1).1
  have hall := may_all h
  have hlast := check_last h
  unfold checkF
  rw [Bool.and_eq_true, Bool.and_eq_true]
  refine ⟨⟨decide_eq_true (by simp; omega), List.all_eq_true.mpr fun k hk => ?_⟩, ?_⟩
  · rw [List.mem_range, List.length_append, List.length_singleton] at hk
    by_cases hk2 : k < l.length
    · exact may_snoc l moreC k hk2 (hall k hk2)
    · obtain rfl : k = l.length := by omega
      unfold mayF
      rw [List.getElem?_append_right (Nat.le_refl _), Nat.sub_self, List.getElem?_append_left (by omega : l.length - 1 < l.length), lastTag_at l hlen]
      simp only [List.getElem?_cons_zero]
      rw [if_neg (by rintro (h1 | h1); omega; exact hlast (by simpa using h1))]
      rw [if_neg (by decide), moreC_text]
      rfl
  · unfold lastTag
    rw [List.getLast?_append]
    simp [moreC]

theorem class_more (l : List Cst) (x : Cst) (p : Int) (h : checkF l = true) (hp : p < (l.length : Int)) : classF (l ++ [x]) p = classF l p := by
  unfold classF
  rw [findF_lt l x p 7 hp]
  cases hf : findF l p 7 with
  | none => rfl
  | some c =>
    simp only
    apply textF_lt
    unfold findF at hf
    cases hc : atF l p with
    | none => rw [hc] at hf; cases hf
    | some d =>
      rw [hc] at hf
      simp only at hf
      by_cases ht : d.tag = 7
      · rw [if_pos ht] at hf
        cases hf
        have h1 : 1 ≤ p := by
          unfold atF at hc
          by_cases h1 : 1 ≤ p
          · exact h1
          · rw [if_neg h1] at hc
            cases hc
        obtain ⟨k, rfl⟩ := Int.eq_ofNat_of_zero_le (show 0 ≤ p by omega)
        have hk : l[k]? = some c := by rw [← atF_yes l k (by omega)]; exact hc
        have hm := may_all h k (by omega)
        unfold mayF at hm
        rw [hk] at hm
        simp only at hm
        by_cases hz : k = 0 ∨ (l[k - 1]?.map (·.tag)) = some 5
        · rw [if_pos hz] at hm
          rw [of_decide_eq_true hm] at ht
          cases ht
        · rw [if_neg hz] at hm
          by_cases hff : formF c.tag = noFrm ∨ c ≠ partF (formF c.tag) c
          · rw [if_pos hff] at hm
            cases hm
          · rw [if_neg hff, Bool.and_eq_true, Bool.and_eq_true, beq_iff_eq] at hm
            have h2 := hm.1.2
            rw [ht] at h2
            exact tagAt_lt l c.a 1 (by decide) h2
      · rw [if_neg ht] at hf
        cases hf

end Go.Proofs.Ytendpbklcgiafaa
