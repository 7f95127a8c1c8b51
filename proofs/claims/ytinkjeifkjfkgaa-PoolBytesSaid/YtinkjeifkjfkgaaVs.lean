/- The walks over a pool's reader: refuse, number, text. -/
import Derived.Test.YtinkjeifkjfkgaaVr
import Derived.Test.YtinkjeifkjfkgaaVe
namespace Go.Proofs.Ytinkjeifkjfkgaa
set_option maxRecDepth 100000
open Go.RowKit

/-- A reader in memory: its bytes lie in no block of its own. -/
structure RdP (w : World) (g : Nat) (A : Option Addr) (n cap : Nat) (bs : List UInt8) (s : RS) : Prop where
  blk : Blk w g 50 #[.slice A n cap, .int .i64 (s.at_ : Int), .int .i64 s.fault]
  bytes : ByteSl w (· = g) A n cap bs
  le : s.at_ ≤ n
theorem RdP.only {w w' : World} {g : Nat} {A : Option Addr} {n cap : Nat} {bs : List UInt8} {s : RS} (h : RdP w g A n cap bs s) (k : Only Empty w w') : RdP w' g A n cap bs s :=
  ⟨k.blk h.blk (fun h => h), h.bytes.only k (fun _ _ h => h.elim), h.le⟩
theorem RdP.set {w : World} {g : Nat} {A : Option Addr} {n cap : Nat} {bs : List UInt8} {s : RS} (h : RdP w g A n cap bs s) (j : Nat) (v : Value) (s' : RS) (hs : (#[.slice A n cap, .int .i64 (s.at_ : Int), .int .i64 s.fault] : Array Value).setIfInBounds j v = #[.slice A n cap, .int .i64 (s'.at_ : Int), .int .i64 s'.fault]) (hle : s'.at_ ≤ n) :
    RdP (w.setCell ⟨g, j, none⟩ v) g A n cap bs s' := by
  have hb := h.blk.set_ j v
  rw [hs] at hb
  exact ⟨hb, h.bytes.only ((Only.refl (· = g) w).setCell (p := ⟨g, j, none⟩) (Or.inl rfl) _) (fun _ _ h => h), hle⟩

theorem refuse_any (g : Nat) (A : Option Addr) (n cap : Nat) (bs : List UInt8) (s : RS) (e : Int) (w : World) (hR : RdP w g A n cap bs s) :
    Calls Try.prog 37 #[.pointer (some ⟨g, 0, none⟩), .int .i64 e] w fun e1 w' => e1 = .returned (.tuple #[]) ∧ RdP w' g A n cap bs (s.refuse e) ∧ Only (· = g) w w' := by
  have HR := Lib.hid hR
  have c2 : w.cell? ⟨g, 2, none⟩ = some (.int .i64 s.fault) := hR.blk.cell 2
  have f2 := hR.blk.frozen 2
  have hlt := hR.blk.lt
  clear hR
  by_cases hf : s.fault = 0
  · have HE : Hid (s.refuse e = ⟨s.at_, e⟩) := Lib.hid (by unfold RS.refuse; rw [if_pos hf])
    have hq : (s.fault == 0) = true := by simpa using hf
    have Hf := Lib.hid hf
    clear hf
    go_enter Try.func37, Try.ntmps37
    go_wp2
    go_end0
    exact ⟨rfl, by rw [HE.out]; exact HR.out.set 2 _ _ (by simp) HR.out.le, (Only.refl (· = g) w).setCell (p := ⟨g, 2, none⟩) (Or.inl rfl) _⟩
  · have HE : Hid (s.refuse e = s) := Lib.hid (by unfold RS.refuse; rw [if_neg hf])
    have hq : (s.fault == 0) = false := by simpa using hf
    have Hf := Lib.hid hf
    clear hf
    go_enter Try.func37, Try.ntmps37
    go_wp2
    go_end0
    exact ⟨rfl, by rw [HE.out]; exact HR.out, Only.refl _ _⟩

/-- What Get tells where a reader stands. -/
def gotN (bs : List UInt8) (s : RS) (k : Nat) : Nat × Int := if s.at_ + k ≤ bs.length then (getV ((bs.drop s.at_).take k), 0) else (0, 6)
theorem prGet_any (A : Option Addr) (n cap k : Nat) (bs : List UInt8) (s : RS) (w : World) (hB : ByteSl w Empty A n cap bs) (h1 : 1 ≤ k) (h2 : k ≤ 8) (hm : n ≤ 1048576) (hle : s.at_ ≤ n) :
    Calls Try.prog 44 #[.slice A n cap, .int .i64 (s.at_ : Int), .int .i64 (k : Int)] w fun e w' => e = .returned (.tuple #[.int .u64 ((gotN bs s k).1 : Int), .int .i64 (gotN bs s k).2]) ∧ w = w' := by
  have hl := hB.1
  unfold gotN
  by_cases h : s.at_ + k ≤ bs.length
  · rw [if_pos h]
    exact get_yes A n cap s.at_ k bs w hB h1 h2 hm (by omega)
  · rw [if_neg h]
    exact get_short A n cap s.at_ k w (by omega) (by omega) (by omega) (.inr (by omega))
theorem numR_got (bs : List UInt8) (s : RS) (k : Nat) : numR bs s k = if (s.refuse (gotN bs s k).2).fault ≠ 0 then (0, s.refuse (gotN bs s k).2) else ((gotN bs s k).1, ⟨s.at_ + k, 0⟩) := by
  unfold numR gotN RS.refuse
  by_cases h0 : s.fault = 0
  · rw [if_pos h0]
    by_cases h1 : s.at_ + k ≤ bs.length
    · simp [h0, h1]
    · simp [h0, h1]
  · simp [h0]

theorem prNumber_any (g : Nat) (A : Option Addr) (n cap k : Nat) (bs : List UInt8) (s : RS) (w : World) (hR : RdP w g A n cap bs s) (h1 : 1 ≤ k) (h2 : k ≤ 8) (hm : n ≤ 1048576) :
    Calls Try.prog 36 #[.pointer (some ⟨g, 0, none⟩), .int .i64 (k : Int)] w fun e w' => e = .returned (.int .u64 ((numR bs s k).1 : Int)) ∧ RdP w' g A n cap bs (numR bs s k).2 ∧ Only (· = g) w w' := by
  have hl := hR.bytes.1
  have hle := hR.le
  have hN := numR_got bs s k
  have Hget := Lib.hid (fun m => prGet_any A n cap k bs s (w.drewN m) ((hR.bytes.mono (fun _ _ h => h.elim)).only ((Only.refl Empty w).drewN m) (fun _ _ h => h)) h1 h2 hm hR.le)
  obtain ⟨v, e, hg⟩ : ∃ v e, gotN bs s k = (v, e) := ⟨_, _, rfl⟩
  have hat : e = 0 → s.at_ + k ≤ n := fun he => by
    unfold gotN at hg
    by_cases h : s.at_ + k ≤ bs.length
    · omega
    · rw [if_neg h] at hg
      cases hg
      cases he
  rw [hg] at hN
  simp only [hg] at Hget hN
  have HR := Lib.hid hR
  have hlt := hR.blk.lt
  have c0 : w.cell? ⟨g, 0, none⟩ = some (.slice A n cap) := hR.blk.cell 0
  have c1 : w.cell? ⟨g, 1, none⟩ = some (.int .i64 (s.at_ : Int)) := hR.blk.cell 1
  have CR : Hid (∀ W, RdP W g A n cap bs s → Calls Try.prog 37 #[.pointer (some ⟨g, 0, none⟩), .int .i64 e] W fun e1 w' => e1 = .returned (.tuple #[]) ∧ RdP w' g A n cap bs (s.refuse e) ∧ Only (· = g) W w') := Lib.hid (fun W h => refuse_any g A n cap bs s e W h)
  have Hat : Hid (s.fault = 0 → e = 0 → s.at_ + k ≤ n) := Lib.hid (fun _ h => hat h)
  have HN := Lib.hid hN
  have Hl := Lib.hid hl
  clear hR hN hg hat hl
  go_enter Try.func36, Try.ntmps36
  go_wp2
  go_quiet ((go_at_call 44; exact Calls.quiet_of_same ((Hget.out _).mono fun _ _ ⟨h1, h2⟩ => ⟨h1, h2.symm⟩)))
  go_wp2_with fail
  refine (CR.out _ (HR.out.only ((Only.refl _ _).drewN nq))).mono ?_
  rintro e1 w1 ⟨rfl, hR1, hO1⟩
  have HR1 := Lib.hid hR1
  have HO1 : Hid (Only (· = g) w w1) := Lib.hid (((Only.refl (· = g) w).drewN nq).trans hO1)
  have d2 : w1.cell? ⟨g, 2, none⟩ = some (.int .i64 (s.refuse e).fault) := hR1.blk.cell 2
  have d1 : w1.cell? ⟨g, 1, none⟩ = some (.int .i64 ((s.refuse e).at_ : Int)) := hR1.blk.cell 1
  have f1 := hR1.blk.frozen 1
  have hlt1 := hR1.blk.lt
  rw [refuse_at] at d1
  clear hR1 hO1 c0 c1 hlt
  by_cases hf : (s.refuse e).fault = 0
  · have hq : ((s.refuse e).fault != 0) = false := by simpa using hf
    have hz : s.fault = 0 ∧ e = 0 := by
      unfold RS.refuse at hf
      by_cases h0 : s.fault = 0
      · rw [if_pos h0] at hf
        exact ⟨h0, hf⟩
      · rw [if_neg h0] at hf
        exact absurd hf h0
    have hle2 := Hat.out hz.1 hz.2
    have HE : Hid (numR bs s k = (v, ⟨s.at_ + k, 0⟩)) := Lib.hid (by rw [HN.out, if_neg (by simp [hf])])
    have Hf := Lib.hid hf
    clear hf hz
    go_wp2
    go_ret
    exact ⟨by rw [HE.out]; rfl, by rw [HE.out]; exact HR1.out.set 1 _ _ (by simp [refuse_at, Hf.out]) hle2, HO1.out.setCell (p := ⟨g, 1, none⟩) (Or.inl rfl) _⟩
  · have hq : ((s.refuse e).fault != 0) = true := by simpa using hf
    have HE : Hid (numR bs s k = (0, s.refuse e)) := Lib.hid (by rw [HN.out, if_pos hf])
    clear hf
    go_wp2
    go_ret
    exact ⟨by rw [HE.out]; rfl, by rw [HE.out]; exact HR1.out, HO1.out⟩

theorem numR_two (bs : List UInt8) (s : RS) (k : Nat) (h : (numR bs s k).2.fault = 0) : k ≤ (numR bs s k).2.at_ := by
  unfold numR at *
  by_cases h0 : s.fault ≠ 0
  · rw [if_pos h0] at h
    exact absurd h h0
  · rw [if_neg h0] at *
    by_cases h1 : s.at_ + k ≤ bs.length
    · rw [if_pos h1] at *
      show k ≤ s.at_ + k
      omega
    · rw [if_neg h1] at h
      cases h

set_option maxHeartbeats 1000000 in
theorem prText_any (g : Nat) (A : Option Addr) (n cap : Nat) (bs : List UInt8) (s : RS) (w : World) (hR : RdP w g A n cap bs s) (hm : n ≤ 1048576) :
    Calls Try.prog 45 #[.pointer (some ⟨g, 0, none⟩)] w fun e w' => e = .returned (.string (strB (textR bs s).1)) ∧ RdP w' g A n cap bs (textR bs s).2 ∧ Only (· = g) w w' := by
  have hl := hR.bytes.1
  have hnc : n ≤ cap := hR.bytes.2.1
  have hcm : cap ≤ 9223372036854775807 := by have := hR.bytes.2.2.1; unfold maxLen at this; exact this
  have C := Lib.hid (prNumber_any g A n cap 2 bs s w hR (by omega) (by omega) hm)
  have hlt := numR_lt bs s 2
  have h2 := numR_two bs s 2
  obtain ⟨k, s1, hr⟩ : ∃ k s1, numR bs s 2 = (k, s1) := ⟨_, _, rfl⟩
  have hT : textR bs s = (if (if (n : Int) - s1.at_ < k then s1.refuse 6 else s1).fault ≠ 0 then ([], if (n : Int) - s1.at_ < k then s1.refuse 6 else s1) else ((bs.drop (if (n : Int) - s1.at_ < k then s1.refuse 6 else s1).at_).take k, ⟨(if (n : Int) - s1.at_ < k then s1.refuse 6 else s1).at_ + k, 0⟩)) := by
    unfold textR
    rw [hr, hl]
  rw [hr] at C hlt h2
  have hlt : k < 65536 := hlt
  have h2 : s1.fault = 0 → 2 ≤ s1.at_ := h2
  have CR : Hid (∀ W, RdP W g A n cap bs s1 → Calls Try.prog 37 #[.pointer (some ⟨g, 0, none⟩), .int .i64 6] W fun e1 w' => e1 = .returned (.tuple #[]) ∧ RdP w' g A n cap bs (s1.refuse 6) ∧ Only (· = g) W w') := Lib.hid (fun W h => refuse_any g A n cap bs s1 6 W h)
  have Hl := Lib.hid hl
  have H2 := Lib.hid h2
  clear hR hl h2 hr
  have hwk : IntKind.i64.wrap (k : Int) = (k : Int) := by rw [IntKind.wrap_i64]; omega
  go_enter Try.func45, Try.ntmps45
  go_wp2_with fail
  refine C.out.mono ?_
  rintro e w1 ⟨rfl, hR1, hO1⟩
  have HR1 := Lib.hid hR1
  have HO1 := Lib.hid hO1
  have hat : s1.at_ ≤ n := hR1.le
  have c0 : w1.cell? ⟨g, 0, none⟩ = some (.slice A n cap) := hR1.blk.cell 0
  have c1 : w1.cell? ⟨g, 1, none⟩ = some (.int .i64 (s1.at_ : Int)) := hR1.blk.cell 1
  have c2 : w1.cell? ⟨g, 2, none⟩ = some (.int .i64 s1.fault) := hR1.blk.cell 2
  have f1 := hR1.blk.frozen 1
  have hgl := hR1.blk.lt
  have hwd : IntKind.i64.wrap ((n : Int) - (s1.at_ : Int)) = (n : Int) - (s1.at_ : Int) := by rw [IntKind.wrap_i64]; omega
  clear hR1 hO1
  by_cases hgt : (n : Int) - (s1.at_ : Int) < (k : Int)
  · rw [if_pos hgt] at hT
    have hd : decide ((n : Int) - (s1.at_ : Int) < (k : Int)) = true := decide_eq_true hgt
    have hfl : (s1.refuse 6).fault ≠ 0 := by
      unfold RS.refuse
      by_cases h0 : s1.fault = 0
      · rw [if_pos h0]; exact (by decide : (6 : Int) ≠ 0)
      · rw [if_neg h0]; exact h0
    rw [if_pos hfl] at hT
    have HT := Lib.hid hT
    have hq : ((s1.refuse 6).fault != 0) = true := by simpa using hfl
    clear hT hgt hfl
    go_wp2
    go_quiet (fail)
    go_wp2_with fail
    refine (CR.out _ (HR1.out.only ((Only.refl _ _).drewN nq))).mono ?_
    rintro e1 w2 ⟨rfl, hR2, hO2⟩
    have HR2 := Lib.hid hR2
    have HO2 : Hid (Only (· = g) w w2) := Lib.hid ((HO1.out.drewN nq).trans hO2)
    have d2 : w2.cell? ⟨g, 2, none⟩ = some (.int .i64 (s1.refuse 6).fault) := hR2.blk.cell 2
    clear hR2 hO2 c0 c1 c2
    go_wp2
    go_ret
    exact ⟨by rw [HT.out]; rfl, by rw [HT.out]; exact HR2.out, HO2.out⟩
  · rw [if_neg hgt] at hT
    have hd : decide ((n : Int) - (s1.at_ : Int) < (k : Int)) = false := decide_eq_false hgt
    by_cases hf : s1.fault = 0
    · rw [if_neg (by simp [hf])] at hT
      have hq : (s1.fault != 0) = false := by simpa using hf
      have h2 := H2.out hf
      have HT := Lib.hid hT
      have Hf := Lib.hid hf
      have hsum : IntKind.i64.wrap ((s1.at_ : Int) + (k : Int)) = (s1.at_ : Int) + (k : Int) := by rw [IntKind.wrap_i64]; omega
      have hle2 : s1.at_ + k ≤ n := by omega
      have HR2 := Lib.hid (HR1.out.only ((Only.refl Empty w1).drewN 1))
      clear hT hf
      go_wp2
      go_quiet (fail)
      go_wp2_with fail
      obtain ⟨w2, hw2⟩ : ∃ w2, w2 = (w1.drewN nq).setCell ⟨g, 1, none⟩ (.int .i64 ((s1.at_ : Int) + (k : Int))) := ⟨_, rfl⟩
      have hR3 : RdP w2 g A n cap bs ⟨s1.at_ + k, 0⟩ := by
        rw [hw2]
        exact (HR1.out.only ((Only.refl Empty w1).drewN nq)).set 1 _ _ (by simp [Hf.out]) hle2
      have HO3 : Hid (Only (· = g) w w2) := Lib.hid (by rw [hw2]; exact (HO1.out.drewN nq).setCell (p := ⟨g, 1, none⟩) (Or.inl rfl) _)
      rw [← hw2]
      have HR3 := Lib.hid hR3
      have e0 : w2.cell? ⟨g, 0, none⟩ = some (.slice A n cap) := hR3.blk.cell 0
      have e1 : w2.cell? ⟨g, 1, none⟩ = some (.int .i64 ((s1.at_ + k : Nat) : Int)) := hR3.blk.cell 1
      have hsn : ((s1.at_ + k : Nat) : Int) = (s1.at_ : Int) + (k : Int) := by omega
      rw [hsn] at e1
      obtain ⟨ad, rfl, -, -, -⟩ := hR3.bytes.2.2.2 (by omega)
      have hgl2 := hR3.blk.lt
      have hBt : ByteSl w2 Empty (some (ad.add s1.at_)) k (cap - s1.at_) ((bs.drop s1.at_).take k) := ((hR3.bytes.mono (fun _ _ h => h.elim)).from_ s1.at_ hat (by omega)).take_ k (by omega)
      have hcv : ∀ m, (convert 23 9 (.slice (some (ad.add s1.at_)) k (cap - s1.at_))).run Try.prog (w2.drewN m) = .ok (.string (strB ((bs.drop s1.at_).take k))) (w2.drewN m) := fun m => conv_bytes (hBt.only ((Only.refl Empty w2).drewN m) (fun _ _ h => h))
      clear hw2 hR3 hBt c0 c1 c2 hgt f1 hgl
      have hsub : s1.at_ + k - s1.at_ = k := by omega
      have htn : ((s1.at_ : Int) + (k : Int)).toNat = s1.at_ + k := by omega
      have hi1 : (s1.at_ : Int) + (k : Int) ≤ (cap : Int) := by omega
      have hi2 : (s1.at_ : Int) ≤ (s1.at_ : Int) + (k : Int) := by omega
      by_cases hcap : cap = s1.at_
      · obtain rfl : k = 0 := by omega
        have hcv0 : ∀ m, (convert 23 9 (.slice (some ad) 0 0)).run Try.prog (w2.drewN m) = .ok (.string (strB [])) (w2.drewN m) := fun m => conv_bytes (S := Empty) (ByteSl.nil_ _ _ _ _ (by unfold maxLen; omega))
        have HT2 : Hid (textR bs s = ([], ⟨s1.at_ + 0, 0⟩)) := Lib.hid (by rw [HT.out, List.take_zero])
        have hcs : cap - s1.at_ = 0 := by omega
        have hi4 : (s1.at_ : Int).toNat = s1.at_ := by omega
        have hi5 : (s1.at_ : Int) ≤ (cap : Int) := by omega
        have hcs2 : s1.at_ - s1.at_ = 0 := by omega
        go_quiet (fail)
        go_wp2
        go_ret
        exact ⟨by rw [HT2.out]; rfl, by rw [HT2.out]; exact HR3.out.only ((Only.refl _ _).drewN nq), HO3.out.drewN nq⟩
      · go_quiet (fail)
        go_wp2
        go_ret
        exact ⟨by rw [HT.out]; rfl, by rw [HT.out]; exact HR3.out.only ((Only.refl _ _).drewN nq), HO3.out.drewN nq⟩
    · rw [if_pos hf] at hT
      have hq : (s1.fault != 0) = true := by simpa using hf
      have HT := Lib.hid hT
      clear hT hf hgt
      go_wp2
      go_quiet (fail)
      go_wp2
      go_ret
      exact ⟨by rw [HT.out]; rfl, by rw [HT.out]; exact HR1.out.only ((Only.refl _ _).drewN nq), HO1.out.drewN nq⟩

end Go.Proofs.Ytinkjeifkjfkgaa
