/- The walks over klass's reader: number, bytes, pool. -/
import Derived.Test.YtendpbklcgiafaaZao
import Derived.Test.YtendpbklcgiafaaZan
namespace Go.Proofs.Ytendpbklcgiafaa
set_option maxRecDepth 100000
open Go.RowKit

/-- A reader as it lies. -/
structure RdB (c : Cx) (w : World) (g : Nat) (S : Nat → Prop) (N : Nat) (s : Option (List UInt8)) (A : Option Addr) (n cap : Nat) (bs : List UInt8) (e : Int) (i : Nat) : Prop where
  pass : PassAt c w g S N s
  rd : c.m = .rd A n cap bs
  blk : Blk w g 62 #[.int .i64 e, .slice A n cap, .int .i64 (i : Int)]
  bytes : ByteSl w c.X A n cap bs
  small : n ≤ 1048576
  le : i ≤ n
  e068 : (e = 0 ∨ e = 6 ∨ e = 8) ∧ (n = 0 → e ≠ 8)
  st : s = (if e = 0 then some (bs.drop i) else none)
  S_iff : ∀ q, S q ↔ q = g
section
variable {c : Cx} {w w2 : World} {g : Nat} {S : Nat → Prop} {N N' : Nat} {s : Option (List UInt8)} {A : Option Addr} {n cap : Nat} {bs : List UInt8}
theorem PassAt.rd_raw (h : PassAt c w g S N s) (hm : c.m = .rd A n cap bs) : ∃ e i, RdB c w g S N s A n cap bs e i := by
  have ha := h.at_
  unfold Stands at ha
  rw [hm] at ha
  obtain ⟨e, i, h1, h2, h3, h4, h5, h6, h7⟩ := ha
  exact ⟨e, i, h, hm, h1, h2, h3, h4, h5, h6, h7⟩
theorem PassAt.rd_some {r : List UInt8} (h : PassAt c w g S N (some r)) (hm : c.m = .rd A n cap bs) : ∃ i, RdB c w g S N (some r) A n cap bs 0 i ∧ r = bs.drop i := by
  obtain ⟨e, i, hB⟩ := h.rd_raw hm
  have hst := hB.st
  by_cases he : e = 0
  · subst he
    rw [if_pos rfl] at hst
    exact ⟨i, hB, Option.some.inj hst⟩
  · rw [if_neg he] at hst
    cases hst
theorem RdB.move {e : Int} {i : Nat} (h : RdB c w g S N s A n cap bs e i) (i' : Nat) (hi : i' ≤ n) : PassAt c (w.setCell ⟨g, 2, none⟩ (.int .i64 (i' : Int))) g S N (if e = 0 then some (bs.drop i') else none) ∧ Only S w (w.setCell ⟨g, 2, none⟩ (.int .i64 (i' : Int))) := by
  have hO : Only (· = g) w (w.setCell ⟨g, 2, none⟩ (.int .i64 (i' : Int))) := (Only.refl (· = g) w).setCell (p := ⟨g, 2, none⟩) (Or.inl rfl) _
  have hgX := h.pass.inX g h.pass.here
  refine ⟨⟨fun q hq => Nat.lt_of_lt_of_le (h.pass.lt q hq) hO.size, h.pass.inX, fun q hq => h.pass.new q (Nat.le_trans hO.size hq), h.pass.pool.only hO (fun q _ e => e ▸ hgX), h.pass.small, h.pass.here, ?_⟩, hO.mono (fun q _ e => e ▸ h.pass.here)⟩
  unfold Stands
  rw [h.rd]
  exact ⟨e, i', h.blk.set_ 2 _, h.bytes.only hO (fun q _ e => e ▸ hgX), h.small, hi, h.e068, rfl, h.S_iff⟩
end
theorem drop_inj {n i j : Nat} {bs : List UInt8} (hl : bs.length = n) (hi : i ≤ n) (hj : j ≤ n) (h : bs.drop i = bs.drop j) : i = j := by
  have := congrArg List.length h
  simp at this
  omega

section
variable {c : Cx} {w : World} {g b off : Nat} {S : Nat → Prop} {N : Nat} {s : Option (List UInt8)} {A : Option Addr} {n cap : Nat} {bs : List UInt8}
/-- One cell of a target is written. -/
theorem Tgt.set1 {w1 : World} {v u : Value} (h : Tgt c w1 b off [v]) (hr : c.m.isRd = true) : Tgt c (w1.setCell ⟨b, off, none⟩ u) b off [u] ∧ Only (· = b) w1 (w1.setCell ⟨b, off, none⟩ u) ∧ ∀ o, o ≠ off → (w1.setCell ⟨b, off, none⟩ u).cell? ⟨b, o, none⟩ = w1.cell? ⟨b, o, none⟩ := by
  obtain ⟨hX, t, all, hB⟩ := h.rd hr
  have hO : Only (· = b) w1 (w1.setCell ⟨b, off, none⟩ u) := (Only.refl (· = b) w1).setCell (p := ⟨b, off, none⟩) (Or.inl rfl) _
  have h0 := h.cell 0 _ rfl
  rw [Nat.add_zero, hB.cell] at h0
  have hlt := (Array.getElem?_eq_some_iff.1 h0).1
  refine ⟨⟨Nat.lt_of_lt_of_le h.lt hO.size, fun i v hv => ?_, fun _ => ⟨hX, t, _, hB.set_ off u⟩⟩, hO, fun o ho => ?_⟩
  · match i, hv with
    | 0, hv =>
      rw [Nat.add_zero, (hB.set_ off u).cell]
      simp [hlt]
      simpa using hv
  · rw [(hB.set_ off u).cell, hB.cell]
    simp [Array.getElem?_setIfInBounds, Ne.symm ho]

/-- What number leaves, of whichever pass. -/
def Numbered (c : Cx) (w : World) (g : Nat) (S : Nat → Prop) (N : Nat) (s : Option (List UInt8)) (b off k : Nat) (x : Int) (e1 : Ending) (w' : World) : Prop :=
  e1 = .returned (.tuple #[]) ∧ ∃ S' s' x', Done c w g S b off 1 w' S' N s' ∧ Tgt c w' b off [.int .i64 x'] ∧ NumS c.m.isRd k s x s' x'

set_option maxHeartbeats 2000000 in
theorem krNumber_any (hm : c.m = .rd A n cap bs) (hP : PassAt c w g S N s) (x : Int) (k : Nat) (hb : ¬ S b) (hT : Tgt c w b off [.int .i64 x]) (h1 : 1 ≤ k) (h2 : k ≤ 4) :
    Calls Try.prog 105 #[.pointer (some ⟨g, 0, none⟩), .pointer (some ⟨b, off, none⟩), .int .i64 (k : Int)] w (Numbered c w g S N s b off k x) := by
  have hr : c.m.isRd = true := by rw [hm]; rfl
  obtain ⟨e, i, hA⟩ := hP.rd_raw hm
  have hl := hA.bytes.1
  have hle := hA.le
  have hsm := hA.small
  have hn : n ≤ 9223372036854775807 := by omega
  obtain ⟨X, hX⟩ : ∃ X : Int, X = if i + k ≤ n then 0 else 6 := ⟨_, rfl⟩
  obtain ⟨V, hV⟩ : ∃ V : Nat, V = if i + k ≤ n then getV ((bs.drop i).take k) else 0 := ⟨_, rfl⟩
  have hVb : V ≤ 4294967295 := by
    rw [hV]
    split
    · have h3 := getV_lt ((bs.drop i).take k)
      have h4 : 256 ^ ((bs.drop i).take k).length ≤ 256 ^ 4 := Nat.pow_le_pow_right (by omega) (by rw [List.length_take]; omega)
      have : (256 : Nat) ^ 4 = 4294967296 := by decide
      omega
    · omega
  have HG : Hid (∀ m, Calls Try.prog 107 #[.slice A n cap, .int .i64 (i : Int), .int .i64 (k : Int)] (w.drewN m) fun e w' => e = .returned (.tuple #[.int .u64 (V : Int), .int .i64 X]) ∧ w.drewN m = w') := Lib.hid (fun m => by
    have hBm : ByteSl (w.drewN m) Empty A n cap bs := (hA.bytes.mono (fun _ _ h => h.elim)).only ((Only.refl Empty w).drewN m) (fun _ _ h => h)
    by_cases h : i + k ≤ n
    · rw [hV, hX, if_pos h, if_pos h]
      exact get_yes A n cap i k bs _ hBm h1 (by omega) hsm h
    · rw [hV, hX, if_neg h, if_neg h]
      exact get_short A n cap i k _ (by omega) (by omega) (by omega) (.inr (by omega)))
  have c1 : w.cell? ⟨g, 1, none⟩ = some (.slice A n cap) := hA.blk.cell 1
  have c2 : w.cell? ⟨g, 2, none⟩ = some (.int .i64 (i : Int)) := hA.blk.cell 2
  have hlt := hA.blk.lt
  have hw : IntKind.i64.wrap (V : Int) = (V : Int) := IntWalk.i64_in _ (by omega)
  have hX06 : X = 0 ∨ X = 6 := by rw [hX]; split; exact .inl rfl; exact .inr rfl
  have HX := Lib.hid hX
  have HV := Lib.hid hV
  have HA := Lib.hid hA
  have HT := Lib.hid hT
  have Hb := Lib.hid hb
  have HR : Hid (c.m.isRd = true) := Lib.hid hr
  have HM := Lib.hid hm
  have HX06 := Lib.hid hX06
  have Hl := Lib.hid hl
  clear hP hX hV hA hT hb hr hm hX06 hl
  go_enter Try.func105, Try.ntmps105
  go_wp2
  go_quiet ((go_at_call 107; exact Calls.quiet_of_same ((HG.out _).mono fun _ _ ⟨h1, h2⟩ => ⟨h1, h2.symm⟩)))
  have hE0 : Only Empty w (w.drewN nq) := (Only.refl Empty w).drewN nq
  go_wp2_with fail
  refine (refuse_k (HA.out.pass.only hE0 (fun _ _ h => h.elim) (fun _ _ h => h.elim)) X (HX06.out.imp id (fun h => .inr ⟨HR.out, h⟩)) (fun _ h8 => by have := HX06.out; omega)).mono ?_
  rintro e1 w1 ⟨rfl, hP1, hO1⟩
  have HO1 : Hid (Only S w w1) := Lib.hid ((hE0.mono (fun _ _ h => h.elim)).trans hO1)
  have HP1 := Lib.hid hP1
  clear hE0 hP1 hO1 c1 c2 hlt
  go_wp2_with fail
  refine (goesOn_any HP1.out).mono ?_
  rintro e2 w2 ⟨rfl, rfl⟩
  have HT1 : Hid (Tgt c w1 b off [.int .i64 x]) := Lib.hid (HT.out.only HO1.out Hb.out)
  by_cases hs : X = 0 ∧ ∃ r, s = some r
  · obtain ⟨hx0, r, hs⟩ := hs
    subst hx0
    have hik : i + k ≤ n := by
      have h := HX.out
      by_cases h0 : i + k ≤ n
      · exact h0
      · rw [if_neg h0] at h; cases h
    have hVk := HV.out
    rw [if_pos hik] at hVk
    have HVk := Lib.hid hVk
    have hst := HA.out.st
    have he0 : e = 0 := Decidable.byContradiction fun he => by rw [if_neg he, hs] at hst; cases hst
    rw [if_pos he0] at hst
    have hP1 := HP1.out
    rw [if_pos rfl, hst] at hP1
    obtain ⟨i', hB1, hd⟩ := hP1.rd_some HM.out
    have hii : i = i' := drop_inj Hl.out hle hB1.le hd
    subst hii
    have hsS : (if (0 : Int) = 0 then s else none).isSome = true := by rw [if_pos rfl, hs]; rfl
    obtain ⟨hT2, hO2, hr2⟩ := HT1.out.set1 (u := .int .i64 (V : Int)) HR.out
    obtain ⟨hXb, t, all, hBb⟩ := HT1.out.rd HR.out
    have hbf := hBb.frozen off
    have hblt := hBb.lt
    have hb0 : (w1.cell? ⟨b, off, none⟩).isSome = true := by have := HT1.out.cell 0 _ rfl; rw [Nat.add_zero] at this; rw [this]; rfl
    have hbc : w1.cell? ⟨b, off, none⟩ = some (.int .i64 x) := by have := HT1.out.cell 0 _ rfl; rwa [Nat.add_zero] at this
    have hgb : g ≠ b := fun h => Hb.out (h ▸ hB1.pass.here)
    have hB2 : RdB c (w1.setCell ⟨b, off, none⟩ (.int .i64 (V : Int))) g S N (some (bs.drop i)) A n cap bs 0 i :=
      ⟨hB1.pass.only hO2 (fun q _ h hq => Hb.out (h ▸ hq)) (fun q _ h => h ▸ hXb), hB1.rd, hO2.blk hB1.blk hgb, hB1.bytes.only hO2 (fun q _ h => h ▸ hXb), hB1.small, hB1.le, hB1.e068, hB1.st, hB1.S_iff⟩
    obtain ⟨hP3, hO3⟩ := hB2.move (i + k) hik
    have d2 : (w1.setCell ⟨b, off, none⟩ (.int .i64 (V : Int))).cell? ⟨g, 2, none⟩ = some (.int .i64 (i : Int)) := hB2.blk.cell 2
    have f2 := hB2.blk.frozen 2
    have hg2 := hB2.blk.lt
    rw [if_pos rfl] at hP3
    rw [Int.natCast_add] at hP3 hO3
    have HP3 := Lib.hid hP3
    have HO3 := Lib.hid hO3
    have HT2 := Lib.hid hT2
    have HO2 := Lib.hid hO2
    have Hr2 := Lib.hid hr2
    have HST : Hid (s = some (bs.drop i)) := Lib.hid hst
    clear hst hs hd hB1 hB2 hP1 hP3 hO3 hT2 hO2 hr2 hXb hBb hVk he0
    rw [hsS]
    clear hsS
    go_wp2
    go_end0
    refine ⟨rfl, S, some (bs.drop (i + k)), (V : Int), ⟨HP3.out, fun _ h => .inl h, ?_, fun o ho => ?_⟩, HT2.out.only HO3.out Hb.out, ?_⟩
    · exact (HO1.out.mono (fun _ _ h => .inl h)).trans ((HO2.out.mono (fun q _ h => .inr ⟨HR.out, h⟩)).trans (HO3.out.mono (fun _ _ h => .inl h)))
    · rw [HO3.out.cell (p := ⟨b, o, none⟩) (Nat.lt_of_lt_of_le (Nat.lt_of_lt_of_le HT.out.lt HO1.out.size) HO2.out.size) Hb.out, Hr2.out o (by omega)]
      exact HO1.out.cell (p := ⟨b, o, none⟩) HT.out.lt Hb.out
    · rw [HR.out, HST.out]
      refine .inl ⟨by rw [List.length_drop, Hl.out]; omega, ?_, ?_⟩
      · rw [HVk.out]
      · rw [List.drop_drop]
  · have hsn : (if X = 0 then s else none) = none := by
      by_cases hx : X = 0
      · rw [if_pos hx]
        cases s with
        | none => rfl
        | some r => exact absurd ⟨hx, r, rfl⟩ hs
      · rw [if_neg hx]
    have hsS : (if X = 0 then s else none).isSome = false := by rw [hsn]; rfl
    have HSn := Lib.hid hsn
    have Hs := Lib.hid hs
    rw [hsS]
    clear hsS hsn hs
    go_wp2
    go_end0
    refine ⟨rfl, S, none, x, Done.own (by have := HP1.out; rwa [HSn.out] at this) (fun _ h => .inl h) HO1.out b off 1 Hb.out HT.out.lt, HT1.out, ?_⟩
    rw [HR.out]
    have hst := HA.out.st
    by_cases he : e = 0
    · rw [if_pos he] at hst
      rw [hst]
      refine .inr ⟨?_, rfl, rfl⟩
      rw [List.length_drop, Hl.out]
      have hx0 : X ≠ 0 := fun h => Hs.out ⟨h, _, hst⟩
      have h := HX.out
      by_cases h0 : i + k ≤ n
      · rw [if_pos h0] at h; exact absurd h hx0
      · omega
    · rw [if_neg he] at hst
      rw [hst]
      exact ⟨rfl, rfl⟩

theorem ByteSl.mid_ {w : World} {S : Nat → Prop} {ad : Addr} {n cap : Nat} {xs : List UInt8} (h : ByteSl w S (some ad) n cap xs) (a k : Nat) (hk : a + k ≤ n) : ByteSl w S (some (ad.add a)) k (cap - a) ((xs.drop a).take k) := by
  refine ⟨by rw [List.length_take, List.length_drop]; have := h.1; omega, by have := h.2.1; omega, by have := h.2.2.1; omega, fun h0 => ?_⟩
  obtain ⟨ad', e, hb, hs, hc⟩ := h.2.2.2 (by omega)
  cases e
  refine ⟨ad.add a, rfl, by rw [addr_add_block]; exact hb, by rw [addr_add_block]; exact hs, fun j x hx => ?_⟩
  rw [add_add]
  refine hc _ x ?_
  rw [List.getElem?_take] at hx
  split at hx
  · rw [List.getElem?_drop] at hx
    exact hx
  · cases hx

/-- What a reader's bytes leaves. -/
def Bytesd (c : Cx) (w : World) (g : Nat) (S : Nat → Prop) (N : Nat) (r : List UInt8) (b off k : Nat) (v0 : Value) (e1 : Ending) (w' : World) : Prop :=
  e1 = .returned (.tuple #[]) ∧ ((k ≤ r.length ∧ Done c w g S b off 1 w' S N (some (r.drop k)) ∧ ∃ cs, Tgt c w' b off cs ∧ bytesT.rep w' (Zn c S w.heap.size) cs (r.take k)) ∨ (r.length < k ∧ Done c w g S b off 1 w' S N none ∧ Tgt c w' b off [v0]))

set_option maxHeartbeats 2000000 in
theorem krBytes_any (hm : c.m = .rd A n cap bs) {r : List UInt8} (hP : PassAt c w g S N (some r)) (v0 : Value) (k : Nat) (hb : ¬ S b) (hT : Tgt c w b off [v0]) (h1 : 1 ≤ k) (h2 : k ≤ 1000000) :
    Calls Try.prog 104 #[.pointer (some ⟨g, 0, none⟩), .pointer (some ⟨b, off, none⟩), .int .i64 (k : Int)] w (Bytesd c w g S N r b off k v0) := by
  have hr : c.m.isRd = true := by rw [hm]; rfl
  obtain ⟨i, hA, hri⟩ := hP.rd_some hm
  have hl := hA.bytes.1
  have hle := hA.le
  have hsm := hA.small
  have hnc : n ≤ cap := hA.bytes.2.1
  have hcm : cap ≤ 9223372036854775807 := by have := hA.bytes.2.2.1; unfold maxLen at this; exact this
  have hrl : r.length = n - i := by rw [hri, List.length_drop, hl]
  have c1 : w.cell? ⟨g, 1, none⟩ = some (.slice A n cap) := hA.blk.cell 1
  have c2 : w.cell? ⟨g, 2, none⟩ = some (.int .i64 (i : Int)) := hA.blk.cell 2
  have hwd : IntKind.i64.wrap ((n : Int) - (i : Int)) = (n : Int) - (i : Int) := by rw [IntKind.wrap_i64]; omega
  have HA := Lib.hid hA
  have HT := Lib.hid hT
  have Hb := Lib.hid hb
  have HR : Hid (c.m.isRd = true) := Lib.hid hr
  have HM := Lib.hid hm
  have Hl := Lib.hid hl
  have Hri := Lib.hid hri
  have Hrl := Lib.hid hrl
  have hb0 : (w.cell? ⟨b, off, none⟩).isSome = true := by have := hT.cell 0 _ rfl; rw [Nat.add_zero] at this; rw [this]; rfl
  clear hP hA hT hb hr hm hl hri hrl
  by_cases hgt : (n : Int) - (i : Int) < (k : Int)
  · have hd : decide ((n : Int) - (i : Int) < (k : Int)) = true := decide_eq_true hgt
    have Hgt := Lib.hid hgt
    clear hgt
    go_enter Try.func104, Try.ntmps104
    go_wp2
    go_quiet (fail)
    have hE0 : Only Empty w (w.drewN nq) := (Only.refl Empty w).drewN nq
    go_wp2_with fail
    refine (refuse_k (HA.out.pass.only hE0 (fun _ _ h => h.elim) (fun _ _ h => h.elim)) 6 (.inr (.inr ⟨HR.out, rfl⟩)) (fun _ => by decide)).mono ?_
    rintro e1 w1 ⟨rfl, hP1, hO1⟩
    rw [if_neg (by decide)] at hP1
    have HO1 : Hid (Only S w w1) := Lib.hid ((hE0.mono (fun _ _ h => h.elim)).trans hO1)
    have HP1 := Lib.hid hP1
    clear hE0 hP1 hO1 c1 c2 hb0
    go_wp2_with fail
    refine (goesOn_any HP1.out).mono ?_
    rintro e2 w2 ⟨rfl, rfl⟩
    go_wp2
    go_end0
    exact ⟨rfl, .inr ⟨by have := Hrl.out; have := Hgt.out; omega, Done.own HP1.out (fun _ h => .inl h) HO1.out b off 1 Hb.out HT.out.lt, HT.out.only HO1.out Hb.out⟩⟩
  · have hd : decide ((n : Int) - (i : Int) < (k : Int)) = false := decide_eq_false hgt
    have hle2 : i + k ≤ n := by omega
    have hsum : IntKind.i64.wrap ((i : Int) + (k : Int)) = (i : Int) + (k : Int) := by rw [IntKind.wrap_i64]; omega
    clear hgt
    go_enter Try.func104, Try.ntmps104
    go_wp2
    go_quiet (fail)
    have hE0 : Only Empty w (w.drewN nq) := (Only.refl Empty w).drewN nq
    have HA0 : Hid (RdB c (w.drewN nq) g S N (some r) A n cap bs 0 i) := Lib.hid ⟨HA.out.pass.only hE0 (fun _ _ h => h.elim) (fun _ _ h => h.elim), HA.out.rd, hE0.blk HA.out.blk (fun h => h), HA.out.bytes.only hE0 (fun _ _ h => h.elim), HA.out.small, HA.out.le, HA.out.e068, HA.out.st, HA.out.S_iff⟩
    go_wp2_with fail
    refine (goesOn_any HA0.out.pass).mono ?_
    rintro e2 w2 ⟨rfl, rfl⟩
    obtain ⟨hP3, hO3⟩ := HA0.out.move (i + k) hle2
    have f2 := HA0.out.blk.frozen 2
    have hg2 := HA0.out.blk.lt
    rw [if_pos rfl] at hP3
    rw [Int.natCast_add] at hP3 hO3
    obtain ⟨w3, hw3⟩ : ∃ w3, w3 = (w.drewN nq).setCell ⟨g, 2, none⟩ (.int .i64 ((i : Int) + (k : Int))) := ⟨_, rfl⟩
    rw [← hw3] at hP3 hO3
    have HW3 := Lib.hid hw3
    clear hw3
    obtain ⟨i3, hA3, hri3⟩ := hP3.rd_some HM.out
    have hii : i + k = i3 := drop_inj Hl.out hle2 hA3.le hri3
    subst hii
    have HO3 : Hid (Only S w w3) := Lib.hid ((hE0.mono (fun _ _ h => h.elim)).trans hO3)
    have HA3 := Lib.hid hA3
    have d1 : w3.cell? ⟨g, 1, none⟩ = some (.slice A n cap) := hA3.blk.cell 1
    have d2 : w3.cell? ⟨g, 2, none⟩ = some (.int .i64 ((i : Int) + (k : Int))) := by have := hA3.blk.cell 2; rw [Int.natCast_add] at this; exact this
    obtain ⟨ad, rfl, -, -, -⟩ := hA3.bytes.2.2.2 (by omega)
    have HT3 : Hid (Tgt c w3 b off [v0]) := Lib.hid (HT.out.only HO3.out Hb.out)
    have hBt : ByteSl w3 Empty (some (ad.add i)) k (cap - i) ((bs.drop i).take k) := (hA3.bytes.mono (fun _ _ h => h.elim)).mid_ i k hle2
    have HBt := Lib.hid hBt
    obtain ⟨hXb, t, all, hBb⟩ := HT3.out.rd HR.out
    have HXb := Lib.hid hXb
    have HBb := Lib.hid hBb
    have hgb : g ≠ b := fun h => Hb.out (h ▸ hA3.pass.here)
    have Hgb := Lib.hid hgb
    clear hP3 hO3 hA3 hri3 hBt hXb hBb hgb hE0 c1 hb0
    have hsub : i + k - i = k := by omega
    have htn : ((i : Int) + (k : Int)).toNat = i + k := by omega
    have hi1 : (i : Int) + (k : Int) ≤ (cap : Int) := by omega
    have hi2 : (i : Int) ≤ (i : Int) + (k : Int) := by omega
    have hcap : ¬ cap = i := by omega
    go_wp2_with fail
    rw [← HW3.out]
    clear c2 f2 hg2
    refine wp_region_held_drew (S := fun W => W.cell? ⟨g, 1, none⟩ = some (.slice (some ad) n cap) ∧ W.cell? ⟨g, 2, none⟩ = some (.int .i64 ((i : Int) + (k : Int)))) (by kernel_rfl) ⟨d1, d2⟩ (fun hHeld0 => ?_)
    refine take_yes 0 40 ?_ rfl rfl (by kernel_rfl) (by kernel_rfl) (by kernel_rfl) (fun _ _ _ h => h) (by kernel_rfl) ?_ (by assumption) ?_; rotate_left; (focus (intro w hSw; (try dsimp only at hSw); go_simp; all_goals first | with_reducible rfl)); simp only [Act.put, List.setIfInBounds_toArray, List.set_cons_zero, List.set_cons_succ]
    refine take_yes 1 41 ?_ rfl rfl (by kernel_rfl) (by kernel_rfl) (by kernel_rfl) (fun _ _ _ h => h) (by kernel_rfl) ?_ (by assumption) ?_; rotate_left; (focus (intro w hSw; (try dsimp only at hSw); go_simp; all_goals first | with_reducible rfl)); simp only [Act.put, List.setIfInBounds_toArray, List.set_cons_zero, List.set_cons_succ]
    refine take_yes 2 42 ?_ rfl rfl (by kernel_rfl) (by kernel_rfl) (by kernel_rfl) (fun _ _ _ h => h) (by kernel_rfl) ?_ (by assumption) ?_; rotate_left; (focus (intro w hSw; (try dsimp only at hSw); go_simp; all_goals first | with_reducible rfl)); simp only [Act.put, List.setIfInBounds_toArray, List.set_cons_zero, List.set_cons_succ]
    refine take_yes 3 43 ?_ rfl rfl (by kernel_rfl) (by kernel_rfl) (by kernel_rfl) (fun _ _ _ h => h) (by kernel_rfl) ?_ (by assumption) ?_; rotate_left; (focus (intro w hSw; (try dsimp only at hSw); go_simp; all_goals first | with_reducible rfl)); simp only [Act.put, List.setIfInBounds_toArray, List.set_cons_zero, List.set_cons_succ]
    refine take_yes 4 44 (.slice (some ad) n cap) rfl rfl (by kernel_rfl) (by kernel_rfl) (by kernel_rfl) (fun _ _ _ h => h) (by kernel_rfl) ?_ (by assumption) ?_; (focus (intro w hSw; (try dsimp only at hSw); go_simp; all_goals first | with_reducible rfl)); simp only [Act.put, List.setIfInBounds_toArray, List.set_cons_zero, List.set_cons_succ]
    refine take_yes 5 45 ?_ rfl rfl (by kernel_rfl) (by kernel_rfl) (by kernel_rfl) (fun _ _ _ h => h) (by kernel_rfl) ?_ (by assumption) ?_; rotate_left; (focus (intro w hSw; (try dsimp only at hSw); go_simp; all_goals first | with_reducible rfl)); simp only [Act.put, List.setIfInBounds_toArray, List.set_cons_zero, List.set_cons_succ]
    refine take_yes 6 46 ?_ rfl rfl (by kernel_rfl) (by kernel_rfl) (by kernel_rfl) (fun _ _ _ h => h) (by kernel_rfl) ?_ (by assumption) ?_; rotate_left; (focus (intro w hSw; (try dsimp only at hSw); go_simp; all_goals first | with_reducible rfl)); simp only [Act.put, List.setIfInBounds_toArray, List.set_cons_zero, List.set_cons_succ]
    refine take_yes 7 47 ?_ rfl rfl (by kernel_rfl) (by kernel_rfl) (by kernel_rfl) (fun _ _ _ h => h) (by kernel_rfl) ?_ (by assumption) ?_; rotate_left; (focus (intro w hSw; (try dsimp only at hSw); go_simp; all_goals first | with_reducible rfl)); simp only [Act.put, List.setIfInBounds_toArray, List.set_cons_zero, List.set_cons_succ]
    refine take_yes 8 48 ?_ rfl rfl (by kernel_rfl) (by kernel_rfl) (by kernel_rfl) (fun _ _ _ h => h) (by kernel_rfl) ?_ (by assumption) ?_; rotate_left; (focus (intro w hSw; (try dsimp only at hSw); go_simp; all_goals first | with_reducible rfl)); simp only [Act.put, List.setIfInBounds_toArray, List.set_cons_zero, List.set_cons_succ]
    refine take_yes 9 49 (.int .i64 ((i : Int) + (k : Int))) rfl rfl (by kernel_rfl) (by kernel_rfl) (by kernel_rfl) (fun _ _ _ h => h) (by kernel_rfl) ?_ (by assumption) ?_; (focus (intro w hSw; (try dsimp only at hSw); go_simp; all_goals first | with_reducible rfl)); simp only [Act.put, List.setIfInBounds_toArray, List.set_cons_zero, List.set_cons_succ]
    refine take_yes 10 50 (.slice (some (ad.add i)) k (cap - i)) rfl rfl (by kernel_rfl) (by kernel_rfl) (by kernel_rfl) (fun _ _ _ h => h) (by kernel_rfl) ?_ (by assumption) ?_; (focus (intro w hSw; (try dsimp only at hSw); go_simp; all_goals first | with_reducible rfl)); simp only [Act.put, List.setIfInBounds_toArray, List.set_cons_zero, List.set_cons_succ]
    refine wpAnyH_ready (rs := [11]) (by kernel_rfl) (by simp) ?_
    refine AllReadyH.cons rfl (fun K hK => ?_) AllReadyH.nil
    obtain ⟨v', w4, hrun, hown, hgr, hnb⟩ := run_append_bytes_at (w := w3.drew) 31 w3.drew.heap.size (.slice none 0 0) 0 [] (World.ownsRow_nil _ _ _ _) (some (ad.add i)) k (cap - i) ((bs.drop i).take k) Empty (HBt.out.only ((Only.refl Empty w3).drew) (fun _ _ h => h)) (fun h => by cases h) (by omega) (Nat.le_refl _)
    rw [Nat.zero_add, List.nil_append] at hown
    obtain ⟨B', c', rfl, hB4, hg4⟩ := ByteSl.of_own (S := Zn c S w.heap.size) hown (fun q hq _ hz => by
      have hq : w3.heap.size ≤ q := hq
      rcases hz with hz | ⟨-, hz⟩
      · have := HA3.out.pass.lt q hz; omega
      · have := HO3.out.size; omega)
    have hO4 : Only Empty w3 w4 := ((Only.refl Empty w3).drew).trans (Only.of_grown hgr (fun q e _ => by cases e))
    have e1_4 : w4.cell? ⟨g, 1, none⟩ = some (.slice (some ad) n cap) := (hO4.cell (p := ⟨g, 1, none⟩) HA3.out.blk.lt (fun h => h)).trans d1
    have e2_4 : w4.cell? ⟨g, 2, none⟩ = some (.int .i64 ((i : Int) + (k : Int))) := (hO4.cell (p := ⟨g, 2, none⟩) HA3.out.blk.lt (fun h => h)).trans d2
    have HT4 : Hid (Tgt c w4 b off [v0]) := Lib.hid (HT3.out.only hO4 (fun h => h))
    obtain ⟨hT5, hO5, hr5⟩ := HT4.out.set1 (u := .slice B' k c') HR.out
    have hBb4 := hO4.blk HBb.out (fun h => h)
    have hbf := hBb4.frozen off
    have hblt := hBb4.lt
    have hb04 : w4.cell? ⟨b, off, none⟩ = some v0 := by have := HT4.out.cell 0 _ rfl; rwa [Nat.add_zero] at this
    have e1_5 : (w4.setCell ⟨b, off, none⟩ (.slice B' k c')).cell? ⟨g, 1, none⟩ = some (.slice (some ad) n cap) := (hO5.cell (p := ⟨g, 1, none⟩) (Nat.lt_of_lt_of_le HA3.out.blk.lt hO4.size) Hgb.out).trans e1_4
    have e2_5 : (w4.setCell ⟨b, off, none⟩ (.slice B' k c')).cell? ⟨g, 2, none⟩ = some (.int .i64 ((i : Int) + (k : Int))) := (hO5.cell (p := ⟨g, 2, none⟩) (Nat.lt_of_lt_of_le HA3.out.blk.lt hO4.size) Hgb.out).trans e2_4
    have HT5 := Lib.hid hT5
    have HO5 := Lib.hid hO5
    have Hr5 := Lib.hid hr5
    have HO4 := Lib.hid hO4
    have HB4 := Lib.hid hB4
    have HG4 := Lib.hid hg4
    have HRun := Lib.hid hrun
    clear hT5 hO5 hr5 hO4 hBb4 hB4 hg4 hgr hnb hown hrun
    refine step_append_eq (ts := 31) rfl (.const (.slice none 0 0)) (.tmp 50) rfl rfl rfl rfl HRun.out ?_
    refine hK.out _ _ (⟨e1_4, e2_4⟩) (fun _ => ?_)
    clear hK K
    try simp only [Act.put, List.setIfInBounds_toArray, List.set_cons_zero, List.set_cons_succ]
    refine take_yes 12 52 ?_ rfl rfl (by kernel_rfl) (by kernel_rfl) (by kernel_rfl) (fun _ _ _ h => h) (by kernel_rfl) ?_ (by assumption) ?_; rotate_left; (focus (intro w hSw; (try dsimp only at hSw); go_simp; all_goals first | with_reducible rfl)); simp only [Act.put, List.setIfInBounds_toArray, List.set_cons_zero, List.set_cons_succ]
    refine wpAnyH_ready (rs := [13]) (by kernel_rfl) (by simp) ?_
    refine AllReadyH.cons rfl (fun K hK => ?_) AllReadyH.nil
    go_simp
    refine hK.out _ _ (⟨e1_5, e2_5⟩) (fun _ => ?_)
    clear hK K
    try simp only [Act.put, List.setIfInBounds_toArray, List.set_cons_zero, List.set_cons_succ]
    refine wpAnyH_done (by kernel_rfl) ?_ _
    go_wp2
    go_end0
    have hP5 : PassAt c (w4.setCell ⟨b, off, none⟩ (.slice B' k c')) g S N (some (r.drop k)) := by
      have h := (HA3.out.pass.only HO4.out (fun _ _ h => h.elim) (fun _ _ h => h.elim)).only HO5.out (fun q _ h hq => Hb.out (h ▸ hq)) (fun q _ h => h ▸ HXb.out)
      rwa [show r.drop k = bs.drop (i + k) by rw [Hri.out, List.drop_drop]]
    refine ⟨rfl, .inl ⟨by have := Hrl.out; omega, ⟨hP5, fun _ h => .inl h, ?_, fun o ho => ?_⟩, _, HT5.out, B', k, c', rfl, ?_, ?_⟩⟩
    · exact (HO3.out.mono (fun _ _ h => .inl h)).trans ((HO4.out.mono (fun _ _ h => h.elim)).trans (HO5.out.mono (fun q _ h => .inr ⟨HR.out, h⟩)))
    · rw [Hr5.out o (by omega), HO4.out.cell (p := ⟨b, o, none⟩) HT3.out.lt (fun h => h)]
      exact HO3.out.cell (p := ⟨b, o, none⟩) HT.out.lt Hb.out
    · rw [Hri.out]
      exact HB4.out.only HO5.out (fun q _ h => .inr ⟨HR.out, by have h2 : q = b := h; rw [h2]; exact HT.out.lt⟩)
    · intro h
      obtain ⟨_, h2, _⟩ := HG4.out (by omega)
      rw [h] at h2
      cases h2
end

/-- Where b[i:] begins. -/
def fromA (A : Option Addr) (cap i : Nat) : Option Addr := if cap = i then A else A.map (·.add i)
theorem run_from (A : Option Addr) (n cap i : Nat) (hi : i ≤ n) (W : World) : (Instr.sliceAt 31 (.slice A n cap) (some (.int .i64 (i : Int))) none none).run Try.prog W = .ok (.slice (fromA A cap i) (n - i) (cap - i)) W := by
  have h0 : (0 : Int) ≤ (i : Int) ∧ (i : Int) ≤ (n : Int) := by omega
  by_cases hc : cap = i
  · simp [go_sem, h0, hc, fromA]
  · simp [go_sem, h0, hc, fromA]
theorem ByteSl.fromA {w : World} {S : Nat → Prop} {A : Option Addr} {n cap : Nat} {xs : List UInt8} (h : ByteSl w S A n cap xs) (i : Nat) (hi : i ≤ n) : ByteSl w S (fromA A cap i) (n - i) (cap - i) (xs.drop i) := by
  have h1 := h.1
  have h2 := h.2.1
  refine ⟨by rw [List.length_drop]; omega, by omega, by have := h.2.2.1; omega, fun h0 => ?_⟩
  obtain ⟨ad, e, hb, hs, hc⟩ := h.2.2.2 (by omega)
  subst e
  have hA : Go.Proofs.Ytendpbklcgiafaa.fromA (some ad) cap i = some (ad.add i) := by unfold Go.Proofs.Ytendpbklcgiafaa.fromA; rw [if_neg (by omega)]; rfl
  rw [hA]
  refine ⟨ad.add i, rfl, by rw [addr_add_block]; exact hb, by rw [addr_add_block]; exact hs, fun j x hx => ?_⟩
  rw [add_add]
  rw [List.getElem?_drop] at hx
  exact hc _ x hx

section
variable {c : Cx} {w : World} {g b off : Nat} {S : Nat → Prop} {N : Nat} {s : Option (List UInt8)} {A : Option Addr} {n cap : Nat} {bs : List UInt8}
theorem parse_nil : (parseR []).2.fault = 6 := by rw [parseR_eq]; rfl
/-- What a reader's pool leaves. -/
def Pooled (c : Cx) (w : World) (g : Nat) (S : Nat → Prop) (N : Nat) (s : Option (List UInt8)) (b off : Nat) (e1 : Ending) (w' : World) : Prop :=
  e1 = .returned (.tuple #[]) ∧ ∃ s' cs' v', Done c w g S b off 1 w' S N s' ∧ Tgt c w' b off cs' ∧ poolT.rep w' (Zn c S w.heap.size) cs' v' ∧ Stp true poolE s [] s' v' ∧ v'.length ≤ 1024
theorem poolT_nil (w : World) (Z : Nat → Prop) : poolT.rep w Z [.slice none 0 0] [] := ⟨none, 0, 0, rfl, RowSl.nil_ _ _ _ _ (by unfold maxLen; omega), fun _ h => by cases h⟩

set_option maxHeartbeats 2000000 in
theorem krPool_any (hm : c.m = .rd A n cap bs) (hP : PassAt c w g S N s) (hb : ¬ S b) (hT : Tgt c w b off [.slice none 0 0]) :
    Calls Try.prog 106 #[.pointer (some ⟨g, 0, none⟩), .pointer (some ⟨b, off, none⟩)] w (Pooled c w g S N s b off) := by
  have hr : c.m.isRd = true := by rw [hm]; rfl
  obtain ⟨e, i, hA⟩ := hP.rd_raw hm
  have hl := hA.bytes.1
  have hle := hA.le
  have hsm := hA.small
  have c1 : w.cell? ⟨g, 1, none⟩ = some (.slice A n cap) := hA.blk.cell 1
  have c2 : w.cell? ⟨g, 2, none⟩ = some (.int .i64 (i : Int)) := hA.blk.cell 2
  have HSl := fun W => run_from A n cap i hle W
  have hfine := parse_fine (bs.drop i)
  have hback := parse_back (bs.drop i)
  have hok : ∀ c ∈ (parseR (bs.drop i)).1, c.ok := by rw [parseR_eq]; exact preP_ok _
  have CP := Lib.hid (parse_any (fromA A cap i) (n - i) (cap - i) (bs.drop i) w.drew (((hA.bytes.mono (T := Empty) (fun _ _ h => h.elim)).fromA i hle).only ((Only.refl Empty w).drew) (fun _ _ h => h)) (by omega))
  obtain ⟨l, r, hpr⟩ : ∃ l r, parseR (bs.drop i) = (l, r) := ⟨_, _, rfl⟩
  have HA := Lib.hid hA
  have HT := Lib.hid hT
  have Hb := Lib.hid hb
  have HR : Hid (c.m.isRd = true) := Lib.hid hr
  have HM := Lib.hid hm
  have Hl := Lib.hid hl
  have HFi := Lib.hid hfine
  have HBk := Lib.hid hback
  have HOk := Lib.hid hok
  have HPr := Lib.hid hpr
  clear hP hA hT hb hr hm hl hfine hback hok hpr
  go_enter Try.func106, Try.ntmps106
  go_wp2_with fail
  refine wp_region_held_drew (S := fun W => W.cell? ⟨g, 1, none⟩ = some (.slice A n cap) ∧ W.cell? ⟨g, 2, none⟩ = some (.int .i64 (i : Int))) (by kernel_rfl) ⟨c1, c2⟩ (fun hHeld0 => ?_)
  refine take_yes 0 8 ?_ rfl rfl (by kernel_rfl) (by kernel_rfl) (by kernel_rfl) (fun _ _ _ h => h) (by kernel_rfl) ?_ (by assumption) ?_; rotate_left; (focus (intro w hSw; (try dsimp only at hSw); go_simp; all_goals first | with_reducible rfl)); simp only [Act.put, List.setIfInBounds_toArray, List.set_cons_zero, List.set_cons_succ]
  refine take_yes 1 9 ?_ rfl rfl (by kernel_rfl) (by kernel_rfl) (by kernel_rfl) (fun _ _ _ h => h) (by kernel_rfl) ?_ (by assumption) ?_; rotate_left; (focus (intro w hSw; (try dsimp only at hSw); go_simp; all_goals first | with_reducible rfl)); simp only [Act.put, List.setIfInBounds_toArray, List.set_cons_zero, List.set_cons_succ]
  refine take_yes 2 10 ?_ rfl rfl (by kernel_rfl) (by kernel_rfl) (by kernel_rfl) (fun _ _ _ h => h) (by kernel_rfl) ?_ (by assumption) ?_; rotate_left; (focus (intro w hSw; (try dsimp only at hSw); go_simp; all_goals first | with_reducible rfl)); simp only [Act.put, List.setIfInBounds_toArray, List.set_cons_zero, List.set_cons_succ]
  refine take_yes 3 11 (.slice A n cap) rfl rfl (by kernel_rfl) (by kernel_rfl) (by kernel_rfl) (fun _ _ _ h => h) (by kernel_rfl) ?_ (by assumption) ?_; (focus (intro w hSw; (try dsimp only at hSw); go_simp; all_goals first | with_reducible rfl)); simp only [Act.put, List.setIfInBounds_toArray, List.set_cons_zero, List.set_cons_succ]
  refine take_yes 4 12 ?_ rfl rfl (by kernel_rfl) (by kernel_rfl) (by kernel_rfl) (fun _ _ _ h => h) (by kernel_rfl) ?_ (by assumption) ?_; rotate_left; (focus (intro w hSw; (try dsimp only at hSw); go_simp; all_goals first | with_reducible rfl)); simp only [Act.put, List.setIfInBounds_toArray, List.set_cons_zero, List.set_cons_succ]
  refine take_yes 5 13 ?_ rfl rfl (by kernel_rfl) (by kernel_rfl) (by kernel_rfl) (fun _ _ _ h => h) (by kernel_rfl) ?_ (by assumption) ?_; rotate_left; (focus (intro w hSw; (try dsimp only at hSw); go_simp; all_goals first | with_reducible rfl)); simp only [Act.put, List.setIfInBounds_toArray, List.set_cons_zero, List.set_cons_succ]
  refine take_yes 6 14 ?_ rfl rfl (by kernel_rfl) (by kernel_rfl) (by kernel_rfl) (fun _ _ _ h => h) (by kernel_rfl) ?_ (by assumption) ?_; rotate_left; (focus (intro w hSw; (try dsimp only at hSw); go_simp; all_goals first | with_reducible rfl)); simp only [Act.put, List.setIfInBounds_toArray, List.set_cons_zero, List.set_cons_succ]
  refine take_yes 7 15 (.int .i64 (i : Int)) rfl rfl (by kernel_rfl) (by kernel_rfl) (by kernel_rfl) (fun _ _ _ h => h) (by kernel_rfl) ?_ (by assumption) ?_; (focus (intro w hSw; (try dsimp only at hSw); go_simp; all_goals first | with_reducible rfl)); simp only [Act.put, List.setIfInBounds_toArray, List.set_cons_zero, List.set_cons_succ]
  refine take_yes 8 16 (.slice (fromA A cap i) (n - i) (cap - i)) rfl rfl (by kernel_rfl) (by kernel_rfl) (by kernel_rfl) (fun _ _ _ h => h) (by kernel_rfl) ?_ (by assumption) ?_; (focus (intro w hSw; (try dsimp only at hSw); go_simp; all_goals first | with_reducible rfl)); simp only [Act.put, List.setIfInBounds_toArray, List.set_cons_zero, List.set_cons_succ]
  refine wpAnyH_ready (rs := [9]) (by kernel_rfl) (by simp) ?_
  refine AllReadyH.cons rfl (fun K hK => ?_) AllReadyH.nil
  go_simp
  go_at_call 108; (with_reducible refine CP.out.mono ?_); intro e1 w1 hpd
  unfold Parsed at hpd
  rw [HPr.out] at hpd
  obtain ⟨hpd, hb1⟩ := hpd
  simp only at hpd
  have HO1 : Hid (Only Empty w w1) := Lib.hid (((Only.refl Empty w).drew).trans (Only.of_below hb1))
  have HP1 := Lib.hid (HA.out.pass.only HO1.out (fun _ _ h => h.elim) (fun _ _ h => h.elim))
  have HT1 := Lib.hid (HT.out.only HO1.out (fun h => h))
  have d1 : w1.cell? ⟨g, 1, none⟩ = some (.slice A n cap) := (HO1.out.cell (p := ⟨g, 1, none⟩) HA.out.blk.lt (fun h => h)).trans c1
  have d2 : w1.cell? ⟨g, 2, none⟩ = some (.int .i64 (i : Int)) := (HO1.out.cell (p := ⟨g, 2, none⟩) HA.out.blk.lt (fun h => h)).trans c2
  clear hb1
  by_cases hf : r.fault = 0
  · rw [if_pos hf] at hpd
    obtain ⟨B, cB', rfl, hPl⟩ := hpd
    have HPl := Lib.hid hPl
    have Hf := Lib.hid hf
    obtain ⟨L, hL⟩ : ∃ L, L = l.length := ⟨_, rfl⟩
    rw [← hL]
    have HL := Lib.hid hL
    clear hPl hf hL
    go_wp2_with fail
    refine hK.out _ _ (⟨d1, d2⟩) (fun _ => ?_)
    clear hK K
    try simp only [Act.put, List.setIfInBounds_toArray, List.set_cons_zero, List.set_cons_succ]
    refine take_yes 10 7 ?_ rfl rfl (by kernel_rfl) (by kernel_rfl) (by kernel_rfl) (fun _ _ _ h => h) (by kernel_rfl) ?_ (by assumption) ?_; rotate_left; (focus (intro w hSw; (try dsimp only at hSw); go_simp; all_goals first | with_reducible rfl)); simp only [Act.put, List.setIfInBounds_toArray, List.set_cons_zero, List.set_cons_succ]
    refine take_yes 11 18 ?_ rfl rfl (by kernel_rfl) (by kernel_rfl) (by kernel_rfl) (fun _ _ _ h => h) (by kernel_rfl) ?_ (by assumption) ?_; rotate_left; (focus (intro w hSw; (try dsimp only at hSw); go_simp; all_goals first | with_reducible rfl)); simp only [Act.put, List.setIfInBounds_toArray, List.set_cons_zero, List.set_cons_succ]
    refine take_yes 12 19 ?_ rfl rfl (by kernel_rfl) (by kernel_rfl) (by kernel_rfl) (fun _ _ _ h => h) (by kernel_rfl) ?_ (by assumption) ?_; rotate_left; (focus (intro w hSw; (try dsimp only at hSw); go_simp; all_goals first | with_reducible rfl)); simp only [Act.put, List.setIfInBounds_toArray, List.set_cons_zero, List.set_cons_succ]
    refine take_yes 13 20 ?_ rfl rfl (by kernel_rfl) (by kernel_rfl) (by kernel_rfl) (fun _ _ _ h => h) (by kernel_rfl) ?_ (by assumption) ?_; rotate_left; (focus (intro w hSw; (try dsimp only at hSw); go_simp; all_goals first | with_reducible rfl)); simp only [Act.put, List.setIfInBounds_toArray, List.set_cons_zero, List.set_cons_succ]
    refine take_yes 14 4 ?_ rfl rfl (by kernel_rfl) (by kernel_rfl) (by kernel_rfl) (fun _ _ _ h => h) (by kernel_rfl) ?_ (by assumption) ?_; rotate_left; (focus (intro w hSw; (try dsimp only at hSw); go_simp; all_goals first | with_reducible rfl)); simp only [Act.put, List.setIfInBounds_toArray, List.set_cons_zero, List.set_cons_succ]
    refine take_yes 15 5 ?_ rfl rfl (by kernel_rfl) (by kernel_rfl) (by kernel_rfl) (fun _ _ _ h => h) (by kernel_rfl) ?_ (by assumption) ?_; rotate_left; (focus (intro w hSw; (try dsimp only at hSw); go_simp; all_goals first | with_reducible rfl)); simp only [Act.put, List.setIfInBounds_toArray, List.set_cons_zero, List.set_cons_succ]
    refine take_yes 16 6 ?_ rfl rfl (by kernel_rfl) (by kernel_rfl) (by kernel_rfl) (fun _ _ _ h => h) (by kernel_rfl) ?_ (by assumption) ?_; rotate_left; (focus (intro w hSw; (try dsimp only at hSw); go_simp; all_goals first | with_reducible rfl)); simp only [Act.put, List.setIfInBounds_toArray, List.set_cons_zero, List.set_cons_succ]
    refine wpAnyH_done (by kernel_rfl) ?_ _
    clear c1 c2
    go_wp2_with fail
    refine (refuse_k HP1.out 0 (.inl rfl) (fun _ => by decide)).mono ?_
    rintro e2 w2 ⟨rfl, hP2, hO2⟩
    rw [if_pos rfl] at hP2
    have HP2 := Lib.hid hP2
    have HO2 : Hid (Only S w w2) := Lib.hid ((HO1.out.mono (fun _ _ h => h.elim)).trans hO2)
    have HT2 : Hid (Tgt c w2 b off [.slice none 0 0]) := Lib.hid (HT1.out.only hO2 Hb.out)
    have HPl2 : Hid (RowSl Cst.cells 5 w2 (Zn c S w.heap.size) B L cB' l) := Lib.hid (by
      have h := HPl.out
      rw [← HL.out] at h
      refine (h.mono (fun q _ hz => ?_)).only hO2 (fun _ _ h => .inl h)
      show q < w.heap.size
      rcases hz with hz | ⟨-, hz⟩
      · exact HA.out.pass.lt q hz
      · exact hz)
    clear hP2 hO2 d1 d2
    go_wp2_with fail
    refine (goesOn_any HP2.out).mono ?_
    rintro e3 w3 ⟨rfl, rfl⟩
    cases hs : s with
    | none =>
      subst hs
      rw [show (none : Option (List UInt8)).isSome = false from rfl]
      go_wp2
      go_end0
      exact ⟨rfl, none, _, [], Done.own HP2.out (fun _ h => .inl h) HO2.out b off 1 Hb.out HT.out.lt, HT2.out, poolT_nil _ _, rfl, Nat.zero_le _⟩
    | some r0 =>
      subst hs
      have hr0 : r0 = bs.drop i := by
        have hst := HA.out.st
        by_cases he : e = 0
        · rw [if_pos he] at hst; exact Option.some.inj hst
        · rw [if_neg he] at hst; cases hst
      obtain ⟨i', hB1, hd⟩ := HP2.out.rd_some HM.out
      have hii : i = i' := drop_inj Hl.out hle hB1.le (hr0.symm.trans hd)
      subst hii
      have hat : r.at_ ≤ n - i := by
        have h := (HBk.out (by rw [HPr.out]; exact Hf.out)).2.2
        rw [HPr.out, List.length_drop, Hl.out] at h
        exact h
      obtain ⟨hT3, hO3, hr3⟩ := HT2.out.set1 (u := .slice B L cB') HR.out
      obtain ⟨hXb, t, all, hBb⟩ := HT2.out.rd HR.out
      have hbf := hBb.frozen off
      have hblt := hBb.lt
      have hbc : w2.cell? ⟨b, off, none⟩ = some (.slice none 0 0) := by have := HT2.out.cell 0 _ rfl; rwa [Nat.add_zero] at this
      have hgb : g ≠ b := fun h => Hb.out (h ▸ hB1.pass.here)
      have hB3 : RdB c (w2.setCell ⟨b, off, none⟩ (.slice B L cB')) g S N (some r0) A n cap bs 0 i :=
        ⟨hB1.pass.only hO3 (fun q _ h hq => Hb.out (h ▸ hq)) (fun q _ h => h ▸ hXb), hB1.rd, hO3.blk hB1.blk hgb, hB1.bytes.only hO3 (fun q _ h => h ▸ hXb), hB1.small, hB1.le, hB1.e068, hB1.st, hB1.S_iff⟩
      obtain ⟨hP4, hO4⟩ := hB3.move (i + r.at_) (by omega)
      have d2 : (w2.setCell ⟨b, off, none⟩ (.slice B L cB')).cell? ⟨g, 2, none⟩ = some (.int .i64 (i : Int)) := hB3.blk.cell 2
      have f2 := hB3.blk.frozen 2
      have hg2 := hB3.blk.lt
      rw [if_pos rfl] at hP4
      rw [Int.natCast_add] at hP4 hO4
      have HP4 := Lib.hid hP4
      have HO4 := Lib.hid hO4
      have HT3 := Lib.hid hT3
      have HO3 := Lib.hid hO3
      have Hr3 := Lib.hid hr3
      have Hr0 := Lib.hid hr0
      have hsum : IntKind.i64.wrap ((i : Int) + (r.at_ : Int)) = (i : Int) + (r.at_ : Int) := by rw [IntKind.wrap_i64]; omega
      clear hr0 hB1 hd hat hT3 hO3 hr3 hXb hBb hB3 hP4 hO4
      rw [show (some r0).isSome = true from rfl]
      go_wp2
      go_end0
      refine ⟨rfl, some (bs.drop (i + r.at_)), [.slice B L cB'], l, ⟨HP4.out, fun _ h => .inl h, ?_, fun o ho => ?_⟩, HT3.out.only HO4.out Hb.out, ⟨B, L, cB', rfl, ?_, ?_⟩, ?_, ?_⟩
      · exact (HO2.out.mono (fun _ _ h => .inl h)).trans ((HO3.out.mono (fun q _ h => .inr ⟨HR.out, h⟩)).trans (HO4.out.mono (fun _ _ h => .inl h)))
      · rw [HO4.out.cell (p := ⟨b, o, none⟩) (Nat.lt_of_lt_of_le (Nat.lt_of_lt_of_le HT.out.lt HO2.out.size) HO3.out.size) Hb.out, Hr3.out o (by omega)]
        exact HO2.out.cell (p := ⟨b, o, none⟩) HT.out.lt Hb.out
      · exact (HPl2.out.only HO3.out (fun q _ h => .inr ⟨HR.out, by have h2 : q = b := h; rw [h2]; exact HT.out.lt⟩)).only HO4.out (fun _ _ h => .inl h)
      · have h := HOk.out
        rwa [HPr.out] at h
      · have h := pool_yes (b := bs.drop i) (by rw [HPr.out]; exact Hf.out) []
        rw [HPr.out, List.drop_drop] at h
        rw [Hr0.out]
        exact h
      · have h := (HBk.out (by rw [HPr.out]; exact Hf.out)).1
        rw [HPr.out] at h
        have h9 : checkF l = true := h
        refine Nat.le_of_not_lt (fun hlt => ?_)
        rw [checkF_len (l := l) (fun hh => by have := hh.2; omega)] at h9
        cases h9
  · rw [if_neg hf] at hpd
    subst hpd
    have Hf := Lib.hid hf
    have hf68 : r.fault = 0 ∨ r.fault = 8 ∨ c.m.isRd = true ∧ r.fault = 6 := by
      have h := HFi.out
      rw [HPr.out] at h
      rcases h with h | h | h
      · exact .inl h
      · exact .inr (.inr ⟨HR.out, h⟩)
      · exact .inr (.inl h)
    obtain ⟨F, hF⟩ : ∃ F, F = r.fault := ⟨_, rfl⟩
    rw [← hF] at hf68 Hf ⊢
    have HF68 := Lib.hid hf68
    have hd8 : c.dry → F ≠ 8 := fun ⟨A', cap', b', h2⟩ => by
      have h3 := HM.out.symm.trans h2
      cases h3
      have hb : bs = [] := List.length_eq_zero_iff.1 Hl.out
      have h4 := HPr.out
      rw [hb, List.drop_nil] at h4
      rw [hF, ← show (parseR []).2.fault = r.fault by rw [h4], parse_nil]
      decide
    have HD8 := Lib.hid hd8
    have HF := Lib.hid hF
    clear hf hf68 hF hd8
    go_wp2_with fail
    refine hK.out _ _ (⟨d1, d2⟩) (fun _ => ?_)
    clear hK K
    try simp only [Act.put, List.setIfInBounds_toArray, List.set_cons_zero, List.set_cons_succ]
    refine take_yes 10 7 ?_ rfl rfl (by kernel_rfl) (by kernel_rfl) (by kernel_rfl) (fun _ _ _ h => h) (by kernel_rfl) ?_ (by assumption) ?_; rotate_left; (focus (intro w hSw; (try dsimp only at hSw); go_simp; all_goals first | with_reducible rfl)); simp only [Act.put, List.setIfInBounds_toArray, List.set_cons_zero, List.set_cons_succ]
    refine take_yes 11 18 ?_ rfl rfl (by kernel_rfl) (by kernel_rfl) (by kernel_rfl) (fun _ _ _ h => h) (by kernel_rfl) ?_ (by assumption) ?_; rotate_left; (focus (intro w hSw; (try dsimp only at hSw); go_simp; all_goals first | with_reducible rfl)); simp only [Act.put, List.setIfInBounds_toArray, List.set_cons_zero, List.set_cons_succ]
    refine take_yes 12 19 ?_ rfl rfl (by kernel_rfl) (by kernel_rfl) (by kernel_rfl) (fun _ _ _ h => h) (by kernel_rfl) ?_ (by assumption) ?_; rotate_left; (focus (intro w hSw; (try dsimp only at hSw); go_simp; all_goals first | with_reducible rfl)); simp only [Act.put, List.setIfInBounds_toArray, List.set_cons_zero, List.set_cons_succ]
    refine take_yes 13 20 ?_ rfl rfl (by kernel_rfl) (by kernel_rfl) (by kernel_rfl) (fun _ _ _ h => h) (by kernel_rfl) ?_ (by assumption) ?_; rotate_left; (focus (intro w hSw; (try dsimp only at hSw); go_simp; all_goals first | with_reducible rfl)); simp only [Act.put, List.setIfInBounds_toArray, List.set_cons_zero, List.set_cons_succ]
    refine take_yes 14 4 ?_ rfl rfl (by kernel_rfl) (by kernel_rfl) (by kernel_rfl) (fun _ _ _ h => h) (by kernel_rfl) ?_ (by assumption) ?_; rotate_left; (focus (intro w hSw; (try dsimp only at hSw); go_simp; all_goals first | with_reducible rfl)); simp only [Act.put, List.setIfInBounds_toArray, List.set_cons_zero, List.set_cons_succ]
    refine take_yes 15 5 ?_ rfl rfl (by kernel_rfl) (by kernel_rfl) (by kernel_rfl) (fun _ _ _ h => h) (by kernel_rfl) ?_ (by assumption) ?_; rotate_left; (focus (intro w hSw; (try dsimp only at hSw); go_simp; all_goals first | with_reducible rfl)); simp only [Act.put, List.setIfInBounds_toArray, List.set_cons_zero, List.set_cons_succ]
    refine take_yes 16 6 ?_ rfl rfl (by kernel_rfl) (by kernel_rfl) (by kernel_rfl) (fun _ _ _ h => h) (by kernel_rfl) ?_ (by assumption) ?_; rotate_left; (focus (intro w hSw; (try dsimp only at hSw); go_simp; all_goals first | with_reducible rfl)); simp only [Act.put, List.setIfInBounds_toArray, List.set_cons_zero, List.set_cons_succ]
    refine wpAnyH_done (by kernel_rfl) ?_ _
    clear c1 c2
    go_wp2_with fail
    refine (refuse_k HP1.out F HF68.out HD8.out).mono ?_
    rintro e2 w2 ⟨rfl, hP2, hO2⟩
    rw [if_neg Hf.out] at hP2
    have HP2 := Lib.hid hP2
    have HO2 : Hid (Only S w w2) := Lib.hid ((HO1.out.mono (fun _ _ h => h.elim)).trans hO2)
    have HT2 : Hid (Tgt c w2 b off [.slice none 0 0]) := Lib.hid (HT1.out.only hO2 Hb.out)
    clear hP2 hO2 d1 d2
    go_wp2_with fail
    refine (goesOn_any HP2.out).mono ?_
    rintro e3 w3 ⟨rfl, rfl⟩
    rw [show (none : Option (List UInt8)).isSome = false from rfl]
    go_wp2
    go_end0
    refine ⟨rfl, none, _, [], Done.own HP2.out (fun _ h => .inl h) HO2.out b off 1 Hb.out HT.out.lt, HT2.out, poolT_nil _ _, ?_, Nat.zero_le _⟩
    have hst := HA.out.st
    by_cases he : e = 0
    · rw [if_pos he] at hst
      rw [hst]
      exact pool_no (by rw [HPr.out]; show r.fault ≠ 0; rw [← HF.out]; exact Hf.out) _ _
    · rw [if_neg he] at hst
      rw [hst]
      rfl
end

end Go.Proofs.Ytendpbklcgiafaa

/- The walks over klass's number, always, upTo, of whichever pass. -/
namespace Go.Proofs.Ytendpbklcgiafaa
set_option maxRecDepth 100000
open Go.RowKit

section
variable {c : Cx} {w : World} {g b off : Nat} {S : Nat → Prop} {N : Nat} {s : Option (List UInt8)}
theorem mdNumber_any (hP : PassAt c w g S N s) (x : Int) (k : Nat) (hb : ¬ S b) (hT : Tgt c w b off [.int .i64 x]) (h1 : 1 ≤ k) (h2 : k ≤ 4) (hN : N + k ≤ 16000000) :
    Calls Try.prog c.m.fN #[.pointer (some ⟨g, 0, none⟩), .pointer (some ⟨b, off, none⟩), .int .i64 (k : Int)] w (Numbered c w g S (N + k) s b off k x) := by
  cases hm : c.m with
  | wr =>
    refine (kwNumber_any hm hP x k hb hT h1 (by omega) hN).mono ?_
    rintro e w' ⟨rfl, ⟨S', h3, h4⟩, h5⟩
    exact ⟨rfl, S', _, x, Done.own h3 h4 h5 b off 1 hb hT.lt, hT.only h5 hb, by rw [hm]; exact ⟨rfl, rfl⟩⟩
  | rd A n cap bs =>
    refine (krNumber_any hm hP x k hb hT h1 h2).mono ?_
    rintro e w' ⟨rfl, S', s', x', h3, h4, h5⟩
    exact ⟨rfl, S', s', x', ⟨h3.pass.more (by omega), h3.sub, h3.only, h3.rest⟩, h4, h5⟩

/-- A function value that asks whether a number is of a kind, wherever only Z has turned. -/
structure Kind (w : World) (Z : Nat → Prop) (K : Nat) (first cap : Array Value) (p : Int → Bool) : Prop where
  enters : ∀ (args : Array Value) (W : World), (callFunc K args).run Try.prog W = .ok (.enter K args) W
  says : ∀ (W : World) (y : Int), Only Z w W → Calls Try.prog K (first.push (.int .i64 y) ++ cap) W fun e w' => e = .returned (.bool (p y)) ∧ Below W.heap.size W w'

/-- What a number of a kind leaves. -/
def Kinded (c : Cx) (w : World) (g : Nat) (S : Nat → Prop) (N : Nat) (s : Option (List UInt8)) (b off : Nat) (p : Int → Bool) (x : Int) (e1 : Ending) (w' : World) : Prop :=
  e1 = .returned (.tuple #[]) ∧ ∃ S' s' x', Done c w g S b off 1 w' S' N s' ∧ Tgt c w' b off [.int .i64 x'] ∧ Stp c.m.isRd (kindE p 2) s x s' x'

set_option maxHeartbeats 2000000 in
theorem kNumber_any (hP : PassAt c w g S N s) (x : Int) (hb : ¬ S b) (hT : Tgt c w b off [.int .i64 x]) (hN : N + 2 ≤ 16000000) (K : Nat) (first cap : Array Value) (p : Int → Bool) (hK : Kind w (Zs c S b) K first cap p) (hf : Fits p 2) :
    Calls Try.prog 28 #[c.m.v g, .pointer (some ⟨b, off, none⟩), .func (.func K) first cap] w (Kinded c w g S (N + 2) s b off p x) := by
  have C := Lib.hid (mdNumber_any hP x 2 hb hT (by omega) (by omega) hN)
  have HDry : Hid (∀ s1 x1, NumS c.m.isRd 2 s x s1 x1 → c.dry → s1 = none) := Lib.hid (fun s1 x1 hn => hP.dry_num (by omega) hn)
  have rN := fun W => reach_number c.m g W
  have eN := fun args W => enter_number c.m W args
  have rA := fun W => reach_ask c.m g W
  have nA := fun W => nil_ask c.m g W
  have eA : ∀ (args : Array Value) (W : World), (callFunc 18 args).run Try.prog W = .ok (.enter 18 args) W := fun args W => by kernel_rfl
  have eK := hK.enters
  have HK := Lib.hid hK.says
  have HF := Lib.hid hf
  have HTb := Lib.hid hT.lt
  clear hP hT hK hf
  obtain ⟨T, hTy⟩ : ∃ T, T = c.m.T := ⟨_, rfl⟩
  obtain ⟨fN, hfN⟩ : ∃ fN, fN = c.m.fN := ⟨_, rfl⟩
  unfold Md.v
  rw [← hTy] at rN rA nA ⊢
  rw [← hfN] at rN eN C
  clear hTy hfN
  go_enter Try.func28, Try.ntmps28
  go_wp2_with fail
  refine C.out.mono ?_
  rintro e1 w1 ⟨rfl, S1, s1, x1, hD1, hT1, hN1⟩
  have HD1 := Lib.hid hD1
  have HT1 := Lib.hid hT1
  have HN1 := Lib.hid hN1
  have c1 : w1.cell? ⟨b, off, none⟩ = some (.int .i64 x1) := by have := hT1.cell 0 _ rfl; rwa [Nat.add_zero] at this
  clear hD1 hT1 hN1
  go_wp2_with fail
  refine wp_region_held_drew (S := fun W => W.cell? ⟨b, off, none⟩ = some (.int .i64 x1)) (by kernel_rfl) c1 (fun hHeld0 => ?_)
  refine take_yes 0 9 ?_ rfl rfl (by kernel_rfl) (by kernel_rfl) (by kernel_rfl) (fun _ _ _ h => h) (by kernel_rfl) ?_ (by assumption) ?_; rotate_left; (focus (intro w hSw; (try dsimp only at hSw); go_simp; all_goals first | with_reducible rfl)); simp only [Act.put, List.setIfInBounds_toArray, List.set_cons_zero, List.set_cons_succ]
  refine take_yes 1 10 ?_ rfl rfl (by kernel_rfl) (by kernel_rfl) (by kernel_rfl) (fun _ _ _ h => h) (by kernel_rfl) ?_ (by assumption) ?_; rotate_left; (focus (intro w hSw; (try dsimp only at hSw); go_simp; all_goals first | with_reducible rfl)); simp only [Act.put, List.setIfInBounds_toArray, List.set_cons_zero, List.set_cons_succ]
  refine take_yes 2 11 ?_ rfl rfl (by kernel_rfl) (by kernel_rfl) (by kernel_rfl) (fun _ _ _ h => h) (by kernel_rfl) ?_ (by assumption) ?_; rotate_left; (focus (intro w hSw; (try dsimp only at hSw); go_simp; all_goals first | with_reducible rfl)); simp only [Act.put, List.setIfInBounds_toArray, List.set_cons_zero, List.set_cons_succ]
  refine take_yes 3 12 ?_ rfl rfl (by kernel_rfl) (by kernel_rfl) (by kernel_rfl) (fun _ _ _ h => h) (by kernel_rfl) ?_ (by assumption) ?_; rotate_left; (focus (intro w hSw; (try dsimp only at hSw); go_simp; all_goals first | with_reducible rfl)); simp only [Act.put, List.setIfInBounds_toArray, List.set_cons_zero, List.set_cons_succ]
  refine take_yes 4 13 (.int .i64 x1) rfl rfl (by kernel_rfl) (by kernel_rfl) (by kernel_rfl) (fun _ _ _ h => h) (by kernel_rfl) ?_ (by assumption) ?_; (focus (intro w hSw; (try dsimp only at hSw); go_simp; all_goals first | with_reducible rfl)); simp only [Act.put, List.setIfInBounds_toArray, List.set_cons_zero, List.set_cons_succ]
  refine take_yes 6 15 ?_ rfl rfl (by kernel_rfl) (by kernel_rfl) (by kernel_rfl) (fun _ _ _ h => h) (by kernel_rfl) ?_ (by assumption) ?_; rotate_left; (focus (intro w hSw; (try dsimp only at hSw); go_simp; all_goals first | with_reducible rfl)); simp only [Act.put, List.setIfInBounds_toArray, List.set_cons_zero, List.set_cons_succ]
  refine take_yes 7 16 ?_ rfl rfl (by kernel_rfl) (by kernel_rfl) (by kernel_rfl) (fun _ _ _ h => h) (by kernel_rfl) ?_ (by assumption) ?_; rotate_left; (focus (intro w hSw; (try dsimp only at hSw); go_simp; all_goals first | with_reducible rfl)); simp only [Act.put, List.setIfInBounds_toArray, List.set_cons_zero, List.set_cons_succ]
  refine take_yes 8 17 ?_ rfl rfl (by kernel_rfl) (by kernel_rfl) (by kernel_rfl) (fun _ _ _ h => h) (by kernel_rfl) ?_ (by assumption) ?_; rotate_left; (focus (intro w hSw; (try dsimp only at hSw); go_simp; all_goals first | with_reducible rfl)); simp only [Act.put, List.setIfInBounds_toArray, List.set_cons_zero, List.set_cons_succ]
  refine wpAnyH_ready (rs := [5]) (by kernel_rfl) (by simp) ?_
  refine AllReadyH.cons rfl (fun K hK => ?_) AllReadyH.nil
  go_simp
  refine (HK.out _ x1 (HD1.out.only.drew)).mono ?_
  rintro e2 w2 ⟨rfl, hb2⟩
  have hP2 : PassAt c w2 g S1 (N + 2) s1 := (HD1.out.pass.only ((Only.refl Empty w1).drew) (fun _ _ h => h.elim) (fun _ _ h => h.elim)).below hb2
  have hO2 : Only Empty w1 w2 := ((Only.refl Empty w1).drew).trans (Only.of_below hb2)
  have CA := Lib.hid (ask_any hP2 (p x1) (fun hd => .inr (HDry.out _ _ HN1.out hd)))
  have HO2 := Lib.hid hO2
  have HT2 := Lib.hid (HT1.out.only hO2 (fun h => h))
  have c2 : w2.cell? ⟨b, off, none⟩ = some (.int .i64 x1) := by have := HT2.out.cell 0 _ rfl; rwa [Nat.add_zero] at this
  clear hb2 hP2 hO2
  go_wp2_with fail
  refine hK.out _ _ (c2) (fun _ => ?_)
  clear hK K
  try simp only [Act.put, List.setIfInBounds_toArray, List.set_cons_zero, List.set_cons_succ]
  refine wpAnyH_ready (rs := [9]) (by kernel_rfl) (by simp) ?_
  refine AllReadyH.cons rfl (fun K hK => ?_) AllReadyH.nil
  go_simp
  refine CA.out.mono ?_
  rintro e3 w3 ⟨rfl, hP3, hO3⟩
  have HP3 := Lib.hid hP3
  have HO3 := Lib.hid hO3
  have hbS1 : ¬ S1 b := fun h => by
    rcases HD1.out.sub b h with h | h
    · exact hb h
    · have := HD1.out.only.size
      have := HTb.out
      omega
  have HT3 := Lib.hid (HT2.out.only hO3 hbS1)
  have c3 : w3.cell? ⟨b, off, none⟩ = some (.int .i64 x1) := by have := HT3.out.cell 0 _ rfl; rwa [Nat.add_zero] at this
  clear hP3 hO3 hbS1
  go_wp2_with fail
  refine hK.out _ _ (c3) (fun _ => ?_)
  clear hK K
  try simp only [Act.put, List.setIfInBounds_toArray, List.set_cons_zero, List.set_cons_succ]
  refine wpAnyH_done (by kernel_rfl) ?_ _
  go_wp2
  go_end0
  refine ⟨rfl, S1, _, x1, ⟨HP3.out, HD1.out.sub, HD1.out.only.trans' ((HO2.out.mono (fun _ _ h => h.elim)).trans HO3.out) (fun q hq hz => ?_), fun o ho => ?_⟩, HT3.out, HN1.out.ask HF.out⟩
  · rcases HD1.out.sub q hz with h | h
    · exact .inl h
    · omega
  · have hlt := Nat.lt_of_lt_of_le HTb.out HD1.out.only.size
    rw [HO3.out.cell (p := ⟨b, o, none⟩) (Nat.lt_of_lt_of_le hlt HO2.out.size) (fun h => by
      rcases HD1.out.sub b h with h | h
      · exact hb h
      · have := HTb.out; omega), HO2.out.cell (p := ⟨b, o, none⟩) hlt (fun h => h)]
    exact HD1.out.rest o ho
end

end Go.Proofs.Ytendpbklcgiafaa

/- The walks over klass's kinds (isText, isClass, isClassOrNone, isFlags, isMapTag, upTo), first, always. -/
namespace Go.Proofs.Ytendpbklcgiafaa
set_option maxRecDepth 100000
open Go.RowKit

def isTextC (C : List Cst) (x : Int) : Bool := (textF C x).isSome
def isClassC (C : List Cst) (x : Int) : Bool := (classF C x).isSome
def isClsNoneC (C : List Cst) (x : Int) : Bool := decide (x = 0) || isClassC C x
def isFlagsC (x : Int) : Bool := decide (x = 0) || decide (x = 8)
def isMapTagC (x : Int) : Bool := decide (x = 0) || (decide (x = 1) || (decide (x = 4) || (decide (x = 5) || decide (x = 7))))
def upToC (m : Nat) (x : Int) : Bool := decide (0 ≤ x ∧ x ≤ (m : Int))

theorem kIsText_any (A : Option Addr) (n cap : Nat) (C : List Cst) (x : Int) (w : World) (hP : PoolSl w A n cap C) (hn : n ≤ 1000000) :
    Calls Try.prog 52 #[.slice A n cap, .int .i64 x] w fun e w' => e = .returned (.bool (isTextC C x)) ∧ Below w.heap.size w w' := by
  have CT := text_any A n cap C x w hP hn
  unfold isTextC
  rw [textV_eq] at CT
  have CT := Lib.hid CT
  obtain ⟨B, hB⟩ : ∃ B, (textF C x).isSome = B := ⟨_, rfl⟩
  rw [hB] at CT ⊢
  obtain ⟨D, hD⟩ : ∃ D, textD (textF C x) = D := ⟨_, rfl⟩
  rw [hD] at CT
  clear hP hB hD
  go_enter Try.func52, Try.ntmps52
  go_wp2_with fail
  refine CT.out.mono ?_
  rintro e w1 ⟨rfl, hb⟩
  have Hb := Lib.hid hb
  clear hb
  go_wp2
  go_ret
  exact ⟨rfl, Hb.out⟩
theorem kIsClass_any (A : Option Addr) (n cap : Nat) (C : List Cst) (x : Int) (w : World) (hP : PoolSl w A n cap C) (hn : n ≤ 1000000) :
    Calls Try.prog 29 #[.slice A n cap, .int .i64 x] w fun e w' => e = .returned (.bool (isClassC C x)) ∧ Below w.heap.size w w' := by
  have CT := class_any A n cap C x w hP hn
  unfold isClassC
  rw [textV_eq] at CT
  have CT := Lib.hid CT
  obtain ⟨B, hB⟩ : ∃ B, (classF C x).isSome = B := ⟨_, rfl⟩
  rw [hB] at CT ⊢
  obtain ⟨D, hD⟩ : ∃ D, textD (classF C x) = D := ⟨_, rfl⟩
  rw [hD] at CT
  clear hP hB hD
  go_enter Try.func29, Try.ntmps29
  go_wp2_with fail
  refine CT.out.mono ?_
  rintro e w1 ⟨rfl, hb⟩
  have Hb := Lib.hid hb
  clear hb
  go_wp2
  go_ret
  exact ⟨rfl, Hb.out⟩
theorem kIsClsNone_any (A : Option Addr) (n cap : Nat) (C : List Cst) (x : Int) (w : World) (hP : PoolSl w A n cap C) (hn : n ≤ 1000000) :
    Calls Try.prog 30 #[.slice A n cap, .int .i64 x] w fun e w' => e = .returned (.bool (isClsNoneC C x)) ∧ Below w.heap.size w w' := by
  have CT := Lib.hid (kIsClass_any A n cap C x w hP hn)
  unfold isClsNoneC
  obtain ⟨B, hB⟩ : ∃ B, isClassC C x = B := ⟨_, rfl⟩
  rw [hB] at CT ⊢
  clear hP hB
  by_cases hx : x = 0
  · subst hx
    go_enter Try.func30, Try.ntmps30
    go_wp2
    go_ret
    exact ⟨rfl, Below.refl _ _⟩
  · have hq : (x == 0) = false := by simpa using hx
    rw [decide_eq_false hx, Bool.false_or]
    clear hx
    go_enter Try.func30, Try.ntmps30
    go_wp2_with fail
    refine CT.out.mono ?_
    rintro e w1 ⟨rfl, hb⟩
    have Hb := Lib.hid hb
    clear hb
    go_wp2
    go_ret
    exact ⟨rfl, Hb.out⟩
theorem kIsFlags_any (x : Int) (w : World) :
    Calls Try.prog 51 #[.int .i64 x] w fun e w' => e = .returned (.bool (isFlagsC x)) ∧ w = w' := by
  unfold isFlagsC
  by_cases hx : x = 0
  · subst hx
    go_enter Try.func51, Try.ntmps51
    go_wp2
    go_ret
    exact ⟨rfl, rfl⟩
  · have hq : (x == 0) = false := by simpa using hx
    rw [decide_eq_false hx, Bool.false_or]
    clear hx
    by_cases h8 : x = 8
    · subst h8
      go_enter Try.func51, Try.ntmps51
      go_wp2
      go_ret
      exact ⟨rfl, rfl⟩
    · have hq8 : (x == 8) = false := by simpa using h8
      rw [decide_eq_false h8]
      clear h8
      go_enter Try.func51, Try.ntmps51
      go_wp2
      go_ret
      exact ⟨rfl, rfl⟩
theorem kIsMapTag_any (x : Int) (w : World) :
    Calls Try.prog 64 #[.int .i64 x] w fun e w' => e = .returned (.bool (isMapTagC x)) ∧ w = w' := by
  have hw : x = 0 ∨ x = 1 ∨ x = 4 ∨ x = 5 ∨ x = 7 ∨ (x ≠ 0 ∧ x ≠ 1 ∧ x ≠ 4 ∧ x ≠ 5 ∧ x ≠ 7) := by omega
  rcases hw with rfl | rfl | rfl | rfl | rfl | ⟨h0, h1, h4, h5, h7⟩
  iterate 5
    · go_enter Try.func64, Try.ntmps64
      go_wp2
      go_ret
      exact ⟨rfl, rfl⟩
  · have e : isMapTagC x = false := by unfold isMapTagC; simp [h0, h1, h4, h5, h7]
    rw [e]
    have q0 : (x == 0) = false := by simpa using h0
    have q1 : (x == 1) = false := by simpa using h1
    have q4 : (x == 4) = false := by simpa using h4
    have q5 : (x == 5) = false := by simpa using h5
    have q7 : (x == 7) = false := by simpa using h7
    clear h0 h1 h4 h5 h7 e
    go_enter Try.func64, Try.ntmps64
    go_wp2
    go_ret
    exact ⟨rfl, rfl⟩
theorem kUpTo1_any (q m : Nat) (x : Int) (w : World) (h0 : w.cell? ⟨q, 0, none⟩ = some (.int .i64 (m : Int))) :
    Calls Try.prog 50 #[.int .i64 x, .pointer (some ⟨q, 0, none⟩)] w fun e w' => e = .returned (.bool (upToC m x)) ∧ w = w' := by
  unfold upToC
  by_cases h1 : 0 ≤ x
  · by_cases h2 : x ≤ (m : Int)
    · rw [decide_eq_true ⟨h1, h2⟩]
      go_enter Try.func50, Try.ntmps50
      go_wp2
      go_ret
      exact ⟨rfl, rfl⟩
    · rw [decide_eq_false (fun h => h2 h.2)]
      go_enter Try.func50, Try.ntmps50
      go_wp2
      go_ret
      exact ⟨rfl, rfl⟩
  · rw [decide_eq_false (fun h => h1 h.1)]
    go_enter Try.func50, Try.ntmps50
    go_wp2
    go_ret
    exact ⟨rfl, rfl⟩
theorem kAlways1_any (q : Nat) (v x : Int) (w : World) (h0 : w.cell? ⟨q, 0, none⟩ = some (.int .i64 v)) :
    Calls Try.prog 40 #[.int .i64 x, .pointer (some ⟨q, 0, none⟩)] w fun e w' => e = .returned (.bool (x == v)) ∧ w = w' := by
  obtain ⟨B, hB⟩ : ∃ B, (x == v) = B := ⟨_, rfl⟩
  rw [hB]
  cases B with
  | true =>
    go_enter Try.func40, Try.ntmps40
    go_wp2
    go_ret
    exact ⟨rfl, rfl⟩
  | false =>
    go_enter Try.func40, Try.ntmps40
    go_wp2
    go_ret
    exact ⟨rfl, rfl⟩
theorem kUpTo_any (v : Int) (w : World) : Calls Try.prog 42 #[.int .i64 v] w fun e w' => e = .returned (.func (.func 50) #[] #[.pointer (some ⟨w.heap.size, 0, none⟩)]) ∧ w' = w.alloc (.cells #[.int .i64 v] 3) := by
  go_enter Try.func42, Try.ntmps42
  go_wp2
  go_ret
  exact ⟨rfl, rfl⟩

/-! ### As function values -/
theorem Kind.flags (w : World) (Z : Nat → Prop) : Kind w Z 51 #[] #[] isFlagsC :=
  ⟨fun args W => by kernel_rfl, fun W y _ => (kIsFlags_any y W).mono fun e w' ⟨h1, h2⟩ => ⟨h1, h2 ▸ Below.refl _ _⟩⟩
theorem Kind.upTo (w : World) (Z : Nat → Prop) (q m : Nat) (hq : Blk w q 3 #[.int .i64 (m : Int)]) (hz : ¬ Z q) : Kind w Z 50 #[] #[.pointer (some ⟨q, 0, none⟩)] (upToC m) :=
  ⟨fun args W => by kernel_rfl, fun W y hO => (kUpTo1_any q m y W ((hO.blk hq hz).cell 0)).mono fun e w' ⟨h1, h2⟩ => ⟨h1, h2 ▸ Below.refl _ _⟩⟩
theorem Kind.always (w : World) (Z : Nat → Prop) (q : Nat) (v : Int) (hq : Blk w q 3 #[.int .i64 v]) (hz : ¬ Z q) : Kind w Z 40 #[] #[.pointer (some ⟨q, 0, none⟩)] (fun t => t == v) :=
  ⟨fun args W => by kernel_rfl, fun W y hO => (kAlways1_any q v y W ((hO.blk hq hz).cell 0)).mono fun e w' ⟨h1, h2⟩ => ⟨h1, h2 ▸ Below.refl _ _⟩⟩
section
variable {c : Cx} {w : World} {g : Nat} {S : Nat → Prop} {N : Nat} {s : Option (List UInt8)} {Z : Nat → Prop}
theorem PassAt.poolAt (h : PassAt c w g S N s) (hZ : ∀ q, q < w.heap.size → Z q → c.X q) {W : World} (hO : Only Z w W) : PoolSl W c.A c.n c.cap c.C := (h.pool.only hO hZ).mono (fun _ _ h => h.elim)
theorem Kind.text (h : PassAt c w g S N s) (hZ : ∀ q, q < w.heap.size → Z q → c.X q) : Kind w Z 52 #[c.cv] #[] (isTextC c.C) :=
  ⟨fun args W => by kernel_rfl, fun W y hO => kIsText_any c.A c.n c.cap c.C y W (h.poolAt hZ hO) (by have := h.small; omega)⟩
theorem Kind.class (h : PassAt c w g S N s) (hZ : ∀ q, q < w.heap.size → Z q → c.X q) : Kind w Z 29 #[c.cv] #[] (isClassC c.C) :=
  ⟨fun args W => by kernel_rfl, fun W y hO => kIsClass_any c.A c.n c.cap c.C y W (h.poolAt hZ hO) (by have := h.small; omega)⟩
theorem Kind.clsNone (h : PassAt c w g S N s) (hZ : ∀ q, q < w.heap.size → Z q → c.X q) : Kind w Z 30 #[c.cv] #[] (isClsNoneC c.C) :=
  ⟨fun args W => by kernel_rfl, fun W y hO => kIsClsNone_any c.A c.n c.cap c.C y W (h.poolAt hZ hO) (by have := h.small; omega)⟩
theorem fits_text (hn : c.C.length ≤ 1024) : Fits (isTextC c.C) 2 := ⟨by omega, fun v hv => by
  unfold isTextC textF findF at hv
  cases ha : atF c.C v with
  | none => rw [ha] at hv; cases hv
  | some x =>
    unfold atF at ha
    split at ha
    · have := (List.getElem?_eq_some_iff.1 ha).1
      have e : (256 ^ 2 : Nat) = 65536 := rfl
      omega
    · cases ha⟩
theorem fits_class (hn : c.C.length ≤ 1024) : Fits (isClassC c.C) 2 := ⟨by omega, fun v hv => by
  unfold isClassC classF findF at hv
  cases ha : atF c.C v with
  | none => rw [ha] at hv; cases hv
  | some x =>
    unfold atF at ha
    split at ha
    · have := (List.getElem?_eq_some_iff.1 ha).1
      have e : (256 ^ 2 : Nat) = 65536 := rfl
      omega
    · cases ha⟩
theorem fits_clsNone (hn : c.C.length ≤ 1024) : Fits (isClsNoneC c.C) 2 := ⟨by omega, fun v hv => by
  unfold isClsNoneC at hv
  rw [Bool.or_eq_true] at hv
  rcases hv with hv | hv
  · have := of_decide_eq_true hv
    subst this
    exact ⟨by decide, by decide⟩
  · exact (fits_class hn).2 v hv⟩
theorem fits_flags : Fits isFlagsC 2 := ⟨by omega, fun v hv => by
  unfold isFlagsC at hv
  rw [Bool.or_eq_true] at hv
  rcases hv with hv | hv <;> (have := of_decide_eq_true hv; subst this; exact ⟨by decide, by decide⟩)⟩
theorem fits_is (x : Nat) (h : x < 65536) : Fits (fun t => t == (x : Int)) 2 := ⟨by omega, fun v hv => by
  have := eq_of_beq hv
  subst this
  have e : (256 ^ 2 : Nat) = 65536 := rfl
  omega⟩
theorem PassAt.len (h : PassAt c w g S N s) : c.C.length ≤ 1024 := by have := h.pool.1; have := h.small; omega
end

end Go.Proofs.Ytendpbklcgiafaa

/- The walks over klass's always, member, field, trap, slot, of whichever pass. -/
namespace Go.Proofs.Ytendpbklcgiafaa
set_option maxRecDepth 100000
open Go.RowKit

/-- What a step over no target leaves. -/
def Went (c : Cx) (w : World) (g : Nat) (S : Nat → Prop) (N : Nat) (s : Option (List UInt8)) (e : Enc Unit) (e1 : Ending) (w' : World) : Prop :=
  e1 = .returned (.tuple #[]) ∧ ∃ S' s', PassAt c w' g S' N s' ∧ (∀ q, S' q → S q ∨ w.heap.size ≤ q) ∧ Only S w w' ∧ Stp c.m.isRd e s () s' ()

section
variable {c : Cx} {w : World} {g b off : Nat} {S : Nat → Prop} {N : Nat} {s : Option (List UInt8)}
theorem PassAt.fresh (h : PassAt c w g S N s) {b : Nat} (hb : w.heap.size ≤ b) : ¬ S b := fun hs => by have := h.lt b hs; omega
theorem Tgt.new (h : PassAt c w g S N s) (t : TypeId) (cs : List Value) : Tgt c (w.alloc (.cells cs.toArray t)) w.heap.size 0 cs :=
  ⟨(Blk.new w t cs.toArray).lt, fun i v hv => by rw [Nat.zero_add, (Blk.new w t cs.toArray).cell]; simpa using hv, fun _ => ⟨h.new _ (Nat.le_refl _), t, _, Blk.new w t cs.toArray⟩⟩
/-- A step over a target that was made on the way is a step over none. -/
theorem Done.went {W w' : World} {S' : Nat → Prop} {N' k : Nat} {s' : Option (List UInt8)} (h : Done c W g S b off k w' S' N' s') (hO : Only Empty w W) (hb : w.heap.size ≤ b) : PassAt c w' g S' N' s' ∧ (∀ q, S' q → S q ∨ w.heap.size ≤ q) ∧ Only S w w' := by
  refine ⟨h.pass, fun q hq => (h.sub q hq).imp id (fun h => Nat.le_trans hO.size h), (hO.mono (fun _ _ h => h.elim)).trans' h.only (fun q hq hz => ?_)⟩
  rcases hz with hz | ⟨_, rfl⟩
  · exact hz
  · omega

theorem kAlways_any (hP : PassAt c w g S N s) (v : Int) (n : Nat) (hvn : v = (n : Int)) (hn : n < 65536) (hN : N + 2 ≤ 16000000) :
    Calls Try.prog 27 #[c.m.v g, .int .i64 v] w (Went c w g S (N + 2) s (justE 2 n)) := by
  have hP1 : PassAt c (w.alloc (.cells #[.int .i64 v] 3)) g S N s := hP.only ((Only.refl Empty w).alloc _) (fun _ _ h => h.elim) (fun _ _ h => h.elim)
  have hP2 : PassAt c ((w.alloc (.cells #[.int .i64 v] 3)).alloc (.cells #[.int .i64 v] 3)) g S N s := hP1.only ((Only.refl Empty _).alloc _) (fun _ _ h => h.elim) (fun _ _ h => h.elim)
  have hT : Tgt c ((w.alloc (.cells #[.int .i64 v] 3)).alloc (.cells #[.int .i64 v] 3)) (w.alloc (.cells #[.int .i64 v] 3)).heap.size 0 [.int .i64 v] := Tgt.new hP1 3 [.int .i64 v]
  have hB : Blk ((w.alloc (.cells #[.int .i64 v] 3)).alloc (.cells #[.int .i64 v] 3)) w.heap.size 3 #[.int .i64 v] := (Blk.new w 3 #[.int .i64 v]).alloc _
  have C := kNumber_any hP2 v (hP1.fresh (Nat.le_refl _)) hT hN 40 #[] #[.pointer (some ⟨w.heap.size, 0, none⟩)] _ (Kind.always _ _ w.heap.size v hB (fun hz => by
    rcases hz with hz | ⟨_, hz⟩
    · exact hP.fresh (Nat.le_refl _) hz
    · simp at hz)) (by rw [hvn]; exact fits_is n hn)
  have hs : (w.alloc (.cells #[.int .i64 v] 3)).heap.size = w.heap.size + 1 := by simp
  rw [hs] at C
  have C := Lib.hid C
  have HP := Lib.hid hP
  have HV := Lib.hid hvn
  clear hP hP1 hP2 hT hB hs hvn
  obtain ⟨p, hp⟩ : ∃ p, p = c.m.v g := ⟨_, rfl⟩
  rw [← hp] at C ⊢
  clear hp
  go_enter Try.func27, Try.ntmps27
  go_wp2_with fail
  refine C.out.mono ?_
  rintro e w' ⟨rfl, S', s', x', hD, hT, hSt⟩
  have HD := Lib.hid hD
  have HSt := Lib.hid hSt
  clear hD hT hSt
  go_wp2
  go_end0
  obtain ⟨h1, h2, h3⟩ := HD.out.went (w := w) (((Only.refl Empty w).alloc _).alloc _) (by omega)
  refine ⟨rfl, S', s', h1, h2, h3, ?_⟩
  have h := HSt.out
  rw [HV.out] at h
  exact Stp.just rfl h
end

end Go.Proofs.Ytendpbklcgiafaa

/- The walks over klass's member, field, trap, of whichever pass: a walk over a target's cells. -/
namespace Go.Proofs.Ytendpbklcgiafaa
set_option maxRecDepth 100000
open Go.RowKit

/-- Where a walk over a target stands that began at w0. -/
structure Ov (c : Cx) (w0 : World) (g : Nat) (S0 : Nat → Prop) (b off k : Nat) (w : World) (S : Nat → Prop) (N : Nat) (s : Option (List UInt8)) (cs : List Value) : Prop where
  done : Done c w0 g S0 b off k w S N s
  tgt : Tgt c w b off cs
  len : cs.length = k
  out0 : ¬ S0 b
  lt0 : b < w0.heap.size

section
variable {c : Cx} {w0 w W w' : World} {g b off k : Nat} {S0 S S' : Nat → Prop} {N N' : Nat} {s s' : Option (List UInt8)} {cs : List Value}
theorem Ov.start (hP : PassAt c w g S N s) (hT : Tgt c w b off cs) (hl : cs.length = k) (hb : ¬ S b) : Ov c w g S b off k w S N s cs := ⟨Done.refl hP b off k, hT, hl, hb, hT.lt⟩
theorem Ov.out (h : Ov c w0 g S0 b off k w S N s cs) : ¬ S b := fun hs => by
  rcases h.done.sub b hs with hs | hs
  · exact h.out0 hs
  · have := h.lt0; omega
theorem Ov.zX (h : Ov c w0 g S0 b off k w S N s cs) : ∀ q, Zs c S b q → c.X q := Zs.inX h.done.pass (fun hr => (h.tgt.rd hr).1)
theorem Ov.only (h : Ov c w0 g S0 b off k w S N s cs) (hO : Only Empty w W) : Ov c w0 g S0 b off k W S N s cs := by
  refine ⟨⟨h.done.pass.only hO (fun _ _ h => h.elim) (fun _ _ h => h.elim), h.done.sub, h.done.only.trans' hO (fun _ _ h => h.elim), fun o ho => ?_⟩, h.tgt.only hO (fun h => h), h.len, h.out0, h.lt0⟩
  rw [hO.cell (p := ⟨b, o, none⟩) h.tgt.lt (fun h => h)]
  exact h.done.rest o ho
theorem Ov.step {p q1 q2 r : List Value} (h : Ov c w0 g S0 b off k w S N s (p ++ q1 ++ r)) (hD : Done c w g S b (off + p.length) q1.length w' S' N' s') (hT : Tgt c w' b (off + p.length) q2) (hl : q2.length = q1.length) : Ov c w0 g S0 b off k w' S' N' s' (p ++ q2 ++ r) := by
  have hlen := h.len
  simp only [List.length_append] at hlen
  refine ⟨h.done.trans hD (by omega) (by omega), h.tgt.back rfl hD.rest hl hT, ?_, h.out0, h.lt0⟩
  simp only [List.length_append]
  omega
/-- A step that goes over no target. -/
theorem Ov.went (h : Ov c w0 g S0 b off k w S N s cs) (hP : PassAt c w' g S' N' s') (hs : ∀ q, S' q → S q ∨ w.heap.size ≤ q) (hO : Only S w w') : Ov c w0 g S0 b off k w' S' N' s' cs :=
  ⟨h.done.trans (Done.own hP hs hO b off k h.out h.tgt.lt) (by omega) (by omega), h.tgt.only hO h.out, h.len, h.out0, h.lt0⟩
/-- One cell, by its place. -/
theorem Ov.cellAt (h : Ov c w0 g S0 b off k w S N s cs) (i : Nat) {v : Value} (hi : cs[i]? = some v) : Tgt c w b (off + i) [v] ∧
    ∀ {w' S' N' s' u}, Done c w g S b (off + i) 1 w' S' N' s' → Tgt c w' b (off + i) [u] → Ov c w0 g S0 b off k w' S' N' s' (cs.set i u) := by
  have hil := (List.getElem?_eq_some_iff.1 hi).1
  have e : cs = cs.take i ++ [v] ++ cs.drop (i + 1) := by
    rw [List.append_assoc]
    have h1 : cs.drop i = [v] ++ cs.drop (i + 1) := by
      rw [List.drop_eq_getElem_cons hil]
      have := (List.getElem?_eq_some_iff.1 hi).2
      rw [this]
      rfl
    rw [← h1, List.take_append_drop]
  have hl : (cs.take i).length = i := by rw [List.length_take]; omega
  refine ⟨by have := h.tgt.sub e; rwa [hl] at this, fun {w' S' N' s' u} hD hT => ?_⟩
  have e2 : cs.set i u = cs.take i ++ [u] ++ cs.drop (i + 1) := by
    rw [List.set_eq_take_append_cons_drop, if_pos hil]
    simp
  rw [e2]
  have h' := h
  rw [e] at h'
  exact h'.step (by rw [hl]; exact hD) (by rw [hl]; exact hT) rfl
end

/-- What a number of a kind leaves, among a target's cells. -/
def NumAt (c : Cx) (w0 : World) (g : Nat) (S0 : Nat → Prop) (b off k : Nat) (N : Nat) (s : Option (List UInt8)) (cs : List Value) (i : Nat) (p : Int → Bool) (x : Int) (e1 : Ending) (w' : World) : Prop :=
  e1 = .returned (.tuple #[]) ∧ ∃ S' s' x', Ov c w0 g S0 b off k w' S' N s' (cs.set i (.int .i64 x')) ∧ Stp c.m.isRd (kindE p 2) s x s' x'
section
variable {c : Cx} {w0 w W : World} {g b off k : Nat} {S0 S : Nat → Prop} {N : Nat} {s : Option (List UInt8)} {cs : List Value}
theorem Ov.number (h : Ov c w0 g S0 b off k w S N s cs) (i : Nat) {x : Int} (hi : cs[i]? = some (.int .i64 x)) (hN : N + 2 ≤ 16000000) {K : Nat} {first cap : Array Value} {p : Int → Bool} (hK : Kind w (Zs c S b) K first cap p) (hf : Fits p 2) :
    Calls Try.prog 28 #[c.m.v g, .pointer (some ⟨b, off + i, none⟩), .func (.func K) first cap] w (NumAt c w0 g S0 b off k (N + 2) s cs i p x) := by
  obtain ⟨h1, h2⟩ := h.cellAt i hi
  refine (kNumber_any h.done.pass x h.out h1 hN K first cap p hK hf).mono ?_
  rintro e w' ⟨rfl, S', s', x', hD, hT, hS⟩
  exact ⟨rfl, S', s', x', h2 hD hT, hS⟩
theorem fits_up (m : Nat) (hm : m < 65536) : Fits (upToC m) 2 := fits_upTo m 2 (by omega) (by have e : (256 ^ 2 : Nat) = 65536 := rfl; omega)
theorem Ov.numUp (h : Ov c w0 g S0 b off k w S N s cs) (hO : Only Empty w W) (q : Nat) {v : Int} (m : Nat) (hv : v = (m : Int)) (hq : Blk W q 3 #[.int .i64 v]) (hq2 : w.heap.size ≤ q) (hm : m < 65536) (i : Nat) {x : Int} (hi : cs[i]? = some (.int .i64 x)) (hN : N + 2 ≤ 16000000) :
    Calls Try.prog 28 #[c.m.v g, .pointer (some ⟨b, off + i, none⟩), .func (.func 50) #[] #[.pointer (some ⟨q, 0, none⟩)]] W (NumAt c w0 g S0 b off k (N + 2) s cs i (upToC m) x) := by
  subst hv
  refine (h.only hO).number i hi hN (Kind.upTo W _ q m hq (fun hz => ?_)) (fits_up m hm)
  rcases hz with hz | ⟨_, hz⟩
  · exact h.done.pass.fresh hq2 hz
  · have := h.tgt.lt; omega
theorem Ov.numFlags (h : Ov c w0 g S0 b off k w S N s cs) (i : Nat) {x : Int} (hi : cs[i]? = some (.int .i64 x)) (hN : N + 2 ≤ 16000000) :
    Calls Try.prog 28 #[c.m.v g, .pointer (some ⟨b, off + i, none⟩), .func (.func 51) #[] #[]] w (NumAt c w0 g S0 b off k (N + 2) s cs i isFlagsC x) :=
  h.number i hi hN (Kind.flags _ _) fits_flags
theorem Ov.numText (h : Ov c w0 g S0 b off k w S N s cs) (i : Nat) {x : Int} (hi : cs[i]? = some (.int .i64 x)) (hN : N + 2 ≤ 16000000) :
    Calls Try.prog 28 #[c.m.v g, .pointer (some ⟨b, off + i, none⟩), .func (.func 52) #[c.cv] #[]] w (NumAt c w0 g S0 b off k (N + 2) s cs i (isTextC c.C) x) :=
  h.number i hi hN (Kind.text h.done.pass (fun q _ hz => h.zX q hz)) (fits_text h.done.pass.len)
theorem Ov.numClass (h : Ov c w0 g S0 b off k w S N s cs) (i : Nat) {x : Int} (hi : cs[i]? = some (.int .i64 x)) (hN : N + 2 ≤ 16000000) :
    Calls Try.prog 28 #[c.m.v g, .pointer (some ⟨b, off + i, none⟩), .func (.func 29) #[c.cv] #[]] w (NumAt c w0 g S0 b off k (N + 2) s cs i (isClassC c.C) x) :=
  h.number i hi hN (Kind.class h.done.pass (fun q _ hz => h.zX q hz)) (fits_class h.done.pass.len)
theorem Ov.numClsNone (h : Ov c w0 g S0 b off k w S N s cs) (i : Nat) {x : Int} (hi : cs[i]? = some (.int .i64 x)) (hN : N + 2 ≤ 16000000) :
    Calls Try.prog 28 #[c.m.v g, .pointer (some ⟨b, off + i, none⟩), .func (.func 30) #[c.cv] #[]] w (NumAt c w0 g S0 b off k (N + 2) s cs i (isClsNoneC c.C) x) :=
  h.number i hi hN (Kind.clsNone h.done.pass (fun q _ hz => h.zX q hz)) (fits_clsNone h.done.pass.len)
end

/-! ### member -/
def memE (C : List Cst) : Enc (Int × Int × Int) := seqE (kindE isFlagsC 2) (fun _ => seqE (kindE (isTextC C) 2) (fun _ => kindE (isTextC C) 2))
section
variable {c : Cx} {w0 w : World} {g b off k : Nat} {S0 S : Nat → Prop} {N : Nat} {s : Option (List UInt8)} {f n d : Int} {r : List Value}
/-- What member leaves. -/
def Membered (c : Cx) (w0 : World) (g : Nat) (S0 : Nat → Prop) (b off k : Nat) (N : Nat) (s : Option (List UInt8)) (f n d : Int) (r : List Value) (e1 : Ending) (w' : World) : Prop :=
  e1 = .returned (.tuple #[]) ∧ ∃ S' s' f' n' d', Ov c w0 g S0 b off k w' S' N s' (.int .i64 f' :: .int .i64 n' :: .int .i64 d' :: r) ∧ Stp c.m.isRd (memE c.C) s (f, n, d) s' (f', n', d')
theorem Uniq.mem (C : List Cst) (h : C.length ≤ 1024) : Uniq (memE C) :=
  (Uniq.kind fits_flags).seq (fun _ => (Uniq.kind (fits_text (c := ⟨.wr, fun _ => True, none, 0, 0, C⟩) h)).seq (fun _ => Uniq.kind (fits_text (c := ⟨.wr, fun _ => True, none, 0, 0, C⟩) h)))
theorem kMember_any (hO : Ov c w0 g S0 b off k w S N s (.int .i64 f :: .int .i64 n :: .int .i64 d :: r)) (hN : N + 6 ≤ 16000000) :
    Calls Try.prog 43 #[c.cv, c.m.v g, .pointer (some ⟨b, off, none⟩), .pointer (some ⟨b, off + 1, none⟩), .pointer (some ⟨b, off + 2, none⟩)] w (Membered c w0 g S0 b off k (N + 6) s f n d r) := by
  have hlen := hO.done.pass.len
  have HO := Lib.hid hO
  have C1 := Lib.hid (hO.numFlags 0 rfl (by omega))
  clear hO
  go_enter Try.func43, Try.ntmps43
  go_wp2_with fail
  refine C1.out.mono ?_
  rintro e w1 ⟨rfl, S1, s1, f', hO1, hS1⟩
  have HO1 := Lib.hid hO1
  have HS1 := Lib.hid hS1
  have C2 := Lib.hid (hO1.numText 1 rfl (by omega))
  clear hO1 hS1
  go_wp2_with fail
  refine C2.out.mono ?_
  rintro e w2 ⟨rfl, S2, s2, n', hO2, hS2⟩
  have HO2 := Lib.hid hO2
  have HS2 := Lib.hid hS2
  have C3 := Lib.hid (hO2.numText 2 rfl (by omega))
  clear hO2 hS2
  go_wp2_with fail
  refine C3.out.mono ?_
  rintro e w3 ⟨rfl, S3, s3, d', hO3, hS3⟩
  have HO3 := Lib.hid hO3
  have HS3 := Lib.hid hS3
  clear hO3 hS3
  go_wp2
  go_end0
  exact ⟨rfl, S3, s3, f', n', d', HO3.out, Stp.seq (Uniq.kind fits_flags) HS1.out (Stp.seq (Uniq.kind (fits_text hlen)) HS2.out HS3.out)⟩
end

end Go.Proofs.Ytendpbklcgiafaa
