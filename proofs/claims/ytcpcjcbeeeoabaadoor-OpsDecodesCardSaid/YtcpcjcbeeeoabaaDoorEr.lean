/- The walk over the document's Encode. Printed by gen/gen_er.py. -/
import Derived.Test.YtcpcjcbeeeoabaaDoorEq
namespace Go.Proofs.YtcpcjcbeeeoabaaDoor
set_option maxRecDepth 100000
open Go.RowKit

theorem refOne_any (r : RawD) (w : World) (ho : r.op < 256) (h7 : formN r.op ≠ 7) : Calls Tryd.prog 26 #[.agg #[.int .i64 r.pl, .int .u8 (r.op : Int), .int .i64 r.a, .int .i64 r.b]] w fun e w' => OneOk r w w' e := by
  have h9 := formN_le r.op
  rcases (by omega : formN r.op = 0 ∨ formN r.op = 1 ∨ formN r.op = 2 ∨ formN r.op = 3 ∨ formN r.op = 4 ∨ formN r.op = 5 ∨ formN r.op = 6 ∨ formN r.op = 8 ∨ formN r.op = 9) with h | h | h | h | h | h | h | h | h
  · exact refOne_0 r w ho h
  · exact refOne_1 r w ho h
  · exact refOne_2 r w ho h
  · exact refOne_3 r w ho h
  · exact refOne_4 r w ho h
  · exact refOne_5 r w ho h
  · exact refOne_6 r w ho h
  · exact refOne_8 r w ho h
  · exact refOne_9 r w ho h

/-- What the document's loop lays for an instruction: a branch to nowhere has two bytes 0. -/
def refB (l : List RawD) (r : RawD) : List UInt8 := if formN r.op = 7 ∧ isPl l r.a = false then [UInt8.ofNat r.op, 0, 0] else codeB r
theorem refB_len (l : List RawD) (r : RawD) (h : mayF r = true) : (refB l r).length = lenN r.op := by
  unfold refB
  split
  · next h7 =>
    unfold lenN
    rw [h7.1]
    rfl
  · exact codeB_len r (mayF_form h)
theorem refB_all {l : List RawD} (h : meetF l = true) : ∀ r ∈ l, refB l r = codeB r := by
  intro r hr
  unfold refB
  rw [if_neg]
  rintro ⟨h7, hp⟩
  have := List.all_eq_true.1 h r hr
  unfold meetR at this
  rw [h7, hp] at this
  cases this
theorem refBs_all {l : List RawD} (h : meetF l = true) : l.flatMap (refB l) = codesB l := by
  have : ∀ t : List RawD, (∀ r ∈ t, r ∈ l) → t.flatMap (refB l) = t.flatMap codeB := by
    intro t
    induction t with
    | nil => intro _; rfl
    | cons r t ih =>
      intro ht
      rw [List.flatMap_cons, List.flatMap_cons, ih (fun x hx => ht x (List.mem_cons_of_mem _ hx)), refB_all h r (ht r (List.mem_cons_self ..))]
  exact this l (fun _ h => h)
theorem refB_take (l t : List RawD) (k : Nat) (r : RawD) (h : t[k]? = some r) : (t.take (k + 1)).flatMap (refB l) = (t.take k).flatMap (refB l) ++ refB l r := by
  rw [take_one t k r h, List.flatMap_append]
  simp
theorem may_7 (r : RawD) : mayF' 7 r = decide (r.b = 0) := by
  show fitsF 0 false r.b = _
  rw [fits0]

/-- The round in memory: the instruction's box, the row of bytes. -/
structure EncW (w W : World) (q0 : Nat) (r : RawD) (v : Value) (zs : List UInt8) : Prop where
  raw : Blk W q0 36 #[.int .i64 r.pl, .int .u8 (r.op : Int), .int .i64 r.a, .int .i64 r.b]
  own : W.ownsRow w.heap.size 5 1 v zs.length (zs.map B8)
  below : Below w.heap.size w W
section
variable {w W W' : World} {q0 : Nat} {r : RawD} {v v' : Value} {zs ys : List UInt8}
theorem EncW.next (h : EncW w W q0 r v zs) (k : Below W.heap.size W W') : EncW w W' q0 r v zs :=
  ⟨h.raw.of (k.block q0 h.raw.lt), own_only h.own (Only.of_below (S := Empty) k) (fun _ _ _ h => h), h.below.trans (k.mono h.below.size)⟩
end

set_option maxHeartbeats 8000000 in
theorem refEncode_any (A : Option Addr) (n cap : Nat) (l : List RawD) (E : Int) (bs : List UInt8) (w : World) (hL : RawSl w A n cap l) (hn : n ≤ 1048576) (hok : ∀ r ∈ l, r.ok) (hE : Enc l E bs) :
    Calls Tryd.prog 16 #[.slice A n cap] w fun e w' => GotEnc w w' e E bs := by
  have hll := hL.1
  have hm := hL.2.1
  have hm2 := hL.2.2.1
  unfold maxLen at hm2
  have HL := Lib.hid hL
  have Hok := Lib.hid hok
  have Hll := Lib.hid hll
  have HE := Lib.hid hE
  clear hL hll hok hE
  go_enter Tryd.func16, Tryd.ntmps16
  go_wp2
  go_loopw [4, 5, 12] (fun s g i wr => ∃ (k p c : Nat) (B : Option Addr) (zs : List UInt8), k ≤ n ∧ p ≤ 3 * k ∧ s = .slice B p c ∧ g = .bool (decide (4096 < p)) ∧ i = .int .i64 (k : Int) ∧ Hid (wr.ownsRow w.heap.size 5 1 (.slice B p c) p (zs.map B8)) ∧ Hid (Below w.heap.size w wr) ∧
    Hid (measF 0 l = measF p (l.drop k)) ∧ Hid (zs = (l.take k).flatMap (refB l)) ∧ zs.length = p) (fun _ _ i _ => n - (intOf i).toNat)
  case atStart => exact ⟨0, 0, 0, none, [], by omega, by omega, rfl, rfl, rfl, Lib.hid ⟨rfl, Or.inl ⟨rfl, rfl⟩⟩, Lib.hid (Below.refl _ _), Lib.hid rfl, Lib.hid rfl, rfl⟩
  case round =>
    obtain ⟨k, p, c, B, zs, hk, hp, rfl, rfl, rfl, HO, HW, HM, HZ, hzl⟩ := hrel
    have Hzl := Lib.hid hzl
    clear hzl
    by_cases hlt : k < n
    · obtain ⟨b, o, r, rfl, hr, hb, c0, c1, c2, c3⟩ := raw_at (HL.out.below HW.out) hlt
      have hmem := List.mem_of_getElem? hr
      obtain ⟨⟨pl1, pl2⟩, hop, ⟨ra1, ra2⟩, ⟨rb1, rb2⟩⟩ := Hok.out r hmem
      have hdr : l.drop k = r :: l.drop (k + 1) := by
        obtain ⟨h1, h2⟩ := List.getElem?_eq_some_iff.1 hr
        rw [List.drop_eq_getElem_cons h1, h2]
      have HM2 : Hid (measF 0 l = if r.pl = (p : Int) ∧ mayF r = true then measF (p + lenN r.op) (l.drop (k + 1)) else none) := Lib.hid (by rw [HM.out, hdr]; rfl)
      have HZ2 : Hid ((l.take (k + 1)).flatMap (refB l) = zs ++ refB l r) := Lib.hid (by rw [refB_take l l k r hr, ← HZ.out])
      have HFm : Hid (∀ W, Calls Tryd.prog 9 #[.int .u8 (r.op : Int)] W fun e w' => e = .returned (.int .i64 (formN r.op : Int)) ∧ W = w') := Lib.hid (fun W => refForm_any r.op hop W)
      have HEf : Hid (measF 0 l = none → E = 8 ∧ bs = []) := Lib.hid (fun h => by
        cases HE.out with
        | form _ => exact ⟨rfl, rfl⟩
        | range h2 => rw [h] at h2; cases h2
        | long h2 => rw [h] at h2; cases h2
        | ok h2 => rw [h] at h2; cases h2)
      have hf9 := formN_le r.op
      have hl3 := lenN_le r.op
      have Hop := Lib.hid hop
      have HS1 : Hid (EncW w (wr.alloc (.cells #[.int .i64 r.pl, .int .u8 (r.op : Int), .int .i64 r.a, .int .i64 r.b] 36)) wr.heap.size r (.slice B p c) zs) := Lib.hid
        ⟨Blk.new wr 36 _, by rw [Hzl.out]; exact own_only HO.out (Only.of_below (S := Empty) ((Below.refl _ _).alloc (Nat.le_refl _) _)) (fun _ _ _ h => h), HW.out.alloc HW.out.size _⟩
      obtain ⟨A0, c0', hA0, hB0, hN0⟩ := own_open HO.out
      have hpc : p ≤ c ∧ c ≤ 9223372036854775807 := by
        cases hA0
        have h1 := hB0.2.1
        have h2 := hB0.2.2.1
        unfold maxLen at h2
        exact ⟨h1, h2⟩
      obtain ⟨hpc1, hpc2⟩ := hpc
      have hd40 : ((4096 : Int) < (p : Int)) = (4096 < p) := by rw [eq_iff_iff]; omega
      clear hA0 hB0 hN0 hr hdr hmem HM HZ hd40
      have HSd : Hid (EncW w ((wr.alloc (.cells #[.int .i64 r.pl, .int .u8 (r.op : Int), .int .i64 r.a, .int .i64 r.b] 36)).alloc (.cells #[.int .u8 (r.op : Int), .int .u8 0, .int .u8 0] 5)).drew wr.heap.size r (.slice B p c) zs) := Lib.hid (HS1.out.next (((Below.refl _ _).alloc (Nat.le_refl _) _).drewN 1))
      have hpld : True := trivial
      by_cases h7 : formN r.op = 7
      · have HTh : Hid (∀ W, Below w.heap.size w W → Calls Tryd.prog 27 #[.slice (some ⟨b, o, none⟩) n cap, .int .i64 r.a] W fun e w' => e = .returned (.bool (isPl l r.a)) ∧ Below W.heap.size W w') := Lib.hid (fun W h => there_any _ n cap l r.a W (HL.out.below h))
        have HMy : Hid (mayF r = (r.b == 0)) := Lib.hid (by unfold mayF; rw [h7, may_7, Bool.eq_iff_iff]; simp)
        have HCb : Hid (codeB r = [UInt8.ofNat r.op] ++ putL (uw (r.a - r.pl)) 2) := Lib.hid (by unfold codeB codeB'; rw [h7]; show UInt8.ofNat r.op :: (putL (uw (aP 7 r)) 2 ++ putL (uw r.b) 0) = _; rw [putL0]; simp [aP])
        have HRb : Hid (refB l r = if isPl l r.a = false then [UInt8.ofNat r.op, 0, 0] else codeB r) := Lib.hid (by unfold refB; rw [h7]; simp)
        have HLt : Hid (Blk ((wr.alloc (.cells #[.int .i64 r.pl, .int .u8 (r.op : Int), .int .i64 r.a, .int .i64 r.b] 36)).alloc (.cells #[.int .u8 (r.op : Int), .int .u8 0, .int .u8 0] 5)).drew (wr.heap.size + 1) 5 (cellsB [UInt8.ofNat r.op, 0, 0])) := Lib.hid (by
          have h := (Blk.new (wr.alloc (.cells #[.int .i64 r.pl, .int .u8 (r.op : Int), .int .i64 r.a, .int .i64 r.b] 36)) 5 #[.int .u8 (r.op : Int), .int .u8 0, .int .u8 0]).drew
          rw [show (wr.alloc (.cells #[.int .i64 r.pl, .int .u8 (r.op : Int), .int .i64 r.a, .int .i64 r.b] 36)).heap.size = wr.heap.size + 1 by simp] at h
          have e : (#[.int .u8 (r.op : Int), .int .u8 0, .int .u8 0] : Array Value) = cellsB [UInt8.ofNat r.op, 0, 0] := by
            unfold cellsB B8
            simp
            omega
          rw [← e]
          exact h)
        have hf7 : ((formN r.op : Int) == 7) = true := by simp; omega
        have hf7' : ((formN r.op : Int) != 7) = false := by simp; omega
        obtain ⟨T, hT⟩ : ∃ T, (r.b == 0) = T := ⟨_, rfl⟩
        have HT : Hid (mayF r = T) := Lib.hid (by rw [HMy.out, hT])
        obtain ⟨X, hX⟩ : ∃ X, isPl l r.a = X := ⟨_, rfl⟩
        rw [hX] at HTh HRb
        generalize formN r.op = f at *
        clear h7 HMy hX
        cases X with
        | false =>
          go_wp2
          go_region
          go_wp2_with fail
          refine (HFm.out _).mono ?_
          rintro e1 w1 ⟨rfl, rfl⟩
          go_wp2_with fail
          refine (HTh.out _ HSd.out.below).mono ?_
          rintro e2 w2 ⟨rfl, hb2⟩
          have HS4 := Lib.hid (HSd.out.next hb2)
          have HLt2 := HLt.out.of (hb2.block _ HLt.out.lt)
          have HB4 : Hid (ByteSl w2 Empty (some ⟨wr.heap.size + 1, 0, none⟩) 3 3 [UInt8.ofNat r.op, 0, 0]) := Lib.hid ⟨rfl, Nat.le_refl _, by unfold maxLen; omega, fun _ => ⟨_, rfl, HLt2.lt, fun h => h, fun j x hx => by
            have ha : (⟨wr.heap.size + 1, 0, none⟩ : Addr).add j = ⟨wr.heap.size + 1, j, none⟩ := by unfold Addr.add; split <;> simp_all
            rw [ha, HLt2.cell, cellsB_get, hx]
            rfl⟩⟩
          have HN4 : Hid (some (⟨wr.heap.size + 1, 0, none⟩ : Addr) = none → 3 = 0 ∧ 3 = 0) := Lib.hid (fun h => by cases h)
          have HY4 : Hid (mayF r = true → [UInt8.ofNat r.op, 0, 0] = refB l r) := Lib.hid (fun _ => by rw [HRb.out]; simp)
          clear hb2 HLt2 c0 c1 c2 c3 hT
          have k0 := HS4.out.raw.cell 0
          simp at k0
          cases T with
          | false =>
            have HN : Hid (E = 8 ∧ bs = []) := Lib.hid (HEf.out (by rw [HM2.out, if_neg (fun h => by rw [HT.out] at h; cases h.2)]))
            clear hpld
            go_wp2
            go_ret2
            refine ⟨?_, HS4.out.below⟩
            rw [HN.out.1, HN.out.2]
            exact ⟨_, rfl, own_none _ _⟩
          | true =>
            by_cases hpl : r.pl = (p : Int)
            · have hpd : (r.pl == (p : Int)) = true := by simpa using hpl
              have hpd2 : (r.pl != (p : Int)) = false := by simp [hpl]
              have HM3 : Hid (measF 0 l = measF (p + 3) (l.drop (k + 1))) := Lib.hid (by
                rw [HM2.out, if_pos ⟨hpl, HT.out⟩]
                have h1 := refB_len l r HT.out
                rw [← HY4.out HT.out] at h1
                have h2 := HB4.out.1
                rw [← h1, h2])
              have hm4 : 3 ≤ 3 := by
                have h1 := refB_len l r HT.out
                rw [← HY4.out HT.out] at h1
                have h2 := HB4.out.1
                omega
              have HZ3 : Hid (zs ++ ([UInt8.ofNat r.op, 0, 0]) = (l.take (k + 1)).flatMap (refB l)) := Lib.hid (by rw [HZ2.out, ← HY4.out HT.out])
              have Hys : Hid (([UInt8.ofNat r.op, 0, 0]).length = 3) := Lib.hid HB4.out.1
              have hop4 := HS4.out.own
              rw [Hzl.out] at hop4
              have HOp := Lib.hid hop4
              clear hop4
              clear hpl hpld
              by_cases hp4 : 4096 < p
              · have hpd4 : decide (4096 < p) = true := decide_eq_true hp4
                go_wp2_with (at_builtin; refine wpList_append_bytes rfl (.tmp 60) (.tmp 61) rfl w.heap.size (.slice B p c) rfl p zs HOp.out (some ⟨wr.heap.size + 1, 0, none⟩) 3 3 ([UInt8.ofNat r.op, 0, 0]) Empty rfl HB4.out HN4.out (by omega) HS4.out.below.size ?_; intro v5 w5 ho5 hg5 hn5; obtain ⟨B5, c5, rfl, hB5, hN5⟩ := own_open ho5; have HB5 : Hid (Below w.heap.size w w5) := Lib.hid (below_grown HS4.out.below HS4.out.below.size hg5 (own_ge HS4.out.own)); have HO5 := Lib.hid ho5; clear ho5 hg5 hn5 hB5 hN5)
                go_roundw
                case rel =>
                  refine ⟨k + 1, p + 3, c5, B5, zs ++ ([UInt8.ofNat r.op, 0, 0]), by omega, by omega, rfl, ?_, by go_num, HO5, HB5, HM3, HZ3, by rw [List.length_append, Hys.out, Hzl.out]⟩
                  rw [decide_eq_true (by omega)]
                case measure => simp [intOf]; omega
              · have hpd4 : decide (4096 < p) = false := decide_eq_false hp4
                go_wp2_with (at_builtin; refine wpList_append_bytes rfl (.tmp 60) (.tmp 61) rfl w.heap.size (.slice B p c) rfl p zs HOp.out (some ⟨wr.heap.size + 1, 0, none⟩) 3 3 ([UInt8.ofNat r.op, 0, 0]) Empty rfl HB4.out HN4.out (by omega) HS4.out.below.size ?_; intro v5 w5 ho5 hg5 hn5; obtain ⟨B5, c5, rfl, hB5, hN5⟩ := own_open ho5; have HB5 : Hid (Below w.heap.size w w5) := Lib.hid (below_grown HS4.out.below HS4.out.below.size hg5 (own_ge HS4.out.own)); have HO5 := Lib.hid ho5; clear ho5 hg5 hn5 hB5 hN5)
                go_roundw
                case rel =>
                  refine ⟨k + 1, p + 3, c5, B5, zs ++ ([UInt8.ofNat r.op, 0, 0]), by omega, by omega, rfl, ?_, by go_num, HO5, HB5, HM3, HZ3, by rw [List.length_append, Hys.out, Hzl.out]⟩
                  rw [show decide (4096 < p + 3) = decide ((4096 : Int) < (p : Int) + (3 : Int)) by rw [decide_eq_decide]; omega]
                  all_goals rfl
                case measure => simp [intOf]; omega
            · have hpd : (r.pl == (p : Int)) = false := by simpa using hpl
              have hpd2 : (r.pl != (p : Int)) = true := by simp [hpl]
              have HN : Hid (E = 8 ∧ bs = []) := Lib.hid (HEf.out (by rw [HM2.out, if_neg (fun h => hpl h.1)]))
              clear hpl hpld
              go_wp2
              go_ret2
              refine ⟨?_, HS4.out.below⟩
              rw [HN.out.1, HN.out.2]
              exact ⟨_, rfl, own_none _ _⟩
        | true =>
          by_cases hpl0 : r.pl = (p : Int)
          · have hpd0 : (r.pl == (p : Int)) = true := by simpa using hpl0
            obtain ⟨D, hD⟩ : ∃ D, D = IntKind.i64.wrap (r.a - r.pl) := ⟨_, rfl⟩
            have hDu : IntKind.u64.wrap D = (uw (r.a - r.pl) : Int) := by
              rw [hD, IntKind.wrap_u64, IntKind.wrap_i64]
              unfold uw
              omega
            have hDi : IntKind.i64.wrap (r.a - r.pl) = D := hD.symm
            have hul := uw_le (r.a - r.pl)
            clear hpl0
            go_wp2
            go_region
            go_wp2_with fail
            refine (HFm.out _).mono ?_
            rintro e1 w1 ⟨rfl, rfl⟩
            go_wp2_with fail
            refine (HTh.out _ HSd.out.below).mono ?_
            rintro e2 w2 ⟨rfl, hb2⟩
            have HS3 := Lib.hid (HSd.out.next hb2)
            have HLt2 := HLt.out.of (hb2.block _ HLt.out.lt)
            have j0 := HS3.out.raw.cell 0
            have j2 := HS3.out.raw.cell 2
            simp at j0 j2
            have HB3 : Hid (ByteSl w2.drew Empty (some ⟨wr.heap.size + 1, 0, none⟩) 1 3 [UInt8.ofNat r.op]) := Lib.hid ⟨rfl, by omega, by unfold maxLen; omega, fun _ => ⟨_, rfl, HLt2.lt, fun h => h, fun j x hx => by
              have ha : (⟨wr.heap.size + 1, 0, none⟩ : Addr).add j = ⟨wr.heap.size + 1, j, none⟩ := by unfold Addr.add; split <;> simp_all
              rw [ha, HLt2.drew.cell, cellsB_get]
              cases j with
              | zero => simp at hx; subst hx; rfl
              | succ j => simp at hx⟩⟩
            have HPut : Hid (Calls Tryd.prog 28 #[.slice (some ⟨wr.heap.size + 1, 0, none⟩) 1 3, .int .u64 (uw (r.a - r.pl) : Int), .int .i64 2] w2.drew fun e w' => (∃ u, e = .returned u ∧ w'.ownsRow w2.drew.heap.size 5 1 u (1 + 2) (([UInt8.ofNat r.op] ++ putL (uw (r.a - r.pl)) 2).map B8)) ∧ Below w2.drew.heap.size w2.drew w') :=
              Lib.hid (refPut_yes _ 1 3 [UInt8.ofNat r.op] (uw (r.a - r.pl)) 2 _ HB3.out (fun h => by cases h) hul (by omega) (by omega) (by omega))
            have hs0 : w2.drew.cell? ⟨wr.heap.size, 0, none⟩ = some (.int .i64 r.pl) ∧ w2.drew.cell? ⟨wr.heap.size, 2, none⟩ = some (.int .i64 r.a) := ⟨j0, j2⟩
            have HSx : Hid (∀ W, Below w2.drew.heap.size w2.drew W → W.cell? ⟨wr.heap.size, 0, none⟩ = some (.int .i64 r.pl) ∧ W.cell? ⟨wr.heap.size, 2, none⟩ = some (.int .i64 r.a)) := Lib.hid (fun W h => by
              have hq := HS3.out.raw.lt
              exact ⟨(h.cell (p := ⟨wr.heap.size, 0, none⟩) hq).trans hs0.1, (h.cell (p := ⟨wr.heap.size, 2, none⟩) hq).trans hs0.2⟩)
            clear hb2 HLt2 c0 c1 c2 c3 hT hD
            go_wp2
            go_region_held3 (fun W => W.cell? ⟨wr.heap.size, 0, none⟩ = some (.int .i64 r.pl) ∧ W.cell? ⟨wr.heap.size, 2, none⟩ = some (.int .i64 r.a)) (first | with_reducible exact hs0 | with_reducible exact hs3)
              ((go_at_call 28; (with_reducible refine HPut.out.mono ?_); rintro e3 w3 ⟨⟨u, rfl, hown⟩, hb3⟩; have hs3 := HSx.out w3 hb3))
            obtain ⟨A4, c4, rfl, hB4, hN4⟩ := own_open hown
            have HS4 := Lib.hid (HS3.out.next (((Below.refl w2.heap.size w2).drewN 1).trans hb3))
            have HB4 := Lib.hid hB4
            have HN4 := Lib.hid hN4
            have HY4 : Hid (mayF r = true → [UInt8.ofNat r.op] ++ putL (uw (r.a - r.pl)) 2 = refB l r) := Lib.hid (fun _ => by rw [HRb.out]; simp [HCb.out])
            clear hown hb3 hB4 hN4 hs0 hs3 j0 j2
            have k0 := HS4.out.raw.cell 0
            simp at k0
            cases T with
            | false =>
              have HN : Hid (E = 8 ∧ bs = []) := Lib.hid (HEf.out (by rw [HM2.out, if_neg (fun h => by rw [HT.out] at h; cases h.2)]))
              clear hpld
              go_wp2
              go_ret2
              refine ⟨?_, HS4.out.below⟩
              rw [HN.out.1, HN.out.2]
              exact ⟨_, rfl, own_none _ _⟩
            | true =>
              by_cases hpl : r.pl = (p : Int)
              · have hpd : (r.pl == (p : Int)) = true := by simpa using hpl
                have hpd2 : (r.pl != (p : Int)) = false := by simp [hpl]
                have HM3 : Hid (measF 0 l = measF (p + (1 + 2)) (l.drop (k + 1))) := Lib.hid (by
                  rw [HM2.out, if_pos ⟨hpl, HT.out⟩]
                  have h1 := refB_len l r HT.out
                  rw [← HY4.out HT.out] at h1
                  have h2 := HB4.out.1
                  rw [← h1, h2])
                have hm4 : (1 + 2) ≤ 3 := by
                  have h1 := refB_len l r HT.out
                  rw [← HY4.out HT.out] at h1
                  have h2 := HB4.out.1
                  omega
                have HZ3 : Hid (zs ++ ([UInt8.ofNat r.op] ++ putL (uw (r.a - r.pl)) 2) = (l.take (k + 1)).flatMap (refB l)) := Lib.hid (by rw [HZ2.out, ← HY4.out HT.out])
                have Hys : Hid (([UInt8.ofNat r.op] ++ putL (uw (r.a - r.pl)) 2).length = (1 + 2)) := Lib.hid HB4.out.1
                have hop4 := HS4.out.own
                rw [Hzl.out] at hop4
                have HOp := Lib.hid hop4
                clear hop4
                clear hpl hpld
                by_cases hp4 : 4096 < p
                · have hpd4 : decide (4096 < p) = true := decide_eq_true hp4
                  go_wp2_with (at_builtin; refine wpList_append_bytes rfl (.tmp 60) (.tmp 61) rfl w.heap.size (.slice B p c) rfl p zs HOp.out A4 (1 + 2) c4 ([UInt8.ofNat r.op] ++ putL (uw (r.a - r.pl)) 2) Empty rfl HB4.out HN4.out (by omega) HS4.out.below.size ?_; intro v5 w5 ho5 hg5 hn5; obtain ⟨B5, c5, rfl, hB5, hN5⟩ := own_open ho5; have HB5 : Hid (Below w.heap.size w w5) := Lib.hid (below_grown HS4.out.below HS4.out.below.size hg5 (own_ge HS4.out.own)); have HO5 := Lib.hid ho5; clear ho5 hg5 hn5 hB5 hN5)
                  go_roundw
                  case rel =>
                    refine ⟨k + 1, p + (1 + 2), c5, B5, zs ++ ([UInt8.ofNat r.op] ++ putL (uw (r.a - r.pl)) 2), by omega, by omega, rfl, ?_, by go_num, HO5, HB5, HM3, HZ3, by rw [List.length_append, Hys.out, Hzl.out]⟩
                    rw [decide_eq_true (by omega)]
                  case measure => simp [intOf]; omega
                · have hpd4 : decide (4096 < p) = false := decide_eq_false hp4
                  go_wp2_with (at_builtin; refine wpList_append_bytes rfl (.tmp 60) (.tmp 61) rfl w.heap.size (.slice B p c) rfl p zs HOp.out A4 (1 + 2) c4 ([UInt8.ofNat r.op] ++ putL (uw (r.a - r.pl)) 2) Empty rfl HB4.out HN4.out (by omega) HS4.out.below.size ?_; intro v5 w5 ho5 hg5 hn5; obtain ⟨B5, c5, rfl, hB5, hN5⟩ := own_open ho5; have HB5 : Hid (Below w.heap.size w w5) := Lib.hid (below_grown HS4.out.below HS4.out.below.size hg5 (own_ge HS4.out.own)); have HO5 := Lib.hid ho5; clear ho5 hg5 hn5 hB5 hN5)
                  go_roundw
                  case rel =>
                    refine ⟨k + 1, p + (1 + 2), c5, B5, zs ++ ([UInt8.ofNat r.op] ++ putL (uw (r.a - r.pl)) 2), by omega, by omega, rfl, ?_, by go_num, HO5, HB5, HM3, HZ3, by rw [List.length_append, Hys.out, Hzl.out]⟩
                    rw [show decide (4096 < p + (1 + 2)) = decide ((4096 : Int) < (p : Int) + ((1 + 2) : Int)) by rw [decide_eq_decide]; omega]
                    all_goals rfl
                  case measure => simp [intOf]; omega
              · have hpd : (r.pl == (p : Int)) = false := by simpa using hpl
                have hpd2 : (r.pl != (p : Int)) = true := by simp [hpl]
                have HN : Hid (E = 8 ∧ bs = []) := Lib.hid (HEf.out (by rw [HM2.out, if_neg (fun h => hpl h.1)]))
                clear hpl hpld
                go_wp2
                go_ret2
                refine ⟨?_, HS4.out.below⟩
                rw [HN.out.1, HN.out.2]
                exact ⟨_, rfl, own_none _ _⟩
          · have hpd : (r.pl == (p : Int)) = false := by simpa using hpl0
            have hpd2 : (r.pl != (p : Int)) = true := by simp [hpl0]
            have HN : Hid (E = 8 ∧ bs = []) := Lib.hid (HEf.out (by rw [HM2.out, if_neg (fun h => hpl0 h.1)]))
            clear hpl0
            go_wp2
            go_region
            go_wp2_with fail
            refine (HFm.out _).mono ?_
            rintro e1 w1 ⟨rfl, rfl⟩
            go_wp2_with fail
            refine (HTh.out _ HSd.out.below).mono ?_
            rintro e2 w2 ⟨rfl, hb2⟩
            have HS4 := Lib.hid (HSd.out.next hb2)
            have k0 := HS4.out.raw.cell 0
            simp at k0
            clear hb2 c0 c1 c2 c3
            cases T with
            | false =>
              go_wp2
              go_ret2
              refine ⟨?_, HS4.out.below⟩
              rw [HN.out.1, HN.out.2]
              exact ⟨_, rfl, own_none _ _⟩
            | true =>
              go_wp2
              go_ret2
              refine ⟨?_, HS4.out.below⟩
              rw [HN.out.1, HN.out.2]
              exact ⟨_, rfl, own_none _ _⟩
      · have HOne : Hid (∀ W, Calls Tryd.prog 26 #[.agg #[.int .i64 r.pl, .int .u8 (r.op : Int), .int .i64 r.a, .int .i64 r.b]] W fun e w' => OneOk r W w' e) := Lib.hid (fun W => refOne_any r W hop h7)
        have HRf : Hid (refB l r = codeB r) := Lib.hid (by unfold refB; rw [if_neg (fun h => h7 h.1)])
        have hf7 : ((formN r.op : Int) == 7) = false := by simp; omega
        have hf7' : ((formN r.op : Int) != 7) = true := by simp; omega
        generalize formN r.op = f at *
        clear h7
        go_wp2
        go_region
        go_wp2_with fail
        refine (HFm.out _).mono ?_
        rintro e1 w1 ⟨rfl, rfl⟩
        go_wp2_with fail
        refine (HOne.out _).mono ?_
        rintro e2 w2 ⟨⟨u, ys, rfl, hown, hys⟩, hb2⟩
        obtain ⟨A4, c4, rfl, hB4, hN4⟩ := own_open hown
        have HS4 := Lib.hid (HSd.out.next hb2)
        have HB4 := Lib.hid hB4
        have HN4 := Lib.hid hN4
        have HY4 : Hid (mayF r = true → ys = refB l r) := Lib.hid (fun h => by rw [HRf.out]; exact hys h)
        obtain ⟨m4, hm4e⟩ : ∃ m4, m4 = ys.length := ⟨_, rfl⟩
        rw [← hm4e] at HB4 HN4 ⊢
        obtain ⟨T, hT⟩ : ∃ T, mayF r = T := ⟨_, rfl⟩
        rw [hT]
        have HT := Lib.hid hT
        clear hown hb2 hB4 hN4 hys hT hm4e c0 c1 c2 c3
        have k0 := HS4.out.raw.cell 0
        simp at k0
        cases T with
        | false =>
          have HN : Hid (E = 8 ∧ bs = []) := Lib.hid (HEf.out (by rw [HM2.out, if_neg (fun h => by rw [HT.out] at h; cases h.2)]))
          clear hpld
          go_wp2
          go_ret2
          refine ⟨?_, HS4.out.below⟩
          rw [HN.out.1, HN.out.2]
          exact ⟨_, rfl, own_none _ _⟩
        | true =>
          by_cases hpl : r.pl = (p : Int)
          · have hpd : (r.pl == (p : Int)) = true := by simpa using hpl
            have hpd2 : (r.pl != (p : Int)) = false := by simp [hpl]
            have HM3 : Hid (measF 0 l = measF (p + m4) (l.drop (k + 1))) := Lib.hid (by
              rw [HM2.out, if_pos ⟨hpl, HT.out⟩]
              have h1 := refB_len l r HT.out
              rw [← HY4.out HT.out] at h1
              have h2 := HB4.out.1
              rw [← h1, h2])
            have hm4 : m4 ≤ 3 := by
              have h1 := refB_len l r HT.out
              rw [← HY4.out HT.out] at h1
              have h2 := HB4.out.1
              omega
            have HZ3 : Hid (zs ++ (ys) = (l.take (k + 1)).flatMap (refB l)) := Lib.hid (by rw [HZ2.out, ← HY4.out HT.out])
            have Hys : Hid ((ys).length = m4) := Lib.hid HB4.out.1
            have hop4 := HS4.out.own
            rw [Hzl.out] at hop4
            have HOp := Lib.hid hop4
            clear hop4
            clear hpl hpld
            by_cases hp4 : 4096 < p
            · have hpd4 : decide (4096 < p) = true := decide_eq_true hp4
              go_wp2_with (at_builtin; refine wpList_append_bytes rfl (.tmp 60) (.tmp 61) rfl w.heap.size (.slice B p c) rfl p zs HOp.out A4 m4 c4 (ys) Empty rfl HB4.out HN4.out (by omega) HS4.out.below.size ?_; intro v5 w5 ho5 hg5 hn5; obtain ⟨B5, c5, rfl, hB5, hN5⟩ := own_open ho5; have HB5 : Hid (Below w.heap.size w w5) := Lib.hid (below_grown HS4.out.below HS4.out.below.size hg5 (own_ge HS4.out.own)); have HO5 := Lib.hid ho5; clear ho5 hg5 hn5 hB5 hN5)
              go_roundw
              case rel =>
                refine ⟨k + 1, p + m4, c5, B5, zs ++ (ys), by omega, by omega, rfl, ?_, by go_num, HO5, HB5, HM3, HZ3, by rw [List.length_append, Hys.out, Hzl.out]⟩
                rw [decide_eq_true (by omega)]
              case measure => simp [intOf]; omega
            · have hpd4 : decide (4096 < p) = false := decide_eq_false hp4
              go_wp2_with (at_builtin; refine wpList_append_bytes rfl (.tmp 60) (.tmp 61) rfl w.heap.size (.slice B p c) rfl p zs HOp.out A4 m4 c4 (ys) Empty rfl HB4.out HN4.out (by omega) HS4.out.below.size ?_; intro v5 w5 ho5 hg5 hn5; obtain ⟨B5, c5, rfl, hB5, hN5⟩ := own_open ho5; have HB5 : Hid (Below w.heap.size w w5) := Lib.hid (below_grown HS4.out.below HS4.out.below.size hg5 (own_ge HS4.out.own)); have HO5 := Lib.hid ho5; clear ho5 hg5 hn5 hB5 hN5)
              go_roundw
              case rel =>
                refine ⟨k + 1, p + m4, c5, B5, zs ++ (ys), by omega, by omega, rfl, ?_, by go_num, HO5, HB5, HM3, HZ3, by rw [List.length_append, Hys.out, Hzl.out]⟩
                rw [show decide (4096 < p + m4) = decide ((4096 : Int) < (p : Int) + (m4 : Int)) by rw [decide_eq_decide]; omega]
                all_goals rfl
              case measure => simp [intOf]; omega
          · have hpd : (r.pl == (p : Int)) = false := by simpa using hpl
            have hpd2 : (r.pl != (p : Int)) = true := by simp [hpl]
            have HN : Hid (E = 8 ∧ bs = []) := Lib.hid (HEf.out (by rw [HM2.out, if_neg (fun h => hpl h.1)]))
            clear hpl hpld
            go_wp2
            go_ret2
            refine ⟨?_, HS4.out.below⟩
            rw [HN.out.1, HN.out.2]
            exact ⟨_, rfl, own_none _ _⟩
    · have hk2 : k = n := by omega
      have hM3 : measF 0 l = some p := by rw [HM.out, List.drop_of_length_le (by have := Hll.out; omega)]; rfl
      have hZ3 : zs = l.flatMap (refB l) := by rw [HZ.out, List.take_of_length_le (by have := Hll.out; omega)]
      have HGo : Hid (∀ W, Below w.heap.size w W → Calls Tryd.prog 23 #[.slice A n cap] W fun e w' => e = .returned (.bool (meetF l)) ∧ Below W.heap.size W w') := Lib.hid (fun W h => refGoes_any A n cap l W (HL.out.below h) Hok.out)
      have hd : decide (k < n) = false := decide_eq_false hlt
      have HEe : Hid ((meetF l = false ∧ E = 2 ∧ bs = []) ∨ (meetF l = true ∧ 4096 < p ∧ E = 9 ∧ bs = []) ∨ (meetF l = true ∧ ¬ 4096 < p ∧ E = 0 ∧ bs = zs)) := Lib.hid (by
        cases HE.out with
        | form h => rw [hM3] at h; cases h
        | range h h2 => exact .inl ⟨h2, rfl, rfl⟩
        | long h h2 h3 =>
          rw [hM3] at h
          cases h
          exact .inr (.inl ⟨h2, h3, rfl, rfl⟩)
        | ok h h2 h3 =>
          rw [hM3] at h
          cases h
          exact .inr (.inr ⟨h2, by omega, rfl, by rw [hZ3, refBs_all h2]⟩))
      clear hk2 hM3 hZ3 HM HZ HE
      rcases HEe.out with ⟨hme, hE1, hE2⟩ | ⟨hme, hp4, hE1, hE2⟩ | ⟨hme, hp4, hE1, hE2⟩
      · rw [hme] at HGo
        have HE1 := Lib.hid hE1
        have HE2 := Lib.hid hE2
        clear hme hE1 hE2 HEe
        go_wp2_with fail
        refine (HGo.out _ HW.out).mono ?_
        rintro e1 w1 ⟨rfl, hb1⟩
        have HW1 := Lib.hid (HW.out.trans (hb1.mono HW.out.size))
        clear hb1
        go_wp2
        go_ret2
        refine ⟨?_, HW1.out⟩
        rw [HE1.out, HE2.out]
        exact ⟨_, rfl, own_none _ _⟩
      · rw [hme] at HGo
        have HE1 := Lib.hid hE1
        have HE2 := Lib.hid hE2
        have hpd4 : decide (4096 < p) = true := decide_eq_true hp4
        clear hme hE1 hE2 HEe hp4
        go_wp2_with fail
        refine (HGo.out _ HW.out).mono ?_
        rintro e1 w1 ⟨rfl, hb1⟩
        have HW1 := Lib.hid (HW.out.trans (hb1.mono HW.out.size))
        clear hb1
        go_wp2
        go_ret2
        refine ⟨?_, HW1.out⟩
        rw [HE1.out, HE2.out]
        exact ⟨_, rfl, own_none _ _⟩
      · rw [hme] at HGo
        have HE1 := Lib.hid hE1
        have HE2 := Lib.hid hE2
        have hpd4 : decide (4096 < p) = false := decide_eq_false hp4
        clear hme hE1 hE2 HEe hp4
        go_wp2_with fail
        refine (HGo.out _ HW.out).mono ?_
        rintro e1 w1 ⟨rfl, hb1⟩
        have HW1 := Lib.hid (HW.out.trans (hb1.mono HW.out.size))
        have HO1 := Lib.hid (own_only HO.out (Only.of_below (S := Empty) hb1) (fun _ _ _ h => h))
        clear hb1
        go_wp2
        go_ret2
        refine ⟨?_, HW1.out⟩
        rw [HE1.out, HE2.out, Hzl.out]
        exact ⟨_, rfl, HO1.out⟩

end Go.Proofs.YtcpcjcbeeeoabaaDoor
