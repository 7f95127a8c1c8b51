/- The walk over ops.forms.code: the bytes of instructions. -/
import Derived.Test.YtcpcjcbeeeoabaaDoorEm
namespace Go.Proofs.YtcpcjcbeeeoabaaDoor
set_option maxRecDepth 100000
open Go.RowKit

/-- What stands for A in the bytes. -/
def aP (f : Nat) (r : RawD) : Int := if f = 7 then r.a - r.pl else r.a
def codeB' (f : Nat) (r : RawD) : List UInt8 := UInt8.ofNat r.op :: (putL (uw (aP f r)) (shapeF f).1 ++ putL (uw r.b) (shapeF f).2.2.1)
/-- An instruction's bytes. -/
def codeB (r : RawD) : List UInt8 := codeB' (formN r.op) r
def codesB (l : List RawD) : List UInt8 := l.flatMap codeB

theorem codeB_len (r : RawD) (h : formN r.op ≠ 0) : (codeB r).length = lenN r.op := by
  have := lenF_pos _ (formN_le r.op) h
  unfold codeB codeB' lenN
  simp [putL_len]
  omega
theorem codeB_le (r : RawD) : (codeB r).length ≤ 4 := by
  have := shapeF_le _ (formN_le r.op)
  unfold codeB codeB'
  simp [putL_len]
  omega
theorem codesB_le : ∀ l : List RawD, (codesB l).length ≤ 4 * l.length
  | [] => by simp [codesB]
  | r :: t => by
    have h1 := codesB_le t
    have h2 := codeB_le r
    unfold codesB at h1 ⊢
    rw [List.flatMap_cons, List.length_append, List.length_cons]
    omega
theorem codesB_take (l : List RawD) (k : Nat) (r : RawD) (h : l[k]? = some r) : codesB (l.take (k + 1)) = codesB (l.take k) ++ codeB r := by
  unfold codesB
  rw [take_one l k r h, List.flatMap_append]
  simp

theorem own_open {w : World} {base : Nat} {v : Value} {n : Nat} {xs : List UInt8} (h : w.ownsRow base 5 1 v n (xs.map B8)) :
    ∃ A cap, v = .slice A n cap ∧ ByteSl w Empty A n cap xs ∧ (A = none → n = 0 ∧ cap = 0) := by
  obtain ⟨A, cap, e, hB, _⟩ := ByteSl.of_own (S := Empty) h (fun _ _ _ h => h)
  refine ⟨A, cap, e, hB, fun hA => ?_⟩
  subst hA
  rcases h.2 with ⟨h1, h2⟩ | ⟨g, c, cur, h1, _⟩
  · rw [e] at h1
    simp at h1
    exact ⟨h2, h1.2⟩
  · rw [e] at h1
    cases h1
theorem own_ne_ {w : World} {base : Nat} {v : Value} {n q : Nat} {xs : List Value} {t : TypeId} {cs : Array Value} (h : w.ownsRow base 5 1 v n xs) (hq : Blk w q t cs) (ht : 5 ≠ t) : ∀ g, v.ownBlock = some g → g ≠ q := by
  intro g hg
  rcases h.2 with ⟨rfl, _⟩ | ⟨g', c, cur, rfl, _, hh, _⟩
  · cases hg
  · cases hg
    exact Blk.ne_ (w := w) (cs := cur) hh hq ht

theorem lit1 (w : World) (o : Nat) (h : o < 256) : ByteSl (w.alloc (.cells #[.int .u8 (o : Int)] 5)) Empty (some ⟨w.heap.size, 0, none⟩) 1 1 [UInt8.ofNat o] := by
  have e : (#[Value.int .u8 (o : Int)] : Array Value) = cellsB [UInt8.ofNat o] := by
    unfold cellsB B8
    simp
    omega
  rw [e]
  exact ByteSl.lit w Empty [UInt8.ofNat o] 1 rfl (fun h => h) (by unfold maxLen; omega)

/-- What the bytes of one instruction make of a row: the walk from behind the two boxes on. -/
structure CodeW (w W : World) (q0 : Nat) (r : RawD) (sa : Nat) (ba : Bool) (sb : Nat) (bb : Bool) (v : Value) (zs : List UInt8) : Prop where
  raw : Blk W q0 36 #[.int .i64 r.pl, .int .u8 (r.op : Int), .int .i64 r.a, .int .i64 r.b]
  shape : Blk W (q0 + 1) 58 #[.int .i64 (sa : Int), .bool ba, .int .i64 (sb : Int), .bool bb]
  own : W.ownsRow w.heap.size 5 1 v zs.length (zs.map B8)
  below : Below w.heap.size w W
section
variable {w W W' : World} {q0 sa sb : Nat} {r : RawD} {ba bb : Bool} {v v' : Value} {zs ys : List UInt8}
theorem CodeW.next (h : CodeW w W q0 r sa ba sb bb v zs) (k : Below W.heap.size W W') : CodeW w W' q0 r sa ba sb bb v zs :=
  ⟨h.raw.of (k.block q0 h.raw.lt), h.shape.of (k.block (q0 + 1) h.shape.lt), own_only h.own (Only.of_below (S := Empty) k) (fun _ _ _ h => h), h.below.trans (k.mono h.below.size)⟩
theorem CodeW.grow (h : CodeW w W q0 r sa ba sb bb v zs) (g : W.grownBy W' v.ownBlock) (k : W'.ownsRow w.heap.size 5 1 v' ((zs ++ ys).length) ((zs ++ ys).map B8)) : CodeW w W' q0 r sa ba sb bb v' (zs ++ ys) :=
  ⟨grown_blk g h.raw (own_ne_ h.own h.raw (by decide)), grown_blk g h.shape (own_ne_ h.own h.shape (by decide)), k, below_grown h.below h.below.size g (fun q hq => by
    rcases h.own.2 with ⟨rfl, _⟩ | ⟨g', c, cur, rfl, hb, _⟩
    · cases hq
    · cases hq
      exact hb)⟩
end

set_option maxHeartbeats 4000000 in
theorem code_any (g : Nat) (A : Option Addr) (n cap : Nat) (l : List RawD) (w : World) (hT : Tables w) (hF : FormsAt w g) (hL : RawSl w A n cap l) (hn : n ≤ 1048576) (hok : ∀ r ∈ l, r.ok)
    (hbd : ∀ r ∈ l, 0 ≤ r.pl ∧ r.pl ≤ 10000000 ∧ (formN r.op = 7 → 0 ≤ r.a ∧ r.a ≤ 10000000)) :
    Calls Tryd.prog 25 #[.pointer (some ⟨g, 0, none⟩), .slice A n cap] w fun e w' => (∃ u, e = .returned u ∧ w'.ownsRow w.heap.size 5 1 u (codesB l).length ((codesB l).map B8)) ∧ Below w.heap.size w w' := by
  have hm := hL.2.1
  have hm2 := hL.2.2.1
  have hll := hL.1
  unfold maxLen at hm2
  have hg : g < w.heap.size := Blk.lt hF
  have HF := Lib.hid hF
  have HT := Lib.hid hT
  have HL := Lib.hid hL
  have Hok := Lib.hid hok
  have Hll := Lib.hid hll
  have Hbd := Lib.hid hbd
  clear hL hll hok hF hT hbd
  go_enter Tryd.func25, Tryd.ntmps25
  go_wp2
  go_loopw [5, 12] (fun v i wr => ∃ k : Nat, k ≤ n ∧ i = .int .i64 (k : Int) ∧ Hid (wr.ownsRow w.heap.size 5 1 v (codesB (l.take k)).length ((codesB (l.take k)).map B8)) ∧ Hid (Below w.heap.size w wr)) (fun _ i _ => n - (intOf i).toNat)
  case atStart => exact ⟨0, by omega, rfl, Lib.hid ⟨rfl, Or.inl ⟨rfl, rfl⟩⟩, Lib.hid (Below.refl _ _)⟩
  case round =>
    obtain ⟨k, hk, rfl, HO, HW⟩ := hrel
    by_cases hlt : k < n
    · obtain ⟨b, o, r, rfl, hr, hb, c0, c1, c2, c3⟩ := raw_at (HL.out.below HW.out) hlt
      have Hct := Lib.hid (codesB_take l k r hr)
      have hmem := List.mem_of_getElem? hr
      have hop := (Hok.out r hmem).op
      obtain ⟨p1, p2, p3⟩ := Hbd.out r hmem
      have hfc : wr.cell? ⟨g, r.op, none⟩ = some (.int .u8 (formN r.op : Int)) := (HW.out.cell (p := ⟨g, r.op, none⟩) hg).trans (HF.out.cell r.op hop)
      obtain ⟨s0, s1, s2, s3⟩ := (HT.out.below HW.out).shape (formN r.op) (formN_le r.op)
      have hp := (HT.out.below HW.out).pos
      have hf9 := formN_le r.op
      have Hcb : Hid (codeB r = codeB' (formN r.op) r) := Lib.hid rfl
      have hgr : g < wr.heap.size := by have := HW.out.size; omega
      clear hr hmem
      generalize formN r.op = f at *
      have hpa := partOk_a f hf9
      have hpb := partOk_b f hf9
      unfold codeB' at Hcb
      generalize (shapeF f).1 = sa at *
      generalize (shapeF f).2.1 = ba at *
      generalize (shapeF f).2.2.1 = sb at *
      generalize (shapeF f).2.2.2 = bb at *
      have ho1 : (r.op : Int) < 256 := by omega
      have ho0 : 0 ≤ (r.op : Int) := by omega
      have hf1 : (f : Int) < 10 := by omega
      have hf0 : 0 ≤ (f : Int) := by omega
      have hne0 : 0 < wr.heap.size := by omega
      go_wp2
      go_region
      have HA : Hid (CodeW w ((wr.alloc (.cells #[.int .i64 r.pl, .int .u8 (r.op : Int), .int .i64 r.a, .int .i64 r.b] 36)).alloc (.cells #[.int .i64 (sa : Int), .bool ba, .int .i64 (sb : Int), .bool bb] 58)).drew wr.heap.size r sa ba sb bb u5 (codesB (l.take k))) := Lib.hid (by
        have hs := Blk.new (wr.alloc (.cells #[.int .i64 r.pl, .int .u8 (r.op : Int), .int .i64 r.a, .int .i64 r.b] 36)) 58 #[.int .i64 (sa : Int), .bool ba, .int .i64 (sb : Int), .bool bb]
        rw [show (wr.alloc (.cells #[.int .i64 r.pl, .int .u8 (r.op : Int), .int .i64 r.a, .int .i64 r.b] 36)).heap.size = wr.heap.size + 1 by simp] at hs
        have hb2 : Below wr.heap.size wr ((wr.alloc (.cells #[.int .i64 r.pl, .int .u8 (r.op : Int), .int .i64 r.a, .int .i64 r.b] 36)).alloc (.cells #[.int .i64 (sa : Int), .bool ba, .int .i64 (sb : Int), .bool bb] 58)).drew := (((Below.refl _ _).alloc (Nat.le_refl _) _).alloc (by simp) _).drewN 1
        exact ⟨((Blk.new wr 36 _).alloc _).drew, hs.drew, own_only HO.out (Only.of_below (S := Empty) hb2) (fun _ _ _ h => h), HW.out.trans (hb2.mono HW.out.size)⟩)
      have HPa : Hid (∀ W, Calls Tryd.prog 32 #[.agg #[.int .i64 (sa : Int), .bool ba], .int .i64 (aP f r)] W fun e w' => (∃ u, e = .returned u ∧ w'.ownsRow W.heap.size 5 1 u sa ((putL (uw (aP f r)) sa).map B8)) ∧ Below W.heap.size W w') := Lib.hid (fun W => put_part sa ba (aP f r) W hpa)
      have HPb : Hid (∀ W, Calls Tryd.prog 32 #[.agg #[.int .i64 (sb : Int), .bool bb], .int .i64 r.b] W fun e w' => (∃ u, e = .returned u ∧ w'.ownsRow W.heap.size 5 1 u sb ((putL (uw r.b) sb).map B8)) ∧ Below W.heap.size W w') := Lib.hid (fun W => put_part sb bb r.b W hpb)
      have Hop := Lib.hid hop
      have Hzl : Hid ((codesB (l.take k)).length ≤ 4 * n) := Lib.hid (by
        have h1 := codesB_le (l.take k)
        have h2 : (l.take k).length ≤ k := List.length_take_le _ _
        omega)
      have hsa := hpa.1
      have hsb := hpb.1
      have hfc1 : ((wr.alloc (.cells #[.int .i64 r.pl, .int .u8 (r.op : Int), .int .i64 r.a, .int .i64 r.b] 36)).alloc (.cells #[.int .i64 (sa : Int), .bool ba, .int .i64 (sb : Int), .bool bb] 58)).drew.cell? ⟨g, r.op, none⟩ = some (.int .u8 (f : Int)) := by
        have hb2 : Below wr.heap.size wr ((wr.alloc (.cells #[.int .i64 r.pl, .int .u8 (r.op : Int), .int .i64 r.a, .int .i64 r.b] 36)).alloc (.cells #[.int .i64 (sa : Int), .bool ba, .int .i64 (sb : Int), .bool bb] 58)).drew := (((Below.refl _ _).alloc (Nat.le_refl _) _).alloc (by simp) _).drewN 1
        exact (hb2.cell (p := ⟨g, r.op, none⟩) hgr).trans hfc
      generalize ((wr.alloc (.cells #[.int .i64 r.pl, .int .u8 (r.op : Int), .int .i64 r.a, .int .i64 r.b] 36)).alloc (.cells #[.int .i64 (sa : Int), .bool ba, .int .i64 (sb : Int), .bool bb] 58)).drew = w1 at HA hfc1 ⊢
      have k0 := HA.out.raw.cell 0
      have k1 := HA.out.raw.cell 1
      have k2 := HA.out.raw.cell 2
      simp at k0 k1 k2
      clear c0 c1 c2 c3 s0 s1 s2 s3 hfc HO
      generalize wr.heap.size = q0 at *
      by_cases h7 : f = 7
      · subst h7
        obtain ⟨a1, a2⟩ := p3 rfl
        have haP : aP 7 r = r.a - r.pl := rfl
        rw [haP] at HPa Hcb
        have hfc1 : w1.cell? ⟨g, r.op, none⟩ = some (.int .u8 7) := hfc1
        clear haP p3 hpa hpb
        go_wp2
        go_quiet (fail)
        have HA2 := Lib.hid (HA.out.next ((Below.refl w1.heap.size w1).drewN nq))
        have HLit : Hid (ByteSl ((w1.drewN nq).alloc (.cells #[.int .u8 (r.op : Int)] 5)) Empty (some ⟨w1.heap.size, 0, none⟩) 1 1 [UInt8.ofNat r.op]) := Lib.hid (lit1 (w1.drewN nq) r.op Hop.out)
        have HA3 := Lib.hid (HA2.out.next ((Below.refl (w1.drewN nq).heap.size (w1.drewN nq)).alloc (Nat.le_refl _) (.cells #[.int .u8 (r.op : Int)] 5)))
        clear k2 hfc1
        go_wp2_with (at_builtin; refine wpList_append_bytes rfl (.tmp 37) (.tmp 40) rfl w.heap.size u5 rfl (codesB (l.take k)).length (codesB (l.take k)) HA3.out.own (some ⟨w1.heap.size, 0, none⟩) 1 1 [UInt8.ofNat r.op] Empty rfl HLit.out (fun h => by cases h) (by have := Hzl.out; omega) HA3.out.below.size ?_; intro v4 w4 ho4 hg4 hn4; have HA4 := Lib.hid (HA3.out.grow hg4 (by rw [List.length_append]; exact ho4)); have q0' := HA4.out.shape.cell 0; have q1' := HA4.out.shape.cell 1; simp at q0' q1'; clear ho4 hg4 hn4)
        refine (HPa.out _).mono ?_
        rintro e5 w5 ⟨⟨x5, rfl, hx5⟩, hb5⟩
        obtain ⟨A5, c5, rfl, hB5, hN5⟩ := own_open hx5
        have HA5 := Lib.hid (HA4.out.next hb5)
        have HB5 := Lib.hid hB5
        have HN5 := Lib.hid hN5
        clear hx5 hb5 hB5 hN5 q0' q1' k1 k0
        go_wp2_with (at_builtin; refine wpList_append_bytes rfl (.tmp 42) (.tmp 46) rfl w.heap.size v4 rfl _ _ HA5.out.own A5 sa c5 (putL (uw (r.a - r.pl)) sa) Empty rfl HB5.out HN5.out (by rw [List.length_append, List.length_singleton]; have := Hzl.out; omega) HA5.out.below.size ?_; intro v6 w6 ho6 hg6 hn6; have HA6 := Lib.hid (HA5.out.grow hg6 (by rw [List.length_append, putL_len]; exact ho6)); have q2' := HA6.out.shape.cell 2; have q3' := HA6.out.shape.cell 3; have k3' := HA6.out.raw.cell 3; simp at q2' q3' k3'; clear ho6 hg6 hn6)
        refine (HPb.out _).mono ?_
        rintro e7 w7 ⟨⟨x7, rfl, hx7⟩, hb7⟩
        obtain ⟨A7, c7, rfl, hB7, hN7⟩ := own_open hx7
        have HA7 := Lib.hid (HA6.out.next hb7)
        have HB7 := Lib.hid hB7
        have HN7 := Lib.hid hN7
        clear hx7 hb7 hB7 hN7 q2' q3' k3'
        go_wp2_with (at_builtin; refine wpList_append_bytes rfl (.tmp 48) (.tmp 53) rfl w.heap.size v6 rfl _ _ HA7.out.own A7 sb c7 (putL (uw r.b) sb) Empty rfl HB7.out HN7.out (by rw [List.length_append, List.length_append, List.length_singleton, putL_len]; have := Hzl.out; omega) HA7.out.below.size ?_; intro v8 w8 ho8 hg8 hn8; have HA8 := Lib.hid (HA7.out.grow hg8 (by rw [List.length_append, putL_len]; exact ho8)); clear ho8 hg8 hn8)
        go_roundw
        case rel =>
          refine ⟨k + 1, by omega, by go_num, Lib.hid ?_, Lib.hid HA8.out.below⟩
          have e : codesB (l.take (k + 1)) = ((codesB (l.take k) ++ [UInt8.ofNat r.op]) ++ putL (uw (r.a - r.pl)) sa) ++ putL (uw r.b) sb := by rw [Hct.out, Hcb.out]; simp
          rw [e]
          exact HA8.out.own
        case measure => simp [intOf]; omega
      · have hf7 : ((f : Int) == 7) = false := by simp; omega
        have haP : aP f r = r.a := by unfold aP; rw [if_neg h7]
        rw [haP] at HPa Hcb
        clear haP p3 hpa hpb h7
        go_wp2
        go_quiet (fail)
        have HA2 := Lib.hid (HA.out.next ((Below.refl w1.heap.size w1).drewN nq))
        have HLit : Hid (ByteSl ((w1.drewN nq).alloc (.cells #[.int .u8 (r.op : Int)] 5)) Empty (some ⟨w1.heap.size, 0, none⟩) 1 1 [UInt8.ofNat r.op]) := Lib.hid (lit1 (w1.drewN nq) r.op Hop.out)
        have HA3 := Lib.hid (HA2.out.next ((Below.refl (w1.drewN nq).heap.size (w1.drewN nq)).alloc (Nat.le_refl _) (.cells #[.int .u8 (r.op : Int)] 5)))
        clear k2 hfc1
        go_wp2_with (at_builtin; refine wpList_append_bytes rfl (.tmp 37) (.tmp 40) rfl w.heap.size u5 rfl (codesB (l.take k)).length (codesB (l.take k)) HA3.out.own (some ⟨w1.heap.size, 0, none⟩) 1 1 [UInt8.ofNat r.op] Empty rfl HLit.out (fun h => by cases h) (by have := Hzl.out; omega) HA3.out.below.size ?_; intro v4 w4 ho4 hg4 hn4; have HA4 := Lib.hid (HA3.out.grow hg4 (by rw [List.length_append]; exact ho4)); have q0' := HA4.out.shape.cell 0; have q1' := HA4.out.shape.cell 1; simp at q0' q1'; clear ho4 hg4 hn4)
        refine (HPa.out _).mono ?_
        rintro e5 w5 ⟨⟨x5, rfl, hx5⟩, hb5⟩
        obtain ⟨A5, c5, rfl, hB5, hN5⟩ := own_open hx5
        have HA5 := Lib.hid (HA4.out.next hb5)
        have HB5 := Lib.hid hB5
        have HN5 := Lib.hid hN5
        clear hx5 hb5 hB5 hN5 q0' q1' k1 k0
        go_wp2_with (at_builtin; refine wpList_append_bytes rfl (.tmp 42) (.tmp 46) rfl w.heap.size v4 rfl _ _ HA5.out.own A5 sa c5 (putL (uw (r.a)) sa) Empty rfl HB5.out HN5.out (by rw [List.length_append, List.length_singleton]; have := Hzl.out; omega) HA5.out.below.size ?_; intro v6 w6 ho6 hg6 hn6; have HA6 := Lib.hid (HA5.out.grow hg6 (by rw [List.length_append, putL_len]; exact ho6)); have q2' := HA6.out.shape.cell 2; have q3' := HA6.out.shape.cell 3; have k3' := HA6.out.raw.cell 3; simp at q2' q3' k3'; clear ho6 hg6 hn6)
        refine (HPb.out _).mono ?_
        rintro e7 w7 ⟨⟨x7, rfl, hx7⟩, hb7⟩
        obtain ⟨A7, c7, rfl, hB7, hN7⟩ := own_open hx7
        have HA7 := Lib.hid (HA6.out.next hb7)
        have HB7 := Lib.hid hB7
        have HN7 := Lib.hid hN7
        clear hx7 hb7 hB7 hN7 q2' q3' k3'
        go_wp2_with (at_builtin; refine wpList_append_bytes rfl (.tmp 48) (.tmp 53) rfl w.heap.size v6 rfl _ _ HA7.out.own A7 sb c7 (putL (uw r.b) sb) Empty rfl HB7.out HN7.out (by rw [List.length_append, List.length_append, List.length_singleton, putL_len]; have := Hzl.out; omega) HA7.out.below.size ?_; intro v8 w8 ho8 hg8 hn8; have HA8 := Lib.hid (HA7.out.grow hg8 (by rw [List.length_append, putL_len]; exact ho8)); clear ho8 hg8 hn8)
        go_roundw
        case rel =>
          refine ⟨k + 1, by omega, by go_num, Lib.hid ?_, Lib.hid HA8.out.below⟩
          have e : codesB (l.take (k + 1)) = ((codesB (l.take k) ++ [UInt8.ofNat r.op]) ++ putL (uw (r.a)) sa) ++ putL (uw r.b) sb := by rw [Hct.out, Hcb.out]; simp
          rw [e]
          exact HA8.out.own
        case measure => simp [intOf]; omega
    · have hk2 : k = n := by omega
      have HO2 : Hid (wr.ownsRow w.heap.size 5 1 u5 (codesB l).length ((codesB l).map B8)) := Lib.hid (by
        have h := HO.out
        rwa [List.take_of_length_le (by have := Hll.out; omega)] at h)
      have hd : decide (k < n) = false := decide_eq_false hlt
      clear hk2
      go_wp2
      go_ret
      exact ⟨⟨_, rfl, HO2.out⟩, HW.out⟩

end Go.Proofs.YtcpcjcbeeeoabaaDoor
