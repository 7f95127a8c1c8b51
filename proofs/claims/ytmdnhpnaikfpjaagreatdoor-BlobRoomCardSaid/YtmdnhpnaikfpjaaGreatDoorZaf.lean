/- The step from a law's walk to its row: whatever the parameters' types, if the call returns true and has turned nothing that was there. And how arguments are opened. -/
import Derived.Test.YtmdnhpnaikfpjaaGreatDoorZaa
import Derived.ProofKit
import Derived.Lib.SmallJoins
import Derived.Test.YtmdnhpnaikfpjaaGreatDoorZad
import Derived.Test.YtmdnhpnaikfpjaaGreatDoorZae
import Derived.Lib.SlBytesConst
import Derived.Test.YtmdnhpnaikfpjaaGreatDoorZac
namespace Go.Proofs.YtmdnhpnaikfpjaaGreatDoor
set_option maxRecDepth 100000
open Go.ChangeShapes Go.WideShapes Go.ChangeAt Go.RowKit Go.Joins

theorem Tryz.ownKnobs : ownKnob Tryz.prog.godebug = none := by kernel_rfl
theorem Tryz.allLaid : laidOutB Tryz.prog = true := by kernel_rfl

section
variable {H : Type} {enc : TypeId × Value → H} {P : Program}

/-- Each argument reads behind the call as it read ahead of it, through the same places. -/
theorem trodAll_below (hl : laidOutB P = true) {W W' : World} (hb : Below W.heap.size W W') : ∀ (ts : List TypeId) (vs : List Value) (ds : List (DataW H)) (ps : List MemPlace),
    (∀ t ∈ ts, P.readableRec t = true ∧ t < P.types.size) → DataW.TrodAll enc P W 0 (fun _ => true) true ts vs ds ps → (∀ x ∈ ps, x.block < W.heap.size) →
    DataW.TrodAll enc P W' 0 (fun b => decide (b < W.heap.size)) true ts vs ds ps
  | [], vs, ds, ps, _, h, _ => by
    cases vs <;> cases ds <;> simp_all [DataW.TrodAll]
  | t :: ts, vs, ds, ps, hr, h, hlt => by
    match vs, ds, h with
    | v :: vs, d :: ds, ⟨p, q, h1, h2, h3⟩ =>
      subst h3
      have ht := hr t (by simp)
      exact ⟨p, q, Below.trod hl ht.1 ht.2 h1 hb (fun x hx => hlt x (by simp [hx])), trodAll_below hl hb ts vs ds q (fun u hu => hr u (by simp [hu])) h2 (fun x hx => hlt x (by simp [hx])), rfl⟩

theorem law_post {f : Func} {s : ChangeSpec} {W W' : World} {args : Array Value} {ds gs : List (DataW H)} {before : List MemPlace} {b : TypeId} (hl : laidOutB P = true)
    (hr : ∀ t ∈ f.params.toList, P.readableRec t = true ∧ t < P.types.size) (hrt : f.resultTypes = #[b]) (hbt : P.underlying b = some .bool) (hv : s.vars = [])
    (hW : DataW.Whole enc P f.params.toList s.vars false W args.toList ds gs before) (hres : (s.fn H (ds ++ gs)).results = [.lit (.bool true)]) (hargs : (s.fn H (ds ++ gs)).args = ds) (hvs : (s.fn H (ds ++ gs)).vars = [])
    (hb : Below W.heap.size W W') : s.post enc P f false true false false W args (.bool true) W' := by
  have hlt : ∀ x ∈ before, x.block < W.heap.size := fun x hx => hW.lt x hx
  have hW2 := hW
  obtain ⟨p, q, hA, hV, rfl, hfz, hnd⟩ := hW2
  rw [hv] at hV
  obtain ⟨_, rfl⟩ := trodVars_none hV
  refine ⟨ds, gs, _, [], p, [], hW, ?_, ?_, ?_, hb.frame _, fun h => by cases h⟩
  · rw [hrt, hres]
    exact trodAll_mk1 (shut_bool hbt _)
  · rw [hargs]
    exact trodAll_below hl hb _ _ _ _ hr hA (fun x hx => hlt x (by simp [hx]))
  · rw [hv, hvs]
    rfl
end

/-! ### Arguments opened -/
section
variable {H : Type} {enc : TypeId × Value → H} {W : World} {base : Nat}

theorem cell_lt {w : World} {a : Addr} {v : Value} (h : w.cell? a = some v) : a.block < w.heap.size := by
  rcases Nat.lt_or_ge a.block w.heap.size with h1 | h1
  · exact h1
  · rw [World.cell?, Array.getElem?_eq_none h1] at h
    cases h

/-- An integer's bounds. -/
theorem bd_i64 {n : Int} (h : (Lit.int .i64 n).wf = true) : -9223372036854775808 ≤ n ∧ n ≤ 9223372036854775807 := by
  simp [Lit.wf, IntKind.min, IntKind.max, IntKind.bits, IntKind.signed] at h
  omega
theorem bd_u8 {n : Int} (h : (Lit.int .u8 n).wf = true) : ∃ m : UInt8, Value.int .u8 n = B8 m := by
  simp [Lit.wf, IntKind.min, IntKind.max, IntKind.bits, IntKind.signed] at h
  obtain ⟨k, rfl⟩ := Int.eq_ofNat_of_zero_le h.1
  refine ⟨UInt8.ofNat k, ?_⟩
  unfold B8
  rw [UInt8.toNat_ofNat']
  congr 1
  omega

theorem bd_u8i {n : Int} (h : (Lit.int .u8 n).wf = true) : 0 ≤ n ∧ n ≤ 255 := by
  simp [Lit.wf, IntKind.min, IntKind.max, IntKind.bits, IntKind.signed] at h
  omega
theorem bd_u16i {n : Int} (h : (Lit.int .u16 n).wf = true) : 0 ≤ n ∧ n ≤ 65535 := by
  simp [Lit.wf, IntKind.min, IntKind.max, IntKind.bits, IntKind.signed] at h
  omega
theorem bd_i32i {n : Int} (h : (Lit.int .i32 n).wf = true) : -2147483648 ≤ n ∧ n ≤ 2147483647 := by
  simp [Lit.wf, IntKind.min, IntKind.max, IntKind.bits, IntKind.signed] at h
  omega
theorem bd_u32i {n : Int} (h : (Lit.int .u32 n).wf = true) : 0 ≤ n ∧ n ≤ 4294967295 := by
  simp [Lit.wf, IntKind.min, IntKind.max, IntKind.bits, IntKind.signed] at h
  omega
theorem bd_u64i {n : Int} (h : (Lit.int .u64 n).wf = true) : 0 ≤ n ∧ n ≤ 18446744073709551615 := by
  simp [Lit.wf, IntKind.min, IntKind.max, IntKind.bits, IntKind.signed] at h
  omega
theorem open_int_ {v : Value} {d : DataW H} {p : List MemPlace} (hv : Value.okWide Tryz.prog W .any base 3 v) (h : DataW.Trod enc Tryz.prog W 0 (fun _ => true) true 3 v d p) :
    ∃ n : Int, v = .int .i64 n ∧ -9223372036854775808 ≤ n ∧ n ≤ 9223372036854775807 := by
  obtain ⟨n, rfl, _, _, wn⟩ := open_int Tryz.underlying3 hv h
  exact ⟨n, rfl, bd_i64 wn⟩
theorem open_i64_ {v : Value} {d : DataW H} {p : List MemPlace} (hv : Value.okWide Tryz.prog W .any base 2 v) (h : DataW.Trod enc Tryz.prog W 0 (fun _ => true) true 2 v d p) :
    ∃ n : Int, v = .int .i64 n ∧ -9223372036854775808 ≤ n ∧ n ≤ 9223372036854775807 := by
  obtain ⟨n, rfl, _, _, wn⟩ := open_int Tryz.underlying2 hv h
  exact ⟨n, rfl, bd_i64 wn⟩
theorem open_i32_ {v : Value} {d : DataW H} {p : List MemPlace} (hv : Value.okWide Tryz.prog W .any base 21 v) (h : DataW.Trod enc Tryz.prog W 0 (fun _ => true) true 21 v d p) :
    ∃ n : Int, v = .int .i32 n ∧ -2147483648 ≤ n ∧ n ≤ 2147483647 := by
  obtain ⟨n, rfl, _, _, wn⟩ := open_int Tryz.underlying21 hv h
  exact ⟨n, rfl, bd_i32i wn⟩
theorem open_u16_ {v : Value} {d : DataW H} {p : List MemPlace} (hv : Value.okWide Tryz.prog W .any base 219 v) (h : DataW.Trod enc Tryz.prog W 0 (fun _ => true) true 219 v d p) :
    ∃ n : Int, v = .int .u16 n ∧ 0 ≤ n ∧ n ≤ 65535 := by
  obtain ⟨n, rfl, _, _, wn⟩ := open_int Tryz.underlying219 hv h
  exact ⟨n, rfl, bd_u16i wn⟩
theorem open_u32_ {v : Value} {d : DataW H} {p : List MemPlace} (hv : Value.okWide Tryz.prog W .any base 54 v) (h : DataW.Trod enc Tryz.prog W 0 (fun _ => true) true 54 v d p) :
    ∃ n : Int, v = .int .u32 n ∧ 0 ≤ n ∧ n ≤ 4294967295 := by
  obtain ⟨n, rfl, _, _, wn⟩ := open_int Tryz.underlying54 hv h
  exact ⟨n, rfl, bd_u32i wn⟩
theorem open_u64_ {v : Value} {d : DataW H} {p : List MemPlace} (hv : Value.okWide Tryz.prog W .any base 186 v) (h : DataW.Trod enc Tryz.prog W 0 (fun _ => true) true 186 v d p) :
    ∃ n : Int, v = .int .u64 n ∧ 0 ≤ n ∧ n ≤ 18446744073709551615 := by
  obtain ⟨n, rfl, _, _, wn⟩ := open_int Tryz.underlying186 hv h
  exact ⟨n, rfl, bd_u64i wn⟩

theorem open_u8 {v : Value} {d : DataW H} {p : List MemPlace} (hv : Value.okWide Tryz.prog W .any base 5 v) (h : DataW.Trod enc Tryz.prog W 0 (fun _ => true) true 5 v d p) :
    ∃ n : Int, v = .int .u8 n ∧ 0 ≤ n ∧ n ≤ 255 := by
  obtain ⟨n, rfl, _, _, wn⟩ := open_int Tryz.underlying5 hv h
  exact ⟨n, rfl, bd_u8i wn⟩
theorem open_b {v : Value} {d : DataW H} {p : List MemPlace} (hv : Value.okWide Tryz.prog W .any base 4 v) (h : DataW.Trod enc Tryz.prog W 0 (fun _ => true) true 4 v d p) :
    ∃ b : Bool, v = .bool b := by
  obtain ⟨b, rfl, _, _⟩ := open_bool Tryz.underlying4 hv h
  exact ⟨b, rfl⟩
theorem open_tear {v : Value} {d : DataW H} {p : List MemPlace} (hv : Value.okWide Tryz.prog W .any base 81 v) (h : DataW.Trod enc Tryz.prog W 0 (fun _ => true) true 81 v d p) :
    ∃ (k : Int) (m : UInt8), v = .agg #[.int .i64 k, B8 m] ∧ -9223372036854775808 ≤ k ∧ k ≤ 9223372036854775807 := by
  obtain ⟨v0, v1, y0, y1, n, rfl, rfl, rfl, h0, h1⟩ := open_agg2 Tryz.underlying81 (by kernel_rfl) (by kernel_rfl) hv h
  obtain ⟨k, e0, _, wk⟩ := DataW.trod_int Tryz.underlying3 h0
  obtain ⟨m, e1, _, wm⟩ := DataW.trod_int Tryz.underlying5 h1
  simp at e0 e1
  subst e0 e1
  obtain ⟨u, hu⟩ := bd_u8 wm
  exact ⟨k, u, by rw [hu], bd_i64 wk⟩

/-- A []byte that came in, as the walks take it. -/
theorem open_bytes {v : Value} {d : DataW H} {p : List MemPlace} (hv : Value.okWide Tryz.prog W .any base 22 v) (h : DataW.Trod enc Tryz.prog W 0 (fun _ => true) true 22 v d p) :
    ∃ (A : Option Addr) (n cap : Nat) (xs : List UInt8), v = .slice A n cap ∧ ByteSl W (fun k => W.heap.size ≤ k) A n cap xs ∧ (A = none → n = 0 ∧ cap = 0) := by
  obtain ⟨A, n, cap, rfl⟩ := okWide_slice Tryz.underlying22 hv
  obtain ⟨fuel, hf⟩ := h
  rcases open_ints Tryz.underlying22 Tryz.underlying5 (by kernel_rfl) hf with ⟨hcs, _⟩ | ⟨x, l, c, zs, hcs, _, hl, hm, hz, _, hcell, hwz⟩
  · simp [Value.cells] at hcs
    obtain ⟨rfl, rfl, rfl⟩ := hcs
    exact ⟨none, 0, 0, [], rfl, ByteSl.nil_ _ _ _ _ (by simp [maxLen]), fun _ => ⟨rfl, rfl⟩⟩
  · simp [Value.cells] at hcs
    obtain ⟨rfl, rfl, rfl⟩ := hcs
    have hzl : zs.length = cap := by simpa using hz
    refine ⟨some x, n, cap, (zs.take n).map (fun z => UInt8.ofNat z.toNat), rfl, ⟨by simp; omega, hl, hm, fun hn => ⟨x, rfl, ?_, ?_, ?_⟩⟩, fun h => by cases h⟩
    · have h0 := hcell 0 (by omega)
      simp only [Addr.add, if_pos] at h0
      exact cell_lt h0
    · have h0 := hcell 0 (by omega)
      simp only [Addr.add, if_pos] at h0
      have := cell_lt h0
      omega
    · intro j y hj
      rw [List.getElem?_map, List.getElem?_take] at hj
      by_cases hjn : j < n
      · rw [if_pos hjn] at hj
        have hjl : j < zs.length := by omega
        rw [hcell j hjl]
        rw [List.getElem?_eq_getElem hjl] at hj
        simp at hj
        have hw := hwz zs[j] (List.getElem_mem hjl)
        simp [Lit.wf, IntKind.min, IntKind.max, IntKind.bits, IntKind.signed] at hw
        have hg : zs.getD j 0 = zs[j] := by simp [List.getD, hjl]
        rw [hg, ← hj]
        unfold B8
        rw [UInt8.toNat_ofNat']
        congr 2
        omega
      · rw [if_neg hjn] at hj
        cases hj
end

end Go.Proofs.YtmdnhpnaikfpjaaGreatDoor

/- Headers as plain data, the mark in memory, and the walks over page.Bytes and the document's Bytes. -/
namespace Go.Proofs.YtmdnhpnaikfpjaaGreatDoor
set_option maxRecDepth 100000
open Go.RowKit

/-- The first six bytes of a header. -/
def head6 (s : Nat) : List UInt8 := [67, 66] ++ putL s 4
/-- What a header begins with: the mark, the number, their sum. -/
def headB (s : Nat) : List UInt8 := head6 s ++ putL (crc16 (head6 s)).toNat 2
theorem head6_len (s : Nat) : (head6 s).length = 6 := by simp [head6, putL_len]
theorem headB_len (s : Nat) : (headB s).length = 8 := by simp [headB, head6_len, putL_len]

/-- The program's mark lies where its initialiser laid it. -/
structure Mark (w : World) : Prop where
  c0 : w.cell? ⟨0, 0, none⟩ = some (.int .u8 67)
  c1 : w.cell? ⟨0, 1, none⟩ = some (.int .u8 66)
section
variable {w w' : World} {S : Nat → Prop} {B : Nat}
theorem Mark.pos (h : Mark w) : 0 < w.heap.size := cell_lt h.c0
theorem Mark.only (h : Mark w) (k : Only S w w') (h0 : ¬ S 0) : Mark w' := ⟨(k.cell (p := ⟨0, 0, none⟩) h.pos h0).trans h.c0, (k.cell (p := ⟨0, 1, none⟩) h.pos h0).trans h.c1⟩
theorem Mark.below (h : Mark w) (k : Below w.heap.size w w') : Mark w' := h.only (Only.of_below (S := Empty) k) (fun h => h)
end

/-- Bytes that a call made anew. -/
def GotB (w w' : World) (n : Nat) (xs : List UInt8) (e : Ending) : Prop := (∃ u, e = .returned u ∧ w'.ownsRow w.heap.size 5 1 u n (xs.map B8)) ∧ Below w.heap.size w w'

/-- Bytes that lie in a new block, whatever its type. -/
theorem ByteSl.lit_t (w : World) (S : Nat → Prop) (t : TypeId) (xs : List UInt8) (n : Nat) (hn : xs.length = n) (hS : ¬ S w.heap.size) (h : n ≤ maxLen) :
    ByteSl (w.alloc (.cells (cellsB xs) t)) S (some ⟨w.heap.size, 0, none⟩) n n xs := by
  refine ⟨hn, Nat.le_refl _, h, fun _ => ⟨_, rfl, by simp, hS, fun j x hx => ?_⟩⟩
  have ha : (⟨w.heap.size, 0, none⟩ : Addr).add j = ⟨w.heap.size, j, none⟩ := by unfold Addr.add; split <;> simp_all
  rw [ha, (Blk.new w t (cellsB xs)).cell, cellsB_get, hx]
  rfl

/-- A number's first six bytes, then their sum: what both Bytes do. -/
theorem head6_eq (s : Nat) : [67, 66] ++ putL s 4 = head6 s := rfl

set_option maxHeartbeats 1000000 in
theorem pgBytes_any (s : Nat) (w : World) (hs : s ≤ 4294967295) (hM : Mark w) : Calls Tryz.prog 217 #[.int .u32 (s : Int)] w fun e w' => GotB w w' 8 (headB s) e := by
  have c0 := hM.c0
  have c1 := hM.c1
  have hp := hM.pos
  clear hM
  go_enter Tryz.func217, Tryz.ntmps217
  go_wp2_with fail
  have hB : ByteSl (w.alloc (.cells #[.int .u8 67, .int .u8 66] 216)) Empty (some ⟨w.heap.size, 0, none⟩) 2 2 [67, 66] := ByteSl.lit_t w _ 216 [67, 66] 2 rfl (fun h => h) (by decide)
  clear c0 c1 hp
  refine (put_yes _ 2 2 [67, 66] s 4 _ hB (by omega) (by omega) (by omega) (by omega)).mono ?_
  rintro e1 w1 ⟨⟨u, rfl, hown⟩, hb⟩
  rw [head6_eq] at hown
  have hb1 : Below w.heap.size w w1 := ((Below.refl _ _).alloc (Nat.le_refl _) _).trans (hb.mono (by simp))
  obtain ⟨A1, cap1, rfl, hB1, -⟩ := ByteSl.of_own (S := Empty) hown (fun _ _ _ h => h)
  have Hb1 := Lib.hid hb1
  have HB1 := Lib.hid hB1
  clear hB hown hb hb1 hB1
  go_wp2_with fail
  refine (sum16_any A1 6 cap1 (head6 s) _ HB1.out).mono ?_
  rintro e1 w2 ⟨rfl, hb2⟩
  have HB2 := Lib.hid (HB1.out.only (Only.of_below (S := Empty) hb2) (fun _ _ h => h))
  have Hb2 := Lib.hid (Hb1.out.trans (hb2.mono Hb1.out.size))
  clear hb2
  unfold V16
  have hv := (crc16 (head6 s)).isLt
  obtain ⟨v, hve⟩ : ∃ v, v = (crc16 (head6 s)).toNat := ⟨_, rfl⟩
  rw [← hve] at hv ⊢
  have hv2 : v ≤ 65535 := by omega
  have Hve := Lib.hid hve
  clear hv hve
  go_wp2_with fail
  refine (put_yes A1 6 cap1 (head6 s) v 2 _ HB2.out (by omega) (by omega) (by omega) (by omega)).mono ?_
  rintro e1 w3 ⟨⟨u, rfl, hown⟩, hb⟩
  have Hown := Lib.hid hown
  have Hb3 := Lib.hid hb
  clear hown hb
  go_wp2
  go_ret
  refine ⟨⟨u, rfl, own_base ?_ Hb2.out.size⟩, Hb2.out.trans (Hb3.out.mono Hb2.out.size)⟩
  have h := Hown.out
  rw [Hve.out] at h
  exact h


end Go.Proofs.YtmdnhpnaikfpjaaGreatDoor

/- The walks over page's calls of a nil flash, and of a sector that there is not. -/
namespace Go.Proofs.YtmdnhpnaikfpjaaGreatDoor
set_option maxRecDepth 100000
open Go.RowKit

/-- A part of a geometry that was handed back. -/
theorem geo_field0 (a b c : Int) (W : World) : (Instr.field 25 (.agg #[.int .i64 a, .int .i64 b, .int .i64 c]) 0).run Tryz.prog W = .ok (.int .i64 a) W := by kernel_rfl
theorem geo_field1 (a b c : Int) (W : World) : (Instr.field 25 (.agg #[.int .i64 a, .int .i64 b, .int .i64 c]) 1).run Tryz.prog W = .ok (.int .i64 b) W := by kernel_rfl

theorem pgHas_nil (k : Int) (w : World) : Calls Tryz.prog 63 #[.pointer none, .int .i64 k] w fun e w' => e = .returned (.bool false) ∧ Below w.heap.size w w' := by
  by_cases h : 0 ≤ k
  · have hd : decide (k < 0) = false := by simpa using h
    have hg := geo_field0 0 0 0
    go_enter Tryz.func63, Tryz.ntmps63
    go_wp2_with fail
    refine (geometry_nil _).mono ?_
    rintro e1 w1 ⟨rfl, hb1⟩
    go_wp2
    go_ret
    exact ⟨rfl, hb1⟩
  · go_enter Tryz.func63, Tryz.ntmps63
    go_wp2
    go_ret
    exact ⟨rfl, Below.refl _ _⟩

theorem pgHas_any (p c e : Nat) (fl : Fl) (k : Int) (w : World) (hf : FlashAt w p c e fl) :
    Calls Tryz.prog 63 #[.pointer (some ⟨p, 0, none⟩), .int .i64 k] w fun e w' => e = .returned (.bool (decide (0 ≤ k) && decide (k < (fl.S : Int)))) ∧ Below w.heap.size w w' := by
  have HF := Lib.hid hf
  clear hf
  by_cases h : 0 ≤ k
  · have hg := geo_field0 (fl.S : Int) (fl.Z : Int) (fl.L : Int)
    go_enter Tryz.func63, Tryz.ntmps63
    go_wp2_with fail
    refine (geometry_any p c e fl _ HF.out).mono ?_
    rintro e1 w1 ⟨rfl, hb1⟩
    go_wp2
    go_ret
    exact ⟨by simp [h], hb1⟩
  · go_enter Tryz.func63, Tryz.ntmps63
    go_wp2
    go_ret
    exact ⟨by simp; omega, Below.refl _ _⟩

theorem look_nil (k : Int) (w : World) : Calls Tryz.prog 23 #[.pointer none, .int .i64 k] w fun e w' => e = .returned (.tuple #[.agg #[.int .i64 0, .int .u32 0, .int .i64 0], .int .i64 2]) ∧ Below w.heap.size w w' := by
  go_enter Tryz.func23, Tryz.ntmps23
  go_wp2_with fail
  refine (pgHas_nil k _).mono ?_
  rintro e1 w1 ⟨rfl, hb1⟩
  have hblk : Blk w1 w.heap.size 56 #[.int .i64 0, .int .u32 0, .int .i64 0] := (Blk.new w 56 #[.int .i64 0, .int .u32 0, .int .i64 0]).of (hb1.block w.heap.size (by simp))
  have c0 := hblk.cell 0
  have c1 := hblk.cell 1
  have c2 := hblk.cell 2
  have f0 := hblk.frozen 0
  have f1 := hblk.frozen 1
  have f2 := hblk.frozen 2
  simp at c0 c1 c2
  have Hb1 := Lib.hid hb1
  clear hb1 hblk
  go_wp2
  refine bodyPost_ret (v := .tuple #[.agg #[.int .i64 0, .int .u32 0, .int .i64 0], .int .i64 2]) (by simp [results, Tryz.results23, go_sem, c0, c1, c2]) rfl ⟨rfl, ?_⟩
  exact ((((((Below.refl _ _).alloc (Nat.le_refl _) _).trans (Hb1.out.mono (by simp))).setCell (by simp) _).setCell (by simp) _).setCell (by simp) _)

theorem void_nil (k : Int) (w : World) : Calls Tryz.prog 135 #[.pointer none, .int .i64 k] w fun e w' => e = .returned (.int .i64 2) ∧ Below w.heap.size w w' := by
  go_enter Tryz.func135, Tryz.ntmps135
  go_wp2_with fail
  refine (pgHas_nil k _).mono ?_
  rintro e1 w1 ⟨rfl, hb1⟩
  go_wp2
  go_ret
  exact ⟨rfl, hb1⟩

theorem open_nil (k s : Int) (w : World) : Calls Tryz.prog 204 #[.pointer none, .int .i64 k, .int .u32 s] w fun e w' => e = .returned (.int .i64 2) ∧ Below w.heap.size w w' := by
  go_enter Tryz.func204, Tryz.ntmps204
  go_wp2_with fail
  refine (look_nil k _).mono ?_
  rintro e1 w1 ⟨rfl, hb1⟩
  go_wp2
  go_ret
  exact ⟨rfl, hb1.alloc hb1.size _⟩

end Go.Proofs.YtmdnhpnaikfpjaaGreatDoor
