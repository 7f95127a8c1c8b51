/- Instructions as plain data; how they lie; instructions that come in; is a place an instruction's: the program's search and the document's. -/
import Derived.Test.YtcpcjcbeeeoabaaDoorEe
import Derived.Test.YtcpcjcbeeeoabaaDoorOp
namespace Go.Proofs.YtcpcjcbeeeoabaaDoor
set_option maxRecDepth 100000
open Go.RowKit

/-- An instruction: its place, its operation, A and B. -/
structure RawD where
  pl : Int
  op : Nat
  a : Int
  b : Int
  deriving DecidableEq
def RawD.cells (r : RawD) : List Value := [.int .i64 r.pl, .int .u8 (r.op : Int), .int .i64 r.a, .int .i64 r.b]
def RawD.v (r : RawD) : Value := .agg #[.int .i64 r.pl, .int .u8 (r.op : Int), .int .i64 r.a, .int .i64 r.b]
theorem RawD.cells_len (r : RawD) : r.cells.length = 4 := rfl
theorem RawD.cells_one (r : RawD) : ∀ v ∈ r.cells, v.oneCell' = true := by
  intro v hv
  simp [RawD.cells] at hv
  rcases hv with rfl | rfl | rfl | rfl <;> rfl
/-- Its numbers are the machine's. -/
structure RawD.ok (r : RawD) : Prop where
  pl : -9223372036854775808 ≤ r.pl ∧ r.pl ≤ 9223372036854775807
  op : r.op < 256
  a : -9223372036854775808 ≤ r.a ∧ r.a ≤ 9223372036854775807
  b : -9223372036854775808 ≤ r.b ∧ r.b ≤ 9223372036854775807
def zeroR : RawD := ⟨0, 0, 0, 0⟩
abbrev RawSl (w : World) (A : Option Addr) (n cap : Nat) (l : List RawD) : Prop := RowSl RawD.cells 4 w Empty A n cap l

theorem raw_at {w : World} {A : Option Addr} {n cap : Nat} {l : List RawD} (h : RawSl w A n cap l) {k : Nat} (hk : k < n) :
    ∃ b o r, A = some ⟨b, o, none⟩ ∧ l[k]? = some r ∧ b < w.heap.size ∧ w.cell? ⟨b, o + k * 4, none⟩ = some (.int .i64 r.pl) ∧ w.cell? ⟨b, o + k * 4 + 1, none⟩ = some (.int .u8 (r.op : Int)) ∧ w.cell? ⟨b, o + k * 4 + 2, none⟩ = some (.int .i64 r.a) ∧ w.cell? ⟨b, o + k * 4 + 3, none⟩ = some (.int .i64 r.b) := by
  obtain ⟨b, o, r, e, hb, _, hr, hc⟩ := h.at_ hk
  exact ⟨b, o, r, e, hr, hb, hc 0 (by decide), hc 1 (by decide), hc 2 (by decide), hc 3 (by decide)⟩

section
open Go.ChangeShapes Go.WideShapes Go.ChangeAt Go.Joins
variable {H : Type} {enc : TypeId × Value → H} {W : World} {base : Nat}
theorem open_raws {v : Value} {d : DataW H} {p : List MemPlace} (hv : Value.okWide Tryd.prog W .any base 26 v) (h : DataW.Trod enc Tryd.prog W 0 (fun _ => true) true 26 v d p) :
    ∃ (A : Option Addr) (n cap : Nat) (l : List RawD), v = .slice A n cap ∧ RawSl W A n cap l ∧ ∀ c ∈ l, c.ok := by
  obtain ⟨A, n, cap, l, rfl, hl, hn, hm, hA, hP⟩ := open_rows (enc := enc) zeroR 26 36 4 Tryd.underlying26 (by kernel_rfl) (by decide)
    (fun b off c => (∀ j, j < 4 → W.cell? ⟨b, off + j, none⟩ = c.cells[j]?) ∧ c.ok)
    (fun b off fuel cs x hc ht => by
      obtain ⟨ys, m, _, _, _, hyl, hg⟩ := DataW.trod_struct Tryd.underlying36 ht
      obtain ⟨_, hl, hat⟩ := World.cells?_some hc
      match cs, hl with
      | [c0, c1, c2, c3], _ =>
        match ys, hyl with
        | [y0, y1, y2, y3], _ =>
          have g0 : DataW.trod enc Tryd.prog W 0 (fun _ => true) true m 3 [c0] = some y0 := hg 0 _ rfl
          have g1 : DataW.trod enc Tryd.prog W 0 (fun _ => true) true m 5 [c1] = some y1 := hg 1 _ rfl
          have g2 : DataW.trod enc Tryd.prog W 0 (fun _ => true) true m 3 [c2] = some y2 := hg 2 _ rfl
          have g3 : DataW.trod enc Tryd.prog W 0 (fun _ => true) true m 3 [c3] = some y3 := hg 3 _ rfl
          obtain ⟨t, e0, _, w0⟩ := DataW.trod_int Tryd.underlying3 g0
          obtain ⟨a, e1, _, w1⟩ := DataW.trod_int Tryd.underlying5 g1
          obtain ⟨b', e2, _, w2⟩ := DataW.trod_int Tryd.underlying3 g2
          obtain ⟨n, e3, _, w3⟩ := DataW.trod_int Tryd.underlying3 g3
          simp at e0 e1 e2 e3
          subst e0 e1 e2 e3
          have hu := bd_u8i w1
          refine ⟨⟨t, a.toNat, b', n⟩, fun j hj => ?_, ⟨bd_i64 w0, by show a.toNat < 256; omega, bd_i64 w2, bd_i64 w3⟩⟩
          have h1 := hat j hj
          rw [add_off] at h1
          rw [h1]
          simp only [RawD.cells]
          rw [show ((a.toNat : Nat) : Int) = a by omega])
    hv h
  refine ⟨A, n, cap, l, rfl, ⟨hl, hn, hm, fun h0 => ?_⟩, fun c hc => ?_⟩
  · obtain ⟨b, o, e, hb, hc⟩ := hP h0
    exact ⟨b, o, e, hb, fun h => h, fun i f hf j hj => (hc i f hf).1 j hj⟩
  · obtain ⟨i, hi, he⟩ := List.mem_iff_getElem.1 hc
    obtain ⟨b, o, e, hb, hcs⟩ := hP (by omega)
    exact (hcs i c (by rw [← he]; exact List.getElem?_eq_getElem hi)).2
end

/-- Does an instruction stand there? -/
def isPl (l : List RawD) (p : Int) : Bool := l.any (fun r => r.pl == p)
theorem isPl_take (l : List RawD) (k : Nat) (p : Int) (r : RawD) (h : l[k]? = some r) : isPl (l.take (k + 1)) p = (isPl (l.take k) p || (r.pl == p)) := by
  unfold isPl
  rw [take_one l k r h, List.any_append]
  simp

set_option maxHeartbeats 1000000 in
theorem there_any (A : Option Addr) (n cap : Nat) (l : List RawD) (p : Int) (w : World) (hL : RawSl w A n cap l) :
    Calls Tryd.prog 27 #[.slice A n cap, .int .i64 p] w fun e w' => e = .returned (.bool (isPl l p)) ∧ Below w.heap.size w w' := by
  have hm := hL.2.1
  have hm2 := hL.2.2.1
  have hll := hL.1
  unfold maxLen at hm2
  have hE : Hid (isPl l p = isPl (l.take n) p) := Lib.hid (by rw [List.take_of_length_le (by omega)])
  have HL := Lib.hid hL
  clear hL hll
  go_enter Tryd.func27, Tryd.ntmps27
  go_wp2
  go_loopw [9] (fun i wr => ∃ k : Nat, k ≤ n ∧ i = .int .i64 (k : Int) ∧ isPl (l.take k) p = false ∧ Below w.heap.size w wr) (fun i _ => n - (intOf i).toNat)
  case atStart => exact ⟨0, by omega, rfl, rfl, Below.refl _ _⟩
  case round =>
    obtain ⟨k, hk, rfl, hno, hw⟩ := hrel
    by_cases hlt : k < n
    · obtain ⟨b, o, r, rfl, hr, hb, c0, c1, c2, c3⟩ := raw_at (HL.out.below hw) hlt
      have hT := isPl_take l k p r hr
      have Hall : Hid (isPl (l.take (k + 1)) p = true → isPl l p = true) := Lib.hid (fun h => by
        unfold isPl at h ⊢
        obtain ⟨x, hx, hp⟩ := List.any_eq_true.1 h
        exact List.any_eq_true.2 ⟨x, List.mem_of_mem_take hx, hp⟩)
      rw [hno, Bool.false_or] at hT
      have HT := Lib.hid hT
      have Hw := Lib.hid hw
      clear hT hno hw hr
      cases hq : (r.pl == p)
      · go_wp2
        go_roundw
        case rel => exact ⟨k + 1, by omega, by go_num, by rw [HT.out, hq], Hw.out.alloc Hw.out.size _⟩
        case measure => simp [intOf]; omega
      · go_wp2
        go_ret
        exact ⟨by rw [Hall.out (by rw [HT.out, hq])]; rfl, Hw.out.alloc Hw.out.size _⟩
    · obtain rfl : k = n := by omega
      have Hw := Lib.hid hw
      have Hno := Lib.hid hno
      clear hno hw
      go_wp2
      go_ret
      exact ⟨by rw [hE.out, Hno.out]; rfl, Hw.out⟩

end Go.Proofs.YtcpcjcbeeeoabaaDoor
