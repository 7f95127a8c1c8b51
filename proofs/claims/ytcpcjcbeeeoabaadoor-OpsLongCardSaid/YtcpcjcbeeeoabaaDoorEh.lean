/- The walks over ops.forms.meet and the document's goes. -/
import Derived.Test.YtcpcjcbeeeoabaaDoorEg
import Derived.Test.YtcpcjcbeeeoabaaDoorTk
import Derived.Deep.QuietTactic
import Derived.BigQuiet
namespace Go.Proofs.YtcpcjcbeeeoabaaDoor
set_option maxRecDepth 100000
open Go.RowKit

/-- Does each branch go to an instruction? -/
def meetR (l : List RawD) (r : RawD) : Bool := !(formN r.op == 7) || isPl l r.a
def meetF (l : List RawD) : Bool := l.all (meetR l)
theorem meet_take (l t : List RawD) (k : Nat) (r : RawD) (h : l[k]? = some r) : (l.take (k + 1)).all (meetR t) = ((l.take k).all (meetR t) && meetR t r) := by
  rw [take_one l k r h, List.all_append]
  simp
theorem meet_no {l : List RawD} {r : RawD} (h : r ∈ l) (hr : meetR l r = false) : meetF l = false := by
  unfold meetF
  rw [List.all_eq_false]
  exact ⟨r, h, by simp [hr]⟩

set_option maxHeartbeats 2000000 in
theorem refGoes_any (A : Option Addr) (n cap : Nat) (l : List RawD) (w : World) (hL : RawSl w A n cap l) (hok : ∀ r ∈ l, r.ok) :
    Calls Tryd.prog 23 #[.slice A n cap] w fun e w' => e = .returned (.bool (meetF l)) ∧ Below w.heap.size w w' := by
  have hm := hL.2.1
  have hm2 := hL.2.2.1
  have hll := hL.1
  unfold maxLen at hm2
  have hE : Hid (meetF l = (l.take n).all (meetR l)) := Lib.hid (by unfold meetF; rw [List.take_of_length_le (by omega)])
  have HL := Lib.hid hL
  have Hok := Lib.hid hok
  clear hL hll hok
  go_enter Tryd.func23, Tryd.ntmps23
  go_wp2
  go_loopw [7] (fun i wr => ∃ k : Nat, k ≤ n ∧ i = .int .i64 (k : Int) ∧ (l.take k).all (meetR l) = true ∧ Below w.heap.size w wr) (fun i _ => n - (intOf i).toNat)
  case atStart => exact ⟨0, by omega, rfl, rfl, Below.refl _ _⟩
  case round =>
    obtain ⟨k, hk, rfl, hno, hw⟩ := hrel
    by_cases hlt : k < n
    · obtain ⟨b, o, r, rfl, hr, hb, c0, c1, c2, c3⟩ := raw_at (HL.out.below hw) hlt
      have HT := Lib.hid (meet_take l l k r hr)
      have hmem := List.mem_of_getElem? hr
      have hop := (Hok.out r hmem).op
      have Hmem := Lib.hid hmem
      have Hno := Lib.hid hno
      have Hw := Lib.hid hw
      have hf9 := formN_le r.op
      have HR : Hid (meetR l r = (!(formN r.op == 7) || isPl l r.a)) := Lib.hid rfl
      have HC : Hid (∀ W, Calls Tryd.prog 9 #[.int .u8 (r.op : Int)] W fun e w' => e = .returned (.int .i64 (formN r.op : Int)) ∧ W = w') := Lib.hid (fun W => refForm_any r.op hop W)
      have HP : Hid (∀ W, Below w.heap.size w W → Calls Tryd.prog 27 #[.slice (some ⟨b, o, none⟩) n cap, .int .i64 r.a] W fun e w' => e = .returned (.bool (isPl l r.a)) ∧ Below W.heap.size W w') := Lib.hid (fun W h => there_any _ n cap l r.a W (HL.out.below h))
      clear hno hw hr hmem
      generalize formN r.op = f at hf9 HR HC
      by_cases hf : f = 7
      · subst hf
        obtain ⟨T, hT⟩ : ∃ T, isPl l r.a = T := ⟨_, rfl⟩
        rw [hT] at HP HR
        clear hT hf9
        go_wp2_with fail
        refine (HC.out _).mono ?_
        rintro e1 w1 ⟨rfl, rfl⟩
        have Hw1 : Hid (Below w.heap.size w (wr.alloc (.cells #[.int .i64 r.pl, .int .u8 (r.op : Int), .int .i64 r.a, .int .i64 r.b] 36))) := Lib.hid (Hw.out.alloc Hw.out.size _)
        go_wp2_with fail
        refine (HP.out _ Hw1.out).mono ?_
        rintro e2 w2 ⟨rfl, hb2⟩
        have Hb2 := Lib.hid (Hw1.out.trans (hb2.mono Hw1.out.size))
        clear hb2
        cases T with
        | true =>
          go_wp2
          go_roundw
          case rel => exact ⟨k + 1, by omega, by go_num, by rw [HT.out, HR.out, Hno.out]; rfl, Hb2.out⟩
          case measure => simp [intOf]; omega
        | false =>
          go_wp2
          go_ret
          exact ⟨by rw [meet_no Hmem.out (by rw [HR.out]; rfl)]; rfl, Hb2.out⟩
      · have hfd : ((f : Int) == 7) = false := by simp; omega
        have HR2 : Hid (meetR l r = true) := Lib.hid (by rw [HR.out]; simp [hf])
        clear hf
        go_wp2_with fail
        refine (HC.out _).mono ?_
        rintro e1 w1 ⟨rfl, rfl⟩
        go_wp2
        go_roundw
        case rel => exact ⟨k + 1, by omega, by go_num, by rw [HT.out, HR2.out, Hno.out]; rfl, Hw.out.alloc Hw.out.size _⟩
        case measure => simp [intOf]; omega
    · obtain rfl : k = n := by omega
      have Hw := Lib.hid hw
      have Hno := Lib.hid hno
      clear hno hw
      go_wp2
      go_ret
      exact ⟨by rw [hE.out, Hno.out]; rfl, Hw.out⟩

set_option maxHeartbeats 2000000 in
theorem meet_any (g : Nat) (A : Option Addr) (n cap : Nat) (l : List RawD) (w : World) (hF : FormsAt w g) (hL : RawSl w A n cap l) (hn : n ≤ 1048576) (hok : ∀ r ∈ l, r.ok) (hRi : Rise l) :
    Calls Tryd.prog 20 #[.pointer (some ⟨g, 0, none⟩), .slice A n cap] w fun e w' => e = .returned (.bool (meetF l)) ∧ Below w.heap.size w w' := by
  have hm := hL.2.1
  have hm2 := hL.2.2.1
  have hll := hL.1
  unfold maxLen at hm2
  have hE : Hid (meetF l = (l.take n).all (meetR l)) := Lib.hid (by unfold meetF; rw [List.take_of_length_le (by omega)])
  have HL := Lib.hid hL
  have Hok := Lib.hid hok
  have HF := Lib.hid hF
  have HRi := Lib.hid hRi
  have hg : g < w.heap.size := Blk.lt hF
  clear hL hll hok hF hRi
  go_enter Tryd.func20, Tryd.ntmps20
  go_wp2
  go_loopw [9] (fun i wr => ∃ k : Nat, k ≤ n ∧ i = .int .i64 (k : Int) ∧ (l.take k).all (meetR l) = true ∧ Below w.heap.size w wr) (fun i _ => n - (intOf i).toNat)
  case atStart => exact ⟨0, by omega, rfl, rfl, Below.refl _ _⟩
  case round =>
    obtain ⟨k, hk, rfl, hno, hw⟩ := hrel
    by_cases hlt : k < n
    · obtain ⟨b, o, r, rfl, hr, hb, c0, c1, c2, c3⟩ := raw_at (HL.out.below hw) hlt
      have HT := Lib.hid (meet_take l l k r hr)
      have hmem := List.mem_of_getElem? hr
      have hop := (Hok.out r hmem).op
      have Hmem := Lib.hid hmem
      have Hno := Lib.hid hno
      have Hw := Lib.hid hw
      have hf9 := formN_le r.op
      have HR : Hid (meetR l r = (!(formN r.op == 7) || isPl l r.a)) := Lib.hid rfl
      have hfc : wr.cell? ⟨g, r.op, none⟩ = some (.int .u8 (formN r.op : Int)) := (hw.cell (p := ⟨g, r.op, none⟩) hg).trans (HF.out.cell r.op hop)
      have HP : Hid (∀ W, Below w.heap.size w W → Calls Tryd.prog 30 #[.slice (some ⟨b, o, none⟩) n cap, .int .i64 r.a] W fun e w' => e = .returned (.bool (isPl l r.a)) ∧ Below W.heap.size W w') := Lib.hid (fun W h => isPlace_any _ n cap l r.a W (HL.out.below h) hn HRi.out)
      have hgr : g < wr.heap.size := by have := hw.size; omega
      clear hno hw hr hmem
      generalize formN r.op = f at hf9 HR hfc
      by_cases hf : f = 7
      · subst hf
        obtain ⟨T, hT⟩ : ∃ T, isPl l r.a = T := ⟨_, rfl⟩
        rw [hT] at HP HR
        clear hT hf9
        have hfc : wr.cell? ⟨g, r.op, none⟩ = some (.int .u8 7) := hfc
        have HWd : Hid (Below w.heap.size w (wr.alloc (.cells #[.int .i64 r.pl, .int .u8 (r.op : Int), .int .i64 r.a, .int .i64 r.b] 36)).drew) := Lib.hid ((Hw.out.alloc Hw.out.size _).drewN 1)
        have HS : Hid (∀ W, Below (wr.heap.size + 1) (wr.alloc (.cells #[.int .i64 r.pl, .int .u8 (r.op : Int), .int .i64 r.a, .int .i64 r.b] 36)).drew W → W.cell? ⟨wr.heap.size, 1, none⟩ = some (.int .u8 (r.op : Int)) ∧ W.cell? ⟨wr.heap.size, 2, none⟩ = some (.int .i64 r.a) ∧ W.cell? ⟨g, r.op, none⟩ = some (.int .u8 7)) := Lib.hid (fun W h => by
          have hb1 := (Blk.new wr 36 #[.int .i64 r.pl, .int .u8 (r.op : Int), .int .i64 r.a, .int .i64 r.b]).drew
          have hb2 := hb1.of (h.block wr.heap.size (by simp))
          refine ⟨hb2.cell 1, hb2.cell 2, (h.cell (p := ⟨g, r.op, none⟩) (show g < wr.heap.size + 1 by omega)).trans ?_⟩
          exact (((Below.refl wr.heap.size wr).alloc (Nat.le_refl _) (.cells #[.int .i64 r.pl, .int .u8 (r.op : Int), .int .i64 r.a, .int .i64 r.b] 36)).cell (p := ⟨g, r.op, none⟩) hgr).trans hfc)
        have hs0 := HS.out _ (Below.refl _ _)
        have ho1 : (r.op : Int) < 256 := by omega
        have ho0 : 0 ≤ (r.op : Int) := by omega
        clear hfc
        cases T with
        | true =>
          go_wp2
          go_region_held3 (fun W => W.cell? ⟨wr.heap.size, 1, none⟩ = some (.int .u8 (r.op : Int)) ∧ W.cell? ⟨wr.heap.size, 2, none⟩ = some (.int .i64 r.a) ∧ W.cell? ⟨g, r.op, none⟩ = some (.int .u8 7)) (first | with_reducible exact hs0 | with_reducible exact hs1)
            ((go_at_call 30; (with_reducible refine (HP.out _ HWd.out).mono ?_); rintro e1 w1 ⟨rfl, hb1⟩; have hs1 := HS.out _ (hb1.mono (by simp))))
          have Hb2 : Hid (Below w.heap.size w w1) := Lib.hid (HWd.out.trans (hb1.mono HWd.out.size))
          clear hb1 hs0 hs1
          go_wp2
          go_roundw
          case rel => exact ⟨k + 1, by omega, by go_num, by rw [HT.out, HR.out, Hno.out]; rfl, Hb2.out⟩
          case measure => simp [intOf]; omega
        | false =>
          go_wp2
          go_region_held3 (fun W => W.cell? ⟨wr.heap.size, 1, none⟩ = some (.int .u8 (r.op : Int)) ∧ W.cell? ⟨wr.heap.size, 2, none⟩ = some (.int .i64 r.a) ∧ W.cell? ⟨g, r.op, none⟩ = some (.int .u8 7)) (first | with_reducible exact hs0 | with_reducible exact hs1)
            ((go_at_call 30; (with_reducible refine (HP.out _ HWd.out).mono ?_); rintro e1 w1 ⟨rfl, hb1⟩; have hs1 := HS.out _ (hb1.mono (by simp))))
          have Hb2 : Hid (Below w.heap.size w w1) := Lib.hid (HWd.out.trans (hb1.mono HWd.out.size))
          clear hb1 hs0 hs1
          go_wp2
          go_ret
          exact ⟨by rw [meet_no Hmem.out (by rw [HR.out]; rfl)]; rfl, Hb2.out⟩
      · have hfd : ((f : Int) == 7) = false := by simp; omega
        have HR2 : Hid (meetR l r = true) := Lib.hid (by rw [HR.out]; simp [hf])
        clear hf
        go_wp2
        go_quiet (fail)
        go_wp2
        go_roundw
        case rel => exact ⟨k + 1, by omega, by go_num, by rw [HT.out, HR2.out, Hno.out]; rfl, (Hw.out.alloc Hw.out.size _).drewN _⟩
        case measure => simp [intOf]; omega
    · obtain rfl : k = n := by omega
      have Hw := Lib.hid hw
      have Hno := Lib.hid hno
      clear hno hw
      go_wp2
      go_ret
      exact ⟨by rw [hE.out, Hno.out]; rfl, Hw.out⟩

end Go.Proofs.YtcpcjcbeeeoabaaDoor
