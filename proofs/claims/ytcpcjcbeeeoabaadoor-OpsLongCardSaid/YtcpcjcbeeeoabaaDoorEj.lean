/- Cutting any bytes into instructions: ops.forms.cut; ops.Decode. -/
import Derived.Test.YtcpcjcbeeeoabaaDoorEi
namespace Go.Proofs.YtcpcjcbeeeoabaaDoor
set_option maxRecDepth 100000
open Go.RowKit

theorem Tryd.infoRaw : (Tryd.prog.info? 36).map (fun i => (i.zero, i.size, i.bytes)) = some (some zeroR.v, 4, 32) := by kernel_rfl
theorem wpList_append_raw {ops : Array Oper} {rest : List Oper} {q : Oper} {u : Act} {w : World} {S : Nat → Prop} {Q : Exit → Act → World → Prop} (hgd : q.guard = none) (s x : Operand) (hq : q.op = .call { callee := .builtin .append, args := #[s, x], argTypes := #[26, 26] })
    (base : Nat) (B : Option Addr) (m0 c0 : Nat) (zs : List RawD) (hs : u.eval s = .slice B m0 c0) (hown : GotR RawD.cells 4 36 base w B m0 c0 zs) (A : Option Addr) (m c : Nat) (l : List RawD)
    (hx : u.eval x = .slice A m c) (hB : RowSl RawD.cells 4 w S A m c l) (hn : A = none → m = 0 ∧ c = 0) (hm : m0 + m ≤ 16777216) (hbase : base ≤ w.heap.size)
    (h : ∀ A' c' w', GotR RawD.cells 4 36 base w' A' (m0 + m) c' (zs ++ l) → w.grownBy w' (Value.slice B m0 c0).ownBlock → (∀ g, (Value.slice B m0 c0).ownBlock = some g → base ≤ g) → wpList Tryd.prog ops Q rest (u.put q.dst (.slice A' (m0 + m) c')) w') : wpList Tryd.prog ops Q (q :: rest) u w :=
  wpList_append_rows RawD.cells_len RawD.cells_one (by decide) 26 36 _ 32 Tryd.underlying26 Tryd.infoRaw (by simp [zeroR, RawD.v, Value.cells]) (by decide) hgd s x hq base B m0 c0 zs hs hown A m c l hx hB hn hm hbase (fun A' c' w' h1 h2 h3 _ => h A' c' w' h1 h2 h3)
theorem raw_lit (r : RawD) (W : World) : RawSl (W.alloc (.cells #[.int .i64 r.pl, .int .u8 (r.op : Int), .int .i64 r.a, .int .i64 r.b] 36)) (some ⟨W.heap.size, 0, none⟩) 1 1 [r] :=
  RowSl.lit RawD.cells_len W Empty 36 [r] 1 [.int .i64 r.pl, .int .u8 (r.op : Int), .int .i64 r.a, .int .i64 r.b] (by simp [RawD.cells]) rfl (by unfold maxLen; omega) (fun h => h)
theorem gotRaw_lt {W : World} {base n cap : Nat} {A : Option Addr} {l : List RawD} (h : GotR RawD.cells 4 36 base W A n cap l) : ∀ g, (Value.slice A n cap).ownBlock = some g → g < W.heap.size := by
  intro g hg
  rcases h.here with rfl | ⟨g', cur, rfl, _, hb, _⟩
  · cases hg
  · cases hg
    exact hb.lt
/-- A block that isn't the row's stays where the row grows. -/
theorem grown_blk {W W' : World} {row : Option Nat} {q : Nat} {t : TypeId} {cs : Array Value} (h : W.grownBy W' row) (hq : Blk W q t cs) (hne : ∀ g, row = some g → g ≠ q) : Blk W' q t cs :=
  (Only.of_grown (S := fun p => row = some p) h (fun k e _ => e)).blk hq (fun e => hne q e rfl)

/-- Instructions as they are cut off any bytes: of which place on, what was cut off before, the error, all of them. -/
inductive Cuts (xs : List UInt8) : Nat → List RawD → Int → List RawD → Prop
  | stop {k : Nat} {l : List RawD} : xs.length ≤ k → Cuts xs k l 0 l
  | bad {k : Nat} {l : List RawD} : k < xs.length → readE xs k ≠ 0 → Cuts xs k l (readE xs k) []
  | go {k : Nat} {l l' : List RawD} {e : Int} : k < xs.length → readE xs k = 0 → Cuts xs (k + lenN (opN xs k)) (l ++ [readR xs k]) e l' → Cuts xs k l e l'

/-- An instruction that may be read stands whole. -/
theorem read_len {xs : List UInt8} {k : Nat} (hk : k < xs.length) (h : readE xs k = 0) : 1 ≤ lenN (opN xs k) ∧ k + lenN (opN xs k) ≤ xs.length := by
  unfold readE readE' at h
  have hf := formN_le (opN xs k)
  have hl : lenN (opN xs k) = lenF (formN (opN xs k)) := rfl
  split at h
  · cases h
  · next h0 =>
    split at h
    · cases h
    · next h1 =>
      have := lenF_pos _ hf h0
      omega
theorem cuts_ex (xs : List UInt8) : ∀ (m k : Nat) (l : List RawD), xs.length - k ≤ m → ∃ e l', Cuts xs k l e l' := by
  intro m
  induction m with
  | zero => exact fun k l h => ⟨0, l, .stop (by omega)⟩
  | succ m ih =>
    intro k l h
    by_cases hk : k < xs.length
    · by_cases he : readE xs k = 0
      · have := read_len hk he
        obtain ⟨e, l', hc⟩ := ih (k + lenN (opN xs k)) (l ++ [readR xs k]) (by omega)
        exact ⟨e, l', .go hk he hc⟩
      · exact ⟨_, _, .bad hk he⟩
    · exact ⟨0, l, .stop (by omega)⟩

/-- Instructions that a call has made, behind an error. -/
def GotRaws (w w' : World) (e : Ending) (c : Int) (l : List RawD) : Prop := (∃ B cap, e = .returned (.tuple #[.slice B l.length cap, .int .i64 c]) ∧ GotR RawD.cells 4 36 w.heap.size w' B l.length cap l) ∧ Below w.heap.size w w'

set_option maxHeartbeats 1000000 in
theorem cut_any (g : Nat) (A : Option Addr) (n cap : Nat) (xs : List UInt8) (E : Int) (L : List RawD) (w : World) (hT : Tables w) (hF : FormsAt w g) (hB : ByteSl w Empty A n cap xs) (hn : n ≤ 1048576) (hC : Cuts xs 0 [] E L) :
    Calls Tryd.prog 19 #[.pointer (some ⟨g, 0, none⟩), .slice A n cap] w fun e w' => GotRaws w w' e E L := by
  have hxl := hB.1
  have hncap := hB.2.1
  have hg : g < w.heap.size := Blk.lt hF
  have HRd : Hid (∀ W k, Below w.heap.size w W → k < n → Calls Tryd.prog 29 #[.pointer (some ⟨g, 0, none⟩), .slice A n cap, .int .i64 (k : Int)] W fun e w' => ReadOk xs k W w' e) :=
    Lib.hid (fun W k h hk => read_any g A n cap k xs W (hT.below h) (hF.of (h.block g hg)) (hB.only (Only.of_below h) (fun _ _ h => h)) hn hk)
  have HSz : Hid (∀ W (x : Nat), Below w.heap.size w W → x < 256 → Calls Tryd.prog 18 #[.pointer (some ⟨g, 0, none⟩), .int .u8 (x : Int)] W fun e w' => e = .returned (.int .i64 (lenN x : Int)) ∧ Below W.heap.size W w') :=
    Lib.hid (fun W x h hx => size_any g x hx W (hT.below h) (hF.of (h.block g hg)))
  have HC := Lib.hid hC
  have Hxl := Lib.hid hxl
  clear hT hF hB hC hxl hncap
  go_enter Tryd.func19, Tryd.ntmps19
  go_wp2
  go_loopw [6, 7] (fun b i wr => ∃ (k m c : Nat) (B : Option Addr) (l : List RawD), k ≤ n ∧ m ≤ k ∧ b = .slice B m c ∧ i = .int .i64 (k : Int) ∧ Hid (GotR RawD.cells 4 36 w.heap.size wr B m c l) ∧ Hid (Cuts xs k l E L) ∧ Hid (Below w.heap.size w wr)) (fun _ i _ => n - (intOf i).toNat)
  case atStart => exact ⟨0, 0, 0, none, [], by omega, by omega, rfl, rfl, Lib.hid (GotR.nil_ _ _ _ _ _), HC, Lib.hid (Below.refl _ _)⟩
  case round =>
    obtain ⟨k, m, c, B, l, hk, hmk, rfl, rfl, HG, HQ, HW⟩ := hrel
    have hml : l.length = m := HG.out.row.1
    have hmc : m ≤ c := HG.out.row.2.1
    have hcx : c ≤ 9223372036854775807 := by have := HG.out.row.2.2.1; unfold maxLen at this; exact this
    have Hml := Lib.hid hml
    clear hml
    by_cases hlt : k < n
    · by_cases he : readE xs k = 0
      · have hQ2 : Cuts xs (k + lenN (opN xs k)) (l ++ [readR xs k]) E L := by
          have hlt2 : k < xs.length := by have := Hxl.out; omega
          cases HQ.out with
          | stop h => omega
          | bad _ h => exact absurd he h
          | go _ _ h => exact h
        have hrl := read_len (show k < xs.length by have := Hxl.out; omega) he
        have hkl : k + lenN (opN xs k) ≤ n := by have := Hxl.out; omega
        have hrl1 := hrl.1
        have hl3 := lenN_le (opN xs k)
        have hop : (readR xs k).op = opN xs k := rfl
        have hol := opN_lt xs k
        have HRd1 : Hid (∀ W, Below w.heap.size w W → Calls Tryd.prog 29 #[.pointer (some ⟨g, 0, none⟩), .slice A n cap, .int .i64 (k : Int)] W fun e w' => e = .returned (.tuple #[(readR xs k).v, .int .i64 0]) ∧ Below W.heap.size W w') := Lib.hid (fun W h => (HRd.out W k h hlt).mono (by
          rintro e w' ⟨rfl, hb⟩
          rw [if_pos he, he]
          exact ⟨rfl, hb⟩))
        have HSz1 : Hid (∀ W, Below w.heap.size w W → Calls Tryd.prog 18 #[.pointer (some ⟨g, 0, none⟩), .int .u8 ((readR xs k).op : Int)] W fun e w' => e = .returned (.int .i64 (lenN (opN xs k) : Int)) ∧ Below W.heap.size W w') := Lib.hid (fun W h => HSz.out W _ h hol)
        have HQ2 := Lib.hid hQ2
        clear hrl hQ2 he hop hol HQ
        generalize lenN (opN xs k) = ln at *
        generalize readR xs k = r at *
        go_wp2_with fail
        refine (HRd1.out _ HW.out).mono ?_
        rintro e1 w1 ⟨rfl, hb1⟩
        have HW1 := Lib.hid (HW.out.trans (hb1.mono HW.out.size))
        have HG1 := Lib.hid ((HG.out.below RawD.cells_len hb1))
        have HG2 := Lib.hid ((HG1.out.alloc RawD.cells_len (.cells #[.int .i64 r.pl, .int .u8 (r.op : Int), .int .i64 r.a, .int .i64 r.b] 36)).alloc RawD.cells_len (.cells #[.int .i64 r.pl, .int .u8 (r.op : Int), .int .i64 r.a, .int .i64 r.b] 36))
        have HX : Hid (RawSl ((w1.alloc (.cells #[.int .i64 r.pl, .int .u8 (r.op : Int), .int .i64 r.a, .int .i64 r.b] 36)).alloc (.cells #[.int .i64 r.pl, .int .u8 (r.op : Int), .int .i64 r.a, .int .i64 r.b] 36)) (some ⟨w1.heap.size + 1, 0, none⟩) 1 1 [r]) := Lib.hid (by
          have h := raw_lit r (w1.alloc (.cells #[.int .i64 r.pl, .int .u8 (r.op : Int), .int .i64 r.a, .int .i64 r.b] 36))
          rwa [show (w1.alloc (.cells #[.int .i64 r.pl, .int .u8 (r.op : Int), .int .i64 r.a, .int .i64 r.b] 36)).heap.size = w1.heap.size + 1 by simp] at h)
        have HB2 : Hid (Blk ((w1.alloc (.cells #[.int .i64 r.pl, .int .u8 (r.op : Int), .int .i64 r.a, .int .i64 r.b] 36)).alloc (.cells #[.int .i64 r.pl, .int .u8 (r.op : Int), .int .i64 r.a, .int .i64 r.b] 36)) w1.heap.size 36 #[.int .i64 r.pl, .int .u8 (r.op : Int), .int .i64 r.a, .int .i64 r.b]) :=
          Lib.hid ((Blk.new w1 36 _).alloc _)
        have HL2 : Hid (∀ q, (Value.slice B m c).ownBlock = some q → q ≠ w1.heap.size) := Lib.hid (fun q hq => by have := gotRaw_lt HG1.out q hq; omega)
        have HS2 : Hid (w.heap.size ≤ ((w1.alloc (.cells #[.int .i64 r.pl, .int .u8 (r.op : Int), .int .i64 r.a, .int .i64 r.b] 36)).alloc (.cells #[.int .i64 r.pl, .int .u8 (r.op : Int), .int .i64 r.a, .int .i64 r.b] 36)).heap.size) := Lib.hid (by have := HW1.out.size; simp; omega)
        have HW2 : Hid (Below w.heap.size w ((w1.alloc (.cells #[.int .i64 r.pl, .int .u8 (r.op : Int), .int .i64 r.a, .int .i64 r.b] 36)).alloc (.cells #[.int .i64 r.pl, .int .u8 (r.op : Int), .int .i64 r.a, .int .i64 r.b] 36))) := Lib.hid ((HW1.out.alloc HW1.out.size _).alloc (by have := HW1.out.size; simp; omega) _)
        clear hb1
        simp only [RawD.v]
        go_wp2_with (at_builtin; refine wpList_append_raw rfl (.tmp 24) (.tmp 26) rfl w.heap.size B m c l rfl HG2.out (some ⟨w1.heap.size + 1, 0, none⟩) 1 1 [r] rfl HX.out (fun h => by cases h) (by omega) HS2.out ?_; intro B5 c5 w5 hg5 hgr5 hr5; have HG5 := Lib.hid hg5; have HB5 := Lib.hid (grown_blk hgr5 HB2.out HL2.out); have c5op := HB5.out.cell 1; have HW5 : Hid (Below w.heap.size w w5) := Lib.hid (below_gotR (base := w.heap.size) HW2.out HS2.out hgr5 hr5 (Nat.le_refl _)); clear hg5 hgr5 hr5; simp at c5op)
        refine (HSz1.out _ HW5.out).mono ?_
        rintro e6 w6 ⟨rfl, hb6⟩
        have HG6 := Lib.hid (HG5.out.below RawD.cells_len hb6)
        have HW6 := Lib.hid (HW5.out.trans (hb6.mono HW5.out.size))
        clear hb6
        go_wp2
        go_roundw
        case rel => exact ⟨k + ln, m + 1, c5, B5, l ++ [r], hkl, by omega, rfl, by go_num, HG6, HQ2, HW6⟩
        case measure => simp [intOf]; omega
      · have hQ2 : E = readE xs k ∧ L = [] := by
          have hlt2 : k < xs.length := by have := Hxl.out; omega
          cases HQ.out with
          | stop h => omega
          | bad _ h => exact ⟨rfl, rfl⟩
          | go _ h _ => exact absurd h he
        obtain ⟨hE, hL⟩ := hQ2
        have HL0 := Lib.hid hL
        have HRd1 : Hid (∀ W, Below w.heap.size w W → Calls Tryd.prog 29 #[.pointer (some ⟨g, 0, none⟩), .slice A n cap, .int .i64 (k : Int)] W fun e w' => e = .returned (.tuple #[zeroR.v, .int .i64 E]) ∧ Below W.heap.size W w') := Lib.hid (fun W h => (HRd.out W k h hlt).mono (by
          rintro e w' ⟨rfl, hb⟩
          rw [if_neg he, hE]
          exact ⟨rfl, hb⟩))
        have hEq : (E == 0) = false := by rw [hE]; simpa using he
        clear he hE hL HQ HC
        go_wp2_with fail
        refine (HRd1.out _ HW.out).mono ?_
        rintro e1 w1 ⟨rfl, hb1⟩
        have HW1 := Lib.hid (HW.out.trans (hb1.mono HW.out.size))
        clear hb1
        simp only [RawD.v, zeroR]
        go_wp2
        go_ret2
        refine ⟨?_, HW1.out.alloc HW1.out.size _⟩
        rw [HL0.out]
        exact ⟨none, 0, rfl, GotR.nil_ _ _ _ _ _⟩
    · have hk2 : k = n := by omega
      have hQ2 : E = 0 ∧ L = l := by
        have hlt2 : xs.length ≤ k := by have := Hxl.out; omega
        cases HQ.out with
        | stop h => exact ⟨rfl, rfl⟩
        | bad h _ => omega
        | go h _ _ => omega
      obtain ⟨rfl, rfl⟩ := hQ2
      have hd : decide (k < n) = false := decide_eq_false hlt
      clear HQ HC hk2
      go_wp2
      go_ret2
      refine ⟨⟨B, c, ?_, ?_⟩, HW.out⟩
      · rw [Hml.out]
        rfl
      · rw [Hml.out]
        exact HG.out

end Go.Proofs.YtcpcjcbeeeoabaaDoor
