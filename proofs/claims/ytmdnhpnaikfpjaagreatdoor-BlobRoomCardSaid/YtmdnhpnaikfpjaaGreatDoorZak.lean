/- A slice of structs that comes in, opened element by element, whatever the struct. -/
import Derived.Test.YtmdnhpnaikfpjaaGreatDoorZaf
import Derived.Deep.Slices
import Derived.Deep.Fields
import Derived.ChangeArms
import Derived.Test.YtmdnhpnaikfpjaaGreatDoorZad
import Derived.Test.YtmdnhpnaikfpjaaGreatDoorZae
import Derived.Lib.SlBytesConst
import Derived.Deep.QuietTactic
import Derived.BigQuiet
import Derived.RegionTactic
import Derived.ChangeAlike
import Derived.Test.YtmdnhpnaikfpjaaGreatDoorZab
import Derived.Lib.AppendStr
import Derived.Deep.RegionHeld3
import Derived.Deep.RegionLaw
namespace Go.Proofs.YtmdnhpnaikfpjaaGreatDoor
set_option maxRecDepth 100000
open Go.ChangeShapes Go.WideShapes Go.ChangeAt Go.RowKit Go.Joins

section
variable {H : Type} {enc : TypeId × Value → H} {W : World} {base : Nat}

theorem add_off (b o n : Nat) : (⟨b, o, none⟩ : Addr).add n = ⟨b, o + n, none⟩ := by unfold Addr.add; split <;> simp_all

/-- Each element is what 'one' makes of K cells side by side. -/
theorem open_rows {α : Type} (a0 : α) (t e : TypeId) (K : Nat) (ht : Tryz.prog.underlying t = some (.slice e)) (hK : Tryz.prog.cellsOf e = K) (h0K : 0 < K) (P : Nat → Nat → α → Prop)
    (one : ∀ (b off fuel : Nat) (cs : List Value) (x : DataW H × List MemPlace), W.cells? 0 ⟨b, off, none⟩ K = some cs → DataW.trod enc Tryz.prog W 0 (fun _ => true) true fuel e cs = some x → ∃ y, P b off y)
    {v : Value} {d : DataW H} {p : List MemPlace} (hv : Value.okWide Tryz.prog W .any base t v) (h : DataW.Trod enc Tryz.prog W 0 (fun _ => true) true t v d p) :
    ∃ (A : Option Addr) (n cap : Nat) (l : List α), v = .slice A n cap ∧ l.length = n ∧ n ≤ cap ∧ cap ≤ maxLen ∧ (A = none → n = 0 ∧ cap = 0) ∧
      (0 < n → ∃ b o, A = some ⟨b, o, none⟩ ∧ b < W.heap.size ∧ ∀ i y, l[i]? = some y → P b (o + i * K) y) := by
  obtain ⟨A, n, cap, rfl⟩ := okWide_slice ht hv
  obtain ⟨fuel, hf⟩ := h
  rcases Go.Deep.open_slice ht hf with ⟨hcs, _⟩ | ⟨ad, l, c, m, n', D, Pl, hcs, _, hl, hm, hmm, _, hi⟩
  · simp [Value.cells] at hcs
    obtain ⟨rfl, rfl, rfl⟩ := hcs
    exact ⟨none, 0, 0, [], rfl, rfl, Nat.le_refl _, by simp [maxLen], fun _ => ⟨rfl, rfl⟩, fun h => absurd h (by omega)⟩
  · simp [Value.cells] at hcs
    obtain ⟨rfl, rfl, rfl⟩ := hcs
    simp at hmm
    subst hmm
    rw [hK] at hi
    rcases Nat.eq_zero_or_pos n with h0 | h0
    · subst h0
      exact ⟨_, 0, _, [], rfl, rfl, hl, hm, (fun h => by cases h), fun h => absurd h (by omega)⟩
    obtain ⟨b, o, sp⟩ := ad
    have hs : sp = none ∧ b < W.heap.size := by
      obtain ⟨cs', hc, _⟩ := hi 0 (by omega)
      obtain ⟨_, hl6, hat⟩ := World.cells?_some hc
      have h1 := hat 0 (by omega)
      rw [List.getElem?_eq_getElem (by omega)] at h1
      simp only [Nat.zero_mul, Addr.add, if_true] at h1
      refine ⟨?_, cell_lt h1⟩
      rcases sp with _ | x
      · rfl
      · exfalso
        unfold World.cell? at h1
        split at h1 <;> simp at h1
    obtain ⟨rfl, hb⟩ := hs
    have hall : ∀ i, ∃ y, i < n → P b (o + i * K) y := fun i => by
      by_cases hin : i < n
      · obtain ⟨cs', hc, ht2⟩ := hi i (by omega)
        rw [add_off] at hc
        obtain ⟨y, hy⟩ := one _ _ _ _ _ hc ht2
        exact ⟨y, fun _ => hy⟩
      · exact ⟨a0, fun h => absurd h hin⟩
    refine ⟨_, n, _, (List.range n).map fun i => (hall i).choose, rfl, by simp, hl, hm, (fun h => by cases h), fun _ => ⟨b, o, rfl, hb, fun i y hy => ?_⟩⟩
    rw [List.getElem?_map] at hy
    have hin : i < n := by
      rcases Nat.lt_or_ge i n with h1 | h1
      · exact h1
      · rw [List.getElem?_eq_none (by simpa using h1)] at hy
        cases hy
    rw [List.getElem?_range hin] at hy
    simp only [Option.map_some, Option.some.injEq] at hy
    rw [← hy]
    exact (hall i).choose_spec hin

/-- Bytes in a cell, as the walks take them. -/
theorem bytes_cell {v : Value} {fuel : Nat} {x : DataW H × List MemPlace} (h : DataW.trod enc Tryz.prog W 0 (fun _ => true) true fuel 22 [v] = some x) :
    ∃ (A : Option Addr) (n cap : Nat) (xs : List UInt8), v = .slice A n cap ∧ ByteSl W (fun k => W.heap.size ≤ k) A n cap xs ∧ (A = none → n = 0 ∧ cap = 0) := by
  rcases open_ints Tryz.underlying22 Tryz.underlying5 (by kernel_rfl) h with ⟨hcs, _⟩ | ⟨x, l, c, zs, hcs, _, hl, hm, hz, _, hcell, hwz⟩
  · simp at hcs
    subst hcs
    exact ⟨none, 0, 0, [], rfl, ByteSl.nil_ _ _ _ _ (by simp [maxLen]), fun _ => ⟨rfl, rfl⟩⟩
  · simp at hcs
    subst hcs
    have hzl : zs.length = c := by simpa using hz
    refine ⟨some x, l, c, (zs.take l).map (fun z => UInt8.ofNat z.toNat), rfl, ⟨by simp; omega, hl, hm, fun hn => ⟨x, rfl, ?_, ?_, ?_⟩⟩, fun h => by cases h⟩
    · have h0 := hcell 0 (by omega)
      simp only [Addr.add, if_pos] at h0
      exact cell_lt h0
    · have h0 := hcell 0 (by omega)
      simp only [Addr.add, if_pos] at h0
      have := cell_lt h0
      omega
    · intro j y hj
      rw [List.getElem?_map, List.getElem?_take] at hj
      by_cases hjn : j < l
      · rw [if_pos hjn] at hj
        have hjl : j < zs.length := by omega
        rw [hcell j hjl]
        rw [List.getElem?_eq_getElem hjl] at hj
        simp at hj
        have hw := hwz zs[j] (List.getElem_mem hjl)
        simp [Lit.wf, IntKind.min, IntKind.max, IntKind.bits, IntKind.signed] at hw
        have hg : zs.getD j 0 = zs[j] := by simp [List.getD, hjl]
        rw [hg, ← hj]
        unfold B8
        rw [UInt8.toNat_ofNat']
        congr 2
        omega
      · rw [if_neg hjn] at hj
        cases hj
end

end Go.Proofs.YtmdnhpnaikfpjaaGreatDoor

/- Records as plain data, and the walks over what tells of a header alone: changes, mayBe, headOf, size, Size, and the document's Right and Size. -/
namespace Go.Proofs.YtmdnhpnaikfpjaaGreatDoor
set_option maxRecDepth 100000
open Go.RowKit

/-- May a change have such a key and count? -/
def chB (key count : Int) : Bool := decide (1 ≤ key ∧ key ≤ 64 ∧ count = 0)
/-- May a record be? Of key and blob their lengths. -/
def mayB (kind txn key blob count : Int) : Bool :=
  decide (txn ≠ 0 ∧ ((kind = 1 ∧ 1 ≤ key ∧ key ≤ 64 ∧ count = 0 ∧ blob ≤ 4096) ∨ (kind = 2 ∧ 1 ≤ key ∧ key ≤ 64 ∧ count = 0 ∧ blob = 0) ∨ (kind = 3 ∧ key = 0 ∧ blob = 0 ∧ 0 ≤ count ∧ count ≤ 16)))

theorem mayB_iff {kind txn key blob count : Int} : mayB kind txn key blob count = true ↔
    (txn ≠ 0 ∧ ((kind = 1 ∧ 1 ≤ key ∧ key ≤ 64 ∧ count = 0 ∧ blob ≤ 4096) ∨ (kind = 2 ∧ 1 ≤ key ∧ key ≤ 64 ∧ count = 0 ∧ blob = 0) ∨ (kind = 3 ∧ key = 0 ∧ blob = 0 ∧ 0 ≤ count ∧ count ≤ 16))) := by
  unfold mayB
  exact decide_eq_true_iff
theorem chB_iff {key count : Int} : chB key count = true ↔ (1 ≤ key ∧ key ≤ 64 ∧ count = 0) := by
  unfold chB
  exact decide_eq_true_iff

/-- A bool that a decision is. -/
theorem ret_b {a b : Bool} (h : a = true ↔ b = true) : Ending.returned (.bool a) = .returned (.bool b) := by
  rw [Bool.eq_iff_iff.2 h]

theorem changes_any (k t a b c : Int) (w : World) : Calls Tryz.prog 200 #[.agg #[.int .i64 k, .int .u32 t, .int .i64 a, .int .i64 b, .int .i64 c]] w fun e w' =>
    e = .returned (.bool (chB a c)) ∧ w' = w.alloc (.cells #[.int .i64 k, .int .u32 t, .int .i64 a, .int .i64 b, .int .i64 c] 211) := by
  have H := Lib.hid (@chB_iff a c)
  by_cases h1 : 1 ≤ a
  · by_cases h2 : a ≤ 64
    · go_enter Tryz.func200, Tryz.ntmps200
      go_wp2
      go_ret
      exact ⟨ret_b (by rw [H.out]; simp; omega), rfl⟩
    · go_enter Tryz.func200, Tryz.ntmps200
      go_wp2
      go_ret
      exact ⟨ret_b (by rw [H.out]; simp; omega), rfl⟩
  · go_enter Tryz.func200, Tryz.ntmps200
    go_wp2
    go_ret
    exact ⟨ret_b (by rw [H.out]; simp; omega), rfl⟩

set_option maxHeartbeats 1000000 in
theorem mayBe_any (k t a b c : Int) (w : World) : Calls Tryz.prog 173 #[.agg #[.int .i64 k, .int .u32 t, .int .i64 a, .int .i64 b, .int .i64 c]] w fun e w' =>
    e = .returned (.bool (mayB k t a b c)) ∧ Below w.heap.size w w' := by
  have H := Lib.hid (@mayB_iff k t a b c)
  have hbw := (Below.refl w.heap.size w).alloc (Nat.le_refl _) (.cells #[.int .i64 k, .int .u32 t, .int .i64 a, .int .i64 b, .int .i64 c] 211)
  have Hb := Lib.hid hbw
  have Hb2 := Lib.hid (hbw.alloc (by simp) (.cells #[.int .i64 k, .int .u32 t, .int .i64 a, .int .i64 b, .int .i64 c] 211))
  clear hbw
  by_cases ht : t = 0
  · subst ht
    go_enter Tryz.func173, Tryz.ntmps173
    go_wp2
    go_ret
    exact ⟨ret_b (by rw [H.out]; simp), Hb.out⟩
  · have ht2 : (t == 0) = false := by simpa using ht
    have Ht := Lib.hid ht
    clear ht
    by_cases hk1 : k = 1
    · subst hk1
      have Hc := Lib.hid (@chB_iff a c)
      cases hch : chB a c with
      | true =>
        go_enter Tryz.func173, Tryz.ntmps173
        go_wp2_with ((with_reducible refine (changes_any _ _ _ _ _ _).mono ?_); rintro e w' ⟨rfl, rfl⟩)
        go_ret
        exact ⟨ret_b (by rw [H.out]; have := Hc.out.1 hch; have := Ht.out; simp; omega), Hb2.out⟩
      | false =>
        go_enter Tryz.func173, Tryz.ntmps173
        go_wp2_with ((with_reducible refine (changes_any _ _ _ _ _ _).mono ?_); rintro e w' ⟨rfl, rfl⟩)
        go_ret
        have hn : ¬ (1 ≤ a ∧ a ≤ 64 ∧ c = 0) := fun h => (Bool.eq_false_iff.1 hch) (Hc.out.2 h)
        exact ⟨ret_b (by rw [H.out]; simp; omega), Hb2.out⟩
    · by_cases hk2 : k = 2
      · subst hk2
        clear hk1
        have Hc := Lib.hid (@chB_iff a c)
        cases hch : chB a c with
        | true =>
          go_enter Tryz.func173, Tryz.ntmps173
          go_wp2_with ((with_reducible refine (changes_any _ _ _ _ _ _).mono ?_); rintro e w' ⟨rfl, rfl⟩)
          go_ret
          exact ⟨ret_b (by rw [H.out]; have := Hc.out.1 hch; have := Ht.out; simp; omega), Hb2.out⟩
        | false =>
          go_enter Tryz.func173, Tryz.ntmps173
          go_wp2_with ((with_reducible refine (changes_any _ _ _ _ _ _).mono ?_); rintro e w' ⟨rfl, rfl⟩)
          go_ret
          have hn : ¬ (1 ≤ a ∧ a ≤ 64 ∧ c = 0) := fun h => (Bool.eq_false_iff.1 hch) (Hc.out.2 h)
          exact ⟨ret_b (by rw [H.out]; simp; omega), Hb2.out⟩
      · by_cases hk3 : k = 3
        · subst hk3
          clear hk1 hk2
          by_cases ha : a = 0
          · subst ha
            by_cases hb : b = 0
            · subst hb
              by_cases hc : 0 ≤ c
              · go_enter Tryz.func173, Tryz.ntmps173
                go_wp2
                go_ret
                exact ⟨ret_b (by rw [H.out]; have := Ht.out; simp; omega), Hb.out⟩
              · go_enter Tryz.func173, Tryz.ntmps173
                go_wp2
                go_ret
                exact ⟨ret_b (by rw [H.out]; simp; omega), Hb.out⟩
            · have hb2 : (b == 0) = false := by simpa using hb
              have HB := Lib.hid hb
              clear hb
              go_enter Tryz.func173, Tryz.ntmps173
              go_wp2
              go_ret
              exact ⟨ret_b (by rw [H.out]; have := HB.out; simp; omega), Hb.out⟩
          · have ha2 : (a == 0) = false := by simpa using ha
            have HA := Lib.hid ha
            clear ha
            go_enter Tryz.func173, Tryz.ntmps173
            go_wp2
            go_ret
            exact ⟨ret_b (by rw [H.out]; have := HA.out; simp; omega), Hb.out⟩
        · have q1 : (k == 1) = false := by simpa using hk1
          have q2 : (k == 2) = false := by simpa using hk2
          have q3 : (k == 3) = false := by simpa using hk3
          have HK := Lib.hid (And.intro hk1 (And.intro hk2 hk3))
          clear hk1 hk2 hk3
          go_enter Tryz.func173, Tryz.ntmps173
          go_wp2
          go_ret
          exact ⟨ret_b (by rw [H.out]; have := HK.out; simp; omega), Hb.out⟩

theorem headOf_any (k t c : Int) (s : ByteArray) (A : Option Addr) (n cap : Nat) (w : World) : Calls Tryz.prog 142 #[.agg #[.int .i64 k, .int .u32 t, .string s, .slice A n cap, .int .i64 c]] w fun e w' =>
    e = .returned (.agg #[.int .i64 k, .int .u32 t, .int .i64 (s.size : Int), .int .i64 (n : Int), .int .i64 c]) ∧ Below w.heap.size w w' := by
  go_enter Tryz.func142, Tryz.ntmps142
  go_wp2
  refine bodyPost_ret (v := .agg #[.int .i64 k, .int .u32 t, .int .i64 (s.size : Int), .int .i64 (n : Int), .int .i64 c]) (by simp [results, Tryz.results142, go_sem]) rfl ⟨rfl, ?_⟩
  exact ((Below.refl _ _).alloc (Nat.le_refl _) _).alloc (by simp) _

theorem hSize_any (k t c : Int) (a b : Nat) (w : World) (ha : a ≤ 1048576) (hb : b ≤ 1048576) : Calls Tryz.prog 143 #[.agg #[.int .i64 k, .int .u32 t, .int .i64 (a : Int), .int .i64 (b : Int), .int .i64 c]] w fun e w' =>
    e = .returned (.int .i64 (((a + b + 16 : Nat)) : Int)) ∧ Below w.heap.size w w' := by
  go_enter Tryz.func143, Tryz.ntmps143
  go_wp2
  go_ret
  exact ⟨congrArg (fun v : Int => Ending.returned (Value.int .i64 v)) (by omega), (Below.refl _ _).alloc (Nat.le_refl _) _⟩

theorem rcSize_any (k t c : Int) (s : ByteArray) (A : Option Addr) (n cap : Nat) (w : World) (hs : s.size ≤ 1048576) (hn : n ≤ 1048576) : Calls Tryz.prog 104 #[.agg #[.int .i64 k, .int .u32 t, .string s, .slice A n cap, .int .i64 c]] w fun e w' =>
    e = .returned (.int .i64 (((s.size + n + 16 : Nat)) : Int)) ∧ Below w.heap.size w w' := by
  go_enter Tryz.func104, Tryz.ntmps104
  go_wp2_with fail
  have hb0 := (Below.refl w.heap.size w).alloc (Nat.le_refl _) (.cells #[.int .i64 k, .int .u32 t, .string s, .slice A n cap, .int .i64 c] 105)
  refine (headOf_any k t c s A n cap _).mono ?_
  rintro e1 w1 ⟨rfl, hb1⟩
  have Hb1 := Lib.hid (hb0.trans (hb1.mono hb0.size))
  clear hb0 hb1
  go_wp2_with fail
  refine (hSize_any k t c s.size n _ hs hn).mono ?_
  rintro e1 w2 ⟨rfl, hb2⟩
  have Hb2 := Lib.hid (Hb1.out.trans (hb2.mono Hb1.out.size))
  clear hb2
  go_wp2
  go_ret
  exact ⟨rfl, Hb2.out⟩

theorem refSize_any (k t c : Int) (s : ByteArray) (A : Option Addr) (n cap : Nat) (w : World) (hs : s.size ≤ 1048576) (hn : n ≤ 1048576) : Calls Tryz.prog 53 #[.agg #[.int .i64 k, .int .u32 t, .string s, .slice A n cap, .int .i64 c]] w fun e w' =>
    e = .returned (.int .i64 (((s.size + n + 16 : Nat)) : Int)) ∧ Below w.heap.size w w' := by
  go_enter Tryz.func53, Tryz.ntmps53
  go_wp2
  go_ret
  exact ⟨congrArg (fun v : Int => Ending.returned (Value.int .i64 v)) (by omega), (Below.refl _ _).alloc (Nat.le_refl _) _⟩

end Go.Proofs.YtmdnhpnaikfpjaaGreatDoor

/- Append of bytes, and of a string, as one step of a region that draws its order; append of a string for the plain walk. -/
namespace Go.Proofs.YtmdnhpnaikfpjaaGreatDoor
set_option maxRecDepth 100000
open Go.RowKit

/-- A call's answer that are bytes of a row made since base. -/
def Ret8 (base k : Nat) (zs : List UInt8) (e : Ending) (w : World) : Prop := ∃ u, e = .returned u ∧ w.ownsRow base 5 1 u k (zs.map B8)

/-- append of bytes that lie somewhere (a nil slice, too) onto a row of the call's own: what it runs to. -/
theorem run_append_bytes {w : World} (ty : TypeId) (base : Nat) (v : Value) (k : Nat) (zs : List UInt8) (hown : w.ownsRow base 5 1 v k (zs.map B8)) (A : Option Addr) (m c : Nat) (ys : List UInt8) (S : Nat → Prop)
    (hB : ByteSl w S A m c ys) (hn : A = none → m = 0 ∧ c = 0) (hm : k + m ≤ 16777216) (hbase : base ≤ w.heap.size) :
    ∃ v' w', (Builtin.append_ #[22, 22] ty #[v, .slice A m c]).run Tryz.prog w = .ok v' w' ∧ w'.ownsRow base 5 1 v' (k + m) ((zs ++ ys).map B8) ∧ w.grownBy w' v.ownBlock ∧ (v' = .slice none 0 0 → v = .slice none 0 0) := by
  obtain ⟨i0, hi, hz0, hz1, hz2⟩ := info_parts Tryz.infoU8
  rcases A with _ | ad
  · obtain ⟨rfl, rfl⟩ := hn rfl
    have hys : ys = [] := List.eq_nil_of_length_eq_zero hB.1
    subst hys
    exact ⟨v, w, run_append_owned_none (P := Tryz.prog) (w := w) base 22 ty 5 i0 1 Tryz.underlying22 hi v k (zs.map B8) hown, by simpa using hown, World.grownBy.refl w _, id⟩
  · obtain ⟨v', w', hr, h2, h3, h4, _⟩ := run_append_own_at (P := Tryz.prog) w base 22 ty 5 i0 (.int .u8 0) 1 1 Tryz.underlying22 hi hz0 hz1 hz2 rfl (by decide) v k (zs.map B8) hown ad m c (ys.map B8) (by simp [hB.1])
      (fun j y hj => by
        rw [List.getElem?_map] at hj
        cases hj2 : ys[j]? with
        | none => rw [hj2] at hj; cases hj
        | some z =>
          have hjm : j < m := by have := (List.getElem?_eq_some_iff.1 hj2).1; have := hB.1; omega
          obtain ⟨ad', he, _, _, hc⟩ := hB.2.2.2 (by omega)
          cases he
          rw [hj2] at hj
          rw [hc j z hj2]
          simpa using hj)
      (fun y hy => by obtain ⟨z, _, rfl⟩ := List.mem_map.1 hy; rfl) (by unfold maxLen; omega) (by omega) hbase
    exact ⟨v', w', hr, by simpa using h2, h3, fun e => (h4.1 e).1⟩

theorem strCells_map (s : ByteArray) : Lib.strCells s = s.data.toList.map B8 := by
  unfold Lib.strCells
  rfl

section
variable {ops : Array Oper} {o : Oper} {a : Act} {w : World} {K : Act → World → Prop} {Q : Exit → Act → World → Prop} {E : Prop}

theorem step_append_bytes (hgd : o.guard = none) (s x : Operand) (hq : o.op = .call { callee := .builtin .append, args := #[s, x], argTypes := #[22, 22] })
    (base : Nat) (v : Value) (hs : a.eval s = v) (k : Nat) (zs : List UInt8) (hown : w.ownsRow base 5 1 v k (zs.map B8)) (A : Option Addr) (m c : Nat) (ys : List UInt8) (S : Nat → Prop)
    (hx : a.eval x = .slice A m c) (hB : ByteSl w S A m c ys) (hn : A = none → m = 0 ∧ c = 0) (hm : k + m ≤ 16777216) (hbase : base ≤ w.heap.size)
    (h : ∀ v' w', w'.ownsRow base 5 1 v' (k + m) ((zs ++ ys).map B8) → w.grownBy w' v.ownBlock → (v' = .slice none 0 0 → v = .slice none 0 0) → K (a.put o.dst v') w') :
    if Region.wanted o (yielded ops a.tmps) = true then Oper.wp Tryz.prog o a w K Q else E := by
  have hw : Region.wanted o (yielded ops a.tmps) = true := by simp [Region.wanted, hgd]
  rw [if_pos hw]
  obtain ⟨v', w', hr, h2, h3, h4⟩ := run_append_bytes o.type base v k zs hown A m c ys S hB hn hm hbase
  unfold Oper.wp execOp
  simp only [hq, resolve, invoke, builtin, Sem.run_bind, Sem.run_pure, Result.andThen_ok, List.map_toArray, List.map_cons, List.map_nil, hs, hx, hr]
  exact h v' w' h2 h3 h4

/-- append of a string's bytes onto a row of the call's own. -/
theorem step_append_str (hgd : o.guard = none) (s x : Operand) (hq : o.op = .call { callee := .builtin .append, args := #[s, x], argTypes := #[22, 9] })
    (base : Nat) (v : Value) (hs : a.eval s = v) (k : Nat) (zs : List UInt8) (hown : w.ownsRow base 5 1 v k (zs.map B8)) (t : ByteArray)
    (hx : a.eval x = .string t) (hm : k + t.size ≤ 16777216) (hbase : base ≤ w.heap.size)
    (h : ∀ v' w', w'.ownsRow base 5 1 v' (k + t.size) ((zs ++ t.data.toList).map B8) → w.grownBy w' v.ownBlock → (v' = .slice none 0 0 → v = .slice none 0 0) → K (a.put o.dst v') w') :
    if Region.wanted o (yielded ops a.tmps) = true then Oper.wp Tryz.prog o a w K Q else E := by
  have hw : Region.wanted o (yielded ops a.tmps) = true := by simp [Region.wanted, hgd]
  rw [if_pos hw]
  obtain ⟨i0, hi, hz0, hz1, hz2⟩ := info_parts Tryz.infoU8
  obtain ⟨v', w', hr, h2, h3, h4⟩ := Lib.run_append_own_string (P := Tryz.prog) (w := w) base 22 9 o.type 5 i0 Tryz.underlying22 Tryz.underlying9 hi hz0 hz1 hz2 v k (zs.map B8) hown t (by unfold maxLen; omega) (by omega) hbase
  unfold Oper.wp execOp
  simp only [hq, resolve, invoke, builtin, Sem.run_bind, Sem.run_pure, Result.andThen_ok, List.map_toArray, List.map_cons, List.map_nil, hs, hx, hr]
  refine h v' w' ?_ h3 (fun e => (h4.1 e).1)
  rw [List.map_append, ← strCells_map]
  exact h2
end

theorem wpList_append_str {ops : Array Oper} {rest : List Oper} {o : Oper} {a : Act} {w : World} {Q : Exit → Act → World → Prop} (hgd : o.guard = none) (s x : Operand)
    (hq : o.op = .call { callee := .builtin .append, args := #[s, x], argTypes := #[22, 9] })
    (base : Nat) (v : Value) (hs : a.eval s = v) (k : Nat) (zs : List UInt8) (hown : w.ownsRow base 5 1 v k (zs.map B8)) (t : ByteArray)
    (hx : a.eval x = .string t) (hm : k + t.size ≤ 16777216) (hbase : base ≤ w.heap.size)
    (h : ∀ v' w', w'.ownsRow base 5 1 v' (k + t.size) ((zs ++ t.data.toList).map B8) → w.grownBy w' v.ownBlock → (v' = .slice none 0 0 → v = .slice none 0 0) → wpList Tryz.prog ops Q rest (a.put o.dst v') w') : wpList Tryz.prog ops Q (o :: rest) a w := by
  obtain ⟨i0, hi, hz0, hz1, hz2⟩ := info_parts Tryz.infoU8
  refine Lib.wpList_append_own_string (w := w) hgd s x 22 9 hq base 5 i0 Tryz.underlying22 Tryz.underlying9 hi hz0 hz1 hz2 v k (zs.map B8) hs hown t hx (by unfold maxLen; omega) (by omega) hbase ?_
  intro v' w' h2 h3 h4
  refine h v' w' ?_ h3 (fun e => (h4.1 e).1)
  rw [List.map_append, ← strCells_map]
  exact h2

end Go.Proofs.YtmdnhpnaikfpjaaGreatDoor
