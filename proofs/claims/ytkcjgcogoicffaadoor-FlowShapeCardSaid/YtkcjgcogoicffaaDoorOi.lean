/- Rows of ints of a call's own: append, the library's sort and Compact of at most two; the walk over flow.Nexts. -/
import Derived.Test.YtkcjgcogoicffaaDoorOf
import Derived.Test.YtkcjgcogoicffaaDoorOg
import Derived.Test.YtkcjgcogoicffaaDoorOs
import Derived.Sort.OwnSortedInts
import Derived.Lib.SliceRun
import Derived.Shelf.Slices.In.SortNone
namespace Go.Proofs.YtkcjgcogoicffaaDoor
set_option maxRecDepth 100000
open Go.RowKit Go.Sort

def iC (n : Int) : List Value := [.int .i64 n]
theorem iC_len : ∀ x, (iC x).length = 1 := fun _ => rfl
theorem iC_one : ∀ x, ∀ v ∈ iC x, v.oneCell' = true := fun x v hv => by
  simp only [iC, List.mem_singleton] at hv
  subst hv
  rfl
theorem flat_iC : ∀ l : List Int, l.flatMap iC = l.map (Value.int .i64)
  | [] => rfl
  | x :: r => by rw [List.flatMap_cons, flat_iC r]; rfl
theorem Tryd.infoInt2 : (Tryd.prog.info? 3).map (fun i => (i.zero, i.size, i.bytes)) = some (some (.int .i64 0), 1, 8) := by kernel_rfl
abbrev IntR := GotR iC 1 3
theorem iC_lit (x : Int) (w : World) : RowSl iC 1 (w.alloc (.cells #[.int .i64 x] 3)) Empty (some ⟨w.heap.size, 0, none⟩) 1 1 [x] :=
  RowSl.lit iC_len w Empty 3 [x] 1 [.int .i64 x] rfl rfl (by decide) (fun h => h)
theorem wpList_append_i {ops : Array Oper} {rest : List Oper} {q : Oper} {u : Act} {w : World} {S : Nat → Prop} {Q : Exit → Act → World → Prop} (hgd : q.guard = none) (s x : Operand) (hq : q.op = .call { callee := .builtin .append, args := #[s, x], argTypes := #[33, 33] })
    (base : Nat) (B : Option Addr) (m0 c0 : Nat) (zs : List Int) (hs : u.eval s = .slice B m0 c0) (hown : IntR base w B m0 c0 zs) (A : Option Addr) (k c : Nat) (l : List Int)
    (hx : u.eval x = .slice A k c) (hB : RowSl iC 1 w S A k c l) (hn : A = none → k = 0 ∧ c = 0) (hm : m0 + k ≤ 16777216) (hbase : base ≤ w.heap.size)
    (h : ∀ A' c' w', IntR base w' A' (m0 + k) c' (zs ++ l) → w.grownBy w' (Value.slice B m0 c0).ownBlock → (∀ g, (Value.slice B m0 c0).ownBlock = some g → base ≤ g) → wpList Tryd.prog ops Q rest (u.put q.dst (.slice A' (m0 + k) c')) w') : wpList Tryd.prog ops Q (q :: rest) u w :=
  wpList_append_rows iC_len iC_one (by decide) 33 3 _ 8 Tryd.underlying33 Tryd.infoInt2 (by simp [Value.cells]) (by decide) hgd s x hq base B m0 c0 zs hs hown A k c l hx hB hn hm hbase (fun A' c' w' h1 h2 h3 _ => h A' c' w' h1 h2 h3)

def leI (x y : Int) : Bool := decide (x ≤ y)
/-- A row of ints of the call's own is sorted. -/
theorem sort_ints (base : Nat) (A : Option Addr) (n cap : Nat) (l : List Int) (w : World) (h : IntR base w A n cap l) (hn : n ≤ 1048576) :
    Calls Tryd.prog 17 #[.slice A n cap] w fun e w' => e = .returned (.tuple #[]) ∧ IntR base w' A n cap (l.mergeSort leI) ∧ Only (fun q => base ≤ q) w w' := by
  rcases h.own.2 with ⟨hnil, h0⟩ | ⟨g, cap', cur, hv, hbase, hb, h1, h2, h3, h4⟩
  · have hl : l = [] := List.eq_nil_of_length_eq_zero (by rw [h.row.1, h0])
    subst hl
    cases hnil
    refine (Any.slices_Sort_int_none lays189 none 0 w).mono ?_
    rintro e w' ⟨rfl, rfl⟩
    exact ⟨rfl, by simpa using h, Only.refl _ _⟩
  · cases hv
    have hlen := h.row.1
    rw [flat_iC] at h4
    have hH : Holds (Value.int .i64) w g 0 l.toArray := holds_of_blockI hb (by rw [hlen]; simpa using h4)
    have hgl : g < w.heap.size := (Array.getElem?_eq_some_iff.1 hb).1
    have hs := slices_Sort_int g 0 cap l w hH hgl (by omega)
    rw [hlen] at hs
    refine hs.mono ?_
    rintro e w' ⟨rfl, nn, os, rfl⟩
    have ho := ownsRow_sortedI (n := nn) (os := os) (base := base) (cap := cap) (ss := l) (ts := l.mergeSort leI) (by simp) hbase hb (by rw [hlen]; exact h1) h2 h3
    rw [hlen, ← flat_iC] at ho
    obtain ⟨A', c', he, hG⟩ := GotR.of_own iC_len ho (by simp [hlen])
    cases he
    exact ⟨rfl, hG, Only.of_grown (grownBy_sortedI _) (fun k e _ => by cases e; exact hbase)⟩

/-- What is left when doubles are taken out of at most two. -/
def compact2 : List Int → List Int
  | [a, b] => if a = b then [a] else [a, b]
  | l => l
theorem compact_any (base : Nat) (A : Option Addr) (n cap : Nat) (l : List Int) (w : World) (h : IntR base w A n cap l) (hn : n ≤ 2) :
    Calls Tryd.prog 18 #[.slice A n cap] w fun e w' => (∃ A' n' c', e = .returned (.slice A' n' c') ∧ RowSl iC 1 w' Empty A' n' c' (compact2 l)) ∧ Only (fun q => base ≤ q) w w' := by
  have hlen := h.row.1
  have hc1 := h.row.2.1
  have hc2 := h.row.2.2.1
  unfold maxLen at hc2
  by_cases h2 : n < 2
  · have he : compact2 l = l := by
      rcases l with _ | ⟨a, _ | ⟨b, _ | ⟨c, r⟩⟩⟩
      · rfl
      · rfl
      · simp at hlen; omega
      · rfl
    have HE : Hid (RowSl iC 1 w Empty A n cap (compact2 l)) := Lib.hid (by rw [he]; exact h.row)
    clear h he hlen
    go_enter Tryd.func18, Tryd.ntmps18
    go_wp2
    go_ret
    exact ⟨⟨A, n, cap, rfl, HE.out⟩, Only.refl _ _⟩
  · obtain rfl : n = 2 := by omega
    obtain ⟨a, b, rfl⟩ : ∃ a b, l = [a, b] := by
      rcases l with _ | ⟨a, _ | ⟨b, _ | ⟨c, r⟩⟩⟩
      · simp at hlen
      · simp at hlen
      · exact ⟨a, b, rfl⟩
      · simp at hlen
    rcases h.own.2 with ⟨hnil, h0⟩ | ⟨g, cap', cur, hv, hbase, hb, h1, h2', h3, h4⟩
    · omega
    · cases hv
      have kb : Blk w g 3 cur := hb
      have e0 : w.cell? ⟨g, 0, none⟩ = some (.int .i64 a) := by
        obtain ⟨b', o', f, e, _, _, hf, hc⟩ := h.row.at_ (i := 0) (by omega)
        cases e
        simp at hf; subst hf
        have := hc 0 (by omega)
        simpa [iC] using this
      have e1 : w.cell? ⟨g, 1, none⟩ = some (.int .i64 b) := by
        obtain ⟨b', o', f, e, _, _, hf, hc⟩ := h.row.at_ (i := 1) (by omega)
        cases e
        simp at hf; subst hf
        have := hc 0 (by omega)
        simpa [iC] using this
      have HR := Lib.hid h.row
      have hgl := kb.lt
      have f1 := kb.frozen 1
      clear h hb h3 h4
      by_cases hab : a = b
      · subst hab
        have hz0 : (w.drew.cell? ⟨g, 1 + 0, none⟩).isSome = true := by
          have e2 : w.drew.cell? ⟨g, 1 + 0, none⟩ = some (.int .i64 a) := e1
          rw [e2]; rfl
        have hclr : ∀ (ty : TypeId), (Builtin.clear_ #[33] ty #[.slice (some ⟨g, 1, none⟩) 1 (cap - 1)]).run Tryd.prog w.drew = .ok (.tuple #[]) (w.drew.setCells g 1 (List.replicate 1 (.int .i64 0))) := fun ty =>
          Lib.run_clear_slice w.drew 33 3 ty (.int .i64 0) Tryd.underlying33 (fun _ => by kernel_rfl) rfl rfl g 1 1 (cap - 1) (by decide) (fun j hj => (show j = 0 by omega) ▸ hz0) (fun j hj => kb.drew.frozen _)
        clear hz0
        go_enter Tryd.func18, Tryd.ntmps18
        go_wp2_with fail
        refine wp_loop_rounds 1 ?_
        rw [rounds_succ]
        go_wp2_with fail
        go_region
        go_wp2_with fail
        refine wp_loop_rounds 1 ?_
        rw [rounds_succ]
        go_wp2_with fail
        go_ret
        have e2 : w.drew.setCells g 1 [Value.int .i64 0] = w.drew.setCell ⟨g, 1, none⟩ (.int .i64 0) := rfl
        have k2 : Blk (w.drew.setCell ⟨g, 1, none⟩ (.int .i64 0)) g 3 (cur.setIfInBounds 1 (.int .i64 0)) := kb.drew.set_ 1 _
        rw [e2]
        refine ⟨⟨_, _, _, rfl, ?_⟩, ((Only.refl _ w).drew).setCell (Or.inl hbase) _⟩
        have h0 : compact2 [a, a] = [a] := by simp [compact2]
        rw [h0]
        refine RowSl.of_blk iC_len k2 rfl (by omega) (by unfold maxLen; omega) (fun j hj => ?_) (fun h => h)
        obtain rfl : j = 0 := by omega
        have : cur[0]? = some (.int .i64 a) := by rw [← kb.cell]; exact e0
        simpa [iC] using this
      · go_enter Tryd.func18, Tryd.ntmps18
        go_wp2_with fail
        refine wp_loop_rounds 2 ?_
        rw [rounds_succ]
        go_wp2_with fail
        go_region
        go_wp2_with fail
        rw [rounds_succ]
        go_wp2_with fail
        go_ret
        have h0 : compact2 [a, b] = [a, b] := by simp [compact2, hab]
        exact ⟨⟨_, _, _, rfl, by rw [h0]; exact HR.out.only ((Only.refl Empty w).drew) (fun _ _ h => h)⟩, (Only.refl _ w).drew⟩

end Go.Proofs.YtkcjgcogoicffaaDoor
