/- Rows of strings, the sort of such a row; strings.HasPrefix; the walk over blob's Keys. -/
import Derived.Test.YtnhfmcijadficaaGreatDoorZaz
import Derived.Test.YtnhfmcijadficaaGreatDoorZbc
import Derived.Test.YtnhfmcijadficaaGreatDoorZap
import Derived.Sort.OwnSorted
import Derived.Test.YtnhfmcijadficaaGreatDoorZba
import Derived.OwnWalk
import Derived.Laws.OwnMore
namespace Go.Proofs.YtnhfmcijadficaaGreatDoor
set_option maxRecDepth 100000
open Go.RowKit Go.Maps Go.Sort

def strC (k : List UInt8) : List Value := [encStr k]
theorem strC_len (k : List UInt8) : (strC k).length = 1 := rfl
theorem strC_one (k : List UInt8) : ∀ v ∈ strC k, v.oneCell' = true := by
  intro v hv
  simp only [strC, List.mem_cons, List.not_mem_nil, or_false] at hv
  subst hv
  rfl
theorem flat_strC (l : List (List UInt8)) : l.flatMap strC = l.map encStr := by
  induction l with
  | nil => rfl
  | cons k l ih => rw [List.flatMap_cons, ih]; rfl
theorem Tryz.infoStr : (Tryz.prog.info? 9).map (fun i => (i.zero, i.size, i.bytes)) = some (some (.string ⟨#[]⟩), 1, 16) := by kernel_rfl

abbrev Strs := GotR strC 1 9

/-- A row of strings of the call's own is sorted. -/
theorem sort_strs (base : Nat) (A : Option Addr) (n cap : Nat) (l : List (List UInt8)) (w : World) (h : Strs base w A n cap l) (hn : n ≤ 1048576) :
    Calls Tryz.prog 82 #[.slice A n cap] w fun e w' => e = .returned (.tuple #[]) ∧ Strs base w' A n cap (l.mergeSort leB) ∧ Only (fun q => base ≤ q) w w' := by
  rcases h.own.2 with ⟨hnil, h0⟩ | ⟨g, cap', cur, hv, hbase, hb, h1, h2, h3, h4⟩
  · have hl : l = [] := List.eq_nil_of_length_eq_zero (by rw [h.row.1, h0])
    subst hl
    cases hnil
    refine (Any.slices_Sort_string_none sortLays none 0 w).mono ?_
    rintro e w' ⟨rfl, rfl⟩
    exact ⟨rfl, by simpa using h, Only.refl _ _⟩
  · cases hv
    have hlen := h.row.1
    rw [flat_strC] at h4
    have hH : Holds encStr w g 0 l.toArray := holds_of_block hb (by rw [hlen]; simpa using h4)
    have hgl : g < w.heap.size := (Array.getElem?_eq_some_iff.1 hb).1
    have hs := Any.slices_Sort_string sortLays g 0 cap l w hH hgl (by omega)
    rw [hlen] at hs
    refine hs.mono ?_
    rintro e w' ⟨rfl, nn, os, rfl⟩
    have ho := ownsRow_sorted (n := nn) (os := os) (base := base) (cap := cap) (ss := l) (ts := l.mergeSort leB) (by simp) hbase hb (by rw [hlen]; exact h1) h2 h3
    rw [hlen, ← flat_strC] at ho
    obtain ⟨A', c', he, hG⟩ := GotR.of_own strC_len ho (by simp [hlen])
    cases he
    exact ⟨rfl, hG, Only.of_grown (grownBy_sorted _) (fun k e _ => by cases e; exact hbase)⟩

/-- Does a key begin so? -/
def preB (p k : List UInt8) : Bool := decide (k.take p.length = p)

theorem extract_list (s : ByteArray) (n : Nat) : (s.extract 0 n).toList = s.data.toList.take n := by
  rw [str_list, ByteArray.data_extract, Array.toList_extract]
  simp

set_option maxHeartbeats 1000000 in
theorem slitHasPrefix_any (s p : ByteArray) (w : World) : Calls Tryz.prog 120 #[.string s, .string p] w fun e w' => e = .returned (.bool (preB p.data.toList s.data.toList)) ∧ w = w' := by
  by_cases h : p.size ≤ s.size
  · have hb : ((s.extract 0 p.size).toList == p.toList) = preB p.data.toList s.data.toList := by
      rw [extract_list, str_list]
      unfold preB
      rw [Array.length_toList, Bool.eq_iff_iff, beq_iff_eq, decide_eq_true_iff]
      rfl
    go_enter Tryz.func120, Tryz.ntmps120
    go_wp2
    go_ret
    exact ⟨by rw [← hb]; rfl, rfl⟩
  · have hb : preB p.data.toList s.data.toList = false := by
      unfold preB
      rw [decide_eq_false_iff_not]
      intro he
      have := congrArg List.length he
      rw [List.length_take] at this
      simp at this
      omega
    rw [hb]
    go_enter Tryz.func120, Tryz.ntmps120
    go_wp2
    go_ret
    exact ⟨rfl, rfl⟩
theorem hasPrefix_any (s p : ByteArray) (w : World) : Calls Tryz.prog 81 #[.string s, .string p] w fun e w' => e = .returned (.bool (preB p.data.toList s.data.toList)) ∧ w = w' := by
  go_enter Tryz.func81, Tryz.ntmps81
  go_wp2_with fail
  refine (slitHasPrefix_any s p _).mono ?_
  rintro e1 w1 ⟨rfl, rfl⟩
  go_wp2
  go_ret
  exact ⟨rfl, rfl⟩

/-! ### In order -/
theorem before_lt : ∀ (a b : List UInt8), bytesBefore a b = true → a < b
  | [], [], h => by cases h
  | [], _ :: _, _ => List.nil_lt_cons _ _
  | _ :: _, [], h => by cases h
  | a :: r, b :: s, h => by
    unfold bytesBefore at h
    simp only [Bool.or_eq_true, Bool.and_eq_true, decide_eq_true_eq, beq_iff_eq] at h
    rw [List.cons_lt_cons_iff]
    rcases h with h | ⟨h1, h2⟩
    · exact Or.inl h
    · exact Or.inr ⟨h1, before_lt r s h2⟩
theorem sorted_keys {α : Type} (M : Al α) (h : M.Pairwise (fun p q => bytesBefore p.1 q.1 = true)) (p : List UInt8 → Bool) (ss : List (List UInt8)) (hs : ss.Perm (M.map (·.1))) : (ss.filter p).mergeSort leB = (M.map (·.1)).filter p := by
  rw [mergeSort_of_perm (hs.filter p)]
  apply List.mergeSort_of_pairwise
  apply List.Pairwise.filter
  rw [List.pairwise_map]
  refine h.imp (fun hab => ?_)
  have := before_lt _ _ hab
  simp only [leB, decide_eq_true_eq]
  exact List.le_of_lt this

/-- append of strings onto a row of the call's own. -/
theorem wpList_append_strs {ops : Array Oper} {rest : List Oper} {q : Oper} {u : Act} {w : World} {S : Nat → Prop} {Q : Exit → Act → World → Prop} (hgd : q.guard = none) (s x : Operand) (hq : q.op = .call { callee := .builtin .append, args := #[s, x], argTypes := #[67, 67] })
    (base : Nat) (B : Option Addr) (m0 c0 : Nat) (zs : List (List UInt8)) (hs : u.eval s = .slice B m0 c0) (hown : Strs base w B m0 c0 zs) (A : Option Addr) (m c : Nat) (l : List (List UInt8))
    (hx : u.eval x = .slice A m c) (hB : RowSl strC 1 w S A m c l) (hn : A = none → m = 0 ∧ c = 0) (hm : m0 + m ≤ 16777216) (hbase : base ≤ w.heap.size)
    (h : ∀ A' c' w', Strs base w' A' (m0 + m) c' (zs ++ l) → w.grownBy w' (Value.slice B m0 c0).ownBlock → (∀ g, (Value.slice B m0 c0).ownBlock = some g → base ≤ g) →
      ((Value.slice A' (m0 + m) c').ownBlock = (Value.slice B m0 c0).ownBlock ∨ (Value.slice A' (m0 + m) c').ownBlock = some w.heap.size) → wpList Tryz.prog ops Q rest (u.put q.dst (.slice A' (m0 + m) c')) w') : wpList Tryz.prog ops Q (q :: rest) u w :=
  wpList_append_rows strC_len strC_one (by decide) 67 9 _ 16 Tryz.underlying67 Tryz.infoStr (by simp [Value.cells]) (by decide) hgd s x hq base B m0 c0 zs hs hown A m c l hx hB hn hm hbase h
theorem str_lit (k : List UInt8) (w : World) : RowSl strC 1 (w.alloc (.cells #[encStr k] 9)) Empty (some ⟨w.heap.size, 0, none⟩) 1 1 [k] :=
  RowSl.lit strC_len w Empty 9 [k] 1 [encStr k] (by simp [strC]) rfl (by decide) (fun h => h)
theorem hasPrefix_enc (k : List UInt8) (p : ByteArray) (w : World) : Calls Tryz.prog 81 #[encStr k, .string p] w fun e w' => e = .returned (.bool (preB p.data.toList k)) ∧ w = w' := by
  have h := hasPrefix_any ⟨k.toArray⟩ p w
  simpa [encStr] using h

/-- The keys that begin so, in order. -/
def keysOf {α : Type} (p : List UInt8) (M : Al α) : List (List UInt8) := (M.map (·.1)).filter (preB p)

set_option maxHeartbeats 4000000 in
theorem keys_any (s mb p c e : Nat) (M : Al Sv) (h : HeadV) (d : Bool) (pre : ByteArray) (w : World) (hS : StoreAt w s mb p c e M h d) (hM : M.length ≤ 1048576) :
    Calls Tryz.prog 43 #[.pointer (some ⟨s, 0, none⟩), .string pre] w fun e1 w' => (∃ A n cap, e1 = .returned (.slice A n cap) ∧ Strs w.heap.size w' A n cap (keysOf pre.data.toList M)) ∧ Below w.heap.size w w' := by
  have s1 : w.cell? ⟨s, 1, none⟩ = some (.map (some mb)) := hS.blk.cell 1
  have hbl : mb < w.heap.size := hS.map.lt
  have Hsrt := Lib.hid hS.map.sorted
  have Hown : Hid (w.ownsMap Tryz.prog 9 standElem mb M.length (smD M)) := Lib.hid hS.map
  have hks := strKeys_sm M
  obtain ⟨D0, hD0⟩ : ∃ D0, D0 = smD M := ⟨_, rfl⟩
  rw [← hD0] at Hown hks
  have Hks := Lib.hid hks
  have hsz : Maps.size D0 ≤ 1048576 := by rw [hD0]; unfold smD; rw [Maps.size_eq, List.length_map]; exact hM
  clear hS hks hD0
  go_enter Tryz.func43, Tryz.ntmps43
  go_wp2_with (at_range; refine wpList_range_own _ rfl _ 102 rfl 9 134 Tryz.standKeyed Tryz.underlying102 _ mb M.length _ rfl Hown.out ?_; intro w0 hrg0 hg0 hs0)
  go_frame
  have Hg0 := Lib.hid hg0
  have Hl0 : Hid (w.heap.size < w0.heap.size) := Lib.hid (by omega)
  clear hg0 hs0
  go_loopw [5] (fun v wr => ∃ (left : Lit → Bool) (cnt : Nat) (ss : List (List UInt8)) (A : Option Addr) (cap : Nat), v = .slice A (ss.filter (preB pre.data.toList)).length cap ∧ wr.ranges Tryz.prog 9 standElem mb w.heap.size M.length D0 left cnt ∧ ss.length + cnt ≤ Maps.size D0 ∧
      Hid (Strs (w.heap.size + 1) wr A (ss.filter (preB pre.data.toList)).length cap (ss.filter (preB pre.data.toList))) ∧ Collected D0 left ss ∧ Hid (Below w.heap.size w wr) ∧ Hid (w.heap.size < wr.heap.size))
    (fun _ wr => wr.rangeLeft mb w.heap.size)
  case atStart =>
    exact ⟨_, _, [], none, 0, rfl, hrg0, by simp, Lib.hid (GotR.nil_ _ _ _ _ _), Collected.start D0, Lib.hid ((Below.refl _ _).grown Hg0.out (Nat.le_refl _) (fun j hj => by cases hj)), Hl0⟩
  case round =>
    obtain ⟨left, cnt, ss, A, cap, rfl, hrg, hcs, HG, hC, HB, HL2⟩ := hrel
    go_wp2_with (at_next; refine wpList_next_ranges _ rfl _ rfl 9 Tryz.standKeyed standElem encStr Sv.v (fun key kl hk => by obtain ⟨x, hx, _⟩ := Maps.keyOf_str Tryz.underlying9 hk; exact ⟨x, hx⟩) (fun v y hv => by obtain ⟨c, rfl, _⟩ := standElem_some hv; exact ⟨c, rfl⟩) mb w.heap.size M.length _ _ _ rfl hrg ?_ ?_)
    · intro hc0 hl0
      have hperm := hC.perm Hown.out Tryz.standKeyed Tryz.underlying9 hl0
      rw [Hks.out] at hperm
      have hsrt := sorted_keys M Hsrt.out (preB pre.data.toList) ss hperm
      have Hsrt2 := Lib.hid hsrt
      have Hperm := Lib.hid hperm
      have hsl : (ss.filter (preB pre.data.toList)).length ≤ 1048576 := by
        have h1 := List.length_filter_le (preB pre.data.toList) ss
        omega
      have Hs := Lib.hid (sort_strs (w.heap.size + 1) A _ cap _ wr HG.out hsl)
      clear hsrt hperm hC hrg hsl
      obtain ⟨L, hL⟩ : ∃ L, L = (ss.filter (preB pre.data.toList)).length := ⟨_, rfl⟩
      rw [← hL] at Hs HG ⊢
      have HLe := Lib.hid hL
      clear hL
      go_wp2_with fail
      refine Hs.out.mono ?_
      rintro e1 w1 ⟨rfl, hg1, ho1⟩
      have hb1 : Below w.heap.size w w1 := HB.out.trans (ho1.below (by have := HL2.out; omega) (fun k h1 h2 => by omega))
      have HE := Lib.hid (And.intro (hg1.lower (base' := w.heap.size) (by omega)) hb1)
      clear hg1 ho1 hb1
      go_wp2_with fail
      go_ret
      refine ⟨⟨A, L, cap, rfl, ?_⟩, HE.out.2⟩
      unfold keysOf
      rw [← Hsrt2.out]
      exact HE.out.1
    · intro x f kl yd yp w2 cnt2 hkey hlk hv hat hrg2 hlt hg2 hs2 hen
      obtain ⟨x', ex, rfl, _⟩ := Maps.keyOf_str Tryz.underlying9 hkey
      obtain rfl : x = x' := encStr_inj ex
      have Hpre := Lib.hid (hasPrefix_enc x pre)
      have hO2 : Only (· = w.heap.size) wr w2 := Only.of_grown hg2 (fun k e _ => by cases e; rfl)
      have HG2 := Lib.hid (HG.out.only strC_len hO2 (fun i h1 _ h2 => by omega))
      have HB2 := Lib.hid (HB.out.trans (hO2.below (B := w.heap.size) HB.out.size (fun k h1 h2 => by omega)))
      have Hl2 : Hid (w.heap.size < w2.heap.size) := Lib.hid (by have := HL2.out; omega)
      have Hs2 := Lib.hid hs2
      have Hstep := Lib.hid (hC.step hlk hat)
      clear hs2 hg2 hO2 hv hkey ex hat hlk
      by_cases hp : preB pre.data.toList x = true
      · have hfl : (ss ++ [x]).filter (preB pre.data.toList) = ss.filter (preB pre.data.toList) ++ [x] := by rw [List.filter_append, List.filter_cons, if_pos hp, List.filter_nil]
        have hfe : (ss.filter (preB pre.data.toList)).length ≤ ss.length := List.length_filter_le _ _
        have Hfl := Lib.hid hfl
        have hstr := str_lit x w2
        have Hstr := Lib.hid hstr
        rw [hp] at Hpre
        obtain ⟨L, hL⟩ : ∃ L, L = (ss.filter (preB pre.data.toList)).length := ⟨_, rfl⟩
        rw [← hL] at HG2 hfe ⊢
        have HLe := Lib.hid hL
        clear hfl hL hp hstr
        go_wp2_with (first
          | (go_at_call 81; refine (Hpre.out _).mono ?_; rintro e3 w3 ⟨rfl, rfl⟩)
          | (at_builtin; refine wpList_append_strs rfl _ _ rfl (w.heap.size + 1) A L cap (ss.filter (preB pre.data.toList)) rfl (HG2.out.alloc strC_len _) _ 1 1 [x] rfl Hstr.out (fun h => by cases h) (by omega) (by have := Hl2.out; simp; omega) ?_; intro A3 c3 w3 hg3 hgr3 hr3 _))
        have hne1 : some mb ≠ (Value.slice A L cap).ownBlock := fun h => by have := hr3 _ h.symm; omega
        have hne2 : some w.heap.size ≠ (Value.slice A L cap).ownBlock := fun h => by have := hr3 _ h.symm; omega
        have hrg3 := (hrg2.alloc (.cells #[encStr x] 9)).kept hgr3 hne1 hne2
        have hB3 := below_gotR (HB2.out.alloc HB2.out.size (.cells #[encStr x] 9)) (by have := Hl2.out; simp; omega) hgr3 hr3 (Nat.le_succ _)
        have hl3 : w.heap.size < w3.heap.size := by
          have h1 := hgr3.size
          have h2 := Hl2.out
          simp at h1
          omega
        refine ⟨⟨_, cnt2, ss ++ [x], A3, c3, ?_, hrg3, by rw [List.length_append]; simp; omega, ?_, Hstep.out, Lib.hid hB3, Lib.hid hl3⟩, ?_⟩
        · rw [Hfl.out, List.length_append, ← HLe.out]
          rfl
        · rw [Hfl.out, List.length_append, ← HLe.out]
          exact Lib.hid hg3
        · rw [hrg3.left_eq, hrg.left_eq]
          exact hlt
      · have hfl : (ss ++ [x]).filter (preB pre.data.toList) = ss.filter (preB pre.data.toList) := by rw [List.filter_append, List.filter_cons, if_neg hp, List.filter_nil, List.append_nil]
        have Hfl := Lib.hid hfl
        have hp2 : preB pre.data.toList x = false := by simpa using hp
        rw [hp2] at Hpre
        clear hfl hp hp2
        go_wp2_with (go_at_call 81; refine (Hpre.out _).mono ?_; rintro e3 w3 ⟨rfl, rfl⟩)
        go_roundw
        case rel => exact ⟨_, cnt2, ss ++ [x], A, cap, by rw [Hfl.out], hrg2, by rw [List.length_append]; simp; omega, by rw [Hfl.out]; exact HG2, Hstep.out, HB2, Hl2⟩
        case measure =>
          rw [hrg2.left_eq, hrg.left_eq]
          exact hlt

end Go.Proofs.YtnhfmcijadficaaGreatDoor

/- Rows of rows of strings: a plan's keys by sectors; the walk over blob's keysBySector. -/
namespace Go.Proofs.YtnhfmcijadficaaGreatDoor
set_option maxRecDepth 100000
open Go.RowKit Go.Maps

/-- One row of keys. -/
structure Kr where
  A : Option Addr
  cap : Nat
  ks : List (List UInt8)
def Kr.cells (k : Kr) : List Value := [.slice k.A k.ks.length k.cap]
theorem kr_len (k : Kr) : k.cells.length = 1 := rfl
theorem kr_one (k : Kr) : ∀ v ∈ k.cells, v.oneCell' = true := by
  intro v hv
  simp only [Kr.cells, List.mem_cons, List.not_mem_nil, or_false] at hv
  subst hv
  rfl

/-- Rows of keys of a call's own, each in a block of its own. -/
structure KeysAt (w : World) (base bi : Nat) (A : Option Addr) (cap : Nat) (K : List Kr) : Prop where
  le : base ≤ bi
  outer : GotR Kr.cells 1 67 base w A K.length cap K
  inner : ∀ (i : Nat) (k : Kr), K[i]? = some k → Strs bi w k.A k.ks.length k.cap k.ks
  apart : ∀ (i j : Nat) (a b : Kr), K[i]? = some a → K[j]? = some b → i ≠ j → a.A = none ∨ a.A ≠ b.A

section
variable {w w' : World} {base bi cap : Nat} {A : Option Addr} {K : List Kr}
theorem KeysAt.only {T : Nat → Prop} (h : KeysAt w base bi A cap K) (q : Only T w w') (hT : ∀ i, base ≤ i → i < w.heap.size → ¬ T i) : KeysAt w' base bi A cap K :=
  ⟨h.le, h.outer.only kr_len q hT, fun i k hk => (h.inner i k hk).only strC_len q (fun j h1 h2 => hT j (Nat.le_trans h.le h1) h2), h.apart⟩
theorem KeysAt.below (h : KeysAt w base bi A cap K) (q : Below w.heap.size w w') : KeysAt w' base bi A cap K := h.only (Only.of_below (S := Empty) q) (fun _ _ _ h => h)
theorem strs_addr {n c : Nat} {B : Option Addr} {l : List (List UInt8)} (h : Strs base w B n c l) : B = none ∨ ∃ g, B = some ⟨g, 0, none⟩ ∧ base ≤ g ∧ g < w.heap.size := by
  rcases h.here with h | ⟨g, cur, he, hb, hB, _⟩
  · exact Or.inl h
  · exact Or.inr ⟨g, he, hb, hB.lt⟩

theorem GotR.kept_ {α : Type} {cells : α → List Value} {k n cap base : Nat} {t : TypeId} {w w' : World} {A : Option Addr} {l : List α} {row : Option Nat} (hk : ∀ f, (cells f).length = k) (h : GotR cells k t base w A n cap l) (hg : w.grownBy w' row) (hne : (Value.slice A n cap).ownBlock = none ∨ (Value.slice A n cap).ownBlock ≠ row) :
    GotR cells k t base w' A n cap l := by
  obtain ⟨A', c', he, hG⟩ := GotR.of_own hk (h.own.kept hg hne) h.row.1
  cases he
  exact hG
theorem flat_set1 {α : Type} {cells : α → List Value} (hk : ∀ f, (cells f).length = 1) (l : List α) (i : Nat) (x : α) (v : Value) (hv : cells x = [v]) : (l.set i x).flatMap cells = (l.flatMap cells).set i v := by
  induction l generalizing i with
  | nil => rfl
  | cons a l ih =>
    obtain ⟨u, hu⟩ := List.length_eq_one_iff.1 (hk a)
    cases i with
    | zero => rw [List.set_cons_zero, List.flatMap_cons, List.flatMap_cons, hv, hu]; rfl
    | succ i => rw [List.set_cons_succ, List.flatMap_cons, List.flatMap_cons, ih, hu]; rfl
theorem GotR.set1 {α : Type} {cells : α → List Value} {t : TypeId} {w : World} {base g n cap : Nat} {l : List α} (hk : ∀ f, (cells f).length = 1) (h : GotR cells 1 t base w (some ⟨g, 0, none⟩) n cap l) (i : Nat) (x : α) (v : Value) (hv : cells x = [v]) :
    GotR cells 1 t base (w.setCell ⟨g, i, none⟩ v) (some ⟨g, 0, none⟩) n cap (l.set i x) := by
  have hl := h.row.1
  rcases h.own.2 with ⟨hnil, _⟩ | ⟨g', cap', cur, hv', hbase, hb, h1, h2, h3, h4⟩
  · cases hnil
  · cases hv'
    have hb2 : Blk w g t cur := hb
    have hb3 := hb2.set_ i v
    have hown : (w.setCell ⟨g, i, none⟩ v).ownsRow base t 1 (.slice (some ⟨g, 0, none⟩) n cap) n ((l.set i x).flatMap cells) := by
      refine ⟨by rw [rows_len hk, List.length_set, hl], Or.inr ⟨g, cap, _, rfl, hbase, hb3, h1, h2, by simp [h3], ?_⟩⟩
      rw [Array.toList_setIfInBounds, List.take_set, h4, flat_set1 hk l i x v hv]
    obtain ⟨A', c', he, hG⟩ := GotR.of_own hk hown (by rw [List.length_set, hl])
    cases he
    exact hG
theorem own_block (A : Option Addr) (n c : Nat) : (Value.slice A n c).ownBlock = A.map (·.block) := by cases A <;> rfl

theorem GotR.cell1 {α : Type} {cells : α → List Value} {t : TypeId} {w : World} {base g n cap i : Nat} {l : List α} {x : α} {v : Value} (h : GotR cells 1 t base w (some ⟨g, 0, none⟩) n cap l) (hi : l[i]? = some x) (hv : cells x = [v]) : w.cell? ⟨g, i, none⟩ = some v ∧ w.frozen? ⟨g, i, none⟩ = false ∧ g < w.heap.size := by
  have hil : i < n := by have := (List.getElem?_eq_some_iff.1 hi).1; have := h.row.1; omega
  rcases h.here with hn | ⟨g', cur, he, _, hB, _⟩
  · cases hn
  · cases he
    obtain ⟨b, o, he2, _, _, hc⟩ := h.row.2.2.2 (by omega)
    cases he2
    have h1 := hc i x hi 0 (by omega)
    rw [hv, Nat.mul_one, Nat.zero_add, Nat.add_zero] at h1
    exact ⟨h1, hB.frozen i, hB.lt⟩
theorem KeysAt.grow {w1 : World} {g i : Nat} {k : Kr} (h : KeysAt w base bi A cap K) (hA : A = some ⟨g, 0, none⟩) (hk : K[i]? = some k) (hg : w.grownBy w1 (Value.slice k.A k.ks.length k.cap).ownBlock) : GotR Kr.cells 1 67 base w1 (some ⟨g, 0, none⟩) K.length cap K := by
  subst hA
  have hki := h.inner i k hk
  exact h.outer.kept_ kr_len hg (by
    refine Or.inr fun he => ?_
    rw [own_block] at he
    rw [own_block] at he
    rcases hki.here with hn | ⟨q, cur, hq, _, hB, _⟩
    · rw [hn] at he; cases he
    · rw [hq] at he
      rcases h.outer.here with hn | ⟨q2, cur2, hq2, _, hB2, _⟩
      · cases hn
      · cases hq2
        simp at he
        subst he
        exact (Blk.ne_ hB hB2 (by decide)) rfl)

/-- One row of keys has another key, and is stored: w1 is the world behind the append, whose row grew. -/
theorem KeysAt.put {w1 : World} {g i c' : Nat} {A' : Option Addr} {k : Kr} {x : List (List UInt8)} {m : Nat} (h : KeysAt w base bi A cap K) (hA : A = some ⟨g, 0, none⟩) (hk : K[i]? = some k) (hG : Strs bi w1 A' (k.ks.length + m) c' (k.ks ++ x)) (hx : x.length = m) (hg : w.grownBy w1 (Value.slice k.A k.ks.length k.cap).ownBlock)
    (hloc : (Value.slice A' (k.ks.length + m) c').ownBlock = (Value.slice k.A k.ks.length k.cap).ownBlock ∨ ∃ q, (Value.slice A' (k.ks.length + m) c').ownBlock = some q ∧ w.heap.size ≤ q) :
    KeysAt (w1.setCell ⟨g, i, none⟩ (.slice A' (k.ks.length + m) c')) base bi A cap (K.set i ⟨A', c', k.ks ++ x⟩) := by
  have hlen : (k.ks ++ x).length = k.ks.length + m := by rw [List.length_append, hx]
  have hil : i < K.length := (List.getElem?_eq_some_iff.1 hk).1
  subst hA
  have hki := h.inner i k hk
  have hout1 : GotR Kr.cells 1 67 base w1 (some ⟨g, 0, none⟩) K.length cap K := h.outer.kept_ kr_len hg (by
    refine Or.inr fun he => ?_
    rw [own_block] at he
    rw [own_block] at he
    rcases hki.here with hn | ⟨q, cur, hq, _, hB, _⟩
    · rw [hn] at he; cases he
    · rw [hq] at he
      rcases h.outer.here with hn | ⟨q2, cur2, hq2, _, hB2, _⟩
      · cases hn
      · cases hq2
        simp at he
        subst he
        exact (Blk.ne_ hB hB2 (by decide)) rfl)
  obtain ⟨cur2, hB2⟩ : ∃ cur2, Blk w1 g 67 cur2 := by
    rcases hout1.here with hn | ⟨q2, cur2, hq2, _, hB2, _⟩
    · cases hn
    · cases hq2
      exact ⟨cur2, hB2⟩
  have hO : Only (· = g) w1 (w1.setCell ⟨g, i, none⟩ (.slice A' (k.ks.length + m) c')) := (Only.refl (· = g) w1).setCell (p := ⟨g, i, none⟩) (Or.inl rfl) _
  refine ⟨h.le, ?_, ?_, ?_⟩
  · rw [List.length_set]
    exact hout1.set1 kr_len i _ _ (by unfold Kr.cells; rw [hlen])
  · intro j q hq
    by_cases hij : i = j
    · subst hij
      rw [List.getElem?_set_self hil] at hq
      cases hq
      show Strs bi _ A' (k.ks ++ x).length c' (k.ks ++ x)
      rw [hlen]
      exact hG.far strC_len hB2 (by decide) hO
    · rw [List.getElem?_set_ne hij] at hq
      have hj := h.inner j q hq
      refine (hj.kept_ strC_len hg ?_).far strC_len hB2 (by decide) hO
      rw [own_block, own_block]
      rcases h.apart j i q k hq hk (fun e => hij e.symm) with hn | hn
      · rw [hn]; exact Or.inl rfl
      · refine Or.inr fun he => hn ?_
        rcases strs_addr hj with h1 | ⟨a, h1, _, _⟩
        · rw [h1] at he ⊢
          rcases strs_addr hki with h2 | ⟨b, h2, _, _⟩
          · rw [h2]
          · rw [h2] at he; cases he
        · rcases strs_addr hki with h2 | ⟨b, h2, _, _⟩
          · rw [h1, h2] at he; cases he
          · rw [h1, h2] at he ⊢
            simp at he
            rw [he]
  · intro a b qa qb ha hb hab
    have hnew : ∀ j q, K[j]? = some q → j ≠ i → A' = none ∨ A' ≠ q.A := fun j q hq hji => by
      rcases strs_addr hG with h1 | ⟨n1, h1, _, _⟩
      · exact Or.inl h1
      · refine Or.inr fun he => ?_
        rcases hloc with hl | ⟨q2, hl, hl2⟩
        · rw [own_block, own_block, h1] at hl
          rcases h.apart i j k q hk hq (fun e => hji e.symm) with hn | hn
          · rw [hn] at hl; cases hl
          · refine hn ?_
            rcases strs_addr hki with h2 | ⟨n2, h2, _, _⟩
            · rw [h2] at hl; cases hl
            · rw [h2] at hl
              simp at hl
              rw [h2, ← hl, ← h1, he]
        · rw [own_block, h1] at hl
          simp at hl
          rcases strs_addr (h.inner j q hq) with h2 | ⟨n2, h2, _, h3⟩
          · rw [h1, h2] at he; cases he
          · rw [h1, h2] at he
            simp at he
    by_cases hia : i = a
    · subst hia
      rw [List.getElem?_set_self hil] at ha
      rw [List.getElem?_set_ne hab] at hb
      cases ha
      exact hnew b qb hb (fun e => hab e.symm)
    · rw [List.getElem?_set_ne hia] at ha
      by_cases hib : i = b
      · subst hib
        rw [List.getElem?_set_self hil] at hb
        cases hb
        rcases hnew a qa ha (fun e => hia e.symm) with hn | hn
        · rcases strs_addr (h.inner a qa ha) with h2 | ⟨n2, h2, _, h3⟩
          · exact Or.inl h2
          · refine Or.inr ?_
            show qa.A ≠ A'
            rw [h2, hn]
            exact fun h => by cases h
        · exact Or.inr (fun e => hn e.symm)
      · rw [List.getElem?_set_ne hib] at hb
        exact h.apart a b qa qb ha hb hab
end

end Go.Proofs.YtnhfmcijadficaaGreatDoor

/- The walk over blob's Live: the room of all keys. -/
namespace Go.Proofs.YtnhfmcijadficaaGreatDoor
set_option maxRecDepth 100000
open Go.RowKit Go.Maps Go.Sort

/-- Keys and blobs that records may have. -/
def FairM (M : Al Sv) : Prop := ∀ q ∈ M, q.1.length ≤ 64 ∧ q.2.n ≤ 4096
theorem svAt_fair {M : Al Sv} (h : FairM M) (k : List UInt8) : (svAt M k).n ≤ 4096 := by
  unfold svAt
  cases hf : afind M k with
  | none => exact Nat.zero_le _
  | some f => exact (h _ (afind_mem hf)).2

/-- A key's room. -/
def keyRoom (k : List UInt8) (n : Nat) : Nat := 32 + k.length + n
def liveL (M : Al Sv) : Nat := (M.map fun q => keyRoom q.1 q.2.n).sum

theorem afind_of_mem {α : Type} {M : Al α} (h : M.Pairwise (fun p q => bytesBefore p.1 q.1 = true)) {q : List UInt8 × α} (hq : q ∈ M) : afind M q.1 = some q.2 := by
  induction M with
  | nil => cases hq
  | cons r M ih =>
    rw [List.pairwise_cons] at h
    unfold afind
    rw [List.find?_cons]
    rcases List.mem_cons.1 hq with rfl | hm
    · simp
    · have hb := before_lt _ _ (h.1 q hm)
      have hne : (r.1 == q.1) = false := by
        rw [beq_eq_false_iff_ne]
        intro he
        rw [he] at hb
        exact absurd hb (List.lt_irrefl _)
      rw [hne]
      exact ih h.2 hm
theorem live_keys {M : Al Sv} (h : M.Pairwise (fun p q => bytesBefore p.1 q.1 = true)) : ((M.map (·.1)).map fun k => keyRoom k (svAt M k).n).sum = liveL M := by
  unfold liveL
  rw [List.map_map]
  congr 1
  apply List.map_congr_left
  intro q hq
  show keyRoom q.1 (svAt M q.1).n = _
  rw [svAt_v (afind_of_mem h hq)]
theorem sum_perm {l r : List Nat} (h : l.Perm r) : l.sum = r.sum := h.sum_nat
theorem sum_le_mul (f : List UInt8 → Nat) (m : Nat) : ∀ l : List (List UInt8), (∀ k ∈ l, f k ≤ m) → (l.map f).sum ≤ l.length * m
  | [], _ => by simp
  | k :: l, h => by
    have h1 := sum_le_mul f m l (fun q hq => h q (List.mem_cons_of_mem _ hq))
    have h2 := h k List.mem_cons_self
    rw [List.map_cons, List.sum_cons, List.length_cons, Nat.add_mul]
    omega

set_option maxHeartbeats 400000 in
theorem live_any (s mb p c e : Nat) (M : Al Sv) (h : HeadV) (d : Bool) (w : World) (hS : StoreAt w s mb p c e M h d) (hM : M.length ≤ 65536) (hF : FairM M) :
    Calls Tryz.prog 29 #[.pointer (some ⟨s, 0, none⟩)] w fun e1 w' => e1 = .returned (.int .i64 (liveL M : Int)) ∧ Below w.heap.size w w' := by
  have s1 : w.cell? ⟨s, 1, none⟩ = some (.map (some mb)) := hS.blk.cell 1
  have hbl : mb < w.heap.size := hS.map.lt
  have hsrt := hS.map.sorted
  have Hsrt := Lib.hid hsrt
  have Hown : Hid (w.ownsMap Tryz.prog 9 standElem mb M.length (smD M)) := Lib.hid hS.map
  have Hbl := Lib.hid hS.bl
  have hks := strKeys_sm M
  have Hlv := Lib.hid (live_keys hsrt)
  have Hat : Hid (∀ (x : List UInt8) (f : Sv) (yd : DataW Unit) (yp : List MemPlace), standElem f.v = some (yd, yp) → (∀ zd, (smD M).atKey (.string x) zd = yd) → Maps.has (smD M) (.string x) = true → x.length ≤ 64 ∧ f.v = (svAt M x).v) := Lib.hid (fun x f yd yp hv hat hhas => by
    rw [has_sm] at hhas
    cases hf : afind M x with
    | none => rw [hf] at hhas; cases hhas
    | some f2 =>
      have h1 := hat Sv.zero.d
      rw [svAt_d] at h1
      rw [← h1] at hv
      exact ⟨(hF _ (afind_mem hf)).1, standElem_inv hv⟩)
  have Hfair := Lib.hid (svAt_fair hF)
  have hkl : ∀ k ∈ M.map (·.1), keyRoom k (svAt M k).n ≤ 8192 := fun k hk => by
    obtain ⟨q, hq, rfl⟩ := List.mem_map.1 hk
    have h1 := (hF q hq).1
    have h2 := Hfair.out q.1
    unfold keyRoom
    omega
  have Hkl := Lib.hid hkl
  obtain ⟨D0, hD0⟩ : ∃ D0, D0 = smD M := ⟨_, rfl⟩
  rw [← hD0] at Hown hks Hat
  have Hks := Lib.hid hks
  have hsz : Maps.size D0 ≤ 65536 := by rw [hD0]; unfold smD; rw [Maps.size_eq, List.length_map]; exact hM
  have Hhk : Hid (∀ x, Maps.has D0 (.string x) = true → x ∈ M.map (·.1)) := Lib.hid (fun x hx => by
    rw [hD0, has_sm] at hx
    obtain ⟨f, hf⟩ := Option.isSome_iff_exists.1 hx
    exact List.mem_map.2 ⟨_, afind_mem hf, rfl⟩)
  clear hS hks hD0 hF hsrt hkl
  go_enter Tryz.func29, Tryz.ntmps29
  go_wp2_with (at_range; refine wpList_range_own _ rfl _ 102 rfl 9 134 Tryz.standKeyed Tryz.underlying102 _ mb M.length _ rfl Hown.out ?_; intro w0 hrg0 hg0 hs0)
  go_frame
  have Hg0 := Lib.hid hg0
  have Hl0 : Hid (w.heap.size < w0.heap.size) := Lib.hid (by omega)
  clear hg0 hs0
  go_loopw [3] (fun v wr => ∃ (left : Lit → Bool) (cnt : Nat) (ss : List (List UInt8)) (q : Nat), v = .int .i64 (q : Int) ∧ Hid (q = (ss.map fun k => keyRoom k (svAt M k).n).sum) ∧ wr.ranges Tryz.prog 9 standElem mb w.heap.size M.length D0 left cnt ∧ ss.length + cnt ≤ Maps.size D0 ∧
      Collected D0 left ss ∧ Hid (Below w.heap.size w wr) ∧ Hid (w.heap.size < wr.heap.size))
    (fun _ wr => wr.rangeLeft mb w.heap.size)
  case atStart =>
    exact ⟨_, _, [], 0, rfl, Lib.hid rfl, hrg0, by simp, Collected.start D0, Lib.hid ((Below.refl _ _).grown Hg0.out (Nat.le_refl _) (fun j hj => by cases hj)), Hl0⟩
  case round =>
    obtain ⟨left, cnt, ss, q, rfl, Hq, hrg, hcs, hC, HB, HL2⟩ := hrel
    have hqb : q ≤ 536870912 := by
      have h1 := sum_le_mul (fun k => keyRoom k (svAt M k).n) 8192 ss (fun k hk => Hkl.out k (Hhk.out k ((hC.2 k).1 hk).1))
      have h2 : ss.length * 8192 ≤ 65536 * 8192 := Nat.mul_le_mul_right _ (by omega)
      rw [Hq.out]
      omega
    go_wp2_with (at_next; refine wpList_next_ranges _ rfl _ rfl 9 Tryz.standKeyed standElem encStr Sv.v (fun key kl hk => by obtain ⟨x, hx, _⟩ := Maps.keyOf_str Tryz.underlying9 hk; exact ⟨x, hx⟩) (fun v y hv => by obtain ⟨c, rfl, _⟩ := standElem_some hv; exact ⟨c, rfl⟩) mb w.heap.size M.length _ _ _ rfl hrg ?_ ?_)
    · intro hc0 hl0
      have hperm := hC.perm Hown.out Tryz.standKeyed Tryz.underlying9 hl0
      rw [Hks.out] at hperm
      have hsum := sum_perm (hperm.map fun k => keyRoom k (svAt M k).n)
      rw [Hlv.out, ← Hq.out] at hsum
      have Hsum := Lib.hid hsum
      clear hsum hperm hC hrg
      go_wp2_with fail
      go_ret
      exact ⟨by rw [← Hsum.out]; rfl, HB.out⟩
    · intro x f kl yd yp w2 cnt2 hkey hlk hv hat hrg2 hlt hg2 hs2 hen
      obtain ⟨x', ex, rfl, _⟩ := Maps.keyOf_str Tryz.underlying9 hkey
      obtain rfl : x = x' := encStr_inj ex
      have hO2 : Only (· = w.heap.size) wr w2 := Only.of_grown hg2 (fun k e _ => by cases e; rfl)
      have HB2 := Lib.hid (HB.out.trans (hO2.below (B := w.heap.size) HB.out.size (fun k h1 h2 => by omega)))
      have Hl2 : Hid (w.heap.size < w2.heap.size) := Lib.hid (by have := HL2.out; omega)
      have hxx := Hat.out x f yd yp hv hat (has_true_of_atKey hat)
      have Hstep := Lib.hid (hC.step hlk hat)
      rw [hxx.2] at hen
      have hfn := Hfair.out x
      have hblb := Hbl.out.at_ x
      have Hsum : Hid (q + keyRoom x (svAt M x).n = ((ss ++ [x]).map fun k => keyRoom k (svAt M k).n).sum) := Lib.hid (by rw [List.map_append, List.sum_append, ← Hq.out]; simp)
      obtain ⟨sv, hsv⟩ : ∃ sv, sv = svAt M x := ⟨_, rfl⟩
      rw [← hsv] at hen hfn hblb Hsum
      have hx64 := hxx.1
      clear hs2 hg2 hO2 hv hkey ex hat hlk hxx hsv
      obtain ⟨sec, g, n, cap, xs⟩ := sv
      unfold Sv.v at hen
      simp only at hen hfn hblb Hsum
      have hroom : Hid (∀ W, Below w2.heap.size w2 W → Calls Tryz.prog 47 #[.slice (some ⟨W.heap.size, 0, none⟩) 1 1] (W.alloc (.cells #[.bool false, encStr x, .slice (adr g) n cap] 37)) fun e w' => e = .returned (.int .i64 ((keyRoom x n : Nat) : Int)) ∧ Below (W.alloc (.cells #[.bool false, encStr x, .slice (adr g) n cap] 37)).heap.size (W.alloc (.cells #[.bool false, encStr x, .slice (adr g) n cap] 37)) w') := Lib.hid (fun W hW => by
        have hrow := RowSl.lit (cells := Ch.cells) (k := 3) (fun _ => rfl) W Empty 37 [(⟨false, ⟨x.toArray⟩, adr g, n, cap, xs⟩ : Ch)] 1 [.bool false, encStr x, .slice (adr g) n cap] (by simp [Ch.cells, encStr]) rfl (by decide) (fun h => h)
        have hb2 := (HB2.out.trans (hW.mono HB2.out.size))
        have hbb : ByteSl (W.alloc (.cells #[.bool false, encStr x, .slice (adr g) n cap] 37)) Empty (adr g) n cap xs := (hblb.1.only (Only.of_below (S := Empty) (hb2.alloc hb2.size _)) (fun _ _ h => h.elim)).mono (fun _ _ h => h.elim)
        have hch : Chs (W.alloc (.cells #[.bool false, encStr x, .slice (adr g) n cap] 37)) Empty (some ⟨W.heap.size, 0, none⟩) 1 1 [(⟨false, ⟨x.toArray⟩, adr g, n, cap, xs⟩ : Ch)] :=
          ⟨hrow.1, hrow.2.1, hrow.2.2.1, hrow.2.2.2, fun f hf => by
            simp only [List.mem_cons, List.not_mem_nil, or_false] at hf
            subst hf
            exact ⟨hbb, hblb.2⟩⟩
        have hr := roomOf_any _ 1 1 _ _ hch (fun f hf => by
          simp only [List.mem_cons, List.not_mem_nil, or_false] at hf
          subst hf
          refine ⟨?_, ?_⟩
          · show x.toArray.size ≤ 64
            simpa using hx64
          · show (if false = true then 0 else n) ≤ 4096
            simpa using hfn) (by decide)
        have hrl : roomL [(⟨false, ⟨x.toArray⟩, adr g, n, cap, xs⟩ : Ch)] = keyRoom x n := by
          show 16 + ((x.toArray.size + n + 16) + 0) = 32 + x.length + n
          simp
          omega
        rw [hrl] at hr
        exact hr)
      have hkr : keyRoom x n ≤ 8192 := by unfold keyRoom; omega
      obtain ⟨kr, hkre⟩ : ∃ kr, kr = keyRoom x n := ⟨_, rfl⟩
      rw [← hkre] at hroom hkr Hsum
      clear hkre hblb hfn
      have hsz2 : (w2.alloc (.cells #[.int .i64 sec, .slice (adr g) n cap] 134)).heap.size = w2.heap.size + 1 := by simp
      have hr := hroom.out (w2.alloc (.cells #[.int .i64 sec, .slice (adr g) n cap] 134)) ((Below.refl _ _).alloc (Nat.le_refl _) _)
      rw [hsz2] at hr
      have Hr := Lib.hid hr
      clear hr hsz2 hroom
      go_wp2_with fail
      refine Hr.out.mono ?_
      rintro e3 w3 ⟨rfl, hb3⟩
      have hb3' := ((((Below.refl w2.heap.size w2).alloc (Nat.le_refl _) (.cells #[.int .i64 sec, .slice (adr g) n cap] 134)).alloc (by simp) (.cells #[.bool false, encStr x, .slice (adr g) n cap] 37))).trans (hb3.mono (by simp; omega))
      have HB3 := Lib.hid (HB2.out.trans (hb3'.mono HB2.out.size))
      have hg3 : w2.grownBy w3 none := ⟨hb3'.os, hb3'.tape, hb3'.output, hb3'.size, fun i hi _ => hb3'.block i hi⟩
      have hrg3 := hrg2.kept hg3 (by simp) (by simp)
      have Hl3 : Hid (w.heap.size < w3.heap.size) := Lib.hid (by have h1 := Hl2.out; have h2 := hb3'.size; omega)
      clear hb3 hb3' hg3
      go_wp2_with fail
      go_roundw
      case rel => exact ⟨_, cnt2, ss ++ [x], q + kr, by congr 1, Hsum, hrg3, by rw [List.length_append]; simp; omega, Hstep.out, HB3, Hl3⟩
      case measure =>
        rw [hrg3.left_eq, hrg.left_eq]
        exact hlt

end Go.Proofs.YtnhfmcijadficaaGreatDoor

/- The walk over blob's keysBySector. -/
namespace Go.Proofs.YtnhfmcijadficaaGreatDoor
set_option maxRecDepth 100000
open Go.RowKit Go.Maps

/-- Keys by sectors. -/
def kbsL (M : Al Sv) (S : Nat) (l : List (List UInt8)) : List (List (List UInt8)) := (List.range S).map fun (j : Nat) => l.filter fun k => decide ((svAt M k).sec = (j : Int))
theorem kbsL_len (M : Al Sv) (S : Nat) (l : List (List UInt8)) : (kbsL M S l).length = S := by simp [kbsL]
theorem kbsL_snoc (M : Al Sv) (S : Nat) (l : List (List UInt8)) (x : List UInt8) (j : Nat) (ks : List (List UInt8)) (hj : (svAt M x).sec = (j : Int)) (hk : (kbsL M S l)[j]? = some ks) : kbsL M S (l ++ [x]) = (kbsL M S l).set j (ks ++ [x]) := by
  apply List.ext_getElem?
  intro i
  unfold kbsL at hk ⊢
  rw [List.getElem?_set]
  by_cases hi : i < S
  · rw [List.getElem?_map, List.getElem?_range hi]
    simp only [Option.map_some, List.length_map, List.length_range]
    rw [List.filter_append]
    by_cases hij : j = i
    · subst hij
      rw [List.getElem?_map, List.getElem?_range hi] at hk
      simp only [Option.map_some, Option.some.injEq] at hk
      rw [if_pos rfl, if_pos hi, hk]
      simp [hj]
    · rw [if_neg hij, List.getElem?_map, List.getElem?_range hi]
      simp only [Option.map_some]
      have : decide ((svAt M x).sec = (i : Int)) = false := by rw [hj]; simp; omega
      simp [this]
  · rw [List.getElem?_eq_none (by simp; omega)]
    split
    · split
      · rename_i h1 h2
        simp at h2
        omega
      · rfl
    · rw [List.getElem?_eq_none (by simp; omega)]
theorem kbsL_nil (M : Al Sv) (S : Nat) : kbsL M S [] = List.replicate S [] := by
  unfold kbsL
  apply List.ext_getElem?
  intro i
  rw [List.getElem?_map, List.getElem?_replicate]
  by_cases hi : i < S
  · rw [List.getElem?_range hi, if_pos hi]; rfl
  · rw [List.getElem?_eq_none (by simp; omega), if_neg hi]; rfl

/-- Each blob stands in one of so many sectors. -/
def SecsIn (M : Al Sv) (S : Nat) : Prop := ∀ q ∈ M, 0 ≤ q.2.sec ∧ q.2.sec < (S : Int)

theorem Tryz.infoStrs : (Tryz.prog.info? 67).map (fun i => (i.zero, i.size, i.bytes)) = some (some (.slice none 0 0), 1, 24) := by kernel_rfl
theorem keys_made (w : World) (base bi n : Nat) (A : Option Addr) (cap : Nat) (hle : base ≤ bi) (h : w.ownsRow base 67 1 (.slice A n cap) n (madeCells (Value.cells (.slice none 0 0)) (n * 1)).toList) : KeysAt w base bi A cap (List.replicate n ⟨none, 0, []⟩) ∧ (List.replicate n (⟨none, 0, []⟩ : Kr)).length = n := by
  have hlen : (List.replicate n (⟨none, 0, []⟩ : Kr)).length = n := List.length_replicate
  have hf : (madeCells (Value.cells (.slice none 0 0)) (n * 1)).toList = (List.replicate n (⟨none, 0, []⟩ : Kr)).flatMap Kr.cells := by
    rw [Nat.mul_one, show Value.cells (.slice none 0 0) = #[.slice none 0 0] from by simp [Value.cells], toList_madeCells_one]
    clear h hlen
    induction n with
    | zero => rfl
    | succ n ih => rw [List.replicate_succ, List.replicate_succ, List.flatMap_cons, ← ih]; rfl
  rw [hf] at h
  obtain ⟨A', c', he, hG⟩ := GotR.of_own kr_len h hlen
  cases he
  refine ⟨⟨hle, by rw [hlen]; exact hG, fun i k hk => ?_, fun i j a b ha hb hij => ?_⟩, hlen⟩
  · rw [List.getElem?_replicate] at hk
    split at hk
    · cases hk
      exact GotR.nil_ _ _ _ _ _
    · cases hk
  · rw [List.getElem?_replicate] at ha
    split at ha
    · cases ha
      exact Or.inl rfl
    · cases ha


theorem stand_field0 (a : Int) (v : Value) (W : World) : (Instr.field 134 (.agg #[.int .i64 a, v]) 0).run Tryz.prog W = .ok (.int .i64 a) W := by kernel_rfl
theorem stand_field1 (a : Int) (A : Option Addr) (n c : Nat) (W : World) : (Instr.field 134 (.agg #[.int .i64 a, .slice A n c]) 1).run Tryz.prog W = .ok (.slice A n c) W := by kernel_rfl
theorem keysOf_nil (M : Al Sv) : keysOf [] M = M.map (·.1) := by
  unfold keysOf
  rw [List.filter_eq_self]
  intro k _
  simp [preB]
theorem StM.look_enc {w : World} {b n : Nat} {M : Al Sv} (h : StM w b n M) (k : List UInt8) (hk : k.length ≤ maxLen) : (Instr.lookup 102 (.map (some b)) (encStr k) false).run Tryz.prog w = .ok (svAt M k).v w := by
  have h1 := h.look ⟨k.toArray⟩ (by show k.toArray.size ≤ _; simpa using hk)
  simpa [encStr] using h1

set_option maxHeartbeats 1000000 in
theorem keysBy_any (s mb p c e Z L : Nat) (M : Al Sv) (h : HeadV) (d : Bool) (ss : List (Nat × List UInt8)) (w : World) (hS : StoreAt w s mb p c e M h d) (hs : FS w p c e Z L ss) (hM : M.length ≤ 1048576) (hF : FairM M) (hsec : SecsIn M ss.length) :
    Calls Tryz.prog 87 #[.pointer (some ⟨s, 0, none⟩)] w fun e1 w' => (∃ A cap K bi, e1 = .returned (.slice A ss.length cap) ∧ KeysAt w' w.heap.size bi A cap K ∧ K.length = ss.length ∧ K.map Kr.ks = kbsL M ss.length (M.map (·.1)) ∧ bi ≤ w'.heap.size) ∧ Below w.heap.size w w' := by
  obtain ⟨i0, hi, hz0, hz1, hz2⟩ := info_parts Tryz.infoStrs
  have hz := hs.bz
  have s0 : w.cell? ⟨s, 0, none⟩ = some (.pointer (some ⟨p, 0, none⟩)) := hS.blk.cell 0
  have hg := geo_field0 (ss.length : Int) (Z : Int) (L : Int)
  have HS := Lib.hid hs
  have HK := Lib.hid hS
  have Hat : Hid (∀ x, x ∈ M.map (·.1) → x.length ≤ 64 ∧ ∃ j : Nat, (svAt M x).sec = (j : Int) ∧ j < ss.length) := Lib.hid (fun x hx => by
    obtain ⟨q, hq, rfl⟩ := List.mem_map.1 hx
    have h1 := svAt_v (afind_of_mem hS.map.sorted hq)
    have h2 := hsec q hq
    refine ⟨(hF q hq).1, q.2.sec.toNat, ?_, ?_⟩
    · show (svAt M q.1).sec = _
      rw [h1]
      omega
    · omega)
  obtain ⟨S, hSS⟩ : ∃ S, S = ss.length := ⟨_, rfl⟩
  rw [← hSS] at hg hz Hat ⊢
  have HSS := Lib.hid hSS
  have hsb : S ≤ 64 := hz.2.1
  have hib : i0.bytes * S ≤ 281474976710656 := by rw [hz2]; omega
  clear hs hS hsec hSS hz hF
  go_enter Tryz.func87, Tryz.ntmps87
  go_wp2_with fail
  refine HS.out.geo.mono ?_
  rw [← HSS.out]
  rintro e1 w1 ⟨rfl, hb1⟩
  have Hb1 := Lib.hid hb1
  clear hb1
  go_wp2_with (at_make; refine wpList_make_full _ rfl _ _ 107 rfl w.heap.size 67 i0 (.slice none 0 0) 1 Tryz.underlying107 hi hz0 hz1 _ _ _ _ S rfl rfl rfl rfl hib (by unfold maxLen; omega) Hb1.out.size ?_; intro w2 hrow2 hg2)
  have hk2 := keys_made w2 w.heap.size (w2.heap.size) S _ S (Nat.le_trans Hb1.out.size hg2.size) hrow2
  have hb2 : Below w1.heap.size w1 w2 := ⟨hg2.os, hg2.tape, hg2.output, hg2.size, fun i hi => hg2.block i hi (by simp)⟩
  have Hb2 := Lib.hid (Hb1.out.trans (hb2.mono Hb1.out.size))
  have Hrow2 := Lib.hid hrow2
  have Hkeys := Lib.hid (keys_any s mb p c e M h d ⟨#[]⟩ w2 (HK.out.below Hb2.out) hM)
  have hgo12 : w1.heap.size < w2.heap.size := by
    rcases hrow2.2 with ⟨hn, _⟩ | ⟨g', cap', cur, hv, _, hb, _⟩
    · cases hn
    · cases hv
      exact (Array.getElem?_eq_some_iff.1 hb).1
  clear hk2 hrow2 hg2 hb2
  go_wp2_with fail
  refine Hkeys.out.mono ?_
  rintro e3 w3 ⟨⟨A3, n3, cap3, rfl, hG3⟩, hb3⟩
  have Hb3 := Lib.hid (Hb2.out.trans (hb3.mono Hb2.out.size))
  have hks : keysOf (⟨#[]⟩ : ByteArray).data.toList M = M.map (·.1) := keysOf_nil M
  rw [hks] at hG3
  obtain ⟨LK, hLK⟩ : ∃ LK, LK = M.map (·.1) := ⟨_, rfl⟩
  rw [← hLK] at hG3
  have HLK := Lib.hid hLK
  obtain ⟨go, hgo⟩ : ∃ go, go = w1.heap.size := ⟨_, rfl⟩
  rw [← hgo] at Hrow2 hgo12 ⊢
  have hrow3 := hG3.out (S := fun q => q = go ∨ w3.heap.size ≤ q) (fun q h1 h2 h3 => by rcases h3 with h3 | h3 <;> omega)
  have HG3 := Lib.hid hrow3
  have hgo3 : go < w3.heap.size := by have := hb3.size; omega
  have hk3 := keys_made w3 w.heap.size w3.heap.size S (some ⟨go, 0, none⟩) S Hb3.out.size (own_only Hrow2.out (Only.of_below (S := Empty) hb3) (fun _ _ _ h => h))
  have HK3 := Lib.hid hk3.1
  have HK3l := Lib.hid hk3.2
  have HStore := Lib.hid (HK.out.below Hb3.out)
  have hsl : s < w.heap.size := HK.out.blk.lt
  have hml : mb < w.heap.size := HK.out.map.lt
  have hwgo : w.heap.size ≤ go := by rw [hgo]; exact Hb1.out.size
  have hlen3 : LK.length = n3 := hG3.row.1
  have hn3 : n3 ≤ 1048576 := by rw [← hlen3, HLK.out, List.length_map]; exact hM
  have hcap3 : n3 ≤ cap3 := hG3.row.2.1
  have hcap32 : cap3 ≤ 9223372036854775807 := by have := hG3.row.2.2.1; unfold maxLen at this; omega
  clear hks hLK hG3 hb3 hrow3 hk3 hgo Hrow2 Hkeys
  go_wp2_with fail
  go_loopw [17] (fun v wr => ∃ (i : Nat) (K : List Kr), i ≤ n3 ∧ v = .int .i64 (i : Int) ∧ Hid (KeysAt wr w.heap.size w3.heap.size (some ⟨go, 0, none⟩) S K) ∧ Hid (K.length = S ∧ K.map Kr.ks = kbsL M S (LK.take i)) ∧ Hid (Only (fun q => q = go ∨ w3.heap.size ≤ q) w3 wr)) (fun v _ => n3 - (intOf v).toNat)
  case atStart =>
    refine ⟨0, _, Nat.zero_le _, rfl, HK3, Lib.hid ⟨HK3l.out, ?_⟩, Lib.hid (Only.refl _ _)⟩
    rw [List.take_zero, kbsL_nil, List.map_replicate]
  case round =>
    obtain ⟨i, K, hi, rfl, HKK, HKs, HO⟩ := hrel
    by_cases hlt : i < n3
    · obtain ⟨b, o, x, rfl, hb, -, hx, hc⟩ := (HG3.out.only HO.out (fun _ _ h => h)).at_ hlt
      have c0 := hc 0 (by omega)
      simp only [strC, List.getElem?_cons_zero, Nat.mul_one, Nat.add_zero] at c0
      have hmem : x ∈ M.map (·.1) := by rw [← HLK.out]; exact List.mem_of_getElem? hx
      obtain ⟨hx64, j, hj, hjS⟩ := Hat.out x hmem
      have htk := take_snoc LK i x hx
      obtain ⟨k, hk⟩ : ∃ k, K[j]? = some k := ⟨_, List.getElem?_eq_getElem (by rw [HKs.out.1]; exact hjS)⟩
      have hkk : (kbsL M S (LK.take i))[j]? = some k.ks := by rw [← HKs.out.2, List.getElem?_map, hk]; rfl
      have hsn := kbsL_snoc M S (LK.take i) x j k.ks hj hkk
      rw [← htk] at hsn
      have hkl : k.ks.length ≤ 1048576 := by
        have h1 : k.ks.length ≤ (LK.take i).length := by
          unfold kbsL at hkk
          rw [List.getElem?_map, List.getElem?_range hjS] at hkk
          simp only [Option.map_some, Option.some.injEq] at hkk
          rw [← hkk]
          exact List.length_filter_le _ _
        rw [List.length_take] at h1
        omega
      have Hsn := Lib.hid hsn
      have hnT : ∀ q, q < w.heap.size → ¬ (q = go ∨ w3.heap.size ≤ q) := fun q h1 h2 => by rcases h2 with h2 | h2 <;> omega
      have hlook := (HStore.out.map.only HO.out (hnT mb hml)).look_enc x (by unfold maxLen; omega)
      have s1 : wr.cell? ⟨s, 1, none⟩ = some (.map (some mb)) := (HO.out.blk HStore.out.blk (hnT s hsl)).cell 1
      obtain ⟨f, hf⟩ : ∃ f, f = svAt M x := ⟨_, rfl⟩
      rw [← hf] at hlook hj
      obtain ⟨sec, fg, fn, fc, fx⟩ := f
      simp only at hj
      subst hj
      unfold Sv.v at hlook
      simp only at hlook
      have hfld := stand_field0 (j : Int) (.slice (adr fg) fn fc)
      obtain ⟨d0, e0, hgl⟩ := HKK.out.outer.cell1 hk rfl
      have hwrs : w3.heap.size ≤ wr.heap.size := HO.out.size
      have hal := (Below.refl wr.heap.size wr).alloc (Nat.le_refl _) (.cells #[encStr x] 9)
      have HKa := Lib.hid (HKK.out.below hal)
      have Hstr := Lib.hid (str_lit x wr)
      have Hk := Lib.hid hk
      have HKl := Lib.hid HKs.out.1
      have HO4 := Lib.hid (HO.out.trans (Only.of_below (S := fun q => q = go ∨ w3.heap.size ≤ q) hal))
      have hjS0 : (0 : Int) ≤ (j : Int) := by omega
      have hjS1 : (j : Int) < (S : Int) := by omega
      clear hx hmem htk hkk hsn hf hc hal hk
      go_wp2_with (at_builtin; refine wpList_append_strs rfl _ _ rfl w3.heap.size k.A k.ks.length k.cap k.ks rfl (HKa.out.inner j k Hk.out) _ 1 1 [x] rfl Hstr.out (fun h => by cases h) (by omega) (by simp; omega) ?_; intro A4 c4 w4 hg4 hgr4 hr4 hl4; obtain ⟨d4, e4, hgl4⟩ := (HKa.out.grow rfl Hk.out hgr4).cell1 Hk.out rfl)
      have hput := HKa.out.put rfl Hk.out hg4 rfl hgr4 (hl4.imp id (fun h => ⟨_, h, Nat.le_refl _⟩))
      have HO5 := Lib.hid ((HO4.out.trans (Only.of_grown hgr4 (fun q e _ => Or.inr (hr4 q e)))).trans ((Only.refl (fun q => q = go ∨ w3.heap.size ≤ q) w4).setCell (p := ⟨go, j, none⟩) (Or.inl (Or.inl rfl)) (.slice A4 (k.ks.length + 1) c4)))
      have Hput := Lib.hid hput
      clear hput hg4 hgr4 hr4 hl4
      go_roundw
      case rel =>
        refine ⟨i + 1, _, by omega, by simp, Hput, Lib.hid ⟨by rw [List.length_set]; exact HKl.out, ?_⟩, HO5⟩
        rw [Hsn.out, List.map_set, HKs.out.2]
      case measure => simp [intOf]; omega
    · have hin : i = n3 := by omega
      subst hin
      have ht : LK.take i = LK := List.take_of_length_le (by omega)
      rw [ht, HLK.out] at HKs
      go_wp2_with fail
      go_ret
      exact ⟨⟨_, _, K, _, rfl, HKK.out, HKs.out.1, HKs.out.2, HO.out.size⟩, Hb3.out.trans (HO.out.below (by have := Hb3.out.size; omega) (fun q h1 h2 => by rcases h2 with h2 | h2 <;> omega))⟩

end Go.Proofs.YtnhfmcijadficaaGreatDoor

/- The walk over a plan's fitting. -/
namespace Go.Proofs.YtnhfmcijadficaaGreatDoor
set_option maxRecDepth 100000
open Go.RowKit Go.Maps

/-- The put of a key's blob. -/
def keyCh (M : Al Sv) (k : List UInt8) : Ch := ⟨false, ⟨k.toArray⟩, adr (svAt M k).g, (svAt M k).n, (svAt M k).cap, (svAt M k).xs⟩
/-- The first keys for whose puts a head has room. -/
def fitL (M : Al Sv) (h : HeadV) : Nat → List (List UInt8) → List (List UInt8)
  | _, [] => []
  | room, k :: ks => if takesB h ((room + (keyCh M k).sz : Nat) : Int) then k :: fitL M h (room + (keyCh M k).sz) ks else []
def fit (M : Al Sv) (h : HeadV) (ks : List (List UInt8)) : List (List UInt8) := fitL M h 16 (ks.take 16)

theorem chg_len (f : Ch) : f.cells.length = 3 := rfl
theorem chg_one (f : Ch) : ∀ v ∈ f.cells, v.oneCell' = true := by
  intro v hv
  simp only [Ch.cells, List.mem_cons, List.not_mem_nil, or_false] at hv
  rcases hv with rfl | rfl | rfl <;> rfl
theorem Tryz.infoChange : (Tryz.prog.info? 37).map (fun i => (i.zero, i.size, i.bytes)) = some (some (.agg #[.bool false, .string ⟨#[]⟩, .slice none 0 0]), 3, 48) := by kernel_rfl

theorem wpList_append_chg {ops : Array Oper} {rest : List Oper} {q : Oper} {u : Act} {w : World} {S : Nat → Prop} {Q : Exit → Act → World → Prop} (hgd : q.guard = none) (s x : Operand) (hq : q.op = .call { callee := .builtin .append, args := #[s, x], argTypes := #[38, 38] })
    (base : Nat) (B : Option Addr) (m0 c0 : Nat) (zs : List Ch) (hs : u.eval s = .slice B m0 c0) (hown : GotR Ch.cells 3 37 base w B m0 c0 zs) (A : Option Addr) (m c : Nat) (l : List Ch)
    (hx : u.eval x = .slice A m c) (hB : RowSl Ch.cells 3 w S A m c l) (hn : A = none → m = 0 ∧ c = 0) (hm : m0 + m ≤ 16777216) (hbase : base ≤ w.heap.size)
    (h : ∀ A' c' w', GotR Ch.cells 3 37 base w' A' (m0 + m) c' (zs ++ l) → w.grownBy w' (Value.slice B m0 c0).ownBlock → (∀ g, (Value.slice B m0 c0).ownBlock = some g → base ≤ g) → wpList Tryz.prog ops Q rest (u.put q.dst (.slice A' (m0 + m) c')) w') : wpList Tryz.prog ops Q (q :: rest) u w :=
  wpList_append_rows chg_len chg_one (by decide) 38 37 _ 48 Tryz.underlying38 Tryz.infoChange (by simp [Value.cells]) (by decide) hgd s x hq base B m0 c0 zs hs hown A m c l hx hB hn hm hbase (fun A' c' w' h1 h2 h3 _ => h A' c' w' h1 h2 h3)

theorem fit_sz {M : Al Sv} (hF : FairM M) (k : List UInt8) (hk : k.length ≤ 64) : (keyCh M k).sz ≤ 4176 ∧ (keyCh M k).s.size ≤ 64 ∧ (keyCh M k).rN ≤ 4096 := by
  have h1 := svAt_fair hF k
  have h2 : (keyCh M k).s.size = k.length := by simp [keyCh, ByteArray.size]
  have h3 : (keyCh M k).rN = (svAt M k).n := rfl
  unfold Ch.sz
  rw [h2, h3]
  omega

set_option maxHeartbeats 2000000 in
theorem fitting_any (g base p mb Z : Nat) (vk : Value) (R : PP) (P : PV) (nM : Nat) (M : Al Sv) (A : Option Addr) (n cap : Nat) (ks : List (List UInt8)) (w : World) (hP : PlanAt w g base p mb Z vk R P) (hM : StM w mb nM M) (hF : FairM M) (hK : RowSl strC 1 w Empty A n cap ks) (hA : A = none → n = 0 ∧ cap = 0) (hk : ∀ k ∈ ks, k.length ≤ 64) :
    Calls Tryz.prog 191 #[.pointer (some ⟨g, 0, none⟩), .slice A n cap] w fun e1 w' => (∃ A' cap', e1 = .returned (.slice A' (fit M P.h ks).length cap') ∧ GotR Ch.cells 3 37 w.heap.size w' A' (fit M P.h ks).length cap' ((fit M P.h ks).map (keyCh M))) ∧ Below w.heap.size w w' := by
  have HP := Lib.hid hP
  have HM := Lib.hid hM
  have HF := Lib.hid hF
  have HK := Lib.hid hK
  have HA := Lib.hid hA
  have Hk := Lib.hid hk
  have hcap : n ≤ cap := hK.2.1
  have hcap2 : cap ≤ 9223372036854775807 := by have := hK.2.2.1; unfold maxLen at this; omega
  have hlen := hK.1
  obtain ⟨m, hm⟩ : ∃ m, m = min n 16 := ⟨_, rfl⟩
  have hmn : m ≤ n ∧ m ≤ 16 := by omega
  have e1 : min (n : Int) 16 = (m : Int) := by omega
  have e2 : max (m : Int) 0 = (m : Int) := by omega
  obtain ⟨h, hh⟩ : ∃ h, h = P.h := ⟨_, rfl⟩
  rw [← hh]
  have Hfit : Hid (fit M h ks = fitL M h 16 (ks.take m)) := Lib.hid (by
    unfold fit
    by_cases hn : n ≤ 16
    · rw [List.take_of_length_le (by omega), List.take_of_length_le (by omega)]
    · rw [show m = 16 by omega])
  have Hh := Lib.hid hh
  clear hP hM hF hK hk hA hlen hm hh
  go_enter Tryz.func191, Tryz.ntmps191
  go_wp2_with fail
  refine (roomOf_any none 0 0 [] w (Chs.nil_ _ _ _ _ (by unfold maxLen; omega)) (fun _ h => by cases h) (by omega)).mono ?_
  rintro e1 w1 ⟨rfl, hb1⟩
  have Hb1 := Lib.hid hb1
  clear hb1
  go_wp2_with fail
  go_loopw [5, 6, 17] (fun a r v wr => ∃ (i : Nat) (A' : Option Addr) (c' : Nat), i ≤ m ∧ v = .int .i64 (i : Int) ∧ a = .slice A' i c' ∧ r = .int .i64 (roomL ((ks.take i).map (keyCh M)) : Int) ∧ Hid (GotR Ch.cells 3 37 w.heap.size wr A' i c' ((ks.take i).map (keyCh M))) ∧
    Hid (fit M h ks = ks.take i ++ fitL M h (roomL ((ks.take i).map (keyCh M))) ((ks.take m).drop i)) ∧ Hid (Below w.heap.size w wr)) (fun _ _ v _ => m - (intOf v).toNat)
  case atStart => exact ⟨0, none, 0, Nat.zero_le _, rfl, rfl, by simp, Lib.hid (GotR.nil_ _ _ _ _ _), Lib.hid (by rw [Hfit.out]; simp [roomL]), Hb1⟩
  case round =>
    obtain ⟨i, A', c', hi, rfl, rfl, rfl, HG, HE, HB⟩ := hrel
    by_cases hlt : i < m
    · obtain ⟨b, o, x, rfl, hb, -, hx, hc⟩ := (HK.out.below HB.out).at_ (i := i) (by omega)
      have d0 := hc 0 (by omega)
      simp only [strC, List.getElem?_cons_zero, Nat.mul_one, Nat.add_zero] at d0
      have hx64 := Hk.out x (List.mem_of_getElem? hx)
      have htk := take_snoc ks i x hx
      have hdr : (ks.take m).drop i = x :: (ks.take m).drop (i + 1) := by
        rw [List.drop_eq_getElem_cons (by rw [List.length_take]; have := HK.out.1; omega)]
        congr 1
        rw [List.getElem_take]
        obtain ⟨h1, h2⟩ := List.getElem?_eq_some_iff.1 hx
        exact h2
      have hsum := roomL_snoc ((ks.take i).map (keyCh M)) (keyCh M x)
      rw [show (ks.take i).map (keyCh M) ++ [keyCh M x] = (ks.take (i + 1)).map (keyCh M) by rw [htk, List.map_append]; rfl] at hsum
      have hsz := fit_sz HF.out x hx64
      have hle := roomL_le ((ks.take i).map (keyCh M)) (fun f hf => by
        obtain ⟨y, hy, rfl⟩ := List.mem_map.1 hf
        exact (fit_sz HF.out y (Hk.out y (List.mem_of_mem_take hy))).2)
      rw [List.length_map, List.length_take] at hle
      have hlook := (HM.out.only (Only.of_below (S := Empty) HB.out) (fun h => h)).look_enc x (by unfold maxLen; omega)
      have Hrec : Hid (∀ W, Calls Tryz.prog 90 #[(keyCh M x).v, .int .u32 0] W fun e w' => e = .returned (recV (keyCh M x) 0) ∧ Below W.heap.size W w') := Lib.hid (fun W => chRec_any (keyCh M x) 0 W)
      have hszd : (keyCh M x).sz = (⟨x.toArray⟩ : ByteArray).size + (svAt M x).n + 16 := rfl
      have hs1 : (⟨x.toArray⟩ : ByteArray).size = x.length := by simp [ByteArray.size]
      have hfn : (svAt M x).n ≤ 4096 := svAt_fair HF.out x
      have hrow := RowSl.lit chg_len
      obtain ⟨SZ, hSZ⟩ : ∃ SZ, SZ = (keyCh M x).sz := ⟨_, rfl⟩
      rw [← hSZ] at hsum hsz hszd
      unfold keyCh Ch.v recV Ch.rk Ch.rA Ch.rN Ch.rC at Hrec
      obtain ⟨f, hf⟩ : ∃ f, f = svAt M x := ⟨_, rfl⟩
      have Hf := Lib.hid hf
      rw [← hf] at hlook Hrec hszd hfn
      obtain ⟨fsec, fg, fn, fc, fx⟩ := f
      unfold Sv.v at hlook
      simp only at hlook Hrec hszd hfn
      have hfld := stand_field1 fsec (adr fg) fn fc
      have hPB := HP.out.below HB.out
      have c1 : wr.cell? ⟨g, 1, none⟩ = some (.map (some mb)) := hPB.blk.cell 1
      have hgl := hPB.blk.lt
      obtain ⟨RM, hRM⟩ : ∃ RM, RM = roomL ((ks.take i).map (keyCh M)) := ⟨_, rfl⟩
      rw [← hRM] at HE hsum hle
      have HRM := Lib.hid hRM
      have Hsz := Lib.hid hSZ
      have Hszd := Lib.hid hszd
      have Hsum := Lib.hid hsum
      have Htk := Lib.hid htk
      have Hdr := Lib.hid hdr
      have hSZb : SZ ≤ 4176 := hsz.1
      have hRMb : RM ≤ 100000 := by omega
      rw [← hRM]
      clear hc hx htk hdr hsum hle hszd hf hPB hRM hSZ hsz hrow
      go_wp2_with fail
      have hal := (Below.refl wr.heap.size wr).alloc (Nat.le_refl _) (.cells #[.bool false, .string ⟨x.toArray⟩, .slice (adr fg) fn fc] 37)
      have hbx := Blk.new wr 37 #[.bool false, .string ⟨x.toArray⟩, .slice (adr fg) fn fc]
      refine (Hrec.out _).mono ?_
      rintro e2 w2 ⟨rfl, hb2⟩
      have hbx2 := hbx.of (hb2.block _ hbx.lt)
      have HB2 := Lib.hid (HB.out.trans ((hal.trans (hb2.mono hal.size)).mono HB.out.size))
      have HBr := Lib.hid (hal.trans (hb2.mono hal.size))
      have Hbx2 := Lib.hid hbx2
      clear hal hbx hb2 hbx2
      simp only [Bool.false_eq_true, if_false]
      have Hsize := Lib.hid (rcSize_any 1 0 0 ⟨x.toArray⟩ (adr fg) fn fc w2 (by omega) (by omega))
      rw [← Hszd.out] at Hsize
      go_wp2_with fail
      refine Hsize.out.mono ?_
      rintro e3 w3 ⟨rfl, hb3⟩
      have HB3 := Lib.hid (HB2.out.trans (hb3.mono HB2.out.size))
      have HBr3 := Lib.hid (HBr.out.trans (hb3.mono HBr.out.size))
      have HP3 := Lib.hid (HP.out.below HB3.out)
      have Hbx3 := Lib.hid (Hbx2.out.of (hb3.block _ Hbx2.out.lt))
      have q4 : w3.cell? ⟨g, 4, none⟩ = some (.int .i64 h.sec) := by rw [Hh.out]; exact HP3.out.blk.cell 4
      have q5 : w3.cell? ⟨g, 5, none⟩ = some (.int .i64 h.next) := by rw [Hh.out]; exact HP3.out.blk.cell 5
      have q6 : w3.cell? ⟨g, 6, none⟩ = some (.int .i64 h.left) := by rw [Hh.out]; exact HP3.out.blk.cell 6
      have q7 : w3.cell? ⟨g, 7, none⟩ = some (.int .u32 h.txn) := by rw [Hh.out]; exact HP3.out.blk.cell 7
      have hgl3 := HP3.out.blk.lt
      have Htk2 := Lib.hid (takes_any h ((RM : Int) + (SZ : Int)) w3)
      unfold HeadV.v at Htk2
      have Hfl : Hid (fitL M h RM ((ks.take m).drop i) = if takesB h ((RM : Int) + (SZ : Int)) then x :: fitL M h (RM + SZ) ((ks.take m).drop (i + 1)) else []) := Lib.hid (by
        rw [Hdr.out]
        show (if takesB h ((RM + (keyCh M x).sz : Nat) : Int) then x :: fitL M h (RM + (keyCh M x).sz) ((ks.take m).drop (i + 1)) else []) = _
        rw [← Hsz.out]
        congr 1)
      clear hb3 c1 d0
      go_wp2_with fail
      refine Htk2.out.mono ?_
      rintro e4 w4 ⟨rfl, hb4⟩
      have HB4 := Lib.hid (HB3.out.trans (hb4.mono HB3.out.size))
      have HBr4 := Lib.hid (HBr3.out.trans (hb4.mono HBr3.out.size))
      have hb4x := Hbx3.out.of (hb4.block _ Hbx3.out.lt)
      have k0 := hb4x.cell 0
      have k1 := hb4x.cell 1
      have k2 := hb4x.cell 2
      simp at k0 k1 k2
      have hgxl := hb4x.lt
      clear hb4 hb4x q4 q5 q6 q7 hgl3
      cases htb : takesB h ((RM : Int) + (SZ : Int))
      · have Hfl2 : Hid (fitL M h RM ((ks.take m).drop i) = []) := Lib.hid (by rw [Hfl.out, htb]; rfl)
        go_wp2_with fail
        go_ret
        have hfi : fit M h ks = ks.take i := by rw [HE.out, Hfl2.out, List.append_nil]
        have hl : (ks.take i).length = i := by rw [List.length_take]; have := HK.out.1; omega
        refine ⟨⟨A', c', ?_, ?_⟩, HB4.out⟩
        · rw [hfi, hl]
          first | done | rfl
        · rw [hfi, hl]
          exact HG.out.below chg_len HBr4.out
      · have Hfl2 : Hid (fitL M h RM ((ks.take m).drop i) = x :: fitL M h (RM + SZ) ((ks.take m).drop (i + 1))) := Lib.hid (by rw [Hfl.out, htb]; rfl)
        have Hg4 := Lib.hid (HG.out.below chg_len HBr4.out)
        have hal4 := (Below.refl w4.heap.size w4).alloc (Nat.le_refl _) (.cells #[.bool false, .string ⟨x.toArray⟩, .slice (adr fg) fn fc] 37)
        have Hg5 := Lib.hid (Hg4.out.below chg_len hal4)
        have HB5 := Lib.hid (HB4.out.trans (hal4.mono HB4.out.size))
        have Hrow5 := Lib.hid (RowSl.lit chg_len w4 Empty 37 [keyCh M x] 1 [.bool false, .string ⟨x.toArray⟩, .slice (adr fg) fn fc] (by
          simp only [List.flatMap_cons, List.flatMap_nil, List.append_nil, Ch.cells, keyCh]
          rw [← Hf.out]) rfl (by decide) (fun h => h))
        clear hal4 Hfl
        go_wp2_with (at_builtin; refine wpList_append_chg rfl _ _ rfl w.heap.size A' i c' _ rfl Hg5.out _ 1 1 [keyCh M x] rfl Hrow5.out (fun h => by cases h) (by omega) HB5.out.size ?_; intro A6 c6 w6 hg6 hgr6 hro6)
        have HG6 := Lib.hid hg6
        have HB6 := Lib.hid (below_gotR HB5.out HB5.out.size hgr6 hro6 (Nat.le_refl _))
        clear hg6 hgr6 hro6
        go_roundw
        case rel =>
          refine ⟨i + 1, A6, c6, by omega, by simp, rfl, by rw [Hsum.out]; simp, ?_, ?_, HB6⟩
          · refine Lib.hid ?_
            rw [Htk.out, List.map_append]
            exact HG6.out
          · refine Lib.hid ?_
            rw [HE.out, Hfl2.out, Hsum.out, Htk.out]
            simp
        case measure => simp [intOf]; omega
    · have hin : i = m := by omega
      subst hin
      go_wp2_with fail
      go_ret
      have hdr : (ks.take i).drop i = [] := List.drop_eq_nil_iff.2 (by rw [List.length_take]; omega)
      rw [hdr] at HE
      have hfi : fit M h ks = ks.take i := by rw [HE.out]; simp [fitL]
      have hl : (ks.take i).length = i := by rw [List.length_take]; have := HK.out.1; omega
      refine ⟨⟨A', c', ?_, ?_⟩, HB.out⟩
      · rw [hfi, hl]
        first | done | rfl
      · rw [hfi, hl]
        exact HG.out

end Go.Proofs.YtnhfmcijadficaaGreatDoor
