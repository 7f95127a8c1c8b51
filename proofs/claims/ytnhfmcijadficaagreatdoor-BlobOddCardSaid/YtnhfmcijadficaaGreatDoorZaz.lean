/- Rows of strings, the sort of such a row; strings.HasPrefix; the walk over blob's Keys. -/
import Derived.Test.YtnhfmcijadficaaGreatDoorZat
import Derived.Test.YtnhfmcijadficaaGreatDoorZay
import Derived.Sort.OwnSorted
import Derived.Test.YtnhfmcijadficaaGreatDoorZaw
import Derived.OwnWalk
namespace Go.Proofs.YtnhfmcijadficaaGreatDoor
set_option maxRecDepth 100000
open Go.RowKit Go.Maps Go.Sort

def strC (k : List UInt8) : List Value := [encStr k]
theorem strC_len (k : List UInt8) : (strC k).length = 1 := rfl
theorem strC_one (k : List UInt8) : ∀ v ∈ strC k, v.oneCell' = true := by
  intro v hv
  simp only [strC, List.mem_cons, List.not_mem_nil, or_false] at hv
  subst hv
  rfl
theorem flat_strC (l : List (List UInt8)) : l.flatMap strC = l.map encStr := by
  induction l with
  | nil => rfl
  | cons k l ih => rw [List.flatMap_cons, ih]; rfl
theorem Tryz.infoStr : (Tryz.prog.info? 9).map (fun i => (i.zero, i.size, i.bytes)) = some (some (.string ⟨#[]⟩), 1, 16) := by kernel_rfl

abbrev Strs := GotR strC 1 9

/-- A row of strings of the call's own is sorted. -/
theorem sort_strs (base : Nat) (A : Option Addr) (n cap : Nat) (l : List (List UInt8)) (w : World) (h : Strs base w A n cap l) (hn : n ≤ 1048576) :
    Calls Tryz.prog 82 #[.slice A n cap] w fun e w' => e = .returned (.tuple #[]) ∧ Strs base w' A n cap (l.mergeSort leB) ∧ Only (fun q => base ≤ q) w w' := by
  rcases h.own.2 with ⟨hnil, h0⟩ | ⟨g, cap', cur, hv, hbase, hb, h1, h2, h3, h4⟩
  · have hl : l = [] := List.eq_nil_of_length_eq_zero (by rw [h.row.1, h0])
    subst hl
    cases hnil
    refine (Any.slices_Sort_string_none sortLays none 0 w).mono ?_
    rintro e w' ⟨rfl, rfl⟩
    exact ⟨rfl, by simpa using h, Only.refl _ _⟩
  · cases hv
    have hlen := h.row.1
    rw [flat_strC] at h4
    have hH : Holds encStr w g 0 l.toArray := holds_of_block hb (by rw [hlen]; simpa using h4)
    have hgl : g < w.heap.size := (Array.getElem?_eq_some_iff.1 hb).1
    have hs := Any.slices_Sort_string sortLays g 0 cap l w hH hgl (by omega)
    rw [hlen] at hs
    refine hs.mono ?_
    rintro e w' ⟨rfl, nn, os, rfl⟩
    have ho := ownsRow_sorted (n := nn) (os := os) (base := base) (cap := cap) (ss := l) (ts := l.mergeSort leB) (by simp) hbase hb (by rw [hlen]; exact h1) h2 h3
    rw [hlen, ← flat_strC] at ho
    obtain ⟨A', c', he, hG⟩ := GotR.of_own strC_len ho (by simp [hlen])
    cases he
    exact ⟨rfl, hG, Only.of_grown (grownBy_sorted _) (fun k e _ => by cases e; exact hbase)⟩

/-- Does a key begin so? -/
def preB (p k : List UInt8) : Bool := decide (k.take p.length = p)

theorem extract_list (s : ByteArray) (n : Nat) : (s.extract 0 n).toList = s.data.toList.take n := by
  rw [str_list, ByteArray.data_extract, Array.toList_extract]
  simp

set_option maxHeartbeats 1000000 in
theorem slitHasPrefix_any (s p : ByteArray) (w : World) : Calls Tryz.prog 120 #[.string s, .string p] w fun e w' => e = .returned (.bool (preB p.data.toList s.data.toList)) ∧ w = w' := by
  by_cases h : p.size ≤ s.size
  · have hb : ((s.extract 0 p.size).toList == p.toList) = preB p.data.toList s.data.toList := by
      rw [extract_list, str_list]
      unfold preB
      rw [Array.length_toList, Bool.eq_iff_iff, beq_iff_eq, decide_eq_true_iff]
      rfl
    go_enter Tryz.func120, Tryz.ntmps120
    go_wp2
    go_ret
    exact ⟨by rw [← hb]; rfl, rfl⟩
  · have hb : preB p.data.toList s.data.toList = false := by
      unfold preB
      rw [decide_eq_false_iff_not]
      intro he
      have := congrArg List.length he
      rw [List.length_take] at this
      simp at this
      omega
    rw [hb]
    go_enter Tryz.func120, Tryz.ntmps120
    go_wp2
    go_ret
    exact ⟨rfl, rfl⟩
theorem hasPrefix_any (s p : ByteArray) (w : World) : Calls Tryz.prog 81 #[.string s, .string p] w fun e w' => e = .returned (.bool (preB p.data.toList s.data.toList)) ∧ w = w' := by
  go_enter Tryz.func81, Tryz.ntmps81
  go_wp2_with fail
  refine (slitHasPrefix_any s p _).mono ?_
  rintro e1 w1 ⟨rfl, rfl⟩
  go_wp2
  go_ret
  exact ⟨rfl, rfl⟩

/-! ### In order -/
theorem before_lt : ∀ (a b : List UInt8), bytesBefore a b = true → a < b
  | [], [], h => by cases h
  | [], _ :: _, _ => List.nil_lt_cons _ _
  | _ :: _, [], h => by cases h
  | a :: r, b :: s, h => by
    unfold bytesBefore at h
    simp only [Bool.or_eq_true, Bool.and_eq_true, decide_eq_true_eq, beq_iff_eq] at h
    rw [List.cons_lt_cons_iff]
    rcases h with h | ⟨h1, h2⟩
    · exact Or.inl h
    · exact Or.inr ⟨h1, before_lt r s h2⟩
theorem sorted_keys {α : Type} (M : Al α) (h : M.Pairwise (fun p q => bytesBefore p.1 q.1 = true)) (p : List UInt8 → Bool) (ss : List (List UInt8)) (hs : ss.Perm (M.map (·.1))) : (ss.filter p).mergeSort leB = (M.map (·.1)).filter p := by
  rw [mergeSort_of_perm (hs.filter p)]
  apply List.mergeSort_of_pairwise
  apply List.Pairwise.filter
  rw [List.pairwise_map]
  refine h.imp (fun hab => ?_)
  have := before_lt _ _ hab
  simp only [leB, decide_eq_true_eq]
  exact List.le_of_lt this

/-- append of strings onto a row of the call's own. -/
theorem wpList_append_strs {ops : Array Oper} {rest : List Oper} {q : Oper} {u : Act} {w : World} {S : Nat → Prop} {Q : Exit → Act → World → Prop} (hgd : q.guard = none) (s x : Operand) (hq : q.op = .call { callee := .builtin .append, args := #[s, x], argTypes := #[67, 67] })
    (base : Nat) (B : Option Addr) (m0 c0 : Nat) (zs : List (List UInt8)) (hs : u.eval s = .slice B m0 c0) (hown : Strs base w B m0 c0 zs) (A : Option Addr) (m c : Nat) (l : List (List UInt8))
    (hx : u.eval x = .slice A m c) (hB : RowSl strC 1 w S A m c l) (hn : A = none → m = 0 ∧ c = 0) (hm : m0 + m ≤ 16777216) (hbase : base ≤ w.heap.size)
    (h : ∀ A' c' w', Strs base w' A' (m0 + m) c' (zs ++ l) → w.grownBy w' (Value.slice B m0 c0).ownBlock → (∀ g, (Value.slice B m0 c0).ownBlock = some g → base ≤ g) →
      ((Value.slice A' (m0 + m) c').ownBlock = (Value.slice B m0 c0).ownBlock ∨ (Value.slice A' (m0 + m) c').ownBlock = some w.heap.size) → wpList Tryz.prog ops Q rest (u.put q.dst (.slice A' (m0 + m) c')) w') : wpList Tryz.prog ops Q (q :: rest) u w :=
  wpList_append_rows strC_len strC_one (by decide) 67 9 _ 16 Tryz.underlying67 Tryz.infoStr (by simp [Value.cells]) (by decide) hgd s x hq base B m0 c0 zs hs hown A m c l hx hB hn hm hbase h
theorem str_lit (k : List UInt8) (w : World) : RowSl strC 1 (w.alloc (.cells #[encStr k] 9)) Empty (some ⟨w.heap.size, 0, none⟩) 1 1 [k] :=
  RowSl.lit strC_len w Empty 9 [k] 1 [encStr k] (by simp [strC]) rfl (by decide) (fun h => h)
theorem hasPrefix_enc (k : List UInt8) (p : ByteArray) (w : World) : Calls Tryz.prog 81 #[encStr k, .string p] w fun e w' => e = .returned (.bool (preB p.data.toList k)) ∧ w = w' := by
  have h := hasPrefix_any ⟨k.toArray⟩ p w
  simpa [encStr] using h

/-- The keys that begin so, in order. -/
def keysOf {α : Type} (p : List UInt8) (M : Al α) : List (List UInt8) := (M.map (·.1)).filter (preB p)

set_option maxHeartbeats 4000000 in
theorem keys_any (s mb p c e : Nat) (M : Al Sv) (h : HeadV) (d : Bool) (pre : ByteArray) (w : World) (hS : StoreAt w s mb p c e M h d) (hM : M.length ≤ 1048576) :
    Calls Tryz.prog 43 #[.pointer (some ⟨s, 0, none⟩), .string pre] w fun e1 w' => (∃ A n cap, e1 = .returned (.slice A n cap) ∧ Strs w.heap.size w' A n cap (keysOf pre.data.toList M)) ∧ Below w.heap.size w w' := by
  have s1 : w.cell? ⟨s, 1, none⟩ = some (.map (some mb)) := hS.blk.cell 1
  have hbl : mb < w.heap.size := hS.map.lt
  have Hsrt := Lib.hid hS.map.sorted
  have Hown : Hid (w.ownsMap Tryz.prog 9 standElem mb M.length (smD M)) := Lib.hid hS.map
  have hks := strKeys_sm M
  obtain ⟨D0, hD0⟩ : ∃ D0, D0 = smD M := ⟨_, rfl⟩
  rw [← hD0] at Hown hks
  have Hks := Lib.hid hks
  have hsz : Maps.size D0 ≤ 1048576 := by rw [hD0]; unfold smD; rw [Maps.size_eq, List.length_map]; exact hM
  clear hS hks hD0
  go_enter Tryz.func43, Tryz.ntmps43
  go_wp2_with (at_range; refine wpList_range_own _ rfl _ 102 rfl 9 134 Tryz.standKeyed Tryz.underlying102 _ mb M.length _ rfl Hown.out ?_; intro w0 hrg0 hg0 hs0)
  go_frame
  have Hg0 := Lib.hid hg0
  have Hl0 : Hid (w.heap.size < w0.heap.size) := Lib.hid (by omega)
  clear hg0 hs0
  go_loopw [5] (fun v wr => ∃ (left : Lit → Bool) (cnt : Nat) (ss : List (List UInt8)) (A : Option Addr) (cap : Nat), v = .slice A (ss.filter (preB pre.data.toList)).length cap ∧ wr.ranges Tryz.prog 9 standElem mb w.heap.size M.length D0 left cnt ∧ ss.length + cnt ≤ Maps.size D0 ∧
      Hid (Strs (w.heap.size + 1) wr A (ss.filter (preB pre.data.toList)).length cap (ss.filter (preB pre.data.toList))) ∧ Collected D0 left ss ∧ Hid (Below w.heap.size w wr) ∧ Hid (w.heap.size < wr.heap.size))
    (fun _ wr => wr.rangeLeft mb w.heap.size)
  case atStart =>
    exact ⟨_, _, [], none, 0, rfl, hrg0, by simp, Lib.hid (GotR.nil_ _ _ _ _ _), Collected.start D0, Lib.hid ((Below.refl _ _).grown Hg0.out (Nat.le_refl _) (fun j hj => by cases hj)), Hl0⟩
  case round =>
    obtain ⟨left, cnt, ss, A, cap, rfl, hrg, hcs, HG, hC, HB, HL2⟩ := hrel
    go_wp2_with (at_next; refine wpList_next_ranges _ rfl _ rfl 9 Tryz.standKeyed standElem encStr Sv.v (fun key kl hk => by obtain ⟨x, hx, _⟩ := Maps.keyOf_str Tryz.underlying9 hk; exact ⟨x, hx⟩) (fun v y hv => by obtain ⟨c, rfl, _⟩ := standElem_some hv; exact ⟨c, rfl⟩) mb w.heap.size M.length _ _ _ rfl hrg ?_ ?_)
    · intro hc0 hl0
      have hperm := hC.perm Hown.out Tryz.standKeyed Tryz.underlying9 hl0
      rw [Hks.out] at hperm
      have hsrt := sorted_keys M Hsrt.out (preB pre.data.toList) ss hperm
      have Hsrt2 := Lib.hid hsrt
      have Hperm := Lib.hid hperm
      have hsl : (ss.filter (preB pre.data.toList)).length ≤ 1048576 := by
        have h1 := List.length_filter_le (preB pre.data.toList) ss
        omega
      have Hs := Lib.hid (sort_strs (w.heap.size + 1) A _ cap _ wr HG.out hsl)
      clear hsrt hperm hC hrg hsl
      obtain ⟨L, hL⟩ : ∃ L, L = (ss.filter (preB pre.data.toList)).length := ⟨_, rfl⟩
      rw [← hL] at Hs HG ⊢
      have HLe := Lib.hid hL
      clear hL
      go_wp2_with fail
      refine Hs.out.mono ?_
      rintro e1 w1 ⟨rfl, hg1, ho1⟩
      have hb1 : Below w.heap.size w w1 := HB.out.trans (ho1.below (by have := HL2.out; omega) (fun k h1 h2 => by omega))
      have HE := Lib.hid (And.intro (hg1.lower (base' := w.heap.size) (by omega)) hb1)
      clear hg1 ho1 hb1
      go_wp2_with fail
      go_ret
      refine ⟨⟨A, L, cap, rfl, ?_⟩, HE.out.2⟩
      unfold keysOf
      rw [← Hsrt2.out]
      exact HE.out.1
    · intro x f kl yd yp w2 cnt2 hkey hlk hv hat hrg2 hlt hg2 hs2 hen
      obtain ⟨x', ex, rfl, _⟩ := Maps.keyOf_str Tryz.underlying9 hkey
      obtain rfl : x = x' := encStr_inj ex
      have Hpre := Lib.hid (hasPrefix_enc x pre)
      have hO2 : Only (· = w.heap.size) wr w2 := Only.of_grown hg2 (fun k e _ => by cases e; rfl)
      have HG2 := Lib.hid (HG.out.only strC_len hO2 (fun i h1 _ h2 => by omega))
      have HB2 := Lib.hid (HB.out.trans (hO2.below (B := w.heap.size) HB.out.size (fun k h1 h2 => by omega)))
      have Hl2 : Hid (w.heap.size < w2.heap.size) := Lib.hid (by have := HL2.out; omega)
      have Hs2 := Lib.hid hs2
      have Hstep := Lib.hid (hC.step hlk hat)
      clear hs2 hg2 hO2 hv hkey ex hat hlk
      by_cases hp : preB pre.data.toList x = true
      · have hfl : (ss ++ [x]).filter (preB pre.data.toList) = ss.filter (preB pre.data.toList) ++ [x] := by rw [List.filter_append, List.filter_cons, if_pos hp, List.filter_nil]
        have hfe : (ss.filter (preB pre.data.toList)).length ≤ ss.length := List.length_filter_le _ _
        have Hfl := Lib.hid hfl
        have hstr := str_lit x w2
        have Hstr := Lib.hid hstr
        rw [hp] at Hpre
        obtain ⟨L, hL⟩ : ∃ L, L = (ss.filter (preB pre.data.toList)).length := ⟨_, rfl⟩
        rw [← hL] at HG2 hfe ⊢
        have HLe := Lib.hid hL
        clear hfl hL hp hstr
        go_wp2_with (first
          | (go_at_call 81; refine (Hpre.out _).mono ?_; rintro e3 w3 ⟨rfl, rfl⟩)
          | (at_builtin; refine wpList_append_strs rfl _ _ rfl (w.heap.size + 1) A L cap (ss.filter (preB pre.data.toList)) rfl (HG2.out.alloc strC_len _) _ 1 1 [x] rfl Hstr.out (fun h => by cases h) (by omega) (by have := Hl2.out; simp; omega) ?_; intro A3 c3 w3 hg3 hgr3 hr3 _))
        have hne1 : some mb ≠ (Value.slice A L cap).ownBlock := fun h => by have := hr3 _ h.symm; omega
        have hne2 : some w.heap.size ≠ (Value.slice A L cap).ownBlock := fun h => by have := hr3 _ h.symm; omega
        have hrg3 := (hrg2.alloc (.cells #[encStr x] 9)).kept hgr3 hne1 hne2
        have hB3 := below_gotR (HB2.out.alloc HB2.out.size (.cells #[encStr x] 9)) (by have := Hl2.out; simp; omega) hgr3 hr3 (Nat.le_succ _)
        have hl3 : w.heap.size < w3.heap.size := by
          have h1 := hgr3.size
          have h2 := Hl2.out
          simp at h1
          omega
        refine ⟨⟨_, cnt2, ss ++ [x], A3, c3, ?_, hrg3, by rw [List.length_append]; simp; omega, ?_, Hstep.out, Lib.hid hB3, Lib.hid hl3⟩, ?_⟩
        · rw [Hfl.out, List.length_append, ← HLe.out]
          rfl
        · rw [Hfl.out, List.length_append, ← HLe.out]
          exact Lib.hid hg3
        · rw [hrg3.left_eq, hrg.left_eq]
          exact hlt
      · have hfl : (ss ++ [x]).filter (preB pre.data.toList) = ss.filter (preB pre.data.toList) := by rw [List.filter_append, List.filter_cons, if_neg hp, List.filter_nil, List.append_nil]
        have Hfl := Lib.hid hfl
        have hp2 : preB pre.data.toList x = false := by simpa using hp
        rw [hp2] at Hpre
        clear hfl hp hp2
        go_wp2_with (go_at_call 81; refine (Hpre.out _).mono ?_; rintro e3 w3 ⟨rfl, rfl⟩)
        go_roundw
        case rel => exact ⟨_, cnt2, ss ++ [x], A, cap, by rw [Hfl.out], hrg2, by rw [List.length_append]; simp; omega, by rw [Hfl.out]; exact HG2, Hstep.out, HB2, Hl2⟩
        case measure =>
          rw [hrg2.left_eq, hrg.left_eq]
          exact hlt

end Go.Proofs.YtnhfmcijadficaaGreatDoor

/- Rows of rows of strings: a plan's keys by sectors; the walk over blob's keysBySector. -/
namespace Go.Proofs.YtnhfmcijadficaaGreatDoor
set_option maxRecDepth 100000
open Go.RowKit Go.Maps

/-- One row of keys. -/
structure Kr where
  A : Option Addr
  cap : Nat
  ks : List (List UInt8)
def Kr.cells (k : Kr) : List Value := [.slice k.A k.ks.length k.cap]
theorem kr_len (k : Kr) : k.cells.length = 1 := rfl
theorem kr_one (k : Kr) : ∀ v ∈ k.cells, v.oneCell' = true := by
  intro v hv
  simp only [Kr.cells, List.mem_cons, List.not_mem_nil, or_false] at hv
  subst hv
  rfl

/-- Rows of keys of a call's own, each in a block of its own. -/
structure KeysAt (w : World) (base bi : Nat) (A : Option Addr) (cap : Nat) (K : List Kr) : Prop where
  le : base ≤ bi
  outer : GotR Kr.cells 1 67 base w A K.length cap K
  inner : ∀ (i : Nat) (k : Kr), K[i]? = some k → Strs bi w k.A k.ks.length k.cap k.ks
  apart : ∀ (i j : Nat) (a b : Kr), K[i]? = some a → K[j]? = some b → i ≠ j → a.A = none ∨ a.A ≠ b.A

section
variable {w w' : World} {base bi cap : Nat} {A : Option Addr} {K : List Kr}
theorem KeysAt.only {T : Nat → Prop} (h : KeysAt w base bi A cap K) (q : Only T w w') (hT : ∀ i, base ≤ i → i < w.heap.size → ¬ T i) : KeysAt w' base bi A cap K :=
  ⟨h.le, h.outer.only kr_len q hT, fun i k hk => (h.inner i k hk).only strC_len q (fun j h1 h2 => hT j (Nat.le_trans h.le h1) h2), h.apart⟩
theorem KeysAt.below (h : KeysAt w base bi A cap K) (q : Below w.heap.size w w') : KeysAt w' base bi A cap K := h.only (Only.of_below (S := Empty) q) (fun _ _ _ h => h)
theorem strs_addr {n c : Nat} {B : Option Addr} {l : List (List UInt8)} (h : Strs base w B n c l) : B = none ∨ ∃ g, B = some ⟨g, 0, none⟩ ∧ base ≤ g ∧ g < w.heap.size := by
  rcases h.here with h | ⟨g, cur, he, hb, hB, _⟩
  · exact Or.inl h
  · exact Or.inr ⟨g, he, hb, hB.lt⟩

theorem GotR.kept_ {α : Type} {cells : α → List Value} {k n cap base : Nat} {t : TypeId} {w w' : World} {A : Option Addr} {l : List α} {row : Option Nat} (hk : ∀ f, (cells f).length = k) (h : GotR cells k t base w A n cap l) (hg : w.grownBy w' row) (hne : (Value.slice A n cap).ownBlock = none ∨ (Value.slice A n cap).ownBlock ≠ row) :
    GotR cells k t base w' A n cap l := by
  obtain ⟨A', c', he, hG⟩ := GotR.of_own hk (h.own.kept hg hne) h.row.1
  cases he
  exact hG
theorem flat_set1 {α : Type} {cells : α → List Value} (hk : ∀ f, (cells f).length = 1) (l : List α) (i : Nat) (x : α) (v : Value) (hv : cells x = [v]) : (l.set i x).flatMap cells = (l.flatMap cells).set i v := by
  induction l generalizing i with
  | nil => rfl
  | cons a l ih =>
    obtain ⟨u, hu⟩ := List.length_eq_one_iff.1 (hk a)
    cases i with
    | zero => rw [List.set_cons_zero, List.flatMap_cons, List.flatMap_cons, hv, hu]; rfl
    | succ i => rw [List.set_cons_succ, List.flatMap_cons, List.flatMap_cons, ih, hu]; rfl
theorem GotR.set1 {α : Type} {cells : α → List Value} {t : TypeId} {w : World} {base g n cap : Nat} {l : List α} (hk : ∀ f, (cells f).length = 1) (h : GotR cells 1 t base w (some ⟨g, 0, none⟩) n cap l) (i : Nat) (x : α) (v : Value) (hv : cells x = [v]) :
    GotR cells 1 t base (w.setCell ⟨g, i, none⟩ v) (some ⟨g, 0, none⟩) n cap (l.set i x) := by
  have hl := h.row.1
  rcases h.own.2 with ⟨hnil, _⟩ | ⟨g', cap', cur, hv', hbase, hb, h1, h2, h3, h4⟩
  · cases hnil
  · cases hv'
    have hb2 : Blk w g t cur := hb
    have hb3 := hb2.set_ i v
    have hown : (w.setCell ⟨g, i, none⟩ v).ownsRow base t 1 (.slice (some ⟨g, 0, none⟩) n cap) n ((l.set i x).flatMap cells) := by
      refine ⟨by rw [rows_len hk, List.length_set, hl], Or.inr ⟨g, cap, _, rfl, hbase, hb3, h1, h2, by simp [h3], ?_⟩⟩
      rw [Array.toList_setIfInBounds, List.take_set, h4, flat_set1 hk l i x v hv]
    obtain ⟨A', c', he, hG⟩ := GotR.of_own hk hown (by rw [List.length_set, hl])
    cases he
    exact hG
theorem own_block (A : Option Addr) (n c : Nat) : (Value.slice A n c).ownBlock = A.map (·.block) := by cases A <;> rfl

theorem GotR.cell1 {α : Type} {cells : α → List Value} {t : TypeId} {w : World} {base g n cap i : Nat} {l : List α} {x : α} {v : Value} (h : GotR cells 1 t base w (some ⟨g, 0, none⟩) n cap l) (hi : l[i]? = some x) (hv : cells x = [v]) : w.cell? ⟨g, i, none⟩ = some v ∧ w.frozen? ⟨g, i, none⟩ = false ∧ g < w.heap.size := by
  have hil : i < n := by have := (List.getElem?_eq_some_iff.1 hi).1; have := h.row.1; omega
  rcases h.here with hn | ⟨g', cur, he, _, hB, _⟩
  · cases hn
  · cases he
    obtain ⟨b, o, he2, _, _, hc⟩ := h.row.2.2.2 (by omega)
    cases he2
    have h1 := hc i x hi 0 (by omega)
    rw [hv, Nat.mul_one, Nat.zero_add, Nat.add_zero] at h1
    exact ⟨h1, hB.frozen i, hB.lt⟩
theorem KeysAt.grow {w1 : World} {g i : Nat} {k : Kr} (h : KeysAt w base bi A cap K) (hA : A = some ⟨g, 0, none⟩) (hk : K[i]? = some k) (hg : w.grownBy w1 (Value.slice k.A k.ks.length k.cap).ownBlock) : GotR Kr.cells 1 67 base w1 (some ⟨g, 0, none⟩) K.length cap K := by
  subst hA
  have hki := h.inner i k hk
  exact h.outer.kept_ kr_len hg (by
    refine Or.inr fun he => ?_
    rw [own_block] at he
    rw [own_block] at he
    rcases hki.here with hn | ⟨q, cur, hq, _, hB, _⟩
    · rw [hn] at he; cases he
    · rw [hq] at he
      rcases h.outer.here with hn | ⟨q2, cur2, hq2, _, hB2, _⟩
      · cases hn
      · cases hq2
        simp at he
        subst he
        exact (Blk.ne_ hB hB2 (by decide)) rfl)

/-- One row of keys has another key, and is stored: w1 is the world behind the append, whose row grew. -/
theorem KeysAt.put {w1 : World} {g i c' : Nat} {A' : Option Addr} {k : Kr} {x : List (List UInt8)} {m : Nat} (h : KeysAt w base bi A cap K) (hA : A = some ⟨g, 0, none⟩) (hk : K[i]? = some k) (hG : Strs bi w1 A' (k.ks.length + m) c' (k.ks ++ x)) (hx : x.length = m) (hg : w.grownBy w1 (Value.slice k.A k.ks.length k.cap).ownBlock)
    (hloc : (Value.slice A' (k.ks.length + m) c').ownBlock = (Value.slice k.A k.ks.length k.cap).ownBlock ∨ ∃ q, (Value.slice A' (k.ks.length + m) c').ownBlock = some q ∧ w.heap.size ≤ q) :
    KeysAt (w1.setCell ⟨g, i, none⟩ (.slice A' (k.ks.length + m) c')) base bi A cap (K.set i ⟨A', c', k.ks ++ x⟩) := by
  have hlen : (k.ks ++ x).length = k.ks.length + m := by rw [List.length_append, hx]
  have hil : i < K.length := (List.getElem?_eq_some_iff.1 hk).1
  subst hA
  have hki := h.inner i k hk
  have hout1 : GotR Kr.cells 1 67 base w1 (some ⟨g, 0, none⟩) K.length cap K := h.outer.kept_ kr_len hg (by
    refine Or.inr fun he => ?_
    rw [own_block] at he
    rw [own_block] at he
    rcases hki.here with hn | ⟨q, cur, hq, _, hB, _⟩
    · rw [hn] at he; cases he
    · rw [hq] at he
      rcases h.outer.here with hn | ⟨q2, cur2, hq2, _, hB2, _⟩
      · cases hn
      · cases hq2
        simp at he
        subst he
        exact (Blk.ne_ hB hB2 (by decide)) rfl)
  obtain ⟨cur2, hB2⟩ : ∃ cur2, Blk w1 g 67 cur2 := by
    rcases hout1.here with hn | ⟨q2, cur2, hq2, _, hB2, _⟩
    · cases hn
    · cases hq2
      exact ⟨cur2, hB2⟩
  have hO : Only (· = g) w1 (w1.setCell ⟨g, i, none⟩ (.slice A' (k.ks.length + m) c')) := (Only.refl (· = g) w1).setCell (p := ⟨g, i, none⟩) (Or.inl rfl) _
  refine ⟨h.le, ?_, ?_, ?_⟩
  · rw [List.length_set]
    exact hout1.set1 kr_len i _ _ (by unfold Kr.cells; rw [hlen])
  · intro j q hq
    by_cases hij : i = j
    · subst hij
      rw [List.getElem?_set_self hil] at hq
      cases hq
      show Strs bi _ A' (k.ks ++ x).length c' (k.ks ++ x)
      rw [hlen]
      exact hG.far strC_len hB2 (by decide) hO
    · rw [List.getElem?_set_ne hij] at hq
      have hj := h.inner j q hq
      refine (hj.kept_ strC_len hg ?_).far strC_len hB2 (by decide) hO
      rw [own_block, own_block]
      rcases h.apart j i q k hq hk (fun e => hij e.symm) with hn | hn
      · rw [hn]; exact Or.inl rfl
      · refine Or.inr fun he => hn ?_
        rcases strs_addr hj with h1 | ⟨a, h1, _, _⟩
        · rw [h1] at he ⊢
          rcases strs_addr hki with h2 | ⟨b, h2, _, _⟩
          · rw [h2]
          · rw [h2] at he; cases he
        · rcases strs_addr hki with h2 | ⟨b, h2, _, _⟩
          · rw [h1, h2] at he; cases he
          · rw [h1, h2] at he ⊢
            simp at he
            rw [he]
  · intro a b qa qb ha hb hab
    have hnew : ∀ j q, K[j]? = some q → j ≠ i → A' = none ∨ A' ≠ q.A := fun j q hq hji => by
      rcases strs_addr hG with h1 | ⟨n1, h1, _, _⟩
      · exact Or.inl h1
      · refine Or.inr fun he => ?_
        rcases hloc with hl | ⟨q2, hl, hl2⟩
        · rw [own_block, own_block, h1] at hl
          rcases h.apart i j k q hk hq (fun e => hji e.symm) with hn | hn
          · rw [hn] at hl; cases hl
          · refine hn ?_
            rcases strs_addr hki with h2 | ⟨n2, h2, _, _⟩
            · rw [h2] at hl; cases hl
            · rw [h2] at hl
              simp at hl
              rw [h2, ← hl, ← h1, he]
        · rw [own_block, h1] at hl
          simp at hl
          rcases strs_addr (h.inner j q hq) with h2 | ⟨n2, h2, _, h3⟩
          · rw [h1, h2] at he; cases he
          · rw [h1, h2] at he
            simp at he
    by_cases hia : i = a
    · subst hia
      rw [List.getElem?_set_self hil] at ha
      rw [List.getElem?_set_ne hab] at hb
      cases ha
      exact hnew b qb hb (fun e => hab e.symm)
    · rw [List.getElem?_set_ne hia] at ha
      by_cases hib : i = b
      · subst hib
        rw [List.getElem?_set_self hil] at hb
        cases hb
        rcases hnew a qa ha (fun e => hia e.symm) with hn | hn
        · rcases strs_addr (h.inner a qa ha) with h2 | ⟨n2, h2, _, h3⟩
          · exact Or.inl h2
          · refine Or.inr ?_
            show qa.A ≠ A'
            rw [h2, hn]
            exact fun h => by cases h
        · exact Or.inr (fun e => hn e.symm)
      · rw [List.getElem?_set_ne hib] at hb
        exact h.apart a b qa qb ha hb hab
end

end Go.Proofs.YtnhfmcijadficaaGreatDoor

/- The walk over blob's Live: the room of all keys. -/
namespace Go.Proofs.YtnhfmcijadficaaGreatDoor
set_option maxRecDepth 100000
open Go.RowKit Go.Maps Go.Sort

/-- Keys and blobs that records may have. -/
def FairM (M : Al Sv) : Prop := ∀ q ∈ M, q.1.length ≤ 64 ∧ q.2.n ≤ 4096
theorem svAt_fair {M : Al Sv} (h : FairM M) (k : List UInt8) : (svAt M k).n ≤ 4096 := by
  unfold svAt
  cases hf : afind M k with
  | none => exact Nat.zero_le _
  | some f => exact (h _ (afind_mem hf)).2

/-- A key's room. -/
def keyRoom (k : List UInt8) (n : Nat) : Nat := 32 + k.length + n
def liveL (M : Al Sv) : Nat := (M.map fun q => keyRoom q.1 q.2.n).sum

theorem afind_of_mem {α : Type} {M : Al α} (h : M.Pairwise (fun p q => bytesBefore p.1 q.1 = true)) {q : List UInt8 × α} (hq : q ∈ M) : afind M q.1 = some q.2 := by
  induction M with
  | nil => cases hq
  | cons r M ih =>
    rw [List.pairwise_cons] at h
    unfold afind
    rw [List.find?_cons]
    rcases List.mem_cons.1 hq with rfl | hm
    · simp
    · have hb := before_lt _ _ (h.1 q hm)
      have hne : (r.1 == q.1) = false := by
        rw [beq_eq_false_iff_ne]
        intro he
        rw [he] at hb
        exact absurd hb (List.lt_irrefl _)
      rw [hne]
      exact ih h.2 hm
theorem live_keys {M : Al Sv} (h : M.Pairwise (fun p q => bytesBefore p.1 q.1 = true)) : ((M.map (·.1)).map fun k => keyRoom k (svAt M k).n).sum = liveL M := by
  unfold liveL
  rw [List.map_map]
  congr 1
  apply List.map_congr_left
  intro q hq
  show keyRoom q.1 (svAt M q.1).n = _
  rw [svAt_v (afind_of_mem h hq)]
theorem sum_perm {l r : List Nat} (h : l.Perm r) : l.sum = r.sum := h.sum_nat
theorem sum_le_mul (f : List UInt8 → Nat) (m : Nat) : ∀ l : List (List UInt8), (∀ k ∈ l, f k ≤ m) → (l.map f).sum ≤ l.length * m
  | [], _ => by simp
  | k :: l, h => by
    have h1 := sum_le_mul f m l (fun q hq => h q (List.mem_cons_of_mem _ hq))
    have h2 := h k List.mem_cons_self
    rw [List.map_cons, List.sum_cons, List.length_cons, Nat.add_mul]
    omega

set_option maxHeartbeats 400000 in
theorem live_any (s mb p c e : Nat) (M : Al Sv) (h : HeadV) (d : Bool) (w : World) (hS : StoreAt w s mb p c e M h d) (hM : M.length ≤ 65536) (hF : FairM M) :
    Calls Tryz.prog 29 #[.pointer (some ⟨s, 0, none⟩)] w fun e1 w' => e1 = .returned (.int .i64 (liveL M : Int)) ∧ Below w.heap.size w w' := by
  have s1 : w.cell? ⟨s, 1, none⟩ = some (.map (some mb)) := hS.blk.cell 1
  have hbl : mb < w.heap.size := hS.map.lt
  have hsrt := hS.map.sorted
  have Hsrt := Lib.hid hsrt
  have Hown : Hid (w.ownsMap Tryz.prog 9 standElem mb M.length (smD M)) := Lib.hid hS.map
  have Hbl := Lib.hid hS.bl
  have hks := strKeys_sm M
  have Hlv := Lib.hid (live_keys hsrt)
  have Hat : Hid (∀ (x : List UInt8) (f : Sv) (yd : DataW Unit) (yp : List MemPlace), standElem f.v = some (yd, yp) → (∀ zd, (smD M).atKey (.string x) zd = yd) → Maps.has (smD M) (.string x) = true → x.length ≤ 64 ∧ f.v = (svAt M x).v) := Lib.hid (fun x f yd yp hv hat hhas => by
    rw [has_sm] at hhas
    cases hf : afind M x with
    | none => rw [hf] at hhas; cases hhas
    | some f2 =>
      have h1 := hat Sv.zero.d
      rw [svAt_d] at h1
      rw [← h1] at hv
      exact ⟨(hF _ (afind_mem hf)).1, standElem_inv hv⟩)
  have Hfair := Lib.hid (svAt_fair hF)
  have hkl : ∀ k ∈ M.map (·.1), keyRoom k (svAt M k).n ≤ 8192 := fun k hk => by
    obtain ⟨q, hq, rfl⟩ := List.mem_map.1 hk
    have h1 := (hF q hq).1
    have h2 := Hfair.out q.1
    unfold keyRoom
    omega
  have Hkl := Lib.hid hkl
  obtain ⟨D0, hD0⟩ : ∃ D0, D0 = smD M := ⟨_, rfl⟩
  rw [← hD0] at Hown hks Hat
  have Hks := Lib.hid hks
  have hsz : Maps.size D0 ≤ 65536 := by rw [hD0]; unfold smD; rw [Maps.size_eq, List.length_map]; exact hM
  have Hhk : Hid (∀ x, Maps.has D0 (.string x) = true → x ∈ M.map (·.1)) := Lib.hid (fun x hx => by
    rw [hD0, has_sm] at hx
    obtain ⟨f, hf⟩ := Option.isSome_iff_exists.1 hx
    exact List.mem_map.2 ⟨_, afind_mem hf, rfl⟩)
  clear hS hks hD0 hF hsrt hkl
  go_enter Tryz.func29, Tryz.ntmps29
  go_wp2_with (at_range; refine wpList_range_own _ rfl _ 102 rfl 9 134 Tryz.standKeyed Tryz.underlying102 _ mb M.length _ rfl Hown.out ?_; intro w0 hrg0 hg0 hs0)
  go_frame
  have Hg0 := Lib.hid hg0
  have Hl0 : Hid (w.heap.size < w0.heap.size) := Lib.hid (by omega)
  clear hg0 hs0
  go_loopw [3] (fun v wr => ∃ (left : Lit → Bool) (cnt : Nat) (ss : List (List UInt8)) (q : Nat), v = .int .i64 (q : Int) ∧ Hid (q = (ss.map fun k => keyRoom k (svAt M k).n).sum) ∧ wr.ranges Tryz.prog 9 standElem mb w.heap.size M.length D0 left cnt ∧ ss.length + cnt ≤ Maps.size D0 ∧
      Collected D0 left ss ∧ Hid (Below w.heap.size w wr) ∧ Hid (w.heap.size < wr.heap.size))
    (fun _ wr => wr.rangeLeft mb w.heap.size)
  case atStart =>
    exact ⟨_, _, [], 0, rfl, Lib.hid rfl, hrg0, by simp, Collected.start D0, Lib.hid ((Below.refl _ _).grown Hg0.out (Nat.le_refl _) (fun j hj => by cases hj)), Hl0⟩
  case round =>
    obtain ⟨left, cnt, ss, q, rfl, Hq, hrg, hcs, hC, HB, HL2⟩ := hrel
    have hqb : q ≤ 536870912 := by
      have h1 := sum_le_mul (fun k => keyRoom k (svAt M k).n) 8192 ss (fun k hk => Hkl.out k (Hhk.out k ((hC.2 k).1 hk).1))
      have h2 : ss.length * 8192 ≤ 65536 * 8192 := Nat.mul_le_mul_right _ (by omega)
      rw [Hq.out]
      omega
    go_wp2_with (at_next; refine wpList_next_ranges _ rfl _ rfl 9 Tryz.standKeyed standElem encStr Sv.v (fun key kl hk => by obtain ⟨x, hx, _⟩ := Maps.keyOf_str Tryz.underlying9 hk; exact ⟨x, hx⟩) (fun v y hv => by obtain ⟨c, rfl, _⟩ := standElem_some hv; exact ⟨c, rfl⟩) mb w.heap.size M.length _ _ _ rfl hrg ?_ ?_)
    · intro hc0 hl0
      have hperm := hC.perm Hown.out Tryz.standKeyed Tryz.underlying9 hl0
      rw [Hks.out] at hperm
      have hsum := sum_perm (hperm.map fun k => keyRoom k (svAt M k).n)
      rw [Hlv.out, ← Hq.out] at hsum
      have Hsum := Lib.hid hsum
      clear hsum hperm hC hrg
      go_wp2_with fail
      go_ret
      exact ⟨by rw [← Hsum.out]; rfl, HB.out⟩
    · intro x f kl yd yp w2 cnt2 hkey hlk hv hat hrg2 hlt hg2 hs2 hen
      obtain ⟨x', ex, rfl, _⟩ := Maps.keyOf_str Tryz.underlying9 hkey
      obtain rfl : x = x' := encStr_inj ex
      have hO2 : Only (· = w.heap.size) wr w2 := Only.of_grown hg2 (fun k e _ => by cases e; rfl)
      have HB2 := Lib.hid (HB.out.trans (hO2.below (B := w.heap.size) HB.out.size (fun k h1 h2 => by omega)))
      have Hl2 : Hid (w.heap.size < w2.heap.size) := Lib.hid (by have := HL2.out; omega)
      have hxx := Hat.out x f yd yp hv hat (has_true_of_atKey hat)
      have Hstep := Lib.hid (hC.step hlk hat)
      rw [hxx.2] at hen
      have hfn := Hfair.out x
      have hblb := Hbl.out.at_ x
      have Hsum : Hid (q + keyRoom x (svAt M x).n = ((ss ++ [x]).map fun k => keyRoom k (svAt M k).n).sum) := Lib.hid (by rw [List.map_append, List.sum_append, ← Hq.out]; simp)
      obtain ⟨sv, hsv⟩ : ∃ sv, sv = svAt M x := ⟨_, rfl⟩
      rw [← hsv] at hen hfn hblb Hsum
      have hx64 := hxx.1
      clear hs2 hg2 hO2 hv hkey ex hat hlk hxx hsv
      obtain ⟨sec, g, n, cap, xs⟩ := sv
      unfold Sv.v at hen
      simp only at hen hfn hblb Hsum
      have hroom : Hid (∀ W, Below w2.heap.size w2 W → Calls Tryz.prog 47 #[.slice (some ⟨W.heap.size, 0, none⟩) 1 1] (W.alloc (.cells #[.bool false, encStr x, .slice (adr g) n cap] 37)) fun e w' => e = .returned (.int .i64 ((keyRoom x n : Nat) : Int)) ∧ Below (W.alloc (.cells #[.bool false, encStr x, .slice (adr g) n cap] 37)).heap.size (W.alloc (.cells #[.bool false, encStr x, .slice (adr g) n cap] 37)) w') := Lib.hid (fun W hW => by
        have hrow := RowSl.lit (cells := Ch.cells) (k := 3) (fun _ => rfl) W Empty 37 [(⟨false, ⟨x.toArray⟩, adr g, n, cap, xs⟩ : Ch)] 1 [.bool false, encStr x, .slice (adr g) n cap] (by simp [Ch.cells, encStr]) rfl (by decide) (fun h => h)
        have hb2 := (HB2.out.trans (hW.mono HB2.out.size))
        have hbb : ByteSl (W.alloc (.cells #[.bool false, encStr x, .slice (adr g) n cap] 37)) Empty (adr g) n cap xs := (hblb.1.only (Only.of_below (S := Empty) (hb2.alloc hb2.size _)) (fun _ _ h => h.elim)).mono (fun _ _ h => h.elim)
        have hch : Chs (W.alloc (.cells #[.bool false, encStr x, .slice (adr g) n cap] 37)) Empty (some ⟨W.heap.size, 0, none⟩) 1 1 [(⟨false, ⟨x.toArray⟩, adr g, n, cap, xs⟩ : Ch)] :=
          ⟨hrow.1, hrow.2.1, hrow.2.2.1, hrow.2.2.2, fun f hf => by
            simp only [List.mem_cons, List.not_mem_nil, or_false] at hf
            subst hf
            exact ⟨hbb, hblb.2⟩⟩
        have hr := roomOf_any _ 1 1 _ _ hch (fun f hf => by
          simp only [List.mem_cons, List.not_mem_nil, or_false] at hf
          subst hf
          refine ⟨?_, ?_⟩
          · show x.toArray.size ≤ 64
            simpa using hx64
          · show (if false = true then 0 else n) ≤ 4096
            simpa using hfn) (by decide)
        have hrl : roomL [(⟨false, ⟨x.toArray⟩, adr g, n, cap, xs⟩ : Ch)] = keyRoom x n := by
          show 16 + ((x.toArray.size + n + 16) + 0) = 32 + x.length + n
          simp
          omega
        rw [hrl] at hr
        exact hr)
      have hkr : keyRoom x n ≤ 8192 := by unfold keyRoom; omega
      obtain ⟨kr, hkre⟩ : ∃ kr, kr = keyRoom x n := ⟨_, rfl⟩
      rw [← hkre] at hroom hkr Hsum
      clear hkre hblb hfn
      have hsz2 : (w2.alloc (.cells #[.int .i64 sec, .slice (adr g) n cap] 134)).heap.size = w2.heap.size + 1 := by simp
      have hr := hroom.out (w2.alloc (.cells #[.int .i64 sec, .slice (adr g) n cap] 134)) ((Below.refl _ _).alloc (Nat.le_refl _) _)
      rw [hsz2] at hr
      have Hr := Lib.hid hr
      clear hr hsz2 hroom
      go_wp2_with fail
      refine Hr.out.mono ?_
      rintro e3 w3 ⟨rfl, hb3⟩
      have hb3' := ((((Below.refl w2.heap.size w2).alloc (Nat.le_refl _) (.cells #[.int .i64 sec, .slice (adr g) n cap] 134)).alloc (by simp) (.cells #[.bool false, encStr x, .slice (adr g) n cap] 37))).trans (hb3.mono (by simp; omega))
      have HB3 := Lib.hid (HB2.out.trans (hb3'.mono HB2.out.size))
      have hg3 : w2.grownBy w3 none := ⟨hb3'.os, hb3'.tape, hb3'.output, hb3'.size, fun i hi _ => hb3'.block i hi⟩
      have hrg3 := hrg2.kept hg3 (by simp) (by simp)
      have Hl3 : Hid (w.heap.size < w3.heap.size) := Lib.hid (by have h1 := Hl2.out; have h2 := hb3'.size; omega)
      clear hb3 hb3' hg3
      go_wp2_with fail
      go_roundw
      case rel => exact ⟨_, cnt2, ss ++ [x], q + kr, by congr 1, Hsum, hrg3, by rw [List.length_append]; simp; omega, Hstep.out, HB3, Hl3⟩
      case measure =>
        rw [hrg3.left_eq, hrg.left_eq]
        exact hlt

end Go.Proofs.YtnhfmcijadficaaGreatDoor
