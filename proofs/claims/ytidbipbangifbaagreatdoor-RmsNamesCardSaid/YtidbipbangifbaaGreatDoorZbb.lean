/- Rows of strings, the sort of such a row; strings.HasPrefix; the walk over blob's Keys. -/
import Derived.Test.YtidbipbangifbaaGreatDoorZav
import Derived.Test.YtidbipbangifbaaGreatDoorZba
import Derived.Test.YtidbipbangifbaaGreatDoorZal
import Derived.Sort.OwnSorted
import Derived.Test.YtidbipbangifbaaGreatDoorZac
import Derived.Test.YtidbipbangifbaaGreatDoorZay
import Derived.Test.YtidbipbangifbaaGreatDoorZaa
namespace Go.Proofs.YtidbipbangifbaaGreatDoor
set_option maxRecDepth 100000
open Go.RowKit Go.Maps Go.Sort

def strC (k : List UInt8) : List Value := [encStr k]
theorem strC_len (k : List UInt8) : (strC k).length = 1 := rfl
theorem strC_one (k : List UInt8) : ∀ v ∈ strC k, v.oneCell' = true := by
  intro v hv
  simp only [strC, List.mem_cons, List.not_mem_nil, or_false] at hv
  subst hv
  rfl
theorem flat_strC (l : List (List UInt8)) : l.flatMap strC = l.map encStr := by
  induction l with
  | nil => rfl
  | cons k l ih => rw [List.flatMap_cons, ih]; rfl
theorem Tryz.infoStr : (Tryz.prog.info? 9).map (fun i => (i.zero, i.size, i.bytes)) = some (some (.string ⟨#[]⟩), 1, 16) := by kernel_rfl

abbrev Strs := GotR strC 1 9

/-- A row of strings of the call's own is sorted. -/
theorem sort_strs (base : Nat) (A : Option Addr) (n cap : Nat) (l : List (List UInt8)) (w : World) (h : Strs base w A n cap l) (hn : n ≤ 1048576) :
    Calls Tryz.prog 83 #[.slice A n cap] w fun e w' => e = .returned (.tuple #[]) ∧ Strs base w' A n cap (l.mergeSort leB) ∧ Only (fun q => base ≤ q) w w' := by
  rcases h.own.2 with ⟨hnil, h0⟩ | ⟨g, cap', cur, hv, hbase, hb, h1, h2, h3, h4⟩
  · have hl : l = [] := List.eq_nil_of_length_eq_zero (by rw [h.row.1, h0])
    subst hl
    cases hnil
    refine (Any.slices_Sort_string_none sortLays none 0 w).mono ?_
    rintro e w' ⟨rfl, rfl⟩
    exact ⟨rfl, by simpa using h, Only.refl _ _⟩
  · cases hv
    have hlen := h.row.1
    rw [flat_strC] at h4
    have hH : Holds encStr w g 0 l.toArray := holds_of_block hb (by rw [hlen]; simpa using h4)
    have hgl : g < w.heap.size := (Array.getElem?_eq_some_iff.1 hb).1
    have hs := Any.slices_Sort_string sortLays g 0 cap l w hH hgl (by omega)
    rw [hlen] at hs
    refine hs.mono ?_
    rintro e w' ⟨rfl, nn, os, rfl⟩
    have ho := ownsRow_sorted (n := nn) (os := os) (base := base) (cap := cap) (ss := l) (ts := l.mergeSort leB) (by simp) hbase hb (by rw [hlen]; exact h1) h2 h3
    rw [hlen, ← flat_strC] at ho
    obtain ⟨A', c', he, hG⟩ := GotR.of_own strC_len ho (by simp [hlen])
    cases he
    exact ⟨rfl, hG, Only.of_grown (grownBy_sorted _) (fun k e _ => by cases e; exact hbase)⟩

/-- Does a key begin so? -/
def preB (p k : List UInt8) : Bool := decide (k.take p.length = p)

theorem extract_list (s : ByteArray) (n : Nat) : (s.extract 0 n).toList = s.data.toList.take n := by
  rw [str_list, ByteArray.data_extract, Array.toList_extract]
  simp

set_option maxHeartbeats 1000000 in
theorem slitHasPrefix_any (s p : ByteArray) (w : World) : Calls Tryz.prog 113 #[.string s, .string p] w fun e w' => e = .returned (.bool (preB p.data.toList s.data.toList)) ∧ w = w' := by
  by_cases h : p.size ≤ s.size
  · have hb : ((s.extract 0 p.size).toList == p.toList) = preB p.data.toList s.data.toList := by
      rw [extract_list, str_list]
      unfold preB
      rw [Array.length_toList, Bool.eq_iff_iff, beq_iff_eq, decide_eq_true_iff]
      rfl
    go_enter Tryz.func113, Tryz.ntmps113
    go_wp2
    go_ret
    exact ⟨by rw [← hb]; rfl, rfl⟩
  · have hb : preB p.data.toList s.data.toList = false := by
      unfold preB
      rw [decide_eq_false_iff_not]
      intro he
      have := congrArg List.length he
      rw [List.length_take] at this
      simp at this
      omega
    rw [hb]
    go_enter Tryz.func113, Tryz.ntmps113
    go_wp2
    go_ret
    exact ⟨rfl, rfl⟩
theorem hasPrefix_any (s p : ByteArray) (w : World) : Calls Tryz.prog 82 #[.string s, .string p] w fun e w' => e = .returned (.bool (preB p.data.toList s.data.toList)) ∧ w = w' := by
  go_enter Tryz.func82, Tryz.ntmps82
  go_wp2_with fail
  refine (slitHasPrefix_any s p _).mono ?_
  rintro e1 w1 ⟨rfl, rfl⟩
  go_wp2
  go_ret
  exact ⟨rfl, rfl⟩

/-! ### In order -/
theorem before_lt : ∀ (a b : List UInt8), bytesBefore a b = true → a < b
  | [], [], h => by cases h
  | [], _ :: _, _ => List.nil_lt_cons _ _
  | _ :: _, [], h => by cases h
  | a :: r, b :: s, h => by
    unfold bytesBefore at h
    simp only [Bool.or_eq_true, Bool.and_eq_true, decide_eq_true_eq, beq_iff_eq] at h
    rw [List.cons_lt_cons_iff]
    rcases h with h | ⟨h1, h2⟩
    · exact Or.inl h
    · exact Or.inr ⟨h1, before_lt r s h2⟩
theorem sorted_keys {α : Type} (M : Al α) (h : M.Pairwise (fun p q => bytesBefore p.1 q.1 = true)) (p : List UInt8 → Bool) (ss : List (List UInt8)) (hs : ss.Perm (M.map (·.1))) : (ss.filter p).mergeSort leB = (M.map (·.1)).filter p := by
  rw [mergeSort_of_perm (hs.filter p)]
  apply List.mergeSort_of_pairwise
  apply List.Pairwise.filter
  rw [List.pairwise_map]
  refine h.imp (fun hab => ?_)
  have := before_lt _ _ hab
  simp only [leB, decide_eq_true_eq]
  exact List.le_of_lt this

/-- append of strings onto a row of the call's own. -/
theorem wpList_append_strs {ops : Array Oper} {rest : List Oper} {q : Oper} {u : Act} {w : World} {S : Nat → Prop} {Q : Exit → Act → World → Prop} (hgd : q.guard = none) (s x : Operand) (hq : q.op = .call { callee := .builtin .append, args := #[s, x], argTypes := #[53, 53] })
    (base : Nat) (B : Option Addr) (m0 c0 : Nat) (zs : List (List UInt8)) (hs : u.eval s = .slice B m0 c0) (hown : Strs base w B m0 c0 zs) (A : Option Addr) (m c : Nat) (l : List (List UInt8))
    (hx : u.eval x = .slice A m c) (hB : RowSl strC 1 w S A m c l) (hn : A = none → m = 0 ∧ c = 0) (hm : m0 + m ≤ 16777216) (hbase : base ≤ w.heap.size)
    (h : ∀ A' c' w', Strs base w' A' (m0 + m) c' (zs ++ l) → w.grownBy w' (Value.slice B m0 c0).ownBlock → (∀ g, (Value.slice B m0 c0).ownBlock = some g → base ≤ g) →
      ((Value.slice A' (m0 + m) c').ownBlock = (Value.slice B m0 c0).ownBlock ∨ (Value.slice A' (m0 + m) c').ownBlock = some w.heap.size) → wpList Tryz.prog ops Q rest (u.put q.dst (.slice A' (m0 + m) c')) w') : wpList Tryz.prog ops Q (q :: rest) u w :=
  wpList_append_rows strC_len strC_one (by decide) 53 9 _ 16 Tryz.underlying53 Tryz.infoStr (by simp [Value.cells]) (by decide) hgd s x hq base B m0 c0 zs hs hown A m c l hx hB hn hm hbase h
theorem str_lit (k : List UInt8) (w : World) : RowSl strC 1 (w.alloc (.cells #[encStr k] 9)) Empty (some ⟨w.heap.size, 0, none⟩) 1 1 [k] :=
  RowSl.lit strC_len w Empty 9 [k] 1 [encStr k] (by simp [strC]) rfl (by decide) (fun h => h)
theorem hasPrefix_enc (k : List UInt8) (p : ByteArray) (w : World) : Calls Tryz.prog 82 #[encStr k, .string p] w fun e w' => e = .returned (.bool (preB p.data.toList k)) ∧ w = w' := by
  have h := hasPrefix_any ⟨k.toArray⟩ p w
  simpa [encStr] using h

/-- The keys that begin so, in order. -/
def keysOf {α : Type} (p : List UInt8) (M : Al α) : List (List UInt8) := (M.map (·.1)).filter (preB p)

set_option maxHeartbeats 4000000 in
theorem keys_any (s mb p c e : Nat) (M : Al Sv) (h : HeadV) (d : Bool) (pre : ByteArray) (w : World) (hS : StoreAt w s mb p c e M h d) (hM : M.length ≤ 1048576) :
    Calls Tryz.prog 45 #[.pointer (some ⟨s, 0, none⟩), .string pre] w fun e1 w' => (∃ A n cap, e1 = .returned (.slice A n cap) ∧ Strs w.heap.size w' A n cap (keysOf pre.data.toList M)) ∧ Below w.heap.size w w' := by
  have s1 : w.cell? ⟨s, 1, none⟩ = some (.map (some mb)) := hS.blk.cell 1
  have hbl : mb < w.heap.size := hS.map.lt
  have Hsrt := Lib.hid hS.map.sorted
  have Hown : Hid (w.ownsMap Tryz.prog 9 standElem mb M.length (smD M)) := Lib.hid hS.map
  have hks := strKeys_sm M
  obtain ⟨D0, hD0⟩ : ∃ D0, D0 = smD M := ⟨_, rfl⟩
  rw [← hD0] at Hown hks
  have Hks := Lib.hid hks
  have hsz : Maps.size D0 ≤ 1048576 := by rw [hD0]; unfold smD; rw [Maps.size_eq, List.length_map]; exact hM
  clear hS hks hD0
  go_enter Tryz.func45, Tryz.ntmps45
  go_wp2_with (at_range; refine wpList_range_own _ rfl _ 94 rfl 9 128 Tryz.standKeyed Tryz.underlying94 _ mb M.length _ rfl Hown.out ?_; intro w0 hrg0 hg0 hs0)
  go_frame
  have Hg0 := Lib.hid hg0
  have Hl0 : Hid (w.heap.size < w0.heap.size) := Lib.hid (by omega)
  clear hg0 hs0
  go_loopw [5] (fun v wr => ∃ (left : Lit → Bool) (cnt : Nat) (ss : List (List UInt8)) (A : Option Addr) (cap : Nat), v = .slice A (ss.filter (preB pre.data.toList)).length cap ∧ wr.ranges Tryz.prog 9 standElem mb w.heap.size M.length D0 left cnt ∧ ss.length + cnt ≤ Maps.size D0 ∧
      Hid (Strs (w.heap.size + 1) wr A (ss.filter (preB pre.data.toList)).length cap (ss.filter (preB pre.data.toList))) ∧ Collected D0 left ss ∧ Hid (Below w.heap.size w wr) ∧ Hid (w.heap.size < wr.heap.size))
    (fun _ wr => wr.rangeLeft mb w.heap.size)
  case atStart =>
    exact ⟨_, _, [], none, 0, rfl, hrg0, by simp, Lib.hid (GotR.nil_ _ _ _ _ _), Collected.start D0, Lib.hid ((Below.refl _ _).grown Hg0.out (Nat.le_refl _) (fun j hj => by cases hj)), Hl0⟩
  case round =>
    obtain ⟨left, cnt, ss, A, cap, rfl, hrg, hcs, HG, hC, HB, HL2⟩ := hrel
    go_wp2_with (at_next; refine wpList_next_ranges _ rfl _ rfl 9 Tryz.standKeyed standElem encStr Sv.v (fun key kl hk => by obtain ⟨x, hx, _⟩ := Maps.keyOf_str Tryz.underlying9 hk; exact ⟨x, hx⟩) (fun v y hv => by obtain ⟨c, rfl, _⟩ := standElem_some hv; exact ⟨c, rfl⟩) mb w.heap.size M.length _ _ _ rfl hrg ?_ ?_)
    · intro hc0 hl0
      have hperm := hC.perm Hown.out Tryz.standKeyed Tryz.underlying9 hl0
      rw [Hks.out] at hperm
      have hsrt := sorted_keys M Hsrt.out (preB pre.data.toList) ss hperm
      have Hsrt2 := Lib.hid hsrt
      have Hperm := Lib.hid hperm
      have hsl : (ss.filter (preB pre.data.toList)).length ≤ 1048576 := by
        have h1 := List.length_filter_le (preB pre.data.toList) ss
        omega
      have Hs := Lib.hid (sort_strs (w.heap.size + 1) A _ cap _ wr HG.out hsl)
      clear hsrt hperm hC hrg hsl
      obtain ⟨L, hL⟩ : ∃ L, L = (ss.filter (preB pre.data.toList)).length := ⟨_, rfl⟩
      rw [← hL] at Hs HG ⊢
      have HLe := Lib.hid hL
      clear hL
      go_wp2_with fail
      refine Hs.out.mono ?_
      rintro e1 w1 ⟨rfl, hg1, ho1⟩
      have hb1 : Below w.heap.size w w1 := HB.out.trans (ho1.below (by have := HL2.out; omega) (fun k h1 h2 => by omega))
      have HE := Lib.hid (And.intro (hg1.lower (base' := w.heap.size) (by omega)) hb1)
      clear hg1 ho1 hb1
      go_wp2_with fail
      go_ret
      refine ⟨⟨A, L, cap, rfl, ?_⟩, HE.out.2⟩
      unfold keysOf
      rw [← Hsrt2.out]
      exact HE.out.1
    · intro x f kl yd yp w2 cnt2 hkey hlk hv hat hrg2 hlt hg2 hs2 hen
      obtain ⟨x', ex, rfl, _⟩ := Maps.keyOf_str Tryz.underlying9 hkey
      obtain rfl : x = x' := encStr_inj ex
      have Hpre := Lib.hid (hasPrefix_enc x pre)
      have hO2 : Only (· = w.heap.size) wr w2 := Only.of_grown hg2 (fun k e _ => by cases e; rfl)
      have HG2 := Lib.hid (HG.out.only strC_len hO2 (fun i h1 _ h2 => by omega))
      have HB2 := Lib.hid (HB.out.trans (hO2.below (B := w.heap.size) HB.out.size (fun k h1 h2 => by omega)))
      have Hl2 : Hid (w.heap.size < w2.heap.size) := Lib.hid (by have := HL2.out; omega)
      have Hs2 := Lib.hid hs2
      have Hstep := Lib.hid (hC.step hlk hat)
      clear hs2 hg2 hO2 hv hkey ex hat hlk
      by_cases hp : preB pre.data.toList x = true
      · have hfl : (ss ++ [x]).filter (preB pre.data.toList) = ss.filter (preB pre.data.toList) ++ [x] := by rw [List.filter_append, List.filter_cons, if_pos hp, List.filter_nil]
        have hfe : (ss.filter (preB pre.data.toList)).length ≤ ss.length := List.length_filter_le _ _
        have Hfl := Lib.hid hfl
        have hstr := str_lit x w2
        have Hstr := Lib.hid hstr
        rw [hp] at Hpre
        obtain ⟨L, hL⟩ : ∃ L, L = (ss.filter (preB pre.data.toList)).length := ⟨_, rfl⟩
        rw [← hL] at HG2 hfe ⊢
        have HLe := Lib.hid hL
        clear hfl hL hp hstr
        go_wp2_with (first
          | (go_at_call 82; refine (Hpre.out _).mono ?_; rintro e3 w3 ⟨rfl, rfl⟩)
          | (at_builtin; refine wpList_append_strs rfl _ _ rfl (w.heap.size + 1) A L cap (ss.filter (preB pre.data.toList)) rfl (HG2.out.alloc strC_len _) _ 1 1 [x] rfl Hstr.out (fun h => by cases h) (by omega) (by have := Hl2.out; simp; omega) ?_; intro A3 c3 w3 hg3 hgr3 hr3 _))
        have hne1 : some mb ≠ (Value.slice A L cap).ownBlock := fun h => by have := hr3 _ h.symm; omega
        have hne2 : some w.heap.size ≠ (Value.slice A L cap).ownBlock := fun h => by have := hr3 _ h.symm; omega
        have hrg3 := (hrg2.alloc (.cells #[encStr x] 9)).kept hgr3 hne1 hne2
        have hB3 := below_gotR (HB2.out.alloc HB2.out.size (.cells #[encStr x] 9)) (by have := Hl2.out; simp; omega) hgr3 hr3 (Nat.le_succ _)
        have hl3 : w.heap.size < w3.heap.size := by
          have h1 := hgr3.size
          have h2 := Hl2.out
          simp at h1
          omega
        refine ⟨⟨_, cnt2, ss ++ [x], A3, c3, ?_, hrg3, by rw [List.length_append]; simp; omega, ?_, Hstep.out, Lib.hid hB3, Lib.hid hl3⟩, ?_⟩
        · rw [Hfl.out, List.length_append, ← HLe.out]
          rfl
        · rw [Hfl.out, List.length_append, ← HLe.out]
          exact Lib.hid hg3
        · rw [hrg3.left_eq, hrg.left_eq]
          exact hlt
      · have hfl : (ss ++ [x]).filter (preB pre.data.toList) = ss.filter (preB pre.data.toList) := by rw [List.filter_append, List.filter_cons, if_neg hp, List.filter_nil, List.append_nil]
        have Hfl := Lib.hid hfl
        have hp2 : preB pre.data.toList x = false := by simpa using hp
        rw [hp2] at Hpre
        clear hfl hp hp2
        go_wp2_with (go_at_call 82; refine (Hpre.out _).mono ?_; rintro e3 w3 ⟨rfl, rfl⟩)
        go_roundw
        case rel => exact ⟨_, cnt2, ss ++ [x], A, cap, by rw [Hfl.out], hrg2, by rw [List.length_append]; simp; omega, by rw [Hfl.out]; exact HG2, Hstep.out, HB2, Hl2⟩
        case measure =>
          rw [hrg2.left_eq, hrg.left_eq]
          exact hlt

end Go.Proofs.YtidbipbangifbaaGreatDoor

/- rms.Key, the document's IsName, strings.TrimPrefix. -/
namespace Go.Proofs.YtidbipbangifbaaGreatDoor
set_option maxRecDepth 100000
open Go.RowKit

/-- A store's key. -/
def keyL (suite name : List UInt8) : List UInt8 := [114, 47] ++ suite ++ [47] ++ name

theorem key_any (suite name : List UInt8) (w : World) (h1 : suite.length ≤ 1048576) (h2 : name.length ≤ 1048576) : Calls Tryz.prog 43 #[.string (strB suite), .string (strB name)] w fun e w' => e = .returned (.string (strB (keyL suite name))) ∧ w = w' := by
  have hs1 := aa_size suite
  have hs2 := aa_size name
  go_enter Tryz.func43, Tryz.ntmps43
  go_wp2
  go_ret
  exact ⟨congrArg (fun s => Ending.returned (Value.string s)) (by
    show strB [114, 47] ++ strB suite ++ strB [47] ++ strB name = _
    rw [strB_cat, strB_cat, strB_cat]
    rfl), rfl⟩

theorem strB_drop (s : List UInt8) (k : Nat) (h : k ≤ s.length) : (strB s).extract k s.length = strB (s.drop k) := by
  apply ByteArray.ext
  rw [ByteArray.data_extract]
  apply Array.toList_inj.1
  rw [Array.toList_extract]
  show s.extract k s.length = s.drop k
  rw [List.extract_eq_take_drop, List.take_of_length_le (by simp)]
/-- A prefix taken away. -/
def trimL (p s : List UInt8) : List UInt8 := if preB p s then s.drop p.length else s
theorem slTrimPrefix_any (s p : List UInt8) (w : World) : Calls Tryz.prog 84 #[.string (strB s), .string (strB p)] w fun e w' => e = .returned (.string (strB (trimL p s))) ∧ w = w' := by
  have hs1 := aa_size s
  have hs2 := aa_size p
  have HC : Hid (Calls Tryz.prog 113 #[.string (strB s), .string (strB p)] w fun e w' => e = .returned (.bool (preB p s)) ∧ w = w') := Lib.hid (slitHasPrefix_any (strB s) (strB p) w)
  cases hp : preB p s with
  | true =>
    rw [hp] at HC
    have hle : p.length ≤ s.length := by
      unfold preB at hp
      have := of_decide_eq_true hp
      have h2 := congrArg List.length this
      rw [List.length_take] at h2
      omega
    have HE : Hid (trimL p s = s.drop p.length) := Lib.hid (by unfold trimL; rw [if_pos hp])
    clear hp
    go_enter Tryz.func84, Tryz.ntmps84
    go_wp2_with fail
    refine HC.out.mono ?_
    rintro e1 w1 ⟨rfl, rfl⟩
    go_wp2
    go_ret
    exact ⟨by rw [HE.out, ← strB_drop s p.length hle]; rfl, rfl⟩
  | false =>
    rw [hp] at HC
    have HE : Hid (trimL p s = s) := Lib.hid (by unfold trimL; rw [if_neg (by rw [hp]; decide)])
    clear hp
    go_enter Tryz.func84, Tryz.ntmps84
    go_wp2_with fail
    refine HC.out.mono ?_
    rintro e1 w1 ⟨rfl, rfl⟩
    go_wp2
    go_ret
    exact ⟨by rw [HE.out]; rfl, rfl⟩

theorem trimPrefix_any (s p : List UInt8) (w : World) : Calls Tryz.prog 46 #[.string (strB s), .string (strB p)] w fun e w' => e = .returned (.string (strB (trimL p s))) ∧ w = w' := by
  have HC := Lib.hid (slTrimPrefix_any s p w)
  go_enter Tryz.func46, Tryz.ntmps46
  go_wp2_with fail
  refine HC.out.mono ?_
  rintro e1 w1 ⟨rfl, rfl⟩
  go_wp2
  go_ret
  exact ⟨rfl, rfl⟩

/-- The names among keys. -/
def namesL (pre : List UInt8) (ks : List (List UInt8)) : List (List UInt8) := (ks.map (trimL pre)).filter nameB
theorem namesL_next (pre : List UInt8) (ks : List (List UInt8)) (k : Nat) (x : List UInt8) (h : ks[k]? = some x) : namesL pre (ks.take (k + 1)) = namesL pre (ks.take k) ++ if nameB (trimL pre x) then [trimL pre x] else [] := by
  unfold namesL
  rw [take_one ks k x h, List.map_append, List.filter_append]
  congr 1
  simp only [List.map_cons, List.map_nil, List.filter_cons, List.filter_nil]
theorem namesL_le (pre : List UInt8) (ks : List (List UInt8)) : (namesL pre ks).length ≤ ks.length := by
  unfold namesL
  have := List.length_filter_le nameB (ks.map (trimL pre))
  simpa using this
/-- A suite's names, of a store's keys. -/
def namesR {α : Type} (suite : List UInt8) (M : Al α) : List (List UInt8) := if nameB suite then namesL (keyL suite []) (keysOf (keyL suite []) M) else []
theorem enc_strB (x : List UInt8) : encStr x = .string (strB x) := rfl

set_option maxHeartbeats 4000000 in
theorem names_any (s mb p c e : Nat) (M : Al Sv) (h : HeadV) (d : Bool) (suite : List UInt8) (w : World) (hS : StoreAt w s mb p c e M h d) (hM : M.length ≤ 1048576) (hl : suite.length ≤ 9223372036854775807) (hk : ∀ q ∈ M, q.1.length ≤ 64) :
    Calls Tryz.prog 19 #[.pointer (some ⟨s, 0, none⟩), .string (strB suite)] w fun e1 w' => (∃ A n cap, e1 = .returned (.slice A n cap) ∧ Strs w.heap.size w' A n cap (namesR suite M)) ∧ Below w.heap.size w w' := by
  have HI : Hid (∀ W x, (x : List UInt8).length ≤ 9223372036854775807 → Calls Tryz.prog 44 #[.string (strB x)] W fun e w' => e = .returned (.bool (nameB x)) ∧ Below W.heap.size W w') := Lib.hid (fun W x hx => isName_any x W hx)
  have C0 := Lib.hid (isName_any suite w hl)
  cases hn : nameB suite with
  | false =>
    rw [hn] at C0
    have HE : Hid (namesR suite M = []) := Lib.hid (by unfold namesR; rw [hn]; rfl)
    clear hS hn
    go_enter Tryz.func19, Tryz.ntmps19
    go_wp2_with fail
    refine C0.out.mono ?_
    rintro e1 w1 ⟨rfl, hb1⟩
    have Hb1 := Lib.hid hb1
    clear hb1
    go_wp2
    go_ret
    exact ⟨⟨none, 0, 0, rfl, by rw [HE.out]; exact GotR.nil_ _ _ _ _ _⟩, Hb1.out⟩
  | true =>
    rw [hn] at C0
    have hsl : suite.length ≤ 16 := by
      unfold nameB at hn
      rw [Bool.and_eq_true] at hn
      have := of_decide_eq_true hn.1
      omega
    have HKy : Hid (∀ W, Calls Tryz.prog 43 #[.string (strB suite), .string ⟨#[]⟩] W fun e w' => e = .returned (.string (strB (keyL suite []))) ∧ W = w') := Lib.hid (fun W => key_any suite [] W (by omega) (by simp))
    have HKs : Hid (∀ W, Below w.heap.size w W → Calls Tryz.prog 45 #[.pointer (some ⟨s, 0, none⟩), .string (strB (keyL suite []))] W fun e1 w' => (∃ A n cap, e1 = .returned (.slice A n cap) ∧ Strs W.heap.size w' A n cap (keysOf (keyL suite []) M)) ∧ Below W.heap.size W w') := Lib.hid (fun W hb => keys_any s mb p c e M h d (strB (keyL suite [])) W (hS.below hb) hM)
    have HTr : Hid (∀ W x, Calls Tryz.prog 46 #[.string (strB x), .string (strB (keyL suite []))] W fun e w' => e = .returned (.string (strB (trimL (keyL suite []) x))) ∧ W = w') := Lib.hid (fun W x => trimPrefix_any x (keyL suite []) W)
    have HE : Hid (namesR suite M = namesL (keyL suite []) (keysOf (keyL suite []) M)) := Lib.hid (by unfold namesR; rw [hn]; rfl)
    have hkl : ∀ x ∈ keysOf (keyL suite []) M, x.length ≤ 64 := by
      intro x hx
      unfold keysOf at hx
      have := (List.mem_filter.1 hx).1
      obtain ⟨q, hq, rfl⟩ := List.mem_map.1 this
      exact hk q hq
    have hkn : (keysOf (keyL suite []) M).length ≤ 1048576 := by
      unfold keysOf
      have := List.length_filter_le (preB (keyL suite [])) (M.map (·.1))
      simp at this
      omega
    have Hkl := Lib.hid hkl
    clear hS hn hkl hk
    generalize keysOf (keyL suite []) M = ks at *
    generalize keyL suite [] = pre at *
    go_enter Tryz.func19, Tryz.ntmps19
    go_wp2_with fail
    refine C0.out.mono ?_
    rintro e1 w1 ⟨rfl, hb1⟩
    have Hb1 := Lib.hid hb1
    clear hb1
    go_wp2_with fail
    refine (HKy.out _).mono ?_
    rintro e2 w2 ⟨rfl, rfl⟩
    go_wp2_with fail
    refine (HKs.out _ Hb1.out).mono ?_
    rintro e3 w3 ⟨⟨A, n, cap, rfl, hG⟩, hb3⟩
    have Hb3 := Lib.hid (Hb1.out.trans (hb3.mono Hb1.out.size))
    have HL := Lib.hid hG.row
    have hln : ks.length = n := hG.row.1
    have hncap := hG.row.2.1
    have hcap : cap ≤ 9223372036854775807 := by have := hG.row.2.2.1; unfold maxLen at this; exact this
    have Hln := Lib.hid hln
    rw [hln] at hkn
    clear hG hb3 hln
    go_wp2
    go_loopw [5, 19] (fun b i wr => ∃ (k m c' : Nat) (B : Option Addr), k ≤ n ∧ m ≤ k ∧ b = .slice B m c' ∧ i = .int .i64 (k : Int) ∧ Hid (Strs w3.heap.size wr B m c' (namesL pre (ks.take k))) ∧ Hid (Below w3.heap.size w3 wr)) (fun _ i _ => n - (intOf i).toNat)
    case atStart => exact ⟨0, 0, 0, none, by omega, by omega, rfl, rfl, Lib.hid (GotR.nil_ _ _ _ _ _), Lib.hid (Below.refl _ _)⟩
    case round =>
      obtain ⟨k, m, c', B, hk, hmk, rfl, rfl, HG, HW3⟩ := hrel
      have hmc : m ≤ c' := HG.out.row.2.1
      have hcx : c' ≤ 9223372036854775807 := by have := HG.out.row.2.2.1; unfold maxLen at this; exact this
      by_cases hlt : k < n
      · obtain ⟨b, o, x, rfl, hbl, -, hx, hcl⟩ := (HL.out.below HW3.out).at_ hlt
        have hc0 : wr.cell? ⟨b, o + k, none⟩ = some (.string (strB x)) := by
          have := hcl 0 (by decide)
          rw [Nat.mul_one, Nat.add_zero] at this
          exact this
        have hxl := Hkl.out x (List.mem_of_getElem? hx)
        have HN := Lib.hid (namesL_next pre ks k x hx)
        have htl : (trimL pre x).length ≤ 64 := by
          unfold trimL
          split
          · simp
            omega
          · exact hxl
        have HIx : Hid (∀ W, Calls Tryz.prog 44 #[.string (strB (trimL pre x))] W fun e w' => e = .returned (.bool (nameB (trimL pre x))) ∧ Below W.heap.size W w') := Lib.hid (fun W => HI.out W _ (by omega))
        have HTx : Hid (∀ W, Calls Tryz.prog 46 #[.string (strB x), .string (strB pre)] W fun e w' => e = .returned (.string (strB (trimL pre x))) ∧ W = w') := Lib.hid (fun W => HTr.out W x)
        clear hx hcl hxl htl
        generalize trimL pre x = y at *
        cases hy : nameB y with
        | true =>
          rw [hy] at HIx HN
          clear hy
          go_wp2_with fail
          refine (HTx.out _).mono ?_
          rintro e4 w4 ⟨rfl, rfl⟩
          go_wp2_with fail
          refine (HIx.out _).mono ?_
          rintro e5 w5 ⟨rfl, hb5⟩
          have HW35 := Lib.hid (HW3.out.trans (hb5.mono HW3.out.size))
          have HG6 := Lib.hid ((HG.out.below strC_len hb5).alloc strC_len (.cells #[.string (strB y)] 9))
          have HX6 : Hid (RowSl strC 1 (w5.alloc (.cells #[.string (strB y)] 9)) Empty (some ⟨w5.heap.size, 0, none⟩) 1 1 [y]) := Lib.hid (str_lit y w5)
          have HW36 : Hid (Below w3.heap.size w3 (w5.alloc (.cells #[.string (strB y)] 9))) := Lib.hid (HW35.out.alloc HW35.out.size _)
          clear hb5
          go_wp2_with (at_builtin; refine wpList_append_strs rfl (.tmp 28) (.tmp 30) rfl w3.heap.size B m c' (namesL pre (ks.take k)) rfl HG6.out (some ⟨w5.heap.size, 0, none⟩) 1 1 [y] rfl HX6.out (fun h => by cases h) (by omega) HW36.out.size ?_; intro B7 c7 w7 hg7 hgr7 hr7 ho7; have HG7 := Lib.hid hg7; have HW7 : Hid (Below w3.heap.size w3 w7) := Lib.hid (below_gotR (base := w3.heap.size) HW36.out HW36.out.size hgr7 hr7 (Nat.le_refl _)); clear hg7 ho7 hgr7 hr7)
          go_roundw
          case rel => exact ⟨k + 1, m + 1, c7, B7, by omega, by omega, rfl, by go_num, Lib.hid (by rw [HN.out]; exact HG7.out), HW7⟩
          case measure => simp [intOf]; omega
        | false =>
          rw [hy] at HIx HN
          clear hy
          go_wp2_with fail
          refine (HTx.out _).mono ?_
          rintro e4 w4 ⟨rfl, rfl⟩
          go_wp2_with fail
          refine (HIx.out _).mono ?_
          rintro e5 w5 ⟨rfl, hb5⟩
          have HW35 := Lib.hid (HW3.out.trans (hb5.mono HW3.out.size))
          have HG5 := Lib.hid (HG.out.below strC_len hb5)
          clear hb5
          go_wp2
          go_roundw
          case rel => exact ⟨k + 1, m, c', B, by omega, by omega, rfl, by go_num, Lib.hid (by rw [HN.out]; simpa using HG5.out), HW35⟩
          case measure => simp [intOf]; omega
      · have hkn2 : k = n := by omega
        have HF : Hid (namesL pre (ks.take k) = namesL pre ks) := Lib.hid (by rw [List.take_of_length_le (by have := Hln.out; omega)])
        have hd : decide (k < n) = false := decide_eq_false hlt
        clear hkn2
        go_wp2
        go_ret
        exact ⟨⟨B, m, c', rfl, by rw [HE.out, ← HF.out]; exact HG.out.lower Hb3.out.size⟩, Hb3.out.trans (HW3.out.mono Hb3.out.size)⟩

end Go.Proofs.YtidbipbangifbaaGreatDoor

/- The walks over rms.raw and rms.stored. -/
namespace Go.Proofs.YtidbipbangifbaaGreatDoor
set_option maxRecDepth 100000
open Go.RowKit

/-- What stands under a store's key: bytes, an error. -/
def rawQ (suite name : List UInt8) (M : Al Sv) : List UInt8 × Int :=
  if nameB suite = true ∧ nameB name = true then (match afind M (keyL suite name) with | some f => (f.xs, 0) | none => ([], 11)) else ([], 13)
def storedQ (suite name : List UInt8) (M : Al Sv) : Option RcP × Int := if (rawQ suite name M).2 = 0 then (parseQ (rawQ suite name M).1, 8) else (none, (rawQ suite name M).2)
/-- Bytes that a call has made, and an error. -/
def RawOut (base : Nat) (q : List UInt8 × Int) (e : Ending) (w' : World) : Prop :=
  ∃ A cap, e = .returned (.tuple #[.slice A q.1.length cap, .int .i64 q.2]) ∧ Got base w' A q.1.length cap q.1
theorem nameB_len {s : List UInt8} (h : nameB s = true) : s.length ≤ 16 := by
  unfold nameB at h
  rw [Bool.and_eq_true] at h
  have := of_decide_eq_true h.1
  omega
theorem keyL_len {suite name : List UInt8} : (keyL suite name).length = 3 + suite.length + name.length := by
  unfold keyL
  simp
  omega

set_option maxHeartbeats 1000000 in
theorem rmRaw_any (s mb p c e : Nat) (M : Al Sv) (h : HeadV) (d : Bool) (suite name : List UInt8) (w : World) (hS : StoreAt w s mb p c e M h d) (hn : ∀ k, (svAt M k).n ≤ 1048576) (h1 : suite.length ≤ 1048576) (h2 : name.length ≤ 1048576) :
    Calls Tryz.prog 41 #[.pointer (some ⟨s, 0, none⟩), .string (strB suite), .string (strB name)] w fun e1 w' => RawOut w.heap.size (rawQ suite name M) e1 w' ∧ Below w.heap.size w w' := by
  have C1 := Lib.hid (isName_any suite w (by omega))
  have C2 : Hid (∀ W, Calls Tryz.prog 44 #[.string (strB name)] W fun e w' => e = .returned (.bool (nameB name)) ∧ Below W.heap.size W w') := Lib.hid (fun W => isName_any name W (by omega))
  have CK : Hid (∀ W, Calls Tryz.prog 43 #[.string (strB suite), .string (strB name)] W fun e w' => e = .returned (.string (strB (keyL suite name))) ∧ W = w') := Lib.hid (fun W => key_any suite name W h1 h2)
  cases hs : nameB suite with
  | false =>
    rw [hs] at C1
    have HE : Hid (rawQ suite name M = ([], 13)) := Lib.hid (by unfold rawQ; rw [if_neg (by rw [hs]; simp)])
    clear hS hn
    go_enter Tryz.func41, Tryz.ntmps41
    go_wp2_with fail
    refine C1.out.mono ?_
    rintro e1 w1 ⟨rfl, hb1⟩
    have Hb1 := Lib.hid hb1
    clear hb1
    go_wp2
    go_ret2
    rw [HE.out]
    exact ⟨⟨none, 0, rfl, Got.nil_ _ _⟩, Hb1.out⟩
  | true =>
    rw [hs] at C1
    cases hm : nameB name with
    | false =>
      rw [hm] at C2
      have HE : Hid (rawQ suite name M = ([], 13)) := Lib.hid (by unfold rawQ; rw [if_neg (by rw [hm]; simp)])
      clear hS hn
      go_enter Tryz.func41, Tryz.ntmps41
      go_wp2_with fail
      refine C1.out.mono ?_
      rintro e1 w1 ⟨rfl, hb1⟩
      have Hb1 := Lib.hid hb1
      clear hb1
      go_wp2_with fail
      refine (C2.out _).mono ?_
      rintro e2 w2 ⟨rfl, hb2⟩
      have Hb2 := Lib.hid (Hb1.out.trans (hb2.mono Hb1.out.size))
      clear hb2
      go_wp2
      go_ret2
      rw [HE.out]
      exact ⟨⟨none, 0, rfl, Got.nil_ _ _⟩, Hb2.out⟩
    | true =>
      rw [hm] at C2
      have l1 := nameB_len hs
      have l2 := nameB_len hm
      have CG : Hid (∀ W, Below w.heap.size w W → Calls Tryz.prog 73 #[.pointer (some ⟨s, 0, none⟩), .string (strB (keyL suite name))] W fun e1 w' => (∃ A' cap', e1 = .returned (.tuple #[.slice A' (svAt M (keyL suite name)).n cap', .bool (afind M (keyL suite name)).isSome]) ∧ Got W.heap.size w' A' (svAt M (keyL suite name)).n cap' (svAt M (keyL suite name)).xs) ∧ Below W.heap.size W w') :=
        Lib.hid (fun W hb => get_any s mb p c e M h d (strB (keyL suite name)) Empty W (hS.below hb) (by have := keyL_len (suite := suite) (name := name); have h3 := aa_size (keyL suite name); unfold maxLen; omega) (by have := hn (keyL suite name); show (svAt M (keyL suite name)).n ≤ _; omega))
      clear hS hn
      cases hf : afind M (keyL suite name) with
      | none =>
        have HE : Hid (rawQ suite name M = ([], 11)) := Lib.hid (by unfold rawQ; rw [if_pos ⟨hs, hm⟩, hf])
        rw [hf] at CG
        clear hs hm hf
        go_enter Tryz.func41, Tryz.ntmps41
        go_wp2_with fail
        refine C1.out.mono ?_
        rintro e1 w1 ⟨rfl, hb1⟩
        have Hb1 := Lib.hid hb1
        clear hb1
        go_wp2_with fail
        refine (C2.out _).mono ?_
        rintro e2 w2 ⟨rfl, hb2⟩
        have Hb2 := Lib.hid (Hb1.out.trans (hb2.mono Hb1.out.size))
        clear hb2
        go_wp2_with fail
        refine (CK.out _).mono ?_
        rintro e3 w3 ⟨rfl, rfl⟩
        go_wp2_with fail
        refine (CG.out _ Hb2.out).mono ?_
        rintro e4 w4 ⟨⟨A4, c4, rfl, hG4⟩, hb4⟩
        have Hb4 := Lib.hid (Hb2.out.trans (hb4.mono Hb2.out.size))
        clear hb4 hG4
        simp only [Option.isSome]
        go_wp2
        go_ret2
        rw [HE.out]
        exact ⟨⟨none, 0, rfl, Got.nil_ _ _⟩, Hb4.out⟩
      | some f =>
        have HE : Hid (rawQ suite name M = (f.xs, 0)) := Lib.hid (by unfold rawQ; rw [if_pos ⟨hs, hm⟩, hf])
        rw [svAt_v hf, hf] at CG
        clear hs hm hf
        go_enter Tryz.func41, Tryz.ntmps41
        go_wp2_with fail
        refine C1.out.mono ?_
        rintro e1 w1 ⟨rfl, hb1⟩
        have Hb1 := Lib.hid hb1
        clear hb1
        go_wp2_with fail
        refine (C2.out _).mono ?_
        rintro e2 w2 ⟨rfl, hb2⟩
        have Hb2 := Lib.hid (Hb1.out.trans (hb2.mono Hb1.out.size))
        clear hb2
        go_wp2_with fail
        refine (CK.out _).mono ?_
        rintro e3 w3 ⟨rfl, rfl⟩
        go_wp2_with fail
        refine (CG.out _ Hb2.out).mono ?_
        rintro e4 w4 ⟨⟨A4, c4, rfl, hG4⟩, hb4⟩
        have Hb4 := Lib.hid (Hb2.out.trans (hb4.mono Hb2.out.size))
        have HG4 := Lib.hid (hG4.lower Hb2.out.size)
        have hln := hG4.bytes.1
        clear hb4 hG4
        simp only [Option.isSome]
        go_wp2
        go_ret2
        rw [HE.out]
        exact ⟨⟨A4, c4, by rw [hln]; rfl, by rw [hln]; exact HG4.out⟩, Hb4.out⟩

end Go.Proofs.YtidbipbangifbaaGreatDoor

/- The walk over rms.stored. -/
namespace Go.Proofs.YtidbipbangifbaaGreatDoor
set_option maxRecDepth 100000
open Go.RowKit

theorem rawQ_len {suite name : List UInt8} {M : Al Sv} (hx : ∀ k, (svAt M k).xs.length ≤ 1048576) : (rawQ suite name M).1.length ≤ 1048576 := by
  have h := hx (keyL suite name)
  unfold rawQ
  split
  · cases hf : afind M (keyL suite name) with
    | none => simp
    | some f =>
      rw [svAt_v hf] at h
      exact h
  · simp

set_option maxHeartbeats 1000000 in
theorem rmStored_any (s mb p c e : Nat) (M : Al Sv) (h : HeadV) (d : Bool) (suite name : List UInt8) (w : World) (hS : StoreAt w s mb p c e M h d) (hn : ∀ k, (svAt M k).n ≤ 1048576) (hx : ∀ k, (svAt M k).xs.length ≤ 1048576) (h1 : suite.length ≤ 1048576) (h2 : name.length ≤ 1048576) :
    Calls Tryz.prog 24 #[.pointer (some ⟨s, 0, none⟩), .string (strB suite), .string (strB name)] w fun e1 w' => RecOut w.heap.size (storedQ suite name M).1 (storedQ suite name M).2 e1 w' ∧ Below w.heap.size w w' := by
  have hal : Below w.heap.size w (w.alloc (.cells #[.int .u32 0, .int .u32 0, .slice none 0 0] 31)) := (Below.refl w.heap.size w).alloc (Nat.le_refl _) _
  have CR := Lib.hid (rmRaw_any s mb p c e M h d suite name _ (hS.below hal) hn h1 h2)
  have hl := rawQ_len (suite := suite) (name := name) hx
  have hQ : storedQ suite name M = if (rawQ suite name M).2 = 0 then (parseQ (rawQ suite name M).1, 8) else (none, (rawQ suite name M).2) := rfl
  obtain ⟨xs, er, hq⟩ : ∃ xs er, rawQ suite name M = (xs, er) := ⟨_, _, rfl⟩
  rw [hq] at CR hl hQ
  simp only at hl hQ
  obtain ⟨o, er2, hSQ⟩ : ∃ o er2, storedQ suite name M = (o, er2) := ⟨_, _, rfl⟩
  rw [hSQ] at hQ ⊢
  have HQ := Lib.hid hQ
  have Hal := Lib.hid hal
  have HBl : Hid (Blk (w.alloc (.cells #[.int .u32 0, .int .u32 0, .slice none 0 0] 31)) w.heap.size 31 #[.int .u32 0, .int .u32 0, .slice none 0 0]) := Lib.hid (Blk.new w _ _)
  clear hS hn hx hq hQ hSQ hal h1 h2
  go_enter Tryz.func24, Tryz.ntmps24
  go_wp2_with fail
  refine CR.out.mono ?_
  rintro e1 w1 ⟨⟨A1, c1_, rfl, hG⟩, hb1⟩
  have Hb1 := Lib.hid (Hal.out.trans (hb1.mono Hal.out.size))
  have hbl := HBl.out.of (hb1.block w.heap.size HBl.out.lt)
  have HB1 := Lib.hid hbl
  have hA := hG.isNil
  have CP := Lib.hid (rmParse_any A1 xs.length c1_ xs w1 hG.bytes hl hA)
  have r0 := hbl.cell 0
  have r1 := hbl.cell 1
  have r2 := hbl.cell 2
  have g0 := hbl.frozen 0
  have g1 := hbl.frozen 1
  have g2 := hbl.frozen 2
  have hltS := hbl.lt
  simp at r0 r1 r2
  clear hb1 hbl hG
  by_cases hz : er = 0
  · subst hz
    rw [if_pos rfl] at HQ
    obtain ⟨rfl, rfl⟩ := Prod.mk.inj HQ.out
    clear HQ
    go_wp2_with fail
    refine CP.out.mono ?_
    rintro e2 w2 ⟨hR, hb2⟩
    have Hb2 := Lib.hid (Hb1.out.trans (hb2.mono Hb1.out.size))
    have hbl := HB1.out.of (hb2.block w.heap.size HB1.out.lt)
    clear r0 r1 r2 g0 g1 g2 hltS
    have r0 := hbl.cell 0
    have r1 := hbl.cell 1
    have r2 := hbl.cell 2
    have g0 := hbl.frozen 0
    have g1 := hbl.frozen 1
    have g2 := hbl.frozen 2
    have hltS := hbl.lt
    simp at r0 r1 r2
    clear hb2 hbl
    have hw : w.heap.size + 1 ≤ w1.heap.size := HB1.out.lt
    cases hp : parseQ xs with
    | none =>
      rw [hp] at hR
      have Hp := Lib.hid hp
      clear hp
      obtain rfl : e2 = _ := hR
      simp only [Rec_]
      go_wp2
      refine bodyPost_ret (v := .tuple #[Rec_ 0 0 none 0 0, .int .i64 8]) (by simp [results, Tryz.results24, go_sem, r0, r1, r2, Rec_]) rfl ?_
      rw [Hp.out]
      exact ⟨rfl, Hb2.out.setCell (Nat.le_refl _) _ |>.setCell (Nat.le_refl _) _ |>.setCell (Nat.le_refl _) _⟩
    | some r =>
      rw [hp] at hR
      have Hp := Lib.hid hp
      clear hp
      obtain ⟨A2, n2, c2, l, rfl, hG2, hl2⟩ := hR
      have HG2 := Lib.hid hG2
      have Hl2 := Lib.hid hl2
      clear hG2 hl2
      simp only [Rec_]
      go_wp2
      have hO4 : Only (· = w.heap.size) w2 (((w2.setCell ⟨w.heap.size, 0, none⟩ (.int .u32 (r.next : Int))).setCell ⟨w.heap.size, 1, none⟩ (.int .u32 (r.version : Int))).setCell ⟨w.heap.size, 2, none⟩ (.slice A2 n2 c2)) := (((Only.refl (· = w.heap.size) w2).setCell (p := ⟨w.heap.size, 0, none⟩) (Or.inl rfl) _).setCell (p := ⟨w.heap.size, 1, none⟩) (Or.inl rfl) _).setCell (p := ⟨w.heap.size, 2, none⟩) (Or.inl rfl) _
      refine bodyPost_ret (v := .tuple #[Rec_ r.next r.version A2 n2 c2, .int .i64 0]) (by simp [results, Tryz.results24, go_sem, r0, r1, r2, Rec_]) rfl ?_
      rw [Hp.out]
      exact ⟨⟨A2, n2, c2, l, rfl, (HG2.out.only hO4 (fun q hq _ e => by have e : q = w.heap.size := e; omega)).lower (by omega), Hl2.out⟩, Hb2.out.setCell (Nat.le_refl _) _ |>.setCell (Nat.le_refl _) _ |>.setCell (Nat.le_refl _) _⟩
  · rw [if_neg hz] at HQ
    obtain ⟨rfl, rfl⟩ := Prod.mk.inj HQ.out
    clear HQ
    have hq2 : (er2 != 0) = true := by simpa using hz
    have Hz := Lib.hid hz
    clear hz
    go_wp2
    refine bodyPost_ret (v := .tuple #[Rec_ 0 0 none 0 0, .int .i64 er2]) (by simp [results, Tryz.results24, go_sem, r0, r1, r2, Rec_]) rfl ?_
    exact ⟨rfl, Hb1.out.setCell (Nat.le_refl _) _ |>.setCell (Nat.le_refl _) _ |>.setCell (Nat.le_refl _) _⟩

end Go.Proofs.YtidbipbangifbaaGreatDoor

/- The walks over cmp.Compare, the library's binary search over entries, rms.find. -/
namespace Go.Proofs.YtidbipbangifbaaGreatDoor
set_option maxRecDepth 100000
open Go.RowKit

theorem nanU_any (a : Int) (w : World) : Calls Tryz.prog 96 #[.int .u32 a] w fun e w' => e = .returned (.bool false) ∧ w = w' := by
  go_enter Tryz.func96, Tryz.ntmps96
  go_wp2
  go_ret
  exact ⟨by simp, rfl⟩
theorem compareU_any (a b : Int) (w : World) : Calls Tryz.prog 59 #[.int .u32 a, .int .u32 b] w fun e w' => e = .returned (.int .i64 (cmpV a b)) ∧ w = w' := by
  unfold cmpV
  by_cases h : a < b
  · go_enter Tryz.func59, Tryz.ntmps59
    go_wp2_with ((go_at_call 96; refine (nanU_any _ _).mono ?_; rintro e1 w1 ⟨rfl, rfl⟩))
    go_ret
    simp [h]
  · by_cases h2 : b < a
    · go_enter Tryz.func59, Tryz.ntmps59
      go_wp2_with ((go_at_call 96; refine (nanU_any _ _).mono ?_; rintro e1 w1 ⟨rfl, rfl⟩))
      go_ret
      simp [h, h2]
    · go_enter Tryz.func59, Tryz.ntmps59
      go_wp2_with ((go_at_call 96; refine (nanU_any _ _).mono ?_; rintro e1 w1 ⟨rfl, rfl⟩))
      go_ret
      simp [h, h2]
theorem find1_any (x : EntM) (p : Nat) (w : World) : Calls Tryz.prog 87 #[.agg #[.int .u32 (x.id : Int), .slice x.A x.n x.cap], .int .u32 (p : Int)] w fun e w' => e = .returned (.int .i64 (cmpV (x.id : Int) (p : Int))) ∧ Below w.heap.size w w' := by
  go_enter Tryz.func87, Tryz.ntmps87
  go_wp2_with fail
  refine (compareU_any _ _ _).mono ?_
  rintro e1 w1 ⟨rfl, rfl⟩
  go_wp2
  go_ret
  exact ⟨rfl, (Below.refl _ _).alloc (Nat.le_refl _) _⟩

/-- The IDs rise. -/
def RiseE (l : List EntM) : Prop := ∀ (i j : Nat) x y, i < j → l[i]? = some x → l[j]? = some y → x.id < y.id
def LoE (l : List EntM) (p : Nat) (a : Nat) : Prop := ∀ (q : Nat) (x : EntM), q < a → l[q]? = some x → x.id < p
def HiE (l : List EntM) (p : Nat) (b : Nat) : Prop := ∀ (q : Nat) (x : EntM), b ≤ q → l[q]? = some x → p ≤ x.id
theorem LoE.of {l : List EntM} {p : Nat} {m : Nat} {r : EntM} (hR : RiseE l) (hr : l[m]? = some r) (h : r.id < p) : LoE l p (m + 1) := fun q x hq hx => by
  rcases Nat.lt_or_ge q m with h3 | h3
  · have := hR q m _ _ h3 hx hr; omega
  · obtain rfl : q = m := by omega
    rw [hx] at hr
    obtain rfl := Option.some.inj hr
    exact h
theorem HiE.of {l : List EntM} {p : Nat} {m : Nat} {r : EntM} (hR : RiseE l) (hr : l[m]? = some r) (h : p ≤ r.id) : HiE l p m := fun q x hq hx => by
  rcases Nat.lt_or_ge m q with h3 | h3
  · have := hR m q _ _ h3 hr hx; omega
  · obtain rfl : q = m := by omega
    rw [hx] at hr
    obtain rfl := Option.some.inj hr
    exact h
def hereE (l : List EntM) (p a : Nat) : Bool := match l[a]? with | some x => x.id == p | none => false
/-- Where an ID stands, or would stand; whether it stands there. -/
def FindE (l : List EntM) (p : Nat) (e : Ending) : Prop := ∃ a : Nat, e = .returned (.tuple #[.int .i64 (a : Int), .bool (hereE l p a)]) ∧ a ≤ l.length ∧ LoE l p a ∧ HiE l p a

set_option maxHeartbeats 2000000 in
theorem bsEnt_any (A : Option Addr) (n cap : Nat) (l : List EntM) (p : Nat) (w : World) (hL : EntsAt w Empty A n cap l) (hn : n ≤ 1048576) (hR : RiseE l) :
    Calls Tryz.prog 86 #[.slice A n cap, .int .u32 (p : Int), .func (.func 87) #[] #[]] w fun e w' => FindE l p e ∧ Below w.heap.size w w' := by
  have hll := hL.row.1
  have HLl := Lib.hid hll
  have HL := Lib.hid hL
  have HR := Lib.hid hR
  clear hL hll hR
  go_enter Tryz.func86, Tryz.ntmps86
  go_wp2
  go_loopw [9, 10] (fun i j wr => ∃ a b : Nat, a ≤ b ∧ b ≤ n ∧ i = .int .i64 (a : Int) ∧ j = .int .i64 (b : Int) ∧ LoE l p a ∧ HiE l p b ∧ Below w.heap.size w wr)
    (fun i j _ => (intOf j).toNat - (intOf i).toNat)
  case atStart =>
    refine ⟨0, n, by omega, by omega, rfl, rfl, (fun q x h => absurd h (by omega)), (fun q x h hq => ?_), Below.refl _ _⟩
    have := (List.getElem?_eq_some_iff.1 hq).1
    have := HLl.out
    omega
  case round =>
    obtain ⟨a, b, hab, hbn, rfl, rfl, h1, h2, hw⟩ := hrel
    by_cases hlt : a < b
    · obtain ⟨m, hm⟩ : ∃ m : Nat, m = (a + b) / 2 := ⟨_, rfl⟩
      have hm1 : a ≤ m := by omega
      have hm2 : m < b := by omega
      have hmi : ((a : Int) + (b : Int)) / 2 = (m : Int) := by omega
      obtain ⟨bb, o, r, rfl, hr, hb, -, -, c0, c1⟩ := ent_at (HL.out.below hw) (show m < n by omega)
      have Hr := Lib.hid hr
      have Hw := Lib.hid hw
      clear hr hw hm
      by_cases hc : r.id < p
      · have hq : cmpV (r.id : Int) (p : Int) = -1 := by unfold cmpV; rw [if_pos (by omega)]
        go_wp2_with ((go_at_call 87; refine (find1_any r p _).mono ?_; rintro e1 w1 ⟨rfl, hb1⟩; rw [hq]; have Hb1 := Lib.hid hb1; clear hb1))
        go_roundw
        case rel => exact ⟨m + 1, b, by omega, hbn, by go_num, rfl, LoE.of HR.out Hr.out hc, h2, Hw.out.trans (Hb1.out.mono Hw.out.size)⟩
        case measure => simp [intOf]; omega
      · have hq : (cmpV (r.id : Int) (p : Int) < 0) = False := by unfold cmpV; rw [if_neg (by omega)]; split <;> simp
        have hqd : decide (cmpV (r.id : Int) (p : Int) < 0) = false := by simp [hq]
        clear hq
        go_wp2_with ((go_at_call 87; refine (find1_any r p _).mono ?_; rintro e1 w1 ⟨rfl, hb1⟩; have Hb1 := Lib.hid hb1; clear hb1))
        go_roundw
        case rel => exact ⟨a, m, by omega, by omega, rfl, rfl, h1, HiE.of HR.out Hr.out (by omega), Hw.out.trans (Hb1.out.mono Hw.out.size)⟩
        case measure => simp [intOf]; omega
    · obtain rfl : a = b := by omega
      have H12 : Hid (LoE l p a ∧ HiE l p a) := Lib.hid ⟨h1, h2⟩
      by_cases han : a < n
      · obtain ⟨bb, o, r, rfl, hr, hb, -, -, c0, c1⟩ := ent_at (HL.out.below hw) han
        have HE2 : Hid (hereE l p a = (cmpV (r.id : Int) (p : Int) == 0)) := Lib.hid (by
          unfold hereE
          rw [hr, Bool.eq_iff_iff]
          unfold cmpV
          simp
          split <;> (try split) <;> omega)
        have Hw := Lib.hid hw
        clear hr hw h1 h2
        go_wp2_with ((go_at_call 87; refine (find1_any r p _).mono ?_; rintro e1 w1 ⟨rfl, hb1⟩; have Hb1 := Lib.hid hb1; clear hb1))
        go_ret2
        exact ⟨⟨a, by rw [HE2.out]; rfl, by rw [HLl.out]; omega, H12.out⟩, Hw.out.trans (Hb1.out.mono Hw.out.size)⟩
      · have HE2 : Hid (hereE l p a = false) := Lib.hid (by
          unfold hereE
          rw [List.getElem?_eq_none (by have := HLl.out; omega)])
        have Hw := Lib.hid hw
        have hd : decide (a < n) = false := decide_eq_false han
        clear hw han h1 h2
        go_wp2
        go_ret2
        exact ⟨⟨a, by rw [HE2.out]; rfl, by rw [HLl.out]; omega, H12.out⟩, Hw.out⟩

theorem rmFind_any (A : Option Addr) (n cap : Nat) (l : List EntM) (p : Nat) (w : World) (hL : EntsAt w Empty A n cap l) (hn : n ≤ 1048576) (hR : RiseE l) :
    Calls Tryz.prog 51 #[.slice A n cap, .int .u32 (p : Int)] w fun e w' => FindE l p e ∧ Below w.heap.size w w' := by
  have HL := Lib.hid hL
  have HR := Lib.hid hR
  clear hL hR
  go_enter Tryz.func51, Tryz.ntmps51
  go_wp2_with fail
  refine (bsEnt_any A n cap l p _ HL.out hn HR.out).mono ?_
  rintro e1 w1 ⟨⟨q, rfl, hq⟩, hb⟩
  have Hb := Lib.hid hb
  have Hq := Lib.hid hq
  clear hb hq
  go_wp2
  go_ret2
  exact ⟨⟨q, rfl, Hq.out⟩, Hb.out⟩

/-- Of a record store that may be the IDs rise. -/
theorem rise_of {l : List EntM} {next : Nat} : ∀ {last : Nat}, mayL next last (l.map EntM.p) = true → (∀ x ∈ l, last < x.id) ∧ RiseE l := by
  induction l with
  | nil => intro last _; exact ⟨by simp, fun i j x y _ h => by simp at h⟩
  | cons a t ih =>
    intro last h
    rw [List.map_cons] at h
    unfold mayL at h
    rw [Bool.and_eq_true] at h
    have h1 := (of_decide_eq_true h.1).1
    have h1 : last < a.id := h1
    obtain ⟨h2, h3⟩ := ih h.2
    have h2 : ∀ x ∈ t, a.id < x.id := h2
    refine ⟨fun x hx => ?_, fun i j x y hij hx hy => ?_⟩
    · rcases List.mem_cons.1 hx with rfl | hx
      · exact h1
      · have := h2 x hx; omega
    · cases j with
      | zero => omega
      | succ j =>
        rw [List.getElem?_cons_succ] at hy
        cases i with
        | zero =>
          rw [List.getElem?_cons_zero] at hx
          obtain rfl := Option.some.inj hx
          exact h2 y (List.mem_of_getElem? hy)
        | succ i =>
          rw [List.getElem?_cons_succ] at hx
          exact h3 i j x y (by omega) hx hy

end Go.Proofs.YtidbipbangifbaaGreatDoor
