/- Rows of rows of strings: a plan's keys by sectors; the walk over blob's keysBySector. -/
import Derived.Test.YtidbipbangifbaaGreatDoorZav
import Derived.Test.YtidbipbangifbaaGreatDoorZbb
import Derived.Test.YtidbipbangifbaaGreatDoorZbe
import Derived.OwnWalk
import Derived.Test.YtidbipbangifbaaGreatDoorZbc
import Derived.Laws.OwnMore
import Derived.Test.YtidbipbangifbaaGreatDoorZax
namespace Go.Proofs.YtidbipbangifbaaGreatDoor
set_option maxRecDepth 100000
open Go.RowKit Go.Maps

/-- One row of keys. -/
structure Kr where
  A : Option Addr
  cap : Nat
  ks : List (List UInt8)
def Kr.cells (k : Kr) : List Value := [.slice k.A k.ks.length k.cap]
theorem kr_len (k : Kr) : k.cells.length = 1 := rfl
theorem kr_one (k : Kr) : ∀ v ∈ k.cells, v.oneCell' = true := by
  intro v hv
  simp only [Kr.cells, List.mem_cons, List.not_mem_nil, or_false] at hv
  subst hv
  rfl

/-- Rows of keys of a call's own, each in a block of its own. -/
structure KeysAt (w : World) (base bi : Nat) (A : Option Addr) (cap : Nat) (K : List Kr) : Prop where
  le : base ≤ bi
  outer : GotR Kr.cells 1 53 base w A K.length cap K
  inner : ∀ (i : Nat) (k : Kr), K[i]? = some k → Strs bi w k.A k.ks.length k.cap k.ks
  apart : ∀ (i j : Nat) (a b : Kr), K[i]? = some a → K[j]? = some b → i ≠ j → a.A = none ∨ a.A ≠ b.A

section
variable {w w' : World} {base bi cap : Nat} {A : Option Addr} {K : List Kr}
theorem KeysAt.only {T : Nat → Prop} (h : KeysAt w base bi A cap K) (q : Only T w w') (hT : ∀ i, base ≤ i → i < w.heap.size → ¬ T i) : KeysAt w' base bi A cap K :=
  ⟨h.le, h.outer.only kr_len q hT, fun i k hk => (h.inner i k hk).only strC_len q (fun j h1 h2 => hT j (Nat.le_trans h.le h1) h2), h.apart⟩
theorem KeysAt.below (h : KeysAt w base bi A cap K) (q : Below w.heap.size w w') : KeysAt w' base bi A cap K := h.only (Only.of_below (S := Empty) q) (fun _ _ _ h => h)
theorem strs_addr {n c : Nat} {B : Option Addr} {l : List (List UInt8)} (h : Strs base w B n c l) : B = none ∨ ∃ g, B = some ⟨g, 0, none⟩ ∧ base ≤ g ∧ g < w.heap.size := by
  rcases h.here with h | ⟨g, cur, he, hb, hB, _⟩
  · exact Or.inl h
  · exact Or.inr ⟨g, he, hb, hB.lt⟩

theorem GotR.kept_ {α : Type} {cells : α → List Value} {k n cap base : Nat} {t : TypeId} {w w' : World} {A : Option Addr} {l : List α} {row : Option Nat} (hk : ∀ f, (cells f).length = k) (h : GotR cells k t base w A n cap l) (hg : w.grownBy w' row) (hne : (Value.slice A n cap).ownBlock = none ∨ (Value.slice A n cap).ownBlock ≠ row) :
    GotR cells k t base w' A n cap l := by
  obtain ⟨A', c', he, hG⟩ := GotR.of_own hk (h.own.kept hg hne) h.row.1
  cases he
  exact hG
theorem flat_set1 {α : Type} {cells : α → List Value} (hk : ∀ f, (cells f).length = 1) (l : List α) (i : Nat) (x : α) (v : Value) (hv : cells x = [v]) : (l.set i x).flatMap cells = (l.flatMap cells).set i v := by
  induction l generalizing i with
  | nil => rfl
  | cons a l ih =>
    obtain ⟨u, hu⟩ := List.length_eq_one_iff.1 (hk a)
    cases i with
    | zero => rw [List.set_cons_zero, List.flatMap_cons, List.flatMap_cons, hv, hu]; rfl
    | succ i => rw [List.set_cons_succ, List.flatMap_cons, List.flatMap_cons, ih, hu]; rfl
theorem GotR.set1 {α : Type} {cells : α → List Value} {t : TypeId} {w : World} {base g n cap : Nat} {l : List α} (hk : ∀ f, (cells f).length = 1) (h : GotR cells 1 t base w (some ⟨g, 0, none⟩) n cap l) (i : Nat) (x : α) (v : Value) (hv : cells x = [v]) :
    GotR cells 1 t base (w.setCell ⟨g, i, none⟩ v) (some ⟨g, 0, none⟩) n cap (l.set i x) := by
  have hl := h.row.1
  rcases h.own.2 with ⟨hnil, _⟩ | ⟨g', cap', cur, hv', hbase, hb, h1, h2, h3, h4⟩
  · cases hnil
  · cases hv'
    have hb2 : Blk w g t cur := hb
    have hb3 := hb2.set_ i v
    have hown : (w.setCell ⟨g, i, none⟩ v).ownsRow base t 1 (.slice (some ⟨g, 0, none⟩) n cap) n ((l.set i x).flatMap cells) := by
      refine ⟨by rw [rows_len hk, List.length_set, hl], Or.inr ⟨g, cap, _, rfl, hbase, hb3, h1, h2, by simp [h3], ?_⟩⟩
      rw [Array.toList_setIfInBounds, List.take_set, h4, flat_set1 hk l i x v hv]
    obtain ⟨A', c', he, hG⟩ := GotR.of_own hk hown (by rw [List.length_set, hl])
    cases he
    exact hG
theorem own_block (A : Option Addr) (n c : Nat) : (Value.slice A n c).ownBlock = A.map (·.block) := by cases A <;> rfl

theorem GotR.cell1 {α : Type} {cells : α → List Value} {t : TypeId} {w : World} {base g n cap i : Nat} {l : List α} {x : α} {v : Value} (h : GotR cells 1 t base w (some ⟨g, 0, none⟩) n cap l) (hi : l[i]? = some x) (hv : cells x = [v]) : w.cell? ⟨g, i, none⟩ = some v ∧ w.frozen? ⟨g, i, none⟩ = false ∧ g < w.heap.size := by
  have hil : i < n := by have := (List.getElem?_eq_some_iff.1 hi).1; have := h.row.1; omega
  rcases h.here with hn | ⟨g', cur, he, _, hB, _⟩
  · cases hn
  · cases he
    obtain ⟨b, o, he2, _, _, hc⟩ := h.row.2.2.2 (by omega)
    cases he2
    have h1 := hc i x hi 0 (by omega)
    rw [hv, Nat.mul_one, Nat.zero_add, Nat.add_zero] at h1
    exact ⟨h1, hB.frozen i, hB.lt⟩
theorem KeysAt.grow {w1 : World} {g i : Nat} {k : Kr} (h : KeysAt w base bi A cap K) (hA : A = some ⟨g, 0, none⟩) (hk : K[i]? = some k) (hg : w.grownBy w1 (Value.slice k.A k.ks.length k.cap).ownBlock) : GotR Kr.cells 1 53 base w1 (some ⟨g, 0, none⟩) K.length cap K := by
  subst hA
  have hki := h.inner i k hk
  exact h.outer.kept_ kr_len hg (by
    refine Or.inr fun he => ?_
    rw [own_block] at he
    rw [own_block] at he
    rcases hki.here with hn | ⟨q, cur, hq, _, hB, _⟩
    · rw [hn] at he; cases he
    · rw [hq] at he
      rcases h.outer.here with hn | ⟨q2, cur2, hq2, _, hB2, _⟩
      · cases hn
      · cases hq2
        simp at he
        subst he
        exact (Blk.ne_ hB hB2 (by decide)) rfl)

/-- One row of keys has another key, and is stored: w1 is the world behind the append, whose row grew. -/
theorem KeysAt.put {w1 : World} {g i c' : Nat} {A' : Option Addr} {k : Kr} {x : List (List UInt8)} {m : Nat} (h : KeysAt w base bi A cap K) (hA : A = some ⟨g, 0, none⟩) (hk : K[i]? = some k) (hG : Strs bi w1 A' (k.ks.length + m) c' (k.ks ++ x)) (hx : x.length = m) (hg : w.grownBy w1 (Value.slice k.A k.ks.length k.cap).ownBlock)
    (hloc : (Value.slice A' (k.ks.length + m) c').ownBlock = (Value.slice k.A k.ks.length k.cap).ownBlock ∨ ∃ q, (Value.slice A' (k.ks.length + m) c').ownBlock = some q ∧ w.heap.size ≤ q) :
    KeysAt (w1.setCell ⟨g, i, none⟩ (.slice A' (k.ks.length + m) c')) base bi A cap (K.set i ⟨A', c', k.ks ++ x⟩) := by
  have hlen : (k.ks ++ x).length = k.ks.length + m := by rw [List.length_append, hx]
  have hil : i < K.length := (List.getElem?_eq_some_iff.1 hk).1
  subst hA
  have hki := h.inner i k hk
  have hout1 : GotR Kr.cells 1 53 base w1 (some ⟨g, 0, none⟩) K.length cap K := h.outer.kept_ kr_len hg (by
    refine Or.inr fun he => ?_
    rw [own_block] at he
    rw [own_block] at he
    rcases hki.here with hn | ⟨q, cur, hq, _, hB, _⟩
    · rw [hn] at he; cases he
    · rw [hq] at he
      rcases h.outer.here with hn | ⟨q2, cur2, hq2, _, hB2, _⟩
      · cases hn
      · cases hq2
        simp at he
        subst he
        exact (Blk.ne_ hB hB2 (by decide)) rfl)
  obtain ⟨cur2, hB2⟩ : ∃ cur2, Blk w1 g 53 cur2 := by
    rcases hout1.here with hn | ⟨q2, cur2, hq2, _, hB2, _⟩
    · cases hn
    · cases hq2
      exact ⟨cur2, hB2⟩
  have hO : Only (· = g) w1 (w1.setCell ⟨g, i, none⟩ (.slice A' (k.ks.length + m) c')) := (Only.refl (· = g) w1).setCell (p := ⟨g, i, none⟩) (Or.inl rfl) _
  refine ⟨h.le, ?_, ?_, ?_⟩
  · rw [List.length_set]
    exact hout1.set1 kr_len i _ _ (by unfold Kr.cells; rw [hlen])
  · intro j q hq
    by_cases hij : i = j
    · subst hij
      rw [List.getElem?_set_self hil] at hq
      cases hq
      show Strs bi _ A' (k.ks ++ x).length c' (k.ks ++ x)
      rw [hlen]
      exact hG.far strC_len hB2 (by decide) hO
    · rw [List.getElem?_set_ne hij] at hq
      have hj := h.inner j q hq
      refine (hj.kept_ strC_len hg ?_).far strC_len hB2 (by decide) hO
      rw [own_block, own_block]
      rcases h.apart j i q k hq hk (fun e => hij e.symm) with hn | hn
      · rw [hn]; exact Or.inl rfl
      · refine Or.inr fun he => hn ?_
        rcases strs_addr hj with h1 | ⟨a, h1, _, _⟩
        · rw [h1] at he ⊢
          rcases strs_addr hki with h2 | ⟨b, h2, _, _⟩
          · rw [h2]
          · rw [h2] at he; cases he
        · rcases strs_addr hki with h2 | ⟨b, h2, _, _⟩
          · rw [h1, h2] at he; cases he
          · rw [h1, h2] at he ⊢
            simp at he
            rw [he]
  · intro a b qa qb ha hb hab
    have hnew : ∀ j q, K[j]? = some q → j ≠ i → A' = none ∨ A' ≠ q.A := fun j q hq hji => by
      rcases strs_addr hG with h1 | ⟨n1, h1, _, _⟩
      · exact Or.inl h1
      · refine Or.inr fun he => ?_
        rcases hloc with hl | ⟨q2, hl, hl2⟩
        · rw [own_block, own_block, h1] at hl
          rcases h.apart i j k q hk hq (fun e => hji e.symm) with hn | hn
          · rw [hn] at hl; cases hl
          · refine hn ?_
            rcases strs_addr hki with h2 | ⟨n2, h2, _, _⟩
            · rw [h2] at hl; cases hl
            · rw [h2] at hl
              simp at hl
              rw [h2, ← hl, ← h1, he]
        · rw [own_block, h1] at hl
          simp at hl
          rcases strs_addr (h.inner j q hq) with h2 | ⟨n2, h2, _, h3⟩
          · rw [h1, h2] at he; cases he
          · rw [h1, h2] at he
            simp at he
    by_cases hia : i = a
    · subst hia
      rw [List.getElem?_set_self hil] at ha
      rw [List.getElem?_set_ne hab] at hb
      cases ha
      exact hnew b qb hb (fun e => hab e.symm)
    · rw [List.getElem?_set_ne hia] at ha
      by_cases hib : i = b
      · subst hib
        rw [List.getElem?_set_self hil] at hb
        cases hb
        rcases hnew a qa ha (fun e => hia e.symm) with hn | hn
        · rcases strs_addr (h.inner a qa ha) with h2 | ⟨n2, h2, _, h3⟩
          · exact Or.inl h2
          · refine Or.inr ?_
            show qa.A ≠ A'
            rw [h2, hn]
            exact fun h => by cases h
        · exact Or.inr (fun e => hn e.symm)
      · rw [List.getElem?_set_ne hib] at hb
        exact h.apart a b qa qb ha hb hab
end

end Go.Proofs.YtidbipbangifbaaGreatDoor

/- The walk over blob's keysBySector. -/
namespace Go.Proofs.YtidbipbangifbaaGreatDoor
set_option maxRecDepth 100000
open Go.RowKit Go.Maps

/-- Keys by sectors. -/
def kbsL (M : Al Sv) (S : Nat) (l : List (List UInt8)) : List (List (List UInt8)) := (List.range S).map fun (j : Nat) => l.filter fun k => decide ((svAt M k).sec = (j : Int))
theorem kbsL_len (M : Al Sv) (S : Nat) (l : List (List UInt8)) : (kbsL M S l).length = S := by simp [kbsL]
theorem kbsL_snoc (M : Al Sv) (S : Nat) (l : List (List UInt8)) (x : List UInt8) (j : Nat) (ks : List (List UInt8)) (hj : (svAt M x).sec = (j : Int)) (hk : (kbsL M S l)[j]? = some ks) : kbsL M S (l ++ [x]) = (kbsL M S l).set j (ks ++ [x]) := by
  apply List.ext_getElem?
  intro i
  unfold kbsL at hk ⊢
  rw [List.getElem?_set]
  by_cases hi : i < S
  · rw [List.getElem?_map, List.getElem?_range hi]
    simp only [Option.map_some, List.length_map, List.length_range]
    rw [List.filter_append]
    by_cases hij : j = i
    · subst hij
      rw [List.getElem?_map, List.getElem?_range hi] at hk
      simp only [Option.map_some, Option.some.injEq] at hk
      rw [if_pos rfl, if_pos hi, hk]
      simp [hj]
    · rw [if_neg hij, List.getElem?_map, List.getElem?_range hi]
      simp only [Option.map_some]
      have : decide ((svAt M x).sec = (i : Int)) = false := by rw [hj]; simp; omega
      simp [this]
  · rw [List.getElem?_eq_none (by simp; omega)]
    split
    · split
      · rename_i h1 h2
        simp at h2
        omega
      · rfl
    · rw [List.getElem?_eq_none (by simp; omega)]
theorem kbsL_nil (M : Al Sv) (S : Nat) : kbsL M S [] = List.replicate S [] := by
  unfold kbsL
  apply List.ext_getElem?
  intro i
  rw [List.getElem?_map, List.getElem?_replicate]
  by_cases hi : i < S
  · rw [List.getElem?_range hi, if_pos hi]; rfl
  · rw [List.getElem?_eq_none (by simp; omega), if_neg hi]; rfl

/-- Each blob stands in one of so many sectors. -/
def SecsIn (M : Al Sv) (S : Nat) : Prop := ∀ q ∈ M, 0 ≤ q.2.sec ∧ q.2.sec < (S : Int)

theorem Tryz.infoStrs : (Tryz.prog.info? 53).map (fun i => (i.zero, i.size, i.bytes)) = some (some (.slice none 0 0), 1, 24) := by kernel_rfl
theorem keys_made (w : World) (base bi n : Nat) (A : Option Addr) (cap : Nat) (hle : base ≤ bi) (h : w.ownsRow base 53 1 (.slice A n cap) n (madeCells (Value.cells (.slice none 0 0)) (n * 1)).toList) : KeysAt w base bi A cap (List.replicate n ⟨none, 0, []⟩) ∧ (List.replicate n (⟨none, 0, []⟩ : Kr)).length = n := by
  have hlen : (List.replicate n (⟨none, 0, []⟩ : Kr)).length = n := List.length_replicate
  have hf : (madeCells (Value.cells (.slice none 0 0)) (n * 1)).toList = (List.replicate n (⟨none, 0, []⟩ : Kr)).flatMap Kr.cells := by
    rw [Nat.mul_one, show Value.cells (.slice none 0 0) = #[.slice none 0 0] from by simp [Value.cells], toList_madeCells_one]
    clear h hlen
    induction n with
    | zero => rfl
    | succ n ih => rw [List.replicate_succ, List.replicate_succ, List.flatMap_cons, ← ih]; rfl
  rw [hf] at h
  obtain ⟨A', c', he, hG⟩ := GotR.of_own kr_len h hlen
  cases he
  refine ⟨⟨hle, by rw [hlen]; exact hG, fun i k hk => ?_, fun i j a b ha hb hij => ?_⟩, hlen⟩
  · rw [List.getElem?_replicate] at hk
    split at hk
    · cases hk
      exact GotR.nil_ _ _ _ _ _
    · cases hk
  · rw [List.getElem?_replicate] at ha
    split at ha
    · cases ha
      exact Or.inl rfl
    · cases ha


theorem stand_field0 (a : Int) (v : Value) (W : World) : (Instr.field 128 (.agg #[.int .i64 a, v]) 0).run Tryz.prog W = .ok (.int .i64 a) W := by kernel_rfl
theorem stand_field1 (a : Int) (A : Option Addr) (n c : Nat) (W : World) : (Instr.field 128 (.agg #[.int .i64 a, .slice A n c]) 1).run Tryz.prog W = .ok (.slice A n c) W := by kernel_rfl
theorem keysOf_nil (M : Al Sv) : keysOf [] M = M.map (·.1) := by
  unfold keysOf
  rw [List.filter_eq_self]
  intro k _
  simp [preB]
theorem StM.look_enc {w : World} {b n : Nat} {M : Al Sv} (h : StM w b n M) (k : List UInt8) (hk : k.length ≤ maxLen) : (Instr.lookup 94 (.map (some b)) (encStr k) false).run Tryz.prog w = .ok (svAt M k).v w := by
  have h1 := h.look ⟨k.toArray⟩ (by show k.toArray.size ≤ _; simpa using hk)
  simpa [encStr] using h1

set_option maxHeartbeats 1000000 in
theorem keysBy_any (s mb p c e Z L : Nat) (M : Al Sv) (h : HeadV) (d : Bool) (ss : List (Nat × List UInt8)) (w : World) (hS : StoreAt w s mb p c e M h d) (hs : FS w p c e Z L ss) (hM : M.length ≤ 1048576) (hF : FairM M) (hsec : SecsIn M ss.length) :
    Calls Tryz.prog 108 #[.pointer (some ⟨s, 0, none⟩)] w fun e1 w' => (∃ A cap K bi, e1 = .returned (.slice A ss.length cap) ∧ KeysAt w' w.heap.size bi A cap K ∧ K.length = ss.length ∧ K.map Kr.ks = kbsL M ss.length (M.map (·.1)) ∧ bi ≤ w'.heap.size) ∧ Below w.heap.size w w' := by
  obtain ⟨i0, hi, hz0, hz1, hz2⟩ := info_parts Tryz.infoStrs
  have hz := hs.bz
  have s0 : w.cell? ⟨s, 0, none⟩ = some (.pointer (some ⟨p, 0, none⟩)) := hS.blk.cell 0
  have hg := geo_field0 (ss.length : Int) (Z : Int) (L : Int)
  have HS := Lib.hid hs
  have HK := Lib.hid hS
  have Hat : Hid (∀ x, x ∈ M.map (·.1) → x.length ≤ 64 ∧ ∃ j : Nat, (svAt M x).sec = (j : Int) ∧ j < ss.length) := Lib.hid (fun x hx => by
    obtain ⟨q, hq, rfl⟩ := List.mem_map.1 hx
    have h1 := svAt_v (afind_of_mem hS.map.sorted hq)
    have h2 := hsec q hq
    refine ⟨(hF q hq).1, q.2.sec.toNat, ?_, ?_⟩
    · show (svAt M q.1).sec = _
      rw [h1]
      omega
    · omega)
  obtain ⟨S, hSS⟩ : ∃ S, S = ss.length := ⟨_, rfl⟩
  rw [← hSS] at hg hz Hat ⊢
  have HSS := Lib.hid hSS
  have hsb : S ≤ 64 := hz.2.1
  have hib : i0.bytes * S ≤ 281474976710656 := by rw [hz2]; omega
  clear hs hS hsec hSS hz hF
  go_enter Tryz.func108, Tryz.ntmps108
  go_wp2_with fail
  refine HS.out.geo.mono ?_
  rw [← HSS.out]
  rintro e1 w1 ⟨rfl, hb1⟩
  have Hb1 := Lib.hid hb1
  clear hb1
  go_wp2_with (at_make; refine wpList_make_full _ rfl _ _ 142 rfl w.heap.size 53 i0 (.slice none 0 0) 1 Tryz.underlying142 hi hz0 hz1 _ _ _ _ S rfl rfl rfl rfl hib (by unfold maxLen; omega) Hb1.out.size ?_; intro w2 hrow2 hg2)
  have hk2 := keys_made w2 w.heap.size (w2.heap.size) S _ S (Nat.le_trans Hb1.out.size hg2.size) hrow2
  have hb2 : Below w1.heap.size w1 w2 := ⟨hg2.os, hg2.tape, hg2.output, hg2.size, fun i hi => hg2.block i hi (by simp)⟩
  have Hb2 := Lib.hid (Hb1.out.trans (hb2.mono Hb1.out.size))
  have Hrow2 := Lib.hid hrow2
  have Hkeys := Lib.hid (keys_any s mb p c e M h d ⟨#[]⟩ w2 (HK.out.below Hb2.out) hM)
  have hgo12 : w1.heap.size < w2.heap.size := by
    rcases hrow2.2 with ⟨hn, _⟩ | ⟨g', cap', cur, hv, _, hb, _⟩
    · cases hn
    · cases hv
      exact (Array.getElem?_eq_some_iff.1 hb).1
  clear hk2 hrow2 hg2 hb2
  go_wp2_with fail
  refine Hkeys.out.mono ?_
  rintro e3 w3 ⟨⟨A3, n3, cap3, rfl, hG3⟩, hb3⟩
  have Hb3 := Lib.hid (Hb2.out.trans (hb3.mono Hb2.out.size))
  have hks : keysOf (⟨#[]⟩ : ByteArray).data.toList M = M.map (·.1) := keysOf_nil M
  rw [hks] at hG3
  obtain ⟨LK, hLK⟩ : ∃ LK, LK = M.map (·.1) := ⟨_, rfl⟩
  rw [← hLK] at hG3
  have HLK := Lib.hid hLK
  obtain ⟨go, hgo⟩ : ∃ go, go = w1.heap.size := ⟨_, rfl⟩
  rw [← hgo] at Hrow2 hgo12 ⊢
  have hrow3 := hG3.out (S := fun q => q = go ∨ w3.heap.size ≤ q) (fun q h1 h2 h3 => by rcases h3 with h3 | h3 <;> omega)
  have HG3 := Lib.hid hrow3
  have hgo3 : go < w3.heap.size := by have := hb3.size; omega
  have hk3 := keys_made w3 w.heap.size w3.heap.size S (some ⟨go, 0, none⟩) S Hb3.out.size (own_only Hrow2.out (Only.of_below (S := Empty) hb3) (fun _ _ _ h => h))
  have HK3 := Lib.hid hk3.1
  have HK3l := Lib.hid hk3.2
  have HStore := Lib.hid (HK.out.below Hb3.out)
  have hsl : s < w.heap.size := HK.out.blk.lt
  have hml : mb < w.heap.size := HK.out.map.lt
  have hwgo : w.heap.size ≤ go := by rw [hgo]; exact Hb1.out.size
  have hlen3 : LK.length = n3 := hG3.row.1
  have hn3 : n3 ≤ 1048576 := by rw [← hlen3, HLK.out, List.length_map]; exact hM
  have hcap3 : n3 ≤ cap3 := hG3.row.2.1
  have hcap32 : cap3 ≤ 9223372036854775807 := by have := hG3.row.2.2.1; unfold maxLen at this; omega
  clear hks hLK hG3 hb3 hrow3 hk3 hgo Hrow2 Hkeys
  go_wp2_with fail
  go_loopw [17] (fun v wr => ∃ (i : Nat) (K : List Kr), i ≤ n3 ∧ v = .int .i64 (i : Int) ∧ Hid (KeysAt wr w.heap.size w3.heap.size (some ⟨go, 0, none⟩) S K) ∧ Hid (K.length = S ∧ K.map Kr.ks = kbsL M S (LK.take i)) ∧ Hid (Only (fun q => q = go ∨ w3.heap.size ≤ q) w3 wr)) (fun v _ => n3 - (intOf v).toNat)
  case atStart =>
    refine ⟨0, _, Nat.zero_le _, rfl, HK3, Lib.hid ⟨HK3l.out, ?_⟩, Lib.hid (Only.refl _ _)⟩
    rw [List.take_zero, kbsL_nil, List.map_replicate]
  case round =>
    obtain ⟨i, K, hi, rfl, HKK, HKs, HO⟩ := hrel
    by_cases hlt : i < n3
    · obtain ⟨b, o, x, rfl, hb, -, hx, hc⟩ := (HG3.out.only HO.out (fun _ _ h => h)).at_ hlt
      have c0 := hc 0 (by omega)
      simp only [strC, List.getElem?_cons_zero, Nat.mul_one, Nat.add_zero] at c0
      have hmem : x ∈ M.map (·.1) := by rw [← HLK.out]; exact List.mem_of_getElem? hx
      obtain ⟨hx64, j, hj, hjS⟩ := Hat.out x hmem
      have htk := take_snoc LK i x hx
      obtain ⟨k, hk⟩ : ∃ k, K[j]? = some k := ⟨_, List.getElem?_eq_getElem (by rw [HKs.out.1]; exact hjS)⟩
      have hkk : (kbsL M S (LK.take i))[j]? = some k.ks := by rw [← HKs.out.2, List.getElem?_map, hk]; rfl
      have hsn := kbsL_snoc M S (LK.take i) x j k.ks hj hkk
      rw [← htk] at hsn
      have hkl : k.ks.length ≤ 1048576 := by
        have h1 : k.ks.length ≤ (LK.take i).length := by
          unfold kbsL at hkk
          rw [List.getElem?_map, List.getElem?_range hjS] at hkk
          simp only [Option.map_some, Option.some.injEq] at hkk
          rw [← hkk]
          exact List.length_filter_le _ _
        rw [List.length_take] at h1
        omega
      have Hsn := Lib.hid hsn
      have hnT : ∀ q, q < w.heap.size → ¬ (q = go ∨ w3.heap.size ≤ q) := fun q h1 h2 => by rcases h2 with h2 | h2 <;> omega
      have hlook := (HStore.out.map.only HO.out (hnT mb hml)).look_enc x (by unfold maxLen; omega)
      have s1 : wr.cell? ⟨s, 1, none⟩ = some (.map (some mb)) := (HO.out.blk HStore.out.blk (hnT s hsl)).cell 1
      obtain ⟨f, hf⟩ : ∃ f, f = svAt M x := ⟨_, rfl⟩
      rw [← hf] at hlook hj
      obtain ⟨sec, fg, fn, fc, fx⟩ := f
      simp only at hj
      subst hj
      unfold Sv.v at hlook
      simp only at hlook
      have hfld := stand_field0 (j : Int) (.slice (adr fg) fn fc)
      obtain ⟨d0, e0, hgl⟩ := HKK.out.outer.cell1 hk rfl
      have hwrs : w3.heap.size ≤ wr.heap.size := HO.out.size
      have hal := (Below.refl wr.heap.size wr).alloc (Nat.le_refl _) (.cells #[encStr x] 9)
      have HKa := Lib.hid (HKK.out.below hal)
      have Hstr := Lib.hid (str_lit x wr)
      have Hk := Lib.hid hk
      have HKl := Lib.hid HKs.out.1
      have HO4 := Lib.hid (HO.out.trans (Only.of_below (S := fun q => q = go ∨ w3.heap.size ≤ q) hal))
      have hjS0 : (0 : Int) ≤ (j : Int) := by omega
      have hjS1 : (j : Int) < (S : Int) := by omega
      clear hx hmem htk hkk hsn hf hc hal hk
      go_wp2_with (at_builtin; refine wpList_append_strs rfl _ _ rfl w3.heap.size k.A k.ks.length k.cap k.ks rfl (HKa.out.inner j k Hk.out) _ 1 1 [x] rfl Hstr.out (fun h => by cases h) (by omega) (by simp; omega) ?_; intro A4 c4 w4 hg4 hgr4 hr4 hl4; obtain ⟨d4, e4, hgl4⟩ := (HKa.out.grow rfl Hk.out hgr4).cell1 Hk.out rfl)
      have hput := HKa.out.put rfl Hk.out hg4 rfl hgr4 (hl4.imp id (fun h => ⟨_, h, Nat.le_refl _⟩))
      have HO5 := Lib.hid ((HO4.out.trans (Only.of_grown hgr4 (fun q e _ => Or.inr (hr4 q e)))).trans ((Only.refl (fun q => q = go ∨ w3.heap.size ≤ q) w4).setCell (p := ⟨go, j, none⟩) (Or.inl (Or.inl rfl)) (.slice A4 (k.ks.length + 1) c4)))
      have Hput := Lib.hid hput
      clear hput hg4 hgr4 hr4 hl4
      go_roundw
      case rel =>
        refine ⟨i + 1, _, by omega, by simp, Hput, Lib.hid ⟨by rw [List.length_set]; exact HKl.out, ?_⟩, HO5⟩
        rw [Hsn.out, List.map_set, HKs.out.2]
      case measure => simp [intOf]; omega
    · have hin : i = n3 := by omega
      subst hin
      have ht : LK.take i = LK := List.take_of_length_le (by omega)
      rw [ht, HLK.out] at HKs
      go_wp2_with fail
      go_ret
      exact ⟨⟨_, _, K, _, rfl, HKK.out, HKs.out.1, HKs.out.2, HO.out.size⟩, Hb3.out.trans (HO.out.below (by have := Hb3.out.size; omega) (fun q h1 h2 => by rcases h2 with h2 | h2 <;> omega))⟩

end Go.Proofs.YtidbipbangifbaaGreatDoor

/- The walk over a plan's fitting. -/
namespace Go.Proofs.YtidbipbangifbaaGreatDoor
set_option maxRecDepth 100000
open Go.RowKit Go.Maps

/-- The put of a key's blob. -/
def keyCh (M : Al Sv) (k : List UInt8) : Ch := ⟨false, ⟨k.toArray⟩, adr (svAt M k).g, (svAt M k).n, (svAt M k).cap, (svAt M k).xs⟩
/-- The first keys for whose puts a head has room. -/
def fitL (M : Al Sv) (h : HeadV) : Nat → List (List UInt8) → List (List UInt8)
  | _, [] => []
  | room, k :: ks => if takesB h ((room + (keyCh M k).sz : Nat) : Int) then k :: fitL M h (room + (keyCh M k).sz) ks else []
def fit (M : Al Sv) (h : HeadV) (ks : List (List UInt8)) : List (List UInt8) := fitL M h 16 (ks.take 16)

theorem chg_len (f : Ch) : f.cells.length = 3 := rfl
theorem chg_one (f : Ch) : ∀ v ∈ f.cells, v.oneCell' = true := by
  intro v hv
  simp only [Ch.cells, List.mem_cons, List.not_mem_nil, or_false] at hv
  rcases hv with rfl | rfl | rfl <;> rfl
theorem Tryz.infoChange : (Tryz.prog.info? 103).map (fun i => (i.zero, i.size, i.bytes)) = some (some (.agg #[.bool false, .string ⟨#[]⟩, .slice none 0 0]), 3, 48) := by kernel_rfl

theorem wpList_append_chg {ops : Array Oper} {rest : List Oper} {q : Oper} {u : Act} {w : World} {S : Nat → Prop} {Q : Exit → Act → World → Prop} (hgd : q.guard = none) (s x : Operand) (hq : q.op = .call { callee := .builtin .append, args := #[s, x], argTypes := #[104, 104] })
    (base : Nat) (B : Option Addr) (m0 c0 : Nat) (zs : List Ch) (hs : u.eval s = .slice B m0 c0) (hown : GotR Ch.cells 3 103 base w B m0 c0 zs) (A : Option Addr) (m c : Nat) (l : List Ch)
    (hx : u.eval x = .slice A m c) (hB : RowSl Ch.cells 3 w S A m c l) (hn : A = none → m = 0 ∧ c = 0) (hm : m0 + m ≤ 16777216) (hbase : base ≤ w.heap.size)
    (h : ∀ A' c' w', GotR Ch.cells 3 103 base w' A' (m0 + m) c' (zs ++ l) → w.grownBy w' (Value.slice B m0 c0).ownBlock → (∀ g, (Value.slice B m0 c0).ownBlock = some g → base ≤ g) → wpList Tryz.prog ops Q rest (u.put q.dst (.slice A' (m0 + m) c')) w') : wpList Tryz.prog ops Q (q :: rest) u w :=
  wpList_append_rows chg_len chg_one (by decide) 104 103 _ 48 Tryz.underlying104 Tryz.infoChange (by simp [Value.cells]) (by decide) hgd s x hq base B m0 c0 zs hs hown A m c l hx hB hn hm hbase (fun A' c' w' h1 h2 h3 _ => h A' c' w' h1 h2 h3)

theorem fit_sz {M : Al Sv} (hF : FairM M) (k : List UInt8) (hk : k.length ≤ 64) : (keyCh M k).sz ≤ 4176 ∧ (keyCh M k).s.size ≤ 64 ∧ (keyCh M k).rN ≤ 4096 := by
  have h1 := svAt_fair hF k
  have h2 : (keyCh M k).s.size = k.length := by simp [keyCh, ByteArray.size]
  have h3 : (keyCh M k).rN = (svAt M k).n := rfl
  unfold Ch.sz
  rw [h2, h3]
  omega

set_option maxHeartbeats 2000000 in
theorem fitting_any (g base p mb Z : Nat) (vk : Value) (R : PP) (P : PV) (nM : Nat) (M : Al Sv) (A : Option Addr) (n cap : Nat) (ks : List (List UInt8)) (w : World) (hP : PlanAt w g base p mb Z vk R P) (hM : StM w mb nM M) (hF : FairM M) (hK : RowSl strC 1 w Empty A n cap ks) (hA : A = none → n = 0 ∧ cap = 0) (hk : ∀ k ∈ ks, k.length ≤ 64) :
    Calls Tryz.prog 194 #[.pointer (some ⟨g, 0, none⟩), .slice A n cap] w fun e1 w' => (∃ A' cap', e1 = .returned (.slice A' (fit M P.h ks).length cap') ∧ GotR Ch.cells 3 103 w.heap.size w' A' (fit M P.h ks).length cap' ((fit M P.h ks).map (keyCh M))) ∧ Below w.heap.size w w' := by
  have HP := Lib.hid hP
  have HM := Lib.hid hM
  have HF := Lib.hid hF
  have HK := Lib.hid hK
  have HA := Lib.hid hA
  have Hk := Lib.hid hk
  have hcap : n ≤ cap := hK.2.1
  have hcap2 : cap ≤ 9223372036854775807 := by have := hK.2.2.1; unfold maxLen at this; omega
  have hlen := hK.1
  obtain ⟨m, hm⟩ : ∃ m, m = min n 16 := ⟨_, rfl⟩
  have hmn : m ≤ n ∧ m ≤ 16 := by omega
  have e1 : min (n : Int) 16 = (m : Int) := by omega
  have e2 : max (m : Int) 0 = (m : Int) := by omega
  obtain ⟨h, hh⟩ : ∃ h, h = P.h := ⟨_, rfl⟩
  rw [← hh]
  have Hfit : Hid (fit M h ks = fitL M h 16 (ks.take m)) := Lib.hid (by
    unfold fit
    by_cases hn : n ≤ 16
    · rw [List.take_of_length_le (by omega), List.take_of_length_le (by omega)]
    · rw [show m = 16 by omega])
  have Hh := Lib.hid hh
  clear hP hM hF hK hk hA hlen hm hh
  go_enter Tryz.func194, Tryz.ntmps194
  go_wp2_with fail
  refine (roomOf_any none 0 0 [] w (Chs.nil_ _ _ _ _ (by unfold maxLen; omega)) (fun _ h => by cases h) (by omega)).mono ?_
  rintro e1 w1 ⟨rfl, hb1⟩
  have Hb1 := Lib.hid hb1
  clear hb1
  go_wp2_with fail
  go_loopw [5, 6, 17] (fun a r v wr => ∃ (i : Nat) (A' : Option Addr) (c' : Nat), i ≤ m ∧ v = .int .i64 (i : Int) ∧ a = .slice A' i c' ∧ r = .int .i64 (roomL ((ks.take i).map (keyCh M)) : Int) ∧ Hid (GotR Ch.cells 3 103 w.heap.size wr A' i c' ((ks.take i).map (keyCh M))) ∧
    Hid (fit M h ks = ks.take i ++ fitL M h (roomL ((ks.take i).map (keyCh M))) ((ks.take m).drop i)) ∧ Hid (Below w.heap.size w wr)) (fun _ _ v _ => m - (intOf v).toNat)
  case atStart => exact ⟨0, none, 0, Nat.zero_le _, rfl, rfl, by simp, Lib.hid (GotR.nil_ _ _ _ _ _), Lib.hid (by rw [Hfit.out]; simp [roomL]), Hb1⟩
  case round =>
    obtain ⟨i, A', c', hi, rfl, rfl, rfl, HG, HE, HB⟩ := hrel
    by_cases hlt : i < m
    · obtain ⟨b, o, x, rfl, hb, -, hx, hc⟩ := (HK.out.below HB.out).at_ (i := i) (by omega)
      have d0 := hc 0 (by omega)
      simp only [strC, List.getElem?_cons_zero, Nat.mul_one, Nat.add_zero] at d0
      have hx64 := Hk.out x (List.mem_of_getElem? hx)
      have htk := take_snoc ks i x hx
      have hdr : (ks.take m).drop i = x :: (ks.take m).drop (i + 1) := by
        rw [List.drop_eq_getElem_cons (by rw [List.length_take]; have := HK.out.1; omega)]
        congr 1
        rw [List.getElem_take]
        obtain ⟨h1, h2⟩ := List.getElem?_eq_some_iff.1 hx
        exact h2
      have hsum := roomL_snoc ((ks.take i).map (keyCh M)) (keyCh M x)
      rw [show (ks.take i).map (keyCh M) ++ [keyCh M x] = (ks.take (i + 1)).map (keyCh M) by rw [htk, List.map_append]; rfl] at hsum
      have hsz := fit_sz HF.out x hx64
      have hle := roomL_le ((ks.take i).map (keyCh M)) (fun f hf => by
        obtain ⟨y, hy, rfl⟩ := List.mem_map.1 hf
        exact (fit_sz HF.out y (Hk.out y (List.mem_of_mem_take hy))).2)
      rw [List.length_map, List.length_take] at hle
      have hlook := (HM.out.only (Only.of_below (S := Empty) HB.out) (fun h => h)).look_enc x (by unfold maxLen; omega)
      have Hrec : Hid (∀ W, Calls Tryz.prog 111 #[(keyCh M x).v, .int .u32 0] W fun e w' => e = .returned (recV (keyCh M x) 0) ∧ Below W.heap.size W w') := Lib.hid (fun W => chRec_any (keyCh M x) 0 W)
      have hszd : (keyCh M x).sz = (⟨x.toArray⟩ : ByteArray).size + (svAt M x).n + 16 := rfl
      have hs1 : (⟨x.toArray⟩ : ByteArray).size = x.length := by simp [ByteArray.size]
      have hfn : (svAt M x).n ≤ 4096 := svAt_fair HF.out x
      have hrow := RowSl.lit chg_len
      obtain ⟨SZ, hSZ⟩ : ∃ SZ, SZ = (keyCh M x).sz := ⟨_, rfl⟩
      rw [← hSZ] at hsum hsz hszd
      unfold keyCh Ch.v recV Ch.rk Ch.rA Ch.rN Ch.rC at Hrec
      obtain ⟨f, hf⟩ : ∃ f, f = svAt M x := ⟨_, rfl⟩
      have Hf := Lib.hid hf
      rw [← hf] at hlook Hrec hszd hfn
      obtain ⟨fsec, fg, fn, fc, fx⟩ := f
      unfold Sv.v at hlook
      simp only at hlook Hrec hszd hfn
      have hfld := stand_field1 fsec (adr fg) fn fc
      have hPB := HP.out.below HB.out
      have c1 : wr.cell? ⟨g, 1, none⟩ = some (.map (some mb)) := hPB.blk.cell 1
      have hgl := hPB.blk.lt
      obtain ⟨RM, hRM⟩ : ∃ RM, RM = roomL ((ks.take i).map (keyCh M)) := ⟨_, rfl⟩
      rw [← hRM] at HE hsum hle
      have HRM := Lib.hid hRM
      have Hsz := Lib.hid hSZ
      have Hszd := Lib.hid hszd
      have Hsum := Lib.hid hsum
      have Htk := Lib.hid htk
      have Hdr := Lib.hid hdr
      have hSZb : SZ ≤ 4176 := hsz.1
      have hRMb : RM ≤ 100000 := by omega
      rw [← hRM]
      clear hc hx htk hdr hsum hle hszd hf hPB hRM hSZ hsz hrow
      go_wp2_with fail
      have hal := (Below.refl wr.heap.size wr).alloc (Nat.le_refl _) (.cells #[.bool false, .string ⟨x.toArray⟩, .slice (adr fg) fn fc] 103)
      have hbx := Blk.new wr 103 #[.bool false, .string ⟨x.toArray⟩, .slice (adr fg) fn fc]
      refine (Hrec.out _).mono ?_
      rintro e2 w2 ⟨rfl, hb2⟩
      have hbx2 := hbx.of (hb2.block _ hbx.lt)
      have HB2 := Lib.hid (HB.out.trans ((hal.trans (hb2.mono hal.size)).mono HB.out.size))
      have HBr := Lib.hid (hal.trans (hb2.mono hal.size))
      have Hbx2 := Lib.hid hbx2
      clear hal hbx hb2 hbx2
      simp only [Bool.false_eq_true, if_false]
      have Hsize := Lib.hid (rcSize_any 1 0 0 ⟨x.toArray⟩ (adr fg) fn fc w2 (by omega) (by omega))
      rw [← Hszd.out] at Hsize
      go_wp2_with fail
      refine Hsize.out.mono ?_
      rintro e3 w3 ⟨rfl, hb3⟩
      have HB3 := Lib.hid (HB2.out.trans (hb3.mono HB2.out.size))
      have HBr3 := Lib.hid (HBr.out.trans (hb3.mono HBr.out.size))
      have HP3 := Lib.hid (HP.out.below HB3.out)
      have Hbx3 := Lib.hid (Hbx2.out.of (hb3.block _ Hbx2.out.lt))
      have q4 : w3.cell? ⟨g, 4, none⟩ = some (.int .i64 h.sec) := by rw [Hh.out]; exact HP3.out.blk.cell 4
      have q5 : w3.cell? ⟨g, 5, none⟩ = some (.int .i64 h.next) := by rw [Hh.out]; exact HP3.out.blk.cell 5
      have q6 : w3.cell? ⟨g, 6, none⟩ = some (.int .i64 h.left) := by rw [Hh.out]; exact HP3.out.blk.cell 6
      have q7 : w3.cell? ⟨g, 7, none⟩ = some (.int .u32 h.txn) := by rw [Hh.out]; exact HP3.out.blk.cell 7
      have hgl3 := HP3.out.blk.lt
      have Htk2 := Lib.hid (takes_any h ((RM : Int) + (SZ : Int)) w3)
      unfold HeadV.v at Htk2
      have Hfl : Hid (fitL M h RM ((ks.take m).drop i) = if takesB h ((RM : Int) + (SZ : Int)) then x :: fitL M h (RM + SZ) ((ks.take m).drop (i + 1)) else []) := Lib.hid (by
        rw [Hdr.out]
        show (if takesB h ((RM + (keyCh M x).sz : Nat) : Int) then x :: fitL M h (RM + (keyCh M x).sz) ((ks.take m).drop (i + 1)) else []) = _
        rw [← Hsz.out]
        congr 1)
      clear hb3 c1 d0
      go_wp2_with fail
      refine Htk2.out.mono ?_
      rintro e4 w4 ⟨rfl, hb4⟩
      have HB4 := Lib.hid (HB3.out.trans (hb4.mono HB3.out.size))
      have HBr4 := Lib.hid (HBr3.out.trans (hb4.mono HBr3.out.size))
      have hb4x := Hbx3.out.of (hb4.block _ Hbx3.out.lt)
      have k0 := hb4x.cell 0
      have k1 := hb4x.cell 1
      have k2 := hb4x.cell 2
      simp at k0 k1 k2
      have hgxl := hb4x.lt
      clear hb4 hb4x q4 q5 q6 q7 hgl3
      cases htb : takesB h ((RM : Int) + (SZ : Int))
      · have Hfl2 : Hid (fitL M h RM ((ks.take m).drop i) = []) := Lib.hid (by rw [Hfl.out, htb]; rfl)
        go_wp2_with fail
        go_ret
        have hfi : fit M h ks = ks.take i := by rw [HE.out, Hfl2.out, List.append_nil]
        have hl : (ks.take i).length = i := by rw [List.length_take]; have := HK.out.1; omega
        refine ⟨⟨A', c', ?_, ?_⟩, HB4.out⟩
        · rw [hfi, hl]
          first | done | rfl
        · rw [hfi, hl]
          exact HG.out.below chg_len HBr4.out
      · have Hfl2 : Hid (fitL M h RM ((ks.take m).drop i) = x :: fitL M h (RM + SZ) ((ks.take m).drop (i + 1))) := Lib.hid (by rw [Hfl.out, htb]; rfl)
        have Hg4 := Lib.hid (HG.out.below chg_len HBr4.out)
        have hal4 := (Below.refl w4.heap.size w4).alloc (Nat.le_refl _) (.cells #[.bool false, .string ⟨x.toArray⟩, .slice (adr fg) fn fc] 103)
        have Hg5 := Lib.hid (Hg4.out.below chg_len hal4)
        have HB5 := Lib.hid (HB4.out.trans (hal4.mono HB4.out.size))
        have Hrow5 := Lib.hid (RowSl.lit chg_len w4 Empty 103 [keyCh M x] 1 [.bool false, .string ⟨x.toArray⟩, .slice (adr fg) fn fc] (by
          simp only [List.flatMap_cons, List.flatMap_nil, List.append_nil, Ch.cells, keyCh]
          rw [← Hf.out]) rfl (by decide) (fun h => h))
        clear hal4 Hfl
        go_wp2_with (at_builtin; refine wpList_append_chg rfl _ _ rfl w.heap.size A' i c' _ rfl Hg5.out _ 1 1 [keyCh M x] rfl Hrow5.out (fun h => by cases h) (by omega) HB5.out.size ?_; intro A6 c6 w6 hg6 hgr6 hro6)
        have HG6 := Lib.hid hg6
        have HB6 := Lib.hid (below_gotR HB5.out HB5.out.size hgr6 hro6 (Nat.le_refl _))
        clear hg6 hgr6 hro6
        go_roundw
        case rel =>
          refine ⟨i + 1, A6, c6, by omega, by simp, rfl, by rw [Hsum.out]; simp, ?_, ?_, HB6⟩
          · refine Lib.hid ?_
            rw [Htk.out, List.map_append]
            exact HG6.out
          · refine Lib.hid ?_
            rw [HE.out, Hfl2.out, Hsum.out, Htk.out]
            simp
        case measure => simp [intOf]; omega
    · have hin : i = m := by omega
      subst hin
      go_wp2_with fail
      go_ret
      have hdr : (ks.take i).drop i = [] := List.drop_eq_nil_iff.2 (by rw [List.length_take]; omega)
      rw [hdr] at HE
      have hfi : fit M h ks = ks.take i := by rw [HE.out]; simp [fitL]
      have hl : (ks.take i).length = i := by rw [List.length_take]; have := HK.out.1; omega
      refine ⟨⟨A', c', ?_, ?_⟩, HB.out⟩
      · rw [hfi, hl]
        first | done | rfl
      · rw [hfi, hl]
        exact HG.out

end Go.Proofs.YtidbipbangifbaaGreatDoor

/- The walk over blob's settle. -/
namespace Go.Proofs.YtidbipbangifbaaGreatDoor
set_option maxRecDepth 100000
open Go.RowKit Go.Maps

/-- A key's sector is told anew. -/
def reSec1 (j : Int) (M : Al (Int × List UInt8)) (k : List UInt8) : Al (Int × List UInt8) := aput M k (j, ((afind M k).getD (0, [])).2)
def reSecL (j : Int) (M : Al (Int × List UInt8)) (ks : List (List UInt8)) : Al (Int × List UInt8) := ks.foldl (reSec1 j) M
/-- The sectors of all keys are told anew. -/
def reSecK : Nat → Al (Int × List UInt8) → List (List (List UInt8)) → Al (Int × List UInt8)
  | _, M, [] => M
  | j, M, ks :: K => reSecK (j + 1) (reSecL (j : Int) M ks) K
theorem reSecL_snoc (j : Int) (M : Al (Int × List UInt8)) (ks : List (List UInt8)) (k : List UInt8) : reSecL j M (ks ++ [k]) = reSec1 j (reSecL j M ks) k := by simp [reSecL, List.foldl_append]
theorem reSecK_snoc : ∀ (K : List (List (List UInt8))) (j : Nat) (M : Al (Int × List UInt8)) (ks : List (List UInt8)), reSecK j M (K ++ [ks]) = reSecL ((j + K.length : Nat) : Int) (reSecK j M K) ks
  | [], j, M, ks => rfl
  | k :: K, j, M, ks => by
    show reSecK (j + 1) _ (K ++ [ks]) = _
    rw [reSecK_snoc K (j + 1)]
    show reSecL ((j + 1 + K.length : Nat) : Int) _ ks = reSecL ((j + (K.length + 1) : Nat) : Int) _ ks
    rw [show j + 1 + K.length = j + (K.length + 1) by omega]
    rfl

theorem StM.put_len {w : World} {b n : Nat} {M : Al Sv} (h : StM w b n M) (k : List UInt8) (f : Sv) (hk : (afind M k).isSome = true) : (aput M k f).length = M.length := by
  have ht := World.ownsMap.tidy h Tryz.standKeyed
  have h1 := size_del (k := .string k) ht
  rw [has_sm, hk, del_sm] at h1
  unfold smD at h1
  rw [Maps.size_eq, Maps.size_eq, List.length_map, List.length_map] at h1
  unfold aput
  rw [ains_len]
  simpa using h1
theorem afind_isSome {α : Type} (M : Al α) (k : List UInt8) : (afind M k).isSome = M.any (fun p => p.1 == k) := by
  unfold afind
  rw [Option.isSome_map]
  induction M with
  | nil => rfl
  | cons q r ih =>
    rw [List.any_cons, List.find?_cons]
    cases q.1 == k
    · exact ih
    · rfl
theorem isSome_aput {α : Type} (M : Al α) (k k' : List UInt8) (v : α) (h : (afind M k').isSome = true) : (afind (aput M k v) k').isSome = true := by
  rw [afind_isSome, List.any_eq_true] at h ⊢
  obtain ⟨q, hq, he⟩ := h
  by_cases hk : q.1 = k
  · exact ⟨(k, v), (aput_mem M k v _).2 (Or.inl rfl), by rw [← hk]; exact he⟩
  · exact ⟨q, (aput_mem M k v q).2 (Or.inr ⟨hq, hk⟩), he⟩

/-- The plan's value, as settle takes it. -/
def planV (p mb : Nat) (vs vk : Value) (h : HeadV) (vst : Value) : Value := .agg (planC p mb vs vk h vst)

/-- A store while its keys are told anew. -/
structure Settling (wr : World) (s mb p c e base bi n : Nat) (A : Option Addr) (cap : Nat) (K : List Kr) (h : HeadV) (d : Bool) (X : Al (Int × List UInt8)) (w : World) : Prop where
  st : ∃ M, StoreAt wr s mb p c e M h d ∧ amap Sv.a M = X ∧ M.length = n ∧ FairM M ∧ ∀ k ∈ K, ∀ x ∈ k.ks, (afind M x).isSome = true
  keys : KeysAt wr base bi A cap K
  only : Only (fun q => q = s ∨ q = mb) w wr

theorem Settling.drew {wr : World} {s mb p c e base bi n : Nat} {A : Option Addr} {cap : Nat} {K : List Kr} {h : HeadV} {d : Bool} {X : Al (Int × List UInt8)} {w : World} (H : Settling wr s mb p c e base bi n A cap K h d X w) : Settling wr.drew s mb p c e base bi n A cap K h d X w := by
  obtain ⟨⟨M, hM, h1⟩, hK, hO⟩ := H
  have hD := (Only.refl Empty wr).drew
  refine ⟨⟨M, ⟨hD.blk hM.blk (fun h => h), hM.map.only hD (fun h => h), hM.bl.only hD (fun _ _ h => h.elim)⟩, h1⟩, hK.only hD (fun _ _ _ h => h), hO.drew⟩

set_option maxHeartbeats 1000000 in
theorem settle_one (s mb p c e base bi n j : Nat) (A : Option Addr) (cap : Nat) (K : List Kr) (h : HeadV) (d : Bool) (X : Al (Int × List UInt8)) (w wr : World) (x : List UInt8) (hx64 : x.length ≤ 64) (hn : n ≤ 1048576) (hin : ∃ k ∈ K, x ∈ k.ks) (hsb : s < base ∧ mb < base) (H : Settling wr s mb p c e base bi n A cap K h d X w) :
    ∃ f w2, (Instr.lookup 94 (.map (some mb)) (encStr x) false).run Tryz.prog wr = .ok (Sv.v f) wr ∧ (Instr.mapUpdate 94 (.map (some mb)) (encStr x) (Sv.v ⟨(j : Int), f.g, f.n, f.cap, f.xs⟩)).run Tryz.prog wr = .ok () w2 ∧ Settling w2 s mb p c e base bi n A cap K h d (reSec1 (j : Int) X x) w ∧
      w2.cell? ⟨s, 1, none⟩ = some (.map (some mb)) := by
  obtain ⟨⟨M, hM, hX, hlen, hfair, hall⟩, hK, hO⟩ := H
  obtain ⟨k, hk, hxk⟩ := hin
  have hxM := hall k hk x hxk
  have hlook := hM.map.look_enc x (by unfold maxLen; omega)
  have hput := hM.map.put_run (by unfold maxLen; omega) ⟨x.toArray⟩ (by show x.toArray.size ≤ _; simp; unfold maxLen; omega) ⟨(j : Int), (svAt M x).g, (svAt M x).n, (svAt M x).cap, (svAt M x).xs⟩
  obtain ⟨w2, hr, hm2, ho2⟩ := hput
  have hne := hM.ne
  have hbat := hM.bl.at_ x
  have hlen2 := hM.map.put_len x ⟨(j : Int), (svAt M x).g, (svAt M x).n, (svAt M x).cap, (svAt M x).xs⟩ hxM
  have hb2 := ho2.blk hM.blk (fun e => hne e.symm)
  refine ⟨svAt M x, w2, hlook, by simpa [encStr] using hr, ⟨⟨_, ⟨hb2, ?_, ?_⟩, ?_, by rw [hlen2, hlen], ?_, ?_⟩, hK.only ho2 (fun i h1 _ h2 => by omega), hO.trans (ho2.mono (fun _ _ h => Or.inr h))⟩, hb2.cell 1⟩
  · have := hm2.tight
    exact this
  · exact BlobsAt.put (hM.bl.only ho2 (fun i _ h => Or.inr (Or.inl h))) _ _ ⟨hbat.1.only ho2 (fun i _ h => Or.inr (Or.inl h)), hbat.2⟩
  · rw [aput_map, hX]
    unfold reSec1
    rw [← hX, afind_map]
    unfold svAt
    cases hf : afind M x with
    | none => rw [hf] at hxM; cases hxM
    | some f => rfl
  · intro q hq
    rcases (aput_mem _ _ _ q).1 hq with rfl | ⟨h1, _⟩
    · exact ⟨hx64, svAt_fair hfair x⟩
    · exact hfair q h1
  · intro k' hk' y hy
    exact isSome_aput _ _ _ _ (hall k' hk' y hy)

end Go.Proofs.YtidbipbangifbaaGreatDoor

/- The walk over blob's settle, whole. -/
namespace Go.Proofs.YtidbipbangifbaaGreatDoor
set_option maxRecDepth 100000
open Go.RowKit Go.Maps

theorem StoreAt.set_head {w : World} {s mb p c e : Nat} {M : Al Sv} {h : HeadV} {d : Bool} (k : StoreAt w s mb p c e M h d) (x : HeadV) :
    StoreAt ((((w.setCell ⟨s, 2, none⟩ (.int .i64 x.sec)).setCell ⟨s, 3, none⟩ (.int .i64 x.next)).setCell ⟨s, 4, none⟩ (.int .i64 x.left)).setCell ⟨s, 5, none⟩ (.int .u32 x.txn)) s mb p c e M x d ∧
      Only (· = s) w ((((w.setCell ⟨s, 2, none⟩ (.int .i64 x.sec)).setCell ⟨s, 3, none⟩ (.int .i64 x.next)).setCell ⟨s, 4, none⟩ (.int .i64 x.left)).setCell ⟨s, 5, none⟩ (.int .u32 x.txn)) := by
  have hO : Only (· = s) w ((((w.setCell ⟨s, 2, none⟩ (.int .i64 x.sec)).setCell ⟨s, 3, none⟩ (.int .i64 x.next)).setCell ⟨s, 4, none⟩ (.int .i64 x.left)).setCell ⟨s, 5, none⟩ (.int .u32 x.txn)) :=
    ((((Only.refl (· = s) w).setCell (p := ⟨s, 2, none⟩) (Or.inl rfl) _).setCell (p := ⟨s, 3, none⟩) (Or.inl rfl) _).setCell (p := ⟨s, 4, none⟩) (Or.inl rfl) _).setCell (p := ⟨s, 5, none⟩) (Or.inl rfl) _
  refine ⟨⟨?_, k.map.only hO k.ne, k.bl.only hO (fun i _ h => Or.inl h)⟩, hO⟩
  have h1 := (((k.blk.set_ 2 (.int .i64 x.sec)).set_ 3 (.int .i64 x.next)).set_ 4 (.int .i64 x.left)).set_ 5 (.int .u32 x.txn)
  have e : ((((storeC p mb h d).setIfInBounds 2 (.int .i64 x.sec)).setIfInBounds 3 (.int .i64 x.next)).setIfInBounds 4 (.int .i64 x.left)).setIfInBounds 5 (.int .u32 x.txn) = storeC p mb x d := by simp [storeC]
  rw [e] at h1
  exact h1

set_option maxHeartbeats 2000000 in
theorem settle_any (s mb p c e base bi : Nat) (A : Option Addr) (cap : Nat) (K : List Kr) (M : Al Sv) (h0 h : HeadV) (d : Bool) (vs vst : Value) (w : World) (hS : StoreAt w s mb p c e M h0 d) (hK : KeysAt w base bi A cap K) (hM : M.length ≤ 1048576) (hF : FairM M) (hall : ∀ k ∈ K, ∀ x ∈ k.ks, (afind M x).isSome = true)
    (hsb : s < base ∧ mb < base) (hb : base ≤ w.heap.size) (hnK : K.length ≤ 1048576) (hnk : ∀ k ∈ K, k.ks.length ≤ 1048576) :
    Calls Tryz.prog 79 #[.pointer (some ⟨s, 0, none⟩), planV p mb vs (.slice A K.length cap) h vst] w fun e1 w' => e1 = .returned (.tuple #[]) ∧ Settling w' s mb p c e base bi M.length A cap K h d (reSecK 0 (amap Sv.a M) (K.map Kr.ks)) w := by
  obtain ⟨hsec, hnext, hleft, htxn⟩ := h
  unfold planV planC
  simp only
  have HK := Lib.hid hK
  have HA := Lib.hid hall
  have HF := Lib.hid hF
  have HNk := Lib.hid hnk
  have hsl : s < w.heap.size := hS.blk.lt
  have hml : mb < w.heap.size := hS.map.lt
  have hne : mb ≠ s := hS.ne
  have q2 : w.cell? ⟨s, 2, none⟩ = some (.int .i64 h0.sec) := hS.blk.cell 2
  have q3 : w.cell? ⟨s, 3, none⟩ = some (.int .i64 h0.next) := hS.blk.cell 3
  have q4 : w.cell? ⟨s, 4, none⟩ = some (.int .i64 h0.left) := hS.blk.cell 4
  have q5 : w.cell? ⟨s, 5, none⟩ = some (.int .u32 h0.txn) := hS.blk.cell 5
  have r2 := hS.blk.frozen 2
  have r3 := hS.blk.frozen 3
  have r4 := hS.blk.frozen 4
  have r5 := hS.blk.frozen 5
  have hsh := hS.set_head ⟨hsec, hnext, hleft, htxn⟩
  have Hsh := Lib.hid hsh
  have hcapA : K.length ≤ cap := hK.outer.row.2.1
  have hcapA2 : cap ≤ 9223372036854775807 := by have := hK.outer.row.2.2.1; unfold maxLen at this; omega
  clear hS hK hall hF hnk hsh
  go_enter Tryz.func79, Tryz.ntmps79
  go_wp2_with fail
  obtain ⟨w0, hw0⟩ : ∃ w0, w0 = ((((w.setCell ⟨s, 2, none⟩ (.int .i64 hsec)).setCell ⟨s, 3, none⟩ (.int .i64 hnext)).setCell ⟨s, 4, none⟩ (.int .i64 hleft)).setCell ⟨s, 5, none⟩ (.int .u32 htxn)) := ⟨_, rfl⟩
  rw [← hw0] at Hsh ⊢
  have hal := (Below.refl w0.heap.size w0).alloc (Nat.le_refl _) (.cells #[.pointer (some ⟨p, 0, none⟩), .map (some mb), vs, .slice A K.length cap, .int .i64 hsec, .int .i64 hnext, .int .i64 hleft, .int .u32 htxn, vst] 144)
  obtain ⟨w1, hw1⟩ : ∃ w1, w1 = w0.alloc (.cells #[.pointer (some ⟨p, 0, none⟩), .map (some mb), vs, .slice A K.length cap, .int .i64 hsec, .int .i64 hnext, .int .i64 hleft, .int .u32 htxn, vst] 144) := ⟨_, rfl⟩
  rw [← hw1] at hal ⊢
  have hO1 : Only (fun q => q = s ∨ q = mb) w w1 := (Hsh.out.2.mono (T := fun q => q = s ∨ q = mb) (fun _ _ h => Or.inl h)).trans (Only.of_below (S := fun q => q = s ∨ q = mb) hal)
  have HS1 : Hid (Settling w1 s mb p c e base bi M.length A cap K ⟨hsec, hnext, hleft, htxn⟩ d (amap Sv.a M) w) := Lib.hid ⟨⟨M, Hsh.out.1.below hal, rfl, rfl, HF.out, HA.out⟩, HK.out.only hO1 (fun i h1 _ h2 => by omega), hO1⟩
  obtain ⟨X0, hX0⟩ : ∃ X0, X0 = amap Sv.a M := ⟨_, rfl⟩
  obtain ⟨nM, hnM⟩ : ∃ nM, nM = M.length := ⟨_, rfl⟩
  rw [← hX0, ← hnM] at HS1
  rw [← hnM] at hM
  have HX0 := Lib.hid hX0
  have HnM := Lib.hid hnM
  clear hw0 hw1 hal Hsh hO1 HF HA HK q2 q3 q4 q5 r2 r3 r4 r5 hX0 hnM
  go_loopw [16] (fun v wr => ∃ (i : Nat), i ≤ K.length ∧ v = .int .i64 (i : Int) ∧ Hid (Settling wr s mb p c e base bi nM A cap K ⟨hsec, hnext, hleft, htxn⟩ d (reSecK 0 X0 ((K.take i).map Kr.ks)) w)) (fun v _ => K.length - (intOf v).toNat)
  case atStart => exact ⟨0, Nat.zero_le _, rfl, HS1⟩
  case round =>
    obtain ⟨i, hi, rfl, HX⟩ := hrel
    by_cases hlt : i < K.length
    · obtain ⟨k, hk⟩ : ∃ k, K[i]? = some k := ⟨_, List.getElem?_eq_getElem hlt⟩
      obtain ⟨g, rfl⟩ : ∃ g, A = some ⟨g, 0, none⟩ := by
        rcases HX.out.keys.outer.here with hn | ⟨g, cur, he, _⟩
        · have := (HX.out.keys.outer.isNil hn).1
          omega
        · exact ⟨g, he⟩
      have Hk := Lib.hid hk
      obtain ⟨c0, -, hgl⟩ := HX.out.keys.outer.cell1 hk rfl
      have hkl := HNk.out k (List.mem_of_getElem? hk)
      have hsn := reSecK_snoc ((K.take i).map Kr.ks) 0 X0 k.ks
      have htk := take_snoc K i k hk
      have e1 : (K.take i).map Kr.ks ++ [k.ks] = (K.take (i + 1)).map Kr.ks := by rw [htk, List.map_append]; rfl
      rw [e1, List.length_map, List.length_take, Nat.min_eq_left hi, Nat.zero_add] at hsn
      have Hsn := Lib.hid hsn
      obtain ⟨Xi, hXi⟩ : ∃ Xi, Xi = reSecK 0 X0 ((K.take i).map Kr.ks) := ⟨_, rfl⟩
      rw [← hXi] at HX Hsn
      clear hk hsn htk e1 hXi
      go_wp2_with fail
      go_loopw [23] (fun v wr => ∃ (j : Nat), j ≤ k.ks.length ∧ v = .int .i64 (j : Int) ∧ Hid (Settling wr s mb p c e base bi nM (some ⟨g, 0, none⟩) cap K ⟨hsec, hnext, hleft, htxn⟩ d (reSecL (i : Int) Xi (k.ks.take j)) w)) (fun v _ => k.ks.length - (intOf v).toNat)
      case atStart => exact ⟨0, Nat.zero_le _, rfl, HX⟩
      case round =>
        obtain ⟨j, hj, rfl, HY⟩ := hrel
        by_cases hjl : j < k.ks.length
        · have hki := HY.out.keys.inner i k Hk.out
          obtain ⟨b, o, x, hkA, hb, -, hx, hc⟩ := hki.row.at_ hjl
          have d0 := hc 0 (by omega)
          simp only [strC, List.getElem?_cons_zero, Nat.mul_one, Nat.add_zero] at d0
          have htk := take_snoc k.ks j x hx
          have hsn2 := reSecL_snoc (i : Int) Xi (k.ks.take j) x
          rw [← htk] at hsn2
          have Hsn2 := Lib.hid hsn2
          have hx64 : x.length ≤ 64 := by
            obtain ⟨M2, _, _, _, hf2, ha2⟩ := HY.out.st
            have h1 := ha2 k (List.mem_of_getElem? Hk.out) x (List.mem_of_getElem? hx)
            obtain ⟨f, hf⟩ := Option.isSome_iff_exists.1 h1
            exact (hf2 _ (afind_mem hf)).1
          obtain ⟨f, w2, hlook, hput, hS2, hs2⟩ := settle_one s mb p c e base bi nM i (some ⟨g, 0, none⟩) cap K ⟨hsec, hnext, hleft, htxn⟩ d _ w wr.drew x hx64 hM ⟨k, List.mem_of_getElem? Hk.out, List.mem_of_getElem? hx⟩ hsb HY.out.drew
          obtain ⟨fsec, fg, fn, fc, fx⟩ := f
          unfold Sv.v at hlook hput
          simp only at hlook hput
          have hfld := stand_field1 fsec (adr fg) fn fc
          have hs1 : wr.drew.cell? ⟨s, 1, none⟩ = some (.map (some mb)) := by
            obtain ⟨M2, h2, _⟩ := HY.out.drew.st
            exact h2.blk.cell 1
          have HS2 := Lib.hid hS2
          rw [hkA]
          clear hki hc hx htk hsn2 hS2
          go_wp2_with fail
          go_region_held3 (fun W => W.cell? ⟨s, 1, none⟩ = some (.map (some mb))) (first | with_reducible exact hs1 | with_reducible exact hs2) ((fail))
          go_wp2_with fail
          go_roundw
          case rel => exact ⟨j + 1, by omega, by simp, Lib.hid (by rw [Hsn2.out]; exact HS2.out)⟩
          case measure => simp [intOf]; omega
        · have hjn : j = k.ks.length := by omega
          subst hjn
          rw [List.take_length, ← Hsn.out] at HY
          go_wp2_with fail
          go_roundw
          case rel => exact ⟨i + 1, by omega, by simp, HY⟩
          case measure => simp [intOf]; omega
    · have hin : i = K.length := by omega
      subst hin
      rw [List.take_length] at HX
      go_wp2_with fail
      go_end0
      refine ⟨rfl, ?_⟩
      rw [← HX0.out, ← HnM.out]
      exact HX.out

end Go.Proofs.YtidbipbangifbaaGreatDoor
