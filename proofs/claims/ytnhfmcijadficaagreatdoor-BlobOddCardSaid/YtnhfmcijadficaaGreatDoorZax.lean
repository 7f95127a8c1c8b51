/- The walk over blob's refusal: why changes can't be a commit. -/
import Derived.Test.YtnhfmcijadficaaGreatDoorZaw
import Derived.Test.YtnhfmcijadficaaGreatDoorZar
namespace Go.Proofs.YtnhfmcijadficaaGreatDoor
set_option maxRecDepth 100000
open Go.RowKit

theorem Chs.take_ {w : World} {S : Nat → Prop} {A : Option Addr} {n cap : Nat} {l : List Ch} (h : Chs w S A n cap l) {i : Nat} (hi : i ≤ n) : Chs w S A i cap (l.take i) :=
  ⟨by rw [List.length_take, h.1]; omega, by have := h.2.1; omega, h.2.2.1, fun h0 => by
    obtain ⟨b, o, e, hb, hS, hc⟩ := h.2.2.2.1 (by omega)
    exact ⟨b, o, e, hb, hS, fun j f hf q hq => hc j f (by rw [List.getElem?_take] at hf; split at hf; exact hf; cases hf) q hq⟩, fun f hf => h.2.2.2.2 f (List.mem_of_mem_take hf)⟩

theorem dup_no {l : List Ch} (h : ∀ i c, l[i]? = some c → (l.take i).any (keyEq c) = false) : dupB l = false := by
  unfold dupB
  rw [List.any_eq_false]
  intro i _
  cases hc : l[i]? with
  | none => simp
  | some c => simp only; rw [h i c hc]; decide
theorem dup_yes {l : List Ch} {i : Nat} {c : Ch} (hc : l[i]? = some c) (h : (l.take i).any (keyEq c) = true) : dupB l = true := by
  unfold dupB
  rw [List.any_eq_true]
  exact ⟨i, List.mem_range.2 (List.getElem?_eq_some_iff.1 hc).1, by rw [hc]; exact h⟩

set_option maxHeartbeats 2000000 in
theorem refusal_any (A : Option Addr) (n cap : Nat) (l : List Ch) (b : Nat) (w : World) (hC : Chs w Empty A n cap l) (hb : b ≤ 65536) (hn : n ≤ 1048576) :
    Calls Tryz.prog 44 #[.slice A n cap, .int .i64 (b : Int)] w fun e1 w' => e1 = .returned (.int .i64 (refuC l b)) ∧ Below w.heap.size w w' := by
  have hl := hC.1
  by_cases h0 : n = 0
  · have hr : refuC l b = 1 := by unfold refuC; rw [if_pos (by omega)]
    subst h0
    rw [hr]
    go_enter Tryz.func44, Tryz.ntmps44
    go_wp2_with fail
    go_ret
    exact ⟨rfl, Below.refl _ _⟩
  · by_cases h16 : 16 < n
    · have hr : refuC l b = 1 := by unfold refuC; rw [if_pos (by omega)]
      have hq0 : ((n : Int) == 0) = false := by rw [beq_eq_false_iff_ne]; omega
      rw [hr]
      go_enter Tryz.func44, Tryz.ntmps44
      go_wp2_with fail
      go_ret
      exact ⟨rfl, Below.refl _ _⟩
    · have hq0 : ((n : Int) == 0) = false := by rw [beq_eq_false_iff_ne]; omega
      have hcap : n ≤ cap := hC.2.1
      have hcap2 : cap ≤ 9223372036854775807 := by have := hC.2.2.1; unfold maxLen at this; omega
      have Hct := Lib.hid (contains_plain 84 (fun f => !f.may) A n cap l w hC (enters_of Tryz.func84 (by kernel_rfl) rfl) (fun f hf W hW => mayNotBe_any f W ⟨(hC.2.2.2.2 f hf).1.only (Only.of_below (S := Empty) hW) (fun _ _ h => h), (hC.2.2.2.2 f hf).2⟩))
      have HC := Lib.hid hC
      have Hl := Lib.hid hl
      clear hC hl
      cases hm : l.any (fun f => !f.may)
      · have hmay : ∀ f ∈ l, f.may = true := fun f hf => by
          rw [List.any_eq_false] at hm
          have := hm f hf
          simpa using this
        have Hfair := Lib.hid (fair_of hmay)
        have hr : refuC l b = if dupB l = true then 12 else if b / 2 < roomL l then 9 else 0 := by unfold refuC; rw [if_neg (by rw [hm, Hl.out]; simp; omega)]
        have Hr := Lib.hid hr
        rw [hm] at Hct
        clear hm hmay hr
        go_enter Tryz.func44, Tryz.ntmps44
        go_wp2_with fail
        refine Hct.out.mono ?_
        rintro e1 w1 ⟨rfl, hb1⟩
        have Hb1 := Lib.hid hb1
        clear hb1 Hct
        go_wp2_with fail
        go_loopw [21] (fun v wr => ∃ i : Nat, i ≤ n ∧ v = .int .i64 (i : Int) ∧ Hid (∀ j c, j < i → l[j]? = some c → (l.take j).any (keyEq c) = false) ∧ Hid (Below w.heap.size w wr)) (fun v _ => n - (intOf v).toNat)
        case atStart => exact ⟨0, Nat.zero_le _, rfl, Lib.hid (fun j c h _ => absurd h (by omega)), Hb1⟩
        case round =>
          obtain ⟨i, hi, rfl, HF, HB⟩ := hrel
          by_cases hlt : i < n
          · obtain ⟨bb, o, c, rfl, hbb, -, hf, hc⟩ := (HC.out.below HB.out).at_ hlt
            have c0 := hc 0 (by omega)
            have c1 := hc 1 (by omega)
            have c2 := hc 2 (by omega)
            simp [Ch.cells] at c0 c1 c2
            have Hf := Lib.hid hf
            have hal := (Below.refl wr.heap.size wr).alloc (Nat.le_refl _) (.cells #[.bool c.del, .string c.s, .slice c.A c.n c.cap] 37)
            have hbx := Blk.new wr 37 #[.bool c.del, .string c.s, .slice c.A c.n c.cap]
            have Hct := Lib.hid (contains_cap 85 ⟨wr.heap.size, 0, none⟩ (keyEq c) (some ⟨bb, o, none⟩) i cap (l.take i) _ (((HC.out.below HB.out).below hal).take_ hi) (enters_of Tryz.func85 (by kernel_rfl) rfl) (fun f hf W hW => refusal1_any f c wr.heap.size W (hbx.of (hW.block wr.heap.size (by simp)))))
            have HB1 := Lib.hid (HB.out.trans (hal.mono HB.out.size))
            clear hc hf hal hbx
            cases hd : (l.take i).any (keyEq c)
            · rw [hd] at Hct
              have HF2 : Hid (∀ j q, j < i + 1 → l[j]? = some q → (l.take j).any (keyEq q) = false) := Lib.hid (fun j q hj hq => by
                by_cases hji : j = i
                · subst hji
                  rw [Hf.out] at hq
                  cases hq
                  exact hd
                · exact HF.out j q (by omega) hq)
              clear hd
              go_wp2_with fail
              refine Hct.out.mono ?_
              rintro e2 w2 ⟨rfl, hb2⟩
              have HB2 := Lib.hid (HB1.out.trans (hb2.mono HB1.out.size))
              clear hb2
              go_wp2_with fail
              go_roundw
              case rel => exact ⟨i + 1, by omega, by simp, HF2, HB2⟩
              case measure => simp [intOf]; omega
            · have hr2 : refuC l b = 12 := by rw [Hr.out, if_pos (dup_yes Hf.out hd)]
              have Hr2 := Lib.hid hr2
              rw [hd] at Hct
              clear hd hr2
              go_wp2_with fail
              refine Hct.out.mono ?_
              rintro e2 w2 ⟨rfl, hb2⟩
              have HB2 := Lib.hid (HB1.out.trans (hb2.mono HB1.out.size))
              clear hb2
              go_wp2_with fail
              go_ret
              exact ⟨by rw [Hr2.out]; rfl, HB2.out⟩
          · have hin : i = n := by omega
            subst hin
            have hd : dupB l = false := dup_no (fun j c hc => HF.out j c (by have := (List.getElem?_eq_some_iff.1 hc).1; have := Hl.out; omega) hc)
            have hr2 : refuC l b = if b / 2 < roomL l then 9 else 0 := by rw [Hr.out, if_neg (by rw [hd]; decide)]
            have Hro := Lib.hid (roomOf_any A i cap l wr (HC.out.below HB.out) Hfair.out (by omega))
            have hle := roomL_le l Hfair.out
            rw [Hl.out] at hle
            obtain ⟨M, hM⟩ : ∃ M, M = roomL l := ⟨_, rfl⟩
            rw [← hM] at Hro hr2 hle
            clear hd hM
            by_cases hlong : b / 2 < M
            · rw [if_pos hlong] at hr2
              have Hr2 := Lib.hid hr2
              clear hr2
              go_wp2_with fail
              refine Hro.out.mono ?_
              rintro e2 w2 ⟨rfl, hb2⟩
              have HB2 := Lib.hid (HB.out.trans (hb2.mono HB.out.size))
              clear hb2
              go_wp2_with fail
              go_ret
              exact ⟨by rw [Hr2.out]; rfl, HB2.out⟩
            · rw [if_neg hlong] at hr2
              have Hr2 := Lib.hid hr2
              clear hr2
              go_wp2_with fail
              refine Hro.out.mono ?_
              rintro e2 w2 ⟨rfl, hb2⟩
              have HB2 := Lib.hid (HB.out.trans (hb2.mono HB.out.size))
              clear hb2
              go_wp2_with fail
              go_ret
              exact ⟨by rw [Hr2.out]; rfl, HB2.out⟩
      · have hr : refuC l b = 1 := by unfold refuC; rw [if_pos (Or.inr (Or.inr hm))]
        have Hr := Lib.hid hr
        rw [hm] at Hct
        clear hm hr
        go_enter Tryz.func44, Tryz.ntmps44
        go_wp2_with fail
        refine Hct.out.mono ?_
        rintro e1 w1 ⟨rfl, hb1⟩
        go_wp2_with fail
        go_ret
        exact ⟨by rw [Hr.out]; rfl, hb1⟩

end Go.Proofs.YtnhfmcijadficaaGreatDoor

/- A plan in memory; the walks over blob's limit and nextSeq. -/
namespace Go.Proofs.YtnhfmcijadficaaGreatDoor
set_option maxRecDepth 100000
open Go.RowKit

theorem Tryz.infoStep : (Tryz.prog.info? 150).map (fun i => (i.zero, i.size, i.bytes)) = some (some .nilFunc, 1, 8) := by kernel_rfl

/-- A plan as plain data. -/
structure PV where
  l : List Sc
  h : HeadV
  sts : List Stp
/-- Where its rows lie. -/
structure PP where
  A : Option Addr
  cap : Nat
  As : Option Addr
  cs : Nat
def planC (p mb : Nat) (vs vk : Value) (h : HeadV) (vst : Value) : Array Value := #[.pointer (some ⟨p, 0, none⟩), .map (some mb), vs, vk, .int .i64 h.sec, .int .i64 h.next, .int .i64 h.left, .int .u32 h.txn, vst]

structure PlanAt (w : World) (g base p mb Z : Nat) (vk : Value) (R : PP) (P : PV) : Prop where
  blk : Blk w g 109 (planC p mb (.slice R.A P.l.length R.cap) vk P.h (.slice R.As P.sts.length R.cs))
  secs : GotR Sc.cells 3 96 base w R.A P.l.length R.cap P.l
  sts : GotR (Stp.cells p Z) 1 150 base w R.As P.sts.length R.cs P.sts

theorem stp_len (p Z : Nat) (s : Stp) : (Stp.cells p Z s).length = 1 := rfl
theorem stp_one (p Z : Nat) (s : Stp) : ∀ v ∈ Stp.cells p Z s, v.oneCell' = true := by
  intro v hv
  simp only [Stp.cells, List.mem_cons, List.not_mem_nil, or_false] at hv
  subst hv
  cases s <;> rfl

section
variable {w w' : World} {g base p mb Z : Nat} {vk : Value} {R : PP} {P : PV}
theorem PlanAt.below (h : PlanAt w g base p mb Z vk R P) (b : Below w.heap.size w w') : PlanAt w' g base p mb Z vk R P :=
  ⟨h.blk.of (b.block g h.blk.lt), h.secs.below Sc.cells_len b, h.sts.below (stp_len p Z) b⟩
/-- Blocks ahead of base may turn, but for the plan's own. -/
theorem PlanAt.only {T : Nat → Prop} (h : PlanAt w g base p mb Z vk R P) (b : Only T w w') (hg : ¬ T g) (hT : ∀ i, base ≤ i → i < w.heap.size → ¬ T i) : PlanAt w' g base p mb Z vk R P :=
  ⟨b.blk h.blk hg, h.secs.only Sc.cells_len b hT, h.sts.only (stp_len p Z) b hT⟩
end

set_option maxHeartbeats 1000000 in
theorem limit_any (g p c e Z L : Nat) (cs : Array Value) (ss : List (Nat × List UInt8)) (w : World) (hb : Blk w g 109 cs) (hp : cs[0]? = some (.pointer (some ⟨p, 0, none⟩))) (hs : FS w p c e Z L ss) :
    Calls Tryz.prog 125 #[.pointer (some ⟨g, 0, none⟩)] w fun e1 w' => e1 = .returned (.int .i64 (L : Int)) ∧ Below w.heap.size w w' := by
  have c0 : w.cell? ⟨g, 0, none⟩ = some (.pointer (some ⟨p, 0, none⟩)) := (hb.cell 0).trans hp
  have hg := geo_field2 (ss.length : Int) (Z : Int) (L : Int)
  have HS := Lib.hid hs
  clear hs hb
  go_enter Tryz.func125, Tryz.ntmps125
  go_wp2_with fail
  refine HS.out.geo.mono ?_
  rintro e1 w1 ⟨rfl, hb1⟩
  go_wp2
  go_ret
  exact ⟨rfl, hb1⟩

/-- The greatest Seq of the used ones. -/
def lastQ (l : List Sc) : Int := l.foldl (fun m s => if s.st = 2 then max m s.q else m) 0
theorem lastQ_snoc (l : List Sc) (s : Sc) : lastQ (l ++ [s]) = if s.st = 2 then max (lastQ l) s.q else lastQ l := by simp [lastQ, List.foldl_append]
/-- Sectors whose numbers are numbers of 32 bits. -/
def Q32 (l : List Sc) : Prop := ∀ s ∈ l, 0 ≤ s.q ∧ s.q ≤ 4294967295
theorem foldQ_le : ∀ (l : List Sc) (m : Int), 0 ≤ m → m ≤ 4294967295 → Q32 l → 0 ≤ l.foldl (fun m s => if s.st = 2 then max m s.q else m) m ∧ l.foldl (fun m s => if s.st = 2 then max m s.q else m) m ≤ 4294967295
  | [], m, h0, h1, _ => ⟨h0, h1⟩
  | s :: l, m, h0, h1, h => by
    have hs := h s List.mem_cons_self
    have hl : Q32 l := fun q hq => h q (List.mem_cons_of_mem _ hq)
    rw [List.foldl_cons]
    split
    · exact foldQ_le l _ (by omega) (by omega) hl
    · exact foldQ_le l m h0 h1 hl
theorem lastQ_le (l : List Sc) (h : Q32 l) : 0 ≤ lastQ l ∧ lastQ l ≤ 4294967295 := foldQ_le l 0 (by decide) (by decide) h

/-- What nextSeq answers. -/
def nsV (l : List Sc) : Value := .tuple (if lastQ l = 4294967295 then #[.int .u32 0, .bool false] else #[.int .u32 (lastQ l + 1), .bool true])

set_option maxHeartbeats 2000000 in
theorem nextSeq_any (g base p mb Z : Nat) (vk : Value) (R : PP) (P : PV) (w : World) (hP : PlanAt w g base p mb Z vk R P) (hq : Q32 P.l) (hn : P.l.length ≤ 1048576) :
    Calls Tryz.prog 161 #[.pointer (some ⟨g, 0, none⟩)] w fun e1 w' => e1 = .returned (nsV P.l) ∧ Below w.heap.size w w' := by
  have c2 : w.cell? ⟨g, 2, none⟩ = some (.slice R.A P.l.length R.cap) := hP.blk.cell 2
  have hrow := hP.secs.row
  obtain ⟨l, h, sts⟩ := P
  obtain ⟨A, cap, As, cs⟩ := R
  simp only at c2 hrow hq hn ⊢
  have HR := Lib.hid hrow
  have HQ := Lib.hid hq
  obtain ⟨n, hn2⟩ : ∃ n, n = l.length := ⟨_, rfl⟩
  rw [← hn2] at c2 hn HR
  have hcap : n ≤ cap := HR.out.2.1
  have hcap2 : cap ≤ 9223372036854775807 := by have := HR.out.2.2.1; unfold maxLen at this; omega
  have Hn := Lib.hid hn2
  clear hP hrow hq hn2
  go_enter Tryz.func161, Tryz.ntmps161
  go_wp2_with fail
  go_loopw [4, 12] (fun a v wr => ∃ (i : Nat) (q : Int), i ≤ n ∧ v = .int .i64 (i : Int) ∧ a = .int .u32 q ∧ Hid (q = lastQ (l.take i)) ∧ Hid (Below w.heap.size w wr)) (fun _ v _ => n - (intOf v).toNat)
  case atStart => exact ⟨0, 0, Nat.zero_le _, rfl, rfl, Lib.hid rfl, Lib.hid (Below.refl _ _)⟩
  case round =>
    obtain ⟨i, q, hi, rfl, rfl, Hq, HB⟩ := hrel
    by_cases hlt : i < n
    · obtain ⟨b, o, s, rfl, hb, -, hf, hc⟩ := (HR.out.below HB.out).at_ hlt
      have htk := take_snoc l i s hf
      have hsn := lastQ_snoc (l.take i) s
      rw [← htk, ← Hq.out] at hsn
      have hs32 := HQ.out s (List.mem_of_getElem? hf)
      have hq32 := lastQ_le (l.take i) (fun x hx => HQ.out x (List.mem_of_mem_take hx))
      rw [← Hq.out] at hq32
      have c0 := hc 0 (by omega)
      have c1 := hc 1 (by omega)
      have c3 := hc 2 (by omega)
      simp [Sc.cells] at c0 c1 c3
      have hal := (Below.refl wr.heap.size wr).alloc (Nat.le_refl _) (.cells #[.int .i64 s.st, .int .u32 s.q, .int .i64 s.er] 96)
      have HB1 := Lib.hid (HB.out.trans (hal.mono HB.out.size))
      clear hc hf htk hal
      by_cases hu : s.st = 2
      · rw [if_pos hu] at hsn
        have Hsn := Lib.hid hsn
        have hu2 : (s.st == 2) = true := by simpa using hu
        clear hsn hu
        go_wp2_with fail
        go_roundw
        case rel => exact ⟨i + 1, max q s.q, by omega, by simp, rfl, Lib.hid Hsn.out.symm, HB1⟩
        case measure => simp [intOf]; omega
      · rw [if_neg hu] at hsn
        have Hsn := Lib.hid hsn
        have hu2 : (s.st == 2) = false := by simpa using hu
        clear hsn hu
        go_wp2_with fail
        go_roundw
        case rel => exact ⟨i + 1, q, by omega, by simp, rfl, Lib.hid Hsn.out.symm, HB1⟩
        case measure => simp [intOf]; omega
    · have hin : i = n := by omega
      subst hin
      have ht : l.take i = l := List.take_of_length_le (by have := Hn.out; omega)
      rw [ht] at Hq
      have hq32 := lastQ_le l HQ.out
      rw [← Hq.out] at hq32
      by_cases hm : q = 4294967295
      · have hm2 : (q == 4294967295) = true := by simpa using hm
        have Hm := Lib.hid hm
        clear hm
        go_wp2_with fail
        go_ret2
        exact ⟨by unfold nsV; rw [← Hq.out, if_pos Hm.out]; rfl, HB.out⟩
      · have hm2 : (q == 4294967295) = false := by simpa using hm
        have Hm := Lib.hid hm
        have h1 : q + 1 ≤ 4294967295 := by omega
        clear hm
        go_wp2_with fail
        go_ret2
        exact ⟨by unfold nsV; rw [← Hq.out, if_neg Hm.out]; rfl, HB.out⟩

end Go.Proofs.YtnhfmcijadficaaGreatDoor

/- What a plan's stores do to it: a sector's three cells, the row of steps, the head's four cells. -/
namespace Go.Proofs.YtnhfmcijadficaaGreatDoor
set_option maxRecDepth 100000
open Go.RowKit

theorem flat_set3 (l : List Sc) (i : Nat) (x : Sc) (hi : i < l.length) : (l.set i x).flatMap Sc.cells = (((l.flatMap Sc.cells).set (i * 3) (.int .i64 x.st)).set (i * 3 + 1) (.int .u32 x.q)).set (i * 3 + 2) (.int .i64 x.er) := by
  have hlen := rows_len Sc.cells_len l
  apply List.ext_getElem?
  intro j
  by_cases hj : j < l.length * 3
  · have hd : j / 3 < l.length := by omega
    have hm : j % 3 < 3 := by omega
    have hjj : j / 3 * 3 + j % 3 = j := by omega
    rw [List.getElem?_set, List.getElem?_set, List.getElem?_set, List.length_set, List.length_set, hlen]
    by_cases he : i = j / 3
    · subst he
      have h1 := rows_at Sc.cells_len (l.set (j / 3) x) (j / 3) (j % 3) x (by rw [List.getElem?_set_self hi]) hm
      rw [hjj] at h1
      rw [h1]
      have h3 : j % 3 = 0 ∨ j % 3 = 1 ∨ j % 3 = 2 := by omega
      rcases h3 with h3 | h3 | h3
      · rw [h3, if_neg (by omega), if_neg (by omega), if_pos (by omega), if_pos (by omega)]
        rfl
      · rw [h3, if_neg (by omega), if_pos (by omega), if_pos (by omega)]
        rfl
      · rw [h3, if_pos (by omega), if_pos (by omega)]
        rfl
    · obtain ⟨f, hf⟩ : ∃ f, l[j / 3]? = some f := ⟨_, List.getElem?_eq_getElem hd⟩
      have h1 := rows_at Sc.cells_len (l.set i x) (j / 3) (j % 3) f (by rw [List.getElem?_set_ne he, hf]) hm
      have h2 := rows_at Sc.cells_len l (j / 3) (j % 3) f hf hm
      rw [hjj] at h1 h2
      rw [h1, if_neg (by omega), if_neg (by omega), if_neg (by omega), h2]
  · rw [List.getElem?_eq_none (by rw [rows_len Sc.cells_len, List.length_set]; omega), List.getElem?_eq_none (by simp [hlen]; omega)]

theorem take_set3 (cur : Array Value) (n i : Nat) (a b c : Value) (hi : i < n) : (((cur.setIfInBounds (i * 3) a).setIfInBounds (i * 3 + 1) b).setIfInBounds (i * 3 + 2) c).toList.take (n * 3) = (((cur.toList.take (n * 3)).set (i * 3) a).set (i * 3 + 1) b).set (i * 3 + 2) c := by
  rw [Array.toList_setIfInBounds, Array.toList_setIfInBounds, Array.toList_setIfInBounds, List.take_set, List.take_set, List.take_set]

/-- A sector of an own row is turned. -/
theorem GotR.set3 {w : World} {base g n cap : Nat} {l : List Sc} (h : GotR Sc.cells 3 96 base w (some ⟨g, 0, none⟩) n cap l) {i : Nat} (hi : i < n) (x : Sc) :
    GotR Sc.cells 3 96 base (((w.setCell ⟨g, i * 3, none⟩ (.int .i64 x.st)).setCell ⟨g, i * 3 + 1, none⟩ (.int .u32 x.q)).setCell ⟨g, i * 3 + 2, none⟩ (.int .i64 x.er)) (some ⟨g, 0, none⟩) n cap (l.set i x) := by
  have hl := h.row.1
  rcases h.own.2 with ⟨hnil, _⟩ | ⟨g', cap', cur, hv, hbase, hb, h1, h2, h3, h4⟩
  · cases hnil
  · cases hv
    have hb2 : Blk w g 96 cur := hb
    have hb3 := ((hb2.set_ (i * 3) (.int .i64 x.st)).set_ (i * 3 + 1) (.int .u32 x.q)).set_ (i * 3 + 2) (.int .i64 x.er)
    have hown : (((w.setCell ⟨g, i * 3, none⟩ (.int .i64 x.st)).setCell ⟨g, i * 3 + 1, none⟩ (.int .u32 x.q)).setCell ⟨g, i * 3 + 2, none⟩ (.int .i64 x.er)).ownsRow base 96 3 (.slice (some ⟨g, 0, none⟩) n cap) n ((l.set i x).flatMap Sc.cells) := by
      refine ⟨by rw [rows_len Sc.cells_len, List.length_set, hl], Or.inr ⟨g, cap, _, rfl, hbase, hb3, h1, h2, by simp [h3], ?_⟩⟩
      rw [take_set3 _ _ _ _ _ _ hi, h4, flat_set3 l i x (by omega)]
    obtain ⟨A', c', he, hG⟩ := GotR.of_own Sc.cells_len hown (by rw [List.length_set, hl])
    cases he
    exact hG

/-- A row stays while one block of another type turns. -/
theorem GotR.far {α : Type} {cells : α → List Value} {k n cap base b : Nat} {t t2 : TypeId} {w w' : World} {A : Option Addr} {l : List α} {cs : Array Value} (hk : ∀ f, (cells f).length = k) (h : GotR cells k t base w A n cap l) (hB : Blk w b t2 cs) (hne : t ≠ t2) (hO : Only (· = b) w w') :
    GotR cells k t base w' A n cap l := by
  have hown : w'.ownsRow base t k (.slice A n cap) n (l.flatMap cells) := by
    refine ⟨h.own.1, ?_⟩
    rcases h.own.2 with h0 | ⟨g, cap', cur', e, hg, hb, h1, h2, h3, h4⟩
    · exact Or.inl h0
    · have hb2 : Blk w g t cur' := hb
      exact Or.inr ⟨g, cap', cur', e, hg, (hO.block g hb2.lt (hb2.ne_ hB hne)).trans hb, h1, h2, h3, h4⟩
  obtain ⟨A', c', he, hG⟩ := GotR.of_own hk hown h.row.1
  cases he
  exact hG

section
variable {w w' : World} {g base p mb Z : Nat} {vk : Value} {R : PP} {P : PV}
theorem PlanAt.gs (h : PlanAt w g base p mb Z vk R P) {i : Nat} (hi : i < P.l.length) : ∃ b cur, R.A = some ⟨b, 0, none⟩ ∧ base ≤ b ∧ Blk w b 96 cur ∧ b ≠ g ∧ ∀ s, P.l[i]? = some s → ∀ j, j < 3 → w.cell? ⟨b, i * 3 + j, none⟩ = s.cells[j]? := by
  rcases h.secs.here with he | ⟨b, cur, he, hb, hB, hsz⟩
  · have := (h.secs.isNil he).1
    omega
  · refine ⟨b, cur, he, hb, hB, fun e => (Blk.ne_ hB h.blk (by decide)) e, fun s hs j hj => ?_⟩
    obtain ⟨b2, o, he2, _, _, hc⟩ := h.secs.row.2.2.2 (by omega)
    rw [he] at he2
    cases he2
    have := hc i s hs j hj
    rw [Nat.zero_add] at this
    exact this

/-- Blocks that a plan's stores turn. -/
def PlanT (g base : Nat) : Nat → Prop := fun q => q = g ∨ base ≤ q
/-- The types of a plan's own blocks. -/
def EP (t : TypeId) : Prop := t = 109 ∨ t = 96 ∨ t = 150
/-- Blocks of all other types stay. -/
def Keep (E : TypeId → Prop) (w w' : World) : Prop := ∀ q t cs, Blk w q t cs → ¬ E t → Blk w' q t cs
theorem Keep.trans {E : TypeId → Prop} {a b c : World} (h : Keep E a b) (k : Keep E b c) : Keep E a c := fun q t cs h1 h2 => k q t cs (h q t cs h1 h2) h2
theorem Keep.mono {E F : TypeId → Prop} {a b : World} (h : Keep E a b) (k : ∀ t, E t → F t) : Keep F a b := fun q t cs h1 h2 => h q t cs h1 (fun h3 => h2 (k t h3))
theorem Keep.of_empty {E : TypeId → Prop} {a b : World} (h : Only Empty a b) : Keep E a b := fun _ _ _ h1 _ => h.blk h1 (fun h => h)
theorem Keep.of_block {E : TypeId → Prop} {a b : World} {q : Nat} {t : TypeId} {cs : Array Value} (hB : Blk a q t cs) (hE : E t) (h : Only (· = q) a b) : Keep E a b := fun _ _ _ h1 h2 =>
  h.blk h1 (fun e => Blk.ne_ h1 hB (fun e2 => h2 (e2 ▸ hE)) e)
/-- What a plan's stores do. -/
structure PO (g base : Nat) (w w' : World) : Prop where
  only : Only (PlanT g base) w w'
  keep : Keep EP w w'
theorem PO.trans {g base : Nat} {a b c : World} (h : PO g base a b) (k : PO g base b c) : PO g base a c := ⟨h.only.trans k.only, h.keep.trans k.keep⟩
theorem PO.of_empty {g base : Nat} {a b : World} (h : Only Empty a b) : PO g base a b := ⟨h.mono (fun _ _ h => h.elim), Keep.of_empty h⟩
theorem PO.of_below {g base : Nat} {a b : World} (h : Below a.heap.size a b) : PO g base a b := PO.of_empty (Only.of_below h)
theorem PO.refl (g base : Nat) (a : World) : PO g base a a := PO.of_empty (Only.refl _ _)
theorem PO.drew {g base : Nat} {a b : World} (h : PO g base a b) : PO g base a b.drew := h.trans (PO.of_empty (Only.refl _ _).drew)
theorem PO.size {g base : Nat} {a b : World} (h : PO g base a b) : a.heap.size ≤ b.heap.size := h.only.size

theorem PlanAt.set_sec (h : PlanAt w g base p mb Z vk R P) {i b : Nat} {cur : Array Value} (hi : i < P.l.length) (hA : R.A = some ⟨b, 0, none⟩) (hb : base ≤ b) (hB : Blk w b 96 cur) (x : Sc) :
    PlanAt (((w.setCell ⟨b, i * 3, none⟩ (.int .i64 x.st)).setCell ⟨b, i * 3 + 1, none⟩ (.int .u32 x.q)).setCell ⟨b, i * 3 + 2, none⟩ (.int .i64 x.er)) g base p mb Z vk R { P with l := P.l.set i x } ∧
      PO g base w (((w.setCell ⟨b, i * 3, none⟩ (.int .i64 x.st)).setCell ⟨b, i * 3 + 1, none⟩ (.int .u32 x.q)).setCell ⟨b, i * 3 + 2, none⟩ (.int .i64 x.er)) := by
  obtain ⟨A, cap, As, cs⟩ := R
  simp only at hA
  subst hA
  have hO : Only (· = b) w (((w.setCell ⟨b, i * 3, none⟩ (.int .i64 x.st)).setCell ⟨b, i * 3 + 1, none⟩ (.int .u32 x.q)).setCell ⟨b, i * 3 + 2, none⟩ (.int .i64 x.er)) :=
    (((Only.refl (· = b) w).setCell (p := ⟨b, i * 3, none⟩) (Or.inl rfl) _).setCell (p := ⟨b, i * 3 + 1, none⟩) (Or.inl rfl) _).setCell (p := ⟨b, i * 3 + 2, none⟩) (Or.inl rfl) _
  have hG := h.secs.set3 (i := i) hi x
  have e : (P.l.set i x).length = P.l.length := List.length_set
  refine ⟨⟨?_, ?_, ?_⟩, hO.mono (fun q _ hq => Or.inr (by omega)), Keep.of_block hB (Or.inr (Or.inl rfl)) hO⟩
  · have h1 := hO.blk h.blk (fun h2 => Blk.ne_ h.blk hB (by decide) h2)
    simp only [e]
    exact h1
  · simp only [e]
    exact hG
  · exact h.sts.far (stp_len p Z) hB (by decide) hO

theorem planC_head (p mb : Nat) (vs vk : Value) (h : HeadV) (vst : Value) (x : HeadV) : (((((planC p mb vs vk h vst).setIfInBounds 4 (.int .i64 x.sec)).setIfInBounds 5 (.int .i64 x.next)).setIfInBounds 6 (.int .i64 x.left)).setIfInBounds 7 (.int .u32 x.txn)) = planC p mb vs vk x vst := by
  simp [planC]
theorem PlanAt.set_head (h : PlanAt w g base p mb Z vk R P) (x : HeadV) :
    PlanAt ((((w.setCell ⟨g, 4, none⟩ (.int .i64 x.sec)).setCell ⟨g, 5, none⟩ (.int .i64 x.next)).setCell ⟨g, 6, none⟩ (.int .i64 x.left)).setCell ⟨g, 7, none⟩ (.int .u32 x.txn)) g base p mb Z vk R { P with h := x } ∧
      PO g base w ((((w.setCell ⟨g, 4, none⟩ (.int .i64 x.sec)).setCell ⟨g, 5, none⟩ (.int .i64 x.next)).setCell ⟨g, 6, none⟩ (.int .i64 x.left)).setCell ⟨g, 7, none⟩ (.int .u32 x.txn)) := by
  have hO : Only (· = g) w ((((w.setCell ⟨g, 4, none⟩ (.int .i64 x.sec)).setCell ⟨g, 5, none⟩ (.int .i64 x.next)).setCell ⟨g, 6, none⟩ (.int .i64 x.left)).setCell ⟨g, 7, none⟩ (.int .u32 x.txn)) :=
    ((((Only.refl (· = g) w).setCell (p := ⟨g, 4, none⟩) (Or.inl rfl) _).setCell (p := ⟨g, 5, none⟩) (Or.inl rfl) _).setCell (p := ⟨g, 6, none⟩) (Or.inl rfl) _).setCell (p := ⟨g, 7, none⟩) (Or.inl rfl) _
  refine ⟨⟨?_, h.secs.far Sc.cells_len h.blk (by decide) hO, h.sts.far (stp_len p Z) h.blk (by decide) hO⟩, hO.mono (fun q _ hq => Or.inl hq), Keep.of_block h.blk (Or.inl rfl) hO⟩
  have h1 := (((h.blk.set_ 4 (.int .i64 x.sec)).set_ 5 (.int .i64 x.next)).set_ 6 (.int .i64 x.left)).set_ 7 (.int .u32 x.txn)
  rw [planC_head] at h1
  exact h1

/-- One step more: the row has grown (w1), its new value is stored. -/
theorem plan_steps {w1 : World} {vst : Value} (hb : Blk w1 g 109 (planC p mb (.slice R.A P.l.length R.cap) vk P.h vst)) (hsec : GotR Sc.cells 3 96 base w1 R.A P.l.length R.cap P.l) {As : Option Addr} {cs : Nat} {sts : List Stp} (hG : GotR (Stp.cells p Z) 1 150 base w1 As sts.length cs sts) :
    PlanAt (w1.setCell ⟨g, 8, none⟩ (.slice As sts.length cs)) g base p mb Z vk { R with As := As, cs := cs } { P with sts := sts } ∧ PO g base w1 (w1.setCell ⟨g, 8, none⟩ (.slice As sts.length cs)) := by
  have hO : Only (· = g) w1 (w1.setCell ⟨g, 8, none⟩ (.slice As sts.length cs)) := (Only.refl (· = g) w1).setCell (p := ⟨g, 8, none⟩) (Or.inl rfl) _
  exact ⟨⟨hb.set_ 8 (.slice As sts.length cs), hsec.far Sc.cells_len hb (by decide) hO, hG.far (stp_len p Z) hb (by decide) hO⟩, hO.mono (fun q _ hq => Or.inl hq), Keep.of_block hb (Or.inl rfl) hO⟩
/-- A plan while its row of steps grows. -/
theorem PlanAt.grow_steps (h : PlanAt w g base p mb Z vk R P) {row : Option Nat} (hr : ∀ q, row = some q → (Value.slice R.As P.sts.length R.cs).ownBlock = some q) (hg : w.grownBy w' row) :
    Blk w' g 109 (planC p mb (.slice R.A P.l.length R.cap) vk P.h (.slice R.As P.sts.length R.cs)) ∧ GotR Sc.cells 3 96 base w' R.A P.l.length R.cap P.l := by
  rcases row with _ | q
  · have hb : Below w.heap.size w w' := ⟨hg.os, hg.tape, hg.output, hg.size, fun i hi => hg.block i hi (by simp)⟩
    exact ⟨h.blk.of (hb.block g h.blk.lt), h.secs.below Sc.cells_len hb⟩
  · have hq := hr q rfl
    have hO : Only (· = q) w w' := Only.of_grown hg (fun k e _ => by cases e; rfl)
    rcases h.sts.own.2 with ⟨hnil, _⟩ | ⟨g', cap', cur, hv, hbase, hb, _⟩
    · rw [hnil] at hq
      cases hq
    · rw [hv] at hq
      simp [Value.ownBlock] at hq
      subst hq
      have hB : Blk w g' 150 cur := hb
      exact ⟨hO.blk h.blk (fun h2 => Blk.ne_ h.blk hB (by decide) h2), h.secs.far Sc.cells_len hB (by decide) hO⟩

/-- append of one step that was just made, as an equation; what is then stored. -/
theorem PlanAt.step_run (h : PlanAt w g base p mb Z vk R P) (s : Stp) (hn : P.sts.length ≤ 1048576) (hbase : base ≤ w.heap.size) :
    ∃ As cs w2, (Builtin.append_ #[93, 93] 93 #[.slice R.As P.sts.length R.cs, .slice (some ⟨w.heap.size, 0, none⟩) 1 1]).run Tryz.prog (w.alloc (.cells #[s.v p Z] 150)) = .ok (.slice As (P.sts.length + 1) cs) w2 ∧
      PlanAt (w2.setCell ⟨g, 8, none⟩ (.slice As (P.sts.length + 1) cs)) g base p mb Z vk { R with As := As, cs := cs } { P with sts := P.sts ++ [s] } ∧ PO g base w (w2.setCell ⟨g, 8, none⟩ (.slice As (P.sts.length + 1) cs)) ∧
      w2.cell? ⟨g, 8, none⟩ = some (.slice R.As P.sts.length R.cs) ∧ w2.frozen? ⟨g, 8, none⟩ = false ∧ Blk w2 g 109 (planC p mb (.slice R.A P.l.length R.cap) vk P.h (.slice R.As P.sts.length R.cs)) := by
  have hal := (Below.refl w.heap.size w).alloc (Nat.le_refl _) (.cells #[s.v p Z] 150)
  have h1 := h.below hal
  have hrow := RowSl.lit (stp_len p Z) w Empty 150 [s] 1 [s.v p Z] (by simp [Stp.cells]) rfl (by decide) (fun h => h)
  obtain ⟨As, cs, w2, hr, hG, hgr, hro⟩ := run_append_rows (stp_len p Z) (stp_one p Z) (by decide) 93 150 _ 8 Tryz.underlying93 Tryz.infoStep (by simp [Value.cells]) (by decide) 93 base R.As P.sts.length R.cs P.sts h1.sts _ 1 1 [s] hrow (by omega) (by simp; omega)
  have h2 := h1.grow_steps (w' := w2) (row := (Value.slice R.As P.sts.length R.cs).ownBlock) (fun q h => h) hgr
  have h3 := plan_steps (R := R) (P := P) h2.1 h2.2 (As := As) (cs := cs) (sts := P.sts ++ [s]) (by rw [List.length_append]; exact hG)
  have e : (P.sts ++ [s]).length = P.sts.length + 1 := by simp
  rw [e] at h3
  refine ⟨As, cs, w2, hr, h3.1, ?_, h2.1.cell 8, h2.1.frozen 8, h2.1⟩
  have hO1 : PO g base w w2 := (PO.of_below hal).trans ⟨Only.of_grown hgr (fun k e _ => Or.inr (hro k e)), by
    rcases h1.sts.own.2 with ⟨hnil, _⟩ | ⟨g', cap', cur, hv, hbase, hb, _⟩
    · rw [hnil] at hgr
      exact Keep.of_empty (Only.of_grown hgr (fun k e _ => by cases e))
    · have hB : Blk (w.alloc (.cells #[s.v p Z] 150)) g' 150 cur := hb
      rw [hv] at hgr
      exact Keep.of_block hB (Or.inr (Or.inr rfl)) (Only.of_grown hgr (fun k e _ => by cases e; rfl))⟩
  exact hO1.trans h3.2
end

end Go.Proofs.YtnhfmcijadficaaGreatDoor
