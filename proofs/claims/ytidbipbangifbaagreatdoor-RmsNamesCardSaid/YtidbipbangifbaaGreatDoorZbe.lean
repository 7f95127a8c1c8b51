/- A plan in memory; the walks over blob's limit and nextSeq. -/
import Derived.Test.YtidbipbangifbaaGreatDoorZaw
import Derived.Test.YtidbipbangifbaaGreatDoorZbd
import Derived.Test.YtidbipbangifbaaGreatDoorZaf
import Derived.Test.YtidbipbangifbaaGreatDoorZab
import Derived.Deep.RegionHeld3
import Derived.Test.YtidbipbangifbaaGreatDoorZax
namespace Go.Proofs.YtidbipbangifbaaGreatDoor
set_option maxRecDepth 100000
open Go.RowKit

theorem Tryz.infoStep : (Tryz.prog.info? 132).map (fun i => (i.zero, i.size, i.bytes)) = some (some .nilFunc, 1, 8) := by kernel_rfl

/-- A plan as plain data. -/
structure PV where
  l : List Sc
  h : HeadV
  sts : List Stp
/-- Where its rows lie. -/
structure PP where
  A : Option Addr
  cap : Nat
  As : Option Addr
  cs : Nat
def planC (p mb : Nat) (vs vk : Value) (h : HeadV) (vst : Value) : Array Value := #[.pointer (some ⟨p, 0, none⟩), .map (some mb), vs, vk, .int .i64 h.sec, .int .i64 h.next, .int .i64 h.left, .int .u32 h.txn, vst]

structure PlanAt (w : World) (g base p mb Z : Nat) (vk : Value) (R : PP) (P : PV) : Prop where
  blk : Blk w g 144 (planC p mb (.slice R.A P.l.length R.cap) vk P.h (.slice R.As P.sts.length R.cs))
  secs : GotR Sc.cells 3 81 base w R.A P.l.length R.cap P.l
  sts : GotR (Stp.cells p Z) 1 132 base w R.As P.sts.length R.cs P.sts

theorem stp_len (p Z : Nat) (s : Stp) : (Stp.cells p Z s).length = 1 := rfl
theorem stp_one (p Z : Nat) (s : Stp) : ∀ v ∈ Stp.cells p Z s, v.oneCell' = true := by
  intro v hv
  simp only [Stp.cells, List.mem_cons, List.not_mem_nil, or_false] at hv
  subst hv
  cases s <;> rfl

section
variable {w w' : World} {g base p mb Z : Nat} {vk : Value} {R : PP} {P : PV}
theorem PlanAt.below (h : PlanAt w g base p mb Z vk R P) (b : Below w.heap.size w w') : PlanAt w' g base p mb Z vk R P :=
  ⟨h.blk.of (b.block g h.blk.lt), h.secs.below Sc.cells_len b, h.sts.below (stp_len p Z) b⟩
/-- Blocks ahead of base may turn, but for the plan's own. -/
theorem PlanAt.only {T : Nat → Prop} (h : PlanAt w g base p mb Z vk R P) (b : Only T w w') (hg : ¬ T g) (hT : ∀ i, base ≤ i → i < w.heap.size → ¬ T i) : PlanAt w' g base p mb Z vk R P :=
  ⟨b.blk h.blk hg, h.secs.only Sc.cells_len b hT, h.sts.only (stp_len p Z) b hT⟩
end

set_option maxHeartbeats 1000000 in
theorem limit_any (g p c e Z L : Nat) (cs : Array Value) (ss : List (Nat × List UInt8)) (w : World) (hb : Blk w g 144 cs) (hp : cs[0]? = some (.pointer (some ⟨p, 0, none⟩))) (hs : FS w p c e Z L ss) :
    Calls Tryz.prog 133 #[.pointer (some ⟨g, 0, none⟩)] w fun e1 w' => e1 = .returned (.int .i64 (L : Int)) ∧ Below w.heap.size w w' := by
  have c0 : w.cell? ⟨g, 0, none⟩ = some (.pointer (some ⟨p, 0, none⟩)) := (hb.cell 0).trans hp
  have hg := geo_field2 (ss.length : Int) (Z : Int) (L : Int)
  have HS := Lib.hid hs
  clear hs hb
  go_enter Tryz.func133, Tryz.ntmps133
  go_wp2_with fail
  refine HS.out.geo.mono ?_
  rintro e1 w1 ⟨rfl, hb1⟩
  go_wp2
  go_ret
  exact ⟨rfl, hb1⟩

/-- The greatest Seq of the used ones. -/
def lastQ (l : List Sc) : Int := l.foldl (fun m s => if s.st = 2 then max m s.q else m) 0
theorem lastQ_snoc (l : List Sc) (s : Sc) : lastQ (l ++ [s]) = if s.st = 2 then max (lastQ l) s.q else lastQ l := by simp [lastQ, List.foldl_append]
/-- Sectors whose numbers are numbers of 32 bits. -/
def Q32 (l : List Sc) : Prop := ∀ s ∈ l, 0 ≤ s.q ∧ s.q ≤ 4294967295
theorem foldQ_le : ∀ (l : List Sc) (m : Int), 0 ≤ m → m ≤ 4294967295 → Q32 l → 0 ≤ l.foldl (fun m s => if s.st = 2 then max m s.q else m) m ∧ l.foldl (fun m s => if s.st = 2 then max m s.q else m) m ≤ 4294967295
  | [], m, h0, h1, _ => ⟨h0, h1⟩
  | s :: l, m, h0, h1, h => by
    have hs := h s List.mem_cons_self
    have hl : Q32 l := fun q hq => h q (List.mem_cons_of_mem _ hq)
    rw [List.foldl_cons]
    split
    · exact foldQ_le l _ (by omega) (by omega) hl
    · exact foldQ_le l m h0 h1 hl
theorem lastQ_le (l : List Sc) (h : Q32 l) : 0 ≤ lastQ l ∧ lastQ l ≤ 4294967295 := foldQ_le l 0 (by decide) (by decide) h

/-- What nextSeq answers. -/
def nsV (l : List Sc) : Value := .tuple (if lastQ l = 4294967295 then #[.int .u32 0, .bool false] else #[.int .u32 (lastQ l + 1), .bool true])

set_option maxHeartbeats 2000000 in
theorem nextSeq_any (g base p mb Z : Nat) (vk : Value) (R : PP) (P : PV) (w : World) (hP : PlanAt w g base p mb Z vk R P) (hq : Q32 P.l) (hn : P.l.length ≤ 1048576) :
    Calls Tryz.prog 166 #[.pointer (some ⟨g, 0, none⟩)] w fun e1 w' => e1 = .returned (nsV P.l) ∧ Below w.heap.size w w' := by
  have c2 : w.cell? ⟨g, 2, none⟩ = some (.slice R.A P.l.length R.cap) := hP.blk.cell 2
  have hrow := hP.secs.row
  obtain ⟨l, h, sts⟩ := P
  obtain ⟨A, cap, As, cs⟩ := R
  simp only at c2 hrow hq hn ⊢
  have HR := Lib.hid hrow
  have HQ := Lib.hid hq
  obtain ⟨n, hn2⟩ : ∃ n, n = l.length := ⟨_, rfl⟩
  rw [← hn2] at c2 hn HR
  have hcap : n ≤ cap := HR.out.2.1
  have hcap2 : cap ≤ 9223372036854775807 := by have := HR.out.2.2.1; unfold maxLen at this; omega
  have Hn := Lib.hid hn2
  clear hP hrow hq hn2
  go_enter Tryz.func166, Tryz.ntmps166
  go_wp2_with fail
  go_loopw [4, 12] (fun a v wr => ∃ (i : Nat) (q : Int), i ≤ n ∧ v = .int .i64 (i : Int) ∧ a = .int .u32 q ∧ Hid (q = lastQ (l.take i)) ∧ Hid (Below w.heap.size w wr)) (fun _ v _ => n - (intOf v).toNat)
  case atStart => exact ⟨0, 0, Nat.zero_le _, rfl, rfl, Lib.hid rfl, Lib.hid (Below.refl _ _)⟩
  case round =>
    obtain ⟨i, q, hi, rfl, rfl, Hq, HB⟩ := hrel
    by_cases hlt : i < n
    · obtain ⟨b, o, s, rfl, hb, -, hf, hc⟩ := (HR.out.below HB.out).at_ hlt
      have htk := take_snoc l i s hf
      have hsn := lastQ_snoc (l.take i) s
      rw [← htk, ← Hq.out] at hsn
      have hs32 := HQ.out s (List.mem_of_getElem? hf)
      have hq32 := lastQ_le (l.take i) (fun x hx => HQ.out x (List.mem_of_mem_take hx))
      rw [← Hq.out] at hq32
      have c0 := hc 0 (by omega)
      have c1 := hc 1 (by omega)
      have c3 := hc 2 (by omega)
      simp [Sc.cells] at c0 c1 c3
      have hal := (Below.refl wr.heap.size wr).alloc (Nat.le_refl _) (.cells #[.int .i64 s.st, .int .u32 s.q, .int .i64 s.er] 81)
      have HB1 := Lib.hid (HB.out.trans (hal.mono HB.out.size))
      clear hc hf htk hal
      by_cases hu : s.st = 2
      · rw [if_pos hu] at hsn
        have Hsn := Lib.hid hsn
        have hu2 : (s.st == 2) = true := by simpa using hu
        clear hsn hu
        go_wp2_with fail
        go_roundw
        case rel => exact ⟨i + 1, max q s.q, by omega, by simp, rfl, Lib.hid Hsn.out.symm, HB1⟩
        case measure => simp [intOf]; omega
      · rw [if_neg hu] at hsn
        have Hsn := Lib.hid hsn
        have hu2 : (s.st == 2) = false := by simpa using hu
        clear hsn hu
        go_wp2_with fail
        go_roundw
        case rel => exact ⟨i + 1, q, by omega, by simp, rfl, Lib.hid Hsn.out.symm, HB1⟩
        case measure => simp [intOf]; omega
    · have hin : i = n := by omega
      subst hin
      have ht : l.take i = l := List.take_of_length_le (by have := Hn.out; omega)
      rw [ht] at Hq
      have hq32 := lastQ_le l HQ.out
      rw [← Hq.out] at hq32
      by_cases hm : q = 4294967295
      · have hm2 : (q == 4294967295) = true := by simpa using hm
        have Hm := Lib.hid hm
        clear hm
        go_wp2_with fail
        go_ret2
        exact ⟨by unfold nsV; rw [← Hq.out, if_pos Hm.out]; rfl, HB.out⟩
      · have hm2 : (q == 4294967295) = false := by simpa using hm
        have Hm := Lib.hid hm
        have h1 : q + 1 ≤ 4294967295 := by omega
        clear hm
        go_wp2_with fail
        go_ret2
        exact ⟨by unfold nsV; rw [← Hq.out, if_neg Hm.out]; rfl, HB.out⟩

end Go.Proofs.YtidbipbangifbaaGreatDoor

/- What a plan's stores do to it: a sector's three cells, the row of steps, the head's four cells. -/
namespace Go.Proofs.YtidbipbangifbaaGreatDoor
set_option maxRecDepth 100000
open Go.RowKit

theorem flat_set3 (l : List Sc) (i : Nat) (x : Sc) (hi : i < l.length) : (l.set i x).flatMap Sc.cells = (((l.flatMap Sc.cells).set (i * 3) (.int .i64 x.st)).set (i * 3 + 1) (.int .u32 x.q)).set (i * 3 + 2) (.int .i64 x.er) := by
  have hlen := rows_len Sc.cells_len l
  apply List.ext_getElem?
  intro j
  by_cases hj : j < l.length * 3
  · have hd : j / 3 < l.length := by omega
    have hm : j % 3 < 3 := by omega
    have hjj : j / 3 * 3 + j % 3 = j := by omega
    rw [List.getElem?_set, List.getElem?_set, List.getElem?_set, List.length_set, List.length_set, hlen]
    by_cases he : i = j / 3
    · subst he
      have h1 := rows_at Sc.cells_len (l.set (j / 3) x) (j / 3) (j % 3) x (by rw [List.getElem?_set_self hi]) hm
      rw [hjj] at h1
      rw [h1]
      have h3 : j % 3 = 0 ∨ j % 3 = 1 ∨ j % 3 = 2 := by omega
      rcases h3 with h3 | h3 | h3
      · rw [h3, if_neg (by omega), if_neg (by omega), if_pos (by omega), if_pos (by omega)]
        rfl
      · rw [h3, if_neg (by omega), if_pos (by omega), if_pos (by omega)]
        rfl
      · rw [h3, if_pos (by omega), if_pos (by omega)]
        rfl
    · obtain ⟨f, hf⟩ : ∃ f, l[j / 3]? = some f := ⟨_, List.getElem?_eq_getElem hd⟩
      have h1 := rows_at Sc.cells_len (l.set i x) (j / 3) (j % 3) f (by rw [List.getElem?_set_ne he, hf]) hm
      have h2 := rows_at Sc.cells_len l (j / 3) (j % 3) f hf hm
      rw [hjj] at h1 h2
      rw [h1, if_neg (by omega), if_neg (by omega), if_neg (by omega), h2]
  · rw [List.getElem?_eq_none (by rw [rows_len Sc.cells_len, List.length_set]; omega), List.getElem?_eq_none (by simp [hlen]; omega)]

theorem take_set3 (cur : Array Value) (n i : Nat) (a b c : Value) (hi : i < n) : (((cur.setIfInBounds (i * 3) a).setIfInBounds (i * 3 + 1) b).setIfInBounds (i * 3 + 2) c).toList.take (n * 3) = (((cur.toList.take (n * 3)).set (i * 3) a).set (i * 3 + 1) b).set (i * 3 + 2) c := by
  rw [Array.toList_setIfInBounds, Array.toList_setIfInBounds, Array.toList_setIfInBounds, List.take_set, List.take_set, List.take_set]

/-- A sector of an own row is turned. -/
theorem GotR.set3 {w : World} {base g n cap : Nat} {l : List Sc} (h : GotR Sc.cells 3 81 base w (some ⟨g, 0, none⟩) n cap l) {i : Nat} (hi : i < n) (x : Sc) :
    GotR Sc.cells 3 81 base (((w.setCell ⟨g, i * 3, none⟩ (.int .i64 x.st)).setCell ⟨g, i * 3 + 1, none⟩ (.int .u32 x.q)).setCell ⟨g, i * 3 + 2, none⟩ (.int .i64 x.er)) (some ⟨g, 0, none⟩) n cap (l.set i x) := by
  have hl := h.row.1
  rcases h.own.2 with ⟨hnil, _⟩ | ⟨g', cap', cur, hv, hbase, hb, h1, h2, h3, h4⟩
  · cases hnil
  · cases hv
    have hb2 : Blk w g 81 cur := hb
    have hb3 := ((hb2.set_ (i * 3) (.int .i64 x.st)).set_ (i * 3 + 1) (.int .u32 x.q)).set_ (i * 3 + 2) (.int .i64 x.er)
    have hown : (((w.setCell ⟨g, i * 3, none⟩ (.int .i64 x.st)).setCell ⟨g, i * 3 + 1, none⟩ (.int .u32 x.q)).setCell ⟨g, i * 3 + 2, none⟩ (.int .i64 x.er)).ownsRow base 81 3 (.slice (some ⟨g, 0, none⟩) n cap) n ((l.set i x).flatMap Sc.cells) := by
      refine ⟨by rw [rows_len Sc.cells_len, List.length_set, hl], Or.inr ⟨g, cap, _, rfl, hbase, hb3, h1, h2, by simp [h3], ?_⟩⟩
      rw [take_set3 _ _ _ _ _ _ hi, h4, flat_set3 l i x (by omega)]
    obtain ⟨A', c', he, hG⟩ := GotR.of_own Sc.cells_len hown (by rw [List.length_set, hl])
    cases he
    exact hG

/-- A row stays while one block of another type turns. -/
theorem GotR.far {α : Type} {cells : α → List Value} {k n cap base b : Nat} {t t2 : TypeId} {w w' : World} {A : Option Addr} {l : List α} {cs : Array Value} (hk : ∀ f, (cells f).length = k) (h : GotR cells k t base w A n cap l) (hB : Blk w b t2 cs) (hne : t ≠ t2) (hO : Only (· = b) w w') :
    GotR cells k t base w' A n cap l := by
  have hown : w'.ownsRow base t k (.slice A n cap) n (l.flatMap cells) := by
    refine ⟨h.own.1, ?_⟩
    rcases h.own.2 with h0 | ⟨g, cap', cur', e, hg, hb, h1, h2, h3, h4⟩
    · exact Or.inl h0
    · have hb2 : Blk w g t cur' := hb
      exact Or.inr ⟨g, cap', cur', e, hg, (hO.block g hb2.lt (hb2.ne_ hB hne)).trans hb, h1, h2, h3, h4⟩
  obtain ⟨A', c', he, hG⟩ := GotR.of_own hk hown h.row.1
  cases he
  exact hG

section
variable {w w' : World} {g base p mb Z : Nat} {vk : Value} {R : PP} {P : PV}
theorem PlanAt.gs (h : PlanAt w g base p mb Z vk R P) {i : Nat} (hi : i < P.l.length) : ∃ b cur, R.A = some ⟨b, 0, none⟩ ∧ base ≤ b ∧ Blk w b 81 cur ∧ b ≠ g ∧ ∀ s, P.l[i]? = some s → ∀ j, j < 3 → w.cell? ⟨b, i * 3 + j, none⟩ = s.cells[j]? := by
  rcases h.secs.here with he | ⟨b, cur, he, hb, hB, hsz⟩
  · have := (h.secs.isNil he).1
    omega
  · refine ⟨b, cur, he, hb, hB, fun e => (Blk.ne_ hB h.blk (by decide)) e, fun s hs j hj => ?_⟩
    obtain ⟨b2, o, he2, _, _, hc⟩ := h.secs.row.2.2.2 (by omega)
    rw [he] at he2
    cases he2
    have := hc i s hs j hj
    rw [Nat.zero_add] at this
    exact this

/-- Blocks that a plan's stores turn. -/
def PlanT (g base : Nat) : Nat → Prop := fun q => q = g ∨ base ≤ q
/-- The types of a plan's own blocks. -/
def EP (t : TypeId) : Prop := t = 144 ∨ t = 81 ∨ t = 132
/-- What a plan's stores do. -/
structure PO (g base : Nat) (w w' : World) : Prop where
  only : Only (PlanT g base) w w'
  keep : Keep EP w w'
theorem PO.trans {g base : Nat} {a b c : World} (h : PO g base a b) (k : PO g base b c) : PO g base a c := ⟨h.only.trans k.only, h.keep.trans k.keep⟩
theorem PO.of_empty {g base : Nat} {a b : World} (h : Only Empty a b) : PO g base a b := ⟨h.mono (fun _ _ h => h.elim), Keep.of_empty h⟩
theorem PO.of_below {g base : Nat} {a b : World} (h : Below a.heap.size a b) : PO g base a b := PO.of_empty (Only.of_below h)
theorem PO.refl (g base : Nat) (a : World) : PO g base a a := PO.of_empty (Only.refl _ _)
theorem PO.drew {g base : Nat} {a b : World} (h : PO g base a b) : PO g base a b.drew := h.trans (PO.of_empty (Only.refl _ _).drew)
theorem PO.size {g base : Nat} {a b : World} (h : PO g base a b) : a.heap.size ≤ b.heap.size := h.only.size

theorem PlanAt.set_sec (h : PlanAt w g base p mb Z vk R P) {i b : Nat} {cur : Array Value} (hi : i < P.l.length) (hA : R.A = some ⟨b, 0, none⟩) (hb : base ≤ b) (hB : Blk w b 81 cur) (x : Sc) :
    PlanAt (((w.setCell ⟨b, i * 3, none⟩ (.int .i64 x.st)).setCell ⟨b, i * 3 + 1, none⟩ (.int .u32 x.q)).setCell ⟨b, i * 3 + 2, none⟩ (.int .i64 x.er)) g base p mb Z vk R { P with l := P.l.set i x } ∧
      PO g base w (((w.setCell ⟨b, i * 3, none⟩ (.int .i64 x.st)).setCell ⟨b, i * 3 + 1, none⟩ (.int .u32 x.q)).setCell ⟨b, i * 3 + 2, none⟩ (.int .i64 x.er)) := by
  obtain ⟨A, cap, As, cs⟩ := R
  simp only at hA
  subst hA
  have hO : Only (· = b) w (((w.setCell ⟨b, i * 3, none⟩ (.int .i64 x.st)).setCell ⟨b, i * 3 + 1, none⟩ (.int .u32 x.q)).setCell ⟨b, i * 3 + 2, none⟩ (.int .i64 x.er)) :=
    (((Only.refl (· = b) w).setCell (p := ⟨b, i * 3, none⟩) (Or.inl rfl) _).setCell (p := ⟨b, i * 3 + 1, none⟩) (Or.inl rfl) _).setCell (p := ⟨b, i * 3 + 2, none⟩) (Or.inl rfl) _
  have hG := h.secs.set3 (i := i) hi x
  have e : (P.l.set i x).length = P.l.length := List.length_set
  refine ⟨⟨?_, ?_, ?_⟩, hO.mono (fun q _ hq => Or.inr (by omega)), Keep.of_block hB (Or.inr (Or.inl rfl)) hO⟩
  · have h1 := hO.blk h.blk (fun h2 => Blk.ne_ h.blk hB (by decide) h2)
    simp only [e]
    exact h1
  · simp only [e]
    exact hG
  · exact h.sts.far (stp_len p Z) hB (by decide) hO

theorem planC_head (p mb : Nat) (vs vk : Value) (h : HeadV) (vst : Value) (x : HeadV) : (((((planC p mb vs vk h vst).setIfInBounds 4 (.int .i64 x.sec)).setIfInBounds 5 (.int .i64 x.next)).setIfInBounds 6 (.int .i64 x.left)).setIfInBounds 7 (.int .u32 x.txn)) = planC p mb vs vk x vst := by
  simp [planC]
theorem PlanAt.set_head (h : PlanAt w g base p mb Z vk R P) (x : HeadV) :
    PlanAt ((((w.setCell ⟨g, 4, none⟩ (.int .i64 x.sec)).setCell ⟨g, 5, none⟩ (.int .i64 x.next)).setCell ⟨g, 6, none⟩ (.int .i64 x.left)).setCell ⟨g, 7, none⟩ (.int .u32 x.txn)) g base p mb Z vk R { P with h := x } ∧
      PO g base w ((((w.setCell ⟨g, 4, none⟩ (.int .i64 x.sec)).setCell ⟨g, 5, none⟩ (.int .i64 x.next)).setCell ⟨g, 6, none⟩ (.int .i64 x.left)).setCell ⟨g, 7, none⟩ (.int .u32 x.txn)) := by
  have hO : Only (· = g) w ((((w.setCell ⟨g, 4, none⟩ (.int .i64 x.sec)).setCell ⟨g, 5, none⟩ (.int .i64 x.next)).setCell ⟨g, 6, none⟩ (.int .i64 x.left)).setCell ⟨g, 7, none⟩ (.int .u32 x.txn)) :=
    ((((Only.refl (· = g) w).setCell (p := ⟨g, 4, none⟩) (Or.inl rfl) _).setCell (p := ⟨g, 5, none⟩) (Or.inl rfl) _).setCell (p := ⟨g, 6, none⟩) (Or.inl rfl) _).setCell (p := ⟨g, 7, none⟩) (Or.inl rfl) _
  refine ⟨⟨?_, h.secs.far Sc.cells_len h.blk (by decide) hO, h.sts.far (stp_len p Z) h.blk (by decide) hO⟩, hO.mono (fun q _ hq => Or.inl hq), Keep.of_block h.blk (Or.inl rfl) hO⟩
  have h1 := (((h.blk.set_ 4 (.int .i64 x.sec)).set_ 5 (.int .i64 x.next)).set_ 6 (.int .i64 x.left)).set_ 7 (.int .u32 x.txn)
  rw [planC_head] at h1
  exact h1

/-- One step more: the row has grown (w1), its new value is stored. -/
theorem plan_steps {w1 : World} {vst : Value} (hb : Blk w1 g 144 (planC p mb (.slice R.A P.l.length R.cap) vk P.h vst)) (hsec : GotR Sc.cells 3 81 base w1 R.A P.l.length R.cap P.l) {As : Option Addr} {cs : Nat} {sts : List Stp} (hG : GotR (Stp.cells p Z) 1 132 base w1 As sts.length cs sts) :
    PlanAt (w1.setCell ⟨g, 8, none⟩ (.slice As sts.length cs)) g base p mb Z vk { R with As := As, cs := cs } { P with sts := sts } ∧ PO g base w1 (w1.setCell ⟨g, 8, none⟩ (.slice As sts.length cs)) := by
  have hO : Only (· = g) w1 (w1.setCell ⟨g, 8, none⟩ (.slice As sts.length cs)) := (Only.refl (· = g) w1).setCell (p := ⟨g, 8, none⟩) (Or.inl rfl) _
  exact ⟨⟨hb.set_ 8 (.slice As sts.length cs), hsec.far Sc.cells_len hb (by decide) hO, hG.far (stp_len p Z) hb (by decide) hO⟩, hO.mono (fun q _ hq => Or.inl hq), Keep.of_block hb (Or.inl rfl) hO⟩
/-- A plan while its row of steps grows. -/
theorem PlanAt.grow_steps (h : PlanAt w g base p mb Z vk R P) {row : Option Nat} (hr : ∀ q, row = some q → (Value.slice R.As P.sts.length R.cs).ownBlock = some q) (hg : w.grownBy w' row) :
    Blk w' g 144 (planC p mb (.slice R.A P.l.length R.cap) vk P.h (.slice R.As P.sts.length R.cs)) ∧ GotR Sc.cells 3 81 base w' R.A P.l.length R.cap P.l := by
  rcases row with _ | q
  · have hb : Below w.heap.size w w' := ⟨hg.os, hg.tape, hg.output, hg.size, fun i hi => hg.block i hi (by simp)⟩
    exact ⟨h.blk.of (hb.block g h.blk.lt), h.secs.below Sc.cells_len hb⟩
  · have hq := hr q rfl
    have hO : Only (· = q) w w' := Only.of_grown hg (fun k e _ => by cases e; rfl)
    rcases h.sts.own.2 with ⟨hnil, _⟩ | ⟨g', cap', cur, hv, hbase, hb, _⟩
    · rw [hnil] at hq
      cases hq
    · rw [hv] at hq
      simp [Value.ownBlock] at hq
      subst hq
      have hB : Blk w g' 132 cur := hb
      exact ⟨hO.blk h.blk (fun h2 => Blk.ne_ h.blk hB (by decide) h2), h.secs.far Sc.cells_len hB (by decide) hO⟩

/-- append of one step that was just made, as an equation; what is then stored. -/
theorem PlanAt.step_run (h : PlanAt w g base p mb Z vk R P) (s : Stp) (hn : P.sts.length ≤ 1048576) (hbase : base ≤ w.heap.size) :
    ∃ As cs w2, (Builtin.append_ #[78, 78] 78 #[.slice R.As P.sts.length R.cs, .slice (some ⟨w.heap.size, 0, none⟩) 1 1]).run Tryz.prog (w.alloc (.cells #[s.v p Z] 132)) = .ok (.slice As (P.sts.length + 1) cs) w2 ∧
      PlanAt (w2.setCell ⟨g, 8, none⟩ (.slice As (P.sts.length + 1) cs)) g base p mb Z vk { R with As := As, cs := cs } { P with sts := P.sts ++ [s] } ∧ PO g base w (w2.setCell ⟨g, 8, none⟩ (.slice As (P.sts.length + 1) cs)) ∧
      w2.cell? ⟨g, 8, none⟩ = some (.slice R.As P.sts.length R.cs) ∧ w2.frozen? ⟨g, 8, none⟩ = false ∧ Blk w2 g 144 (planC p mb (.slice R.A P.l.length R.cap) vk P.h (.slice R.As P.sts.length R.cs)) := by
  have hal := (Below.refl w.heap.size w).alloc (Nat.le_refl _) (.cells #[s.v p Z] 132)
  have h1 := h.below hal
  have hrow := RowSl.lit (stp_len p Z) w Empty 132 [s] 1 [s.v p Z] (by simp [Stp.cells]) rfl (by decide) (fun h => h)
  obtain ⟨As, cs, w2, hr, hG, hgr, hro⟩ := run_append_rows (stp_len p Z) (stp_one p Z) (by decide) 78 132 _ 8 Tryz.underlying78 Tryz.infoStep (by simp [Value.cells]) (by decide) 78 base R.As P.sts.length R.cs P.sts h1.sts _ 1 1 [s] hrow (by omega) (by simp; omega)
  have h2 := h1.grow_steps (w' := w2) (row := (Value.slice R.As P.sts.length R.cs).ownBlock) (fun q h => h) hgr
  have h3 := plan_steps (R := R) (P := P) h2.1 h2.2 (As := As) (cs := cs) (sts := P.sts ++ [s]) (by rw [List.length_append]; exact hG)
  have e : (P.sts ++ [s]).length = P.sts.length + 1 := by simp
  rw [e] at h3
  refine ⟨As, cs, w2, hr, h3.1, ?_, h2.1.cell 8, h2.1.frozen 8, h2.1⟩
  have hO1 : PO g base w w2 := (PO.of_below hal).trans ⟨Only.of_grown hgr (fun k e _ => Or.inr (hro k e)), by
    rcases h1.sts.own.2 with ⟨hnil, _⟩ | ⟨g', cap', cur, hv, hbase, hb, _⟩
    · rw [hnil] at hgr
      exact Keep.of_empty (Only.of_grown hgr (fun k e _ => by cases e))
    · have hB : Blk (w.alloc (.cells #[s.v p Z] 132)) g' 132 cur := hb
      rw [hv] at hgr
      exact Keep.of_block hB (Or.inr (Or.inr rfl)) (Only.of_grown hgr (fun k e _ => by cases e; rfl))⟩
  exact hO1.trans h3.2
end

end Go.Proofs.YtidbipbangifbaaGreatDoor

/- The walk over a plan's open. -/
namespace Go.Proofs.YtidbipbangifbaaGreatDoor
set_option maxRecDepth 100000
open Go.RowKit

/-- A plan behind an open of sector i, which was as s. -/
def PV.opened (P : PV) (i Z : Nat) (s : Sc) : PV :=
  ⟨P.l.set i ⟨2, lastQ P.l + 1, if s.st = 1 then s.er + 1 else s.er⟩, ⟨(i : Int), ((i * Z + 12 : Nat) : Int), ((Z - 12 : Nat) : Int), 0⟩, P.sts ++ [.open_ i (lastQ P.l + 1).toNat]⟩

theorem FS.plan {w w' : World} {p c e Z L g base : Nat} {ss : List (Nat × List UInt8)} (h : FS w p c e Z L ss) (o : PO g base w w') (hTh : ∀ q, Three p c e q → q < base ∧ q ≠ g) : FS w' p c e Z L ss := by
  have hn : ∀ q, Three p c e q → ¬ PlanT g base q := fun q h1 h2 => by
    have := hTh q h1
    rcases h2 with h2 | h2 <;> omega
  exact h.of o.only (hn p (Or.inl rfl)) (hn c (Or.inr (Or.inl rfl))) (hn e (Or.inr (Or.inr rfl)))
theorem PlanAt.drew {w : World} {g base p mb Z : Nat} {vk : Value} {R : PP} {P : PV} (h : PlanAt w g base p mb Z vk R P) : PlanAt w.drew g base p mb Z vk R P :=
  h.only (Only.refl Empty w).drew (fun h => h) (fun _ _ _ h => h)

/-- How a plan's open ends, where a sector can be opened. -/
def Opened (g base p mb Z : Nat) (vk : Value) (P : PV) (i : Nat) (s : Sc) (w w' : World) (e1 : Ending) : Prop :=
  e1 = .returned (.bool true) ∧ (∃ R', PlanAt w' g base p mb Z vk R' (P.opened i Z s)) ∧ PO g base w w'

set_option maxHeartbeats 1000000 in
theorem pOpen_dirty (g base p c e mb Z L : Nat) (vk : Value) (R : PP) (P : PV) (i : Nat) (s : Sc) (ss : List (Nat × List UInt8)) (w : World) (hP : PlanAt w g base p mb Z vk R P) (hs : FS w p c e Z L ss) (hTh : ∀ q, Three p c e q → q < base ∧ q ≠ g) (hq : Q32 P.l) (hn : P.l.length ≤ 64) (hst : P.sts.length ≤ 1000000)
    (hbase : base ≤ w.heap.size) (hbest : best (opensB (L : Int)) Sc.er P.l P.l.length = some i) (hi : P.l[i]? = some s) (her : 0 ≤ s.er ∧ s.er ≤ 2097152) (hlq : ¬ lastQ P.l = 4294967295) (hst1 : (s.st == 1) = true) (hss : ss.length = P.l.length) :
    Calls Tryz.prog 134 #[.pointer (some ⟨g, 0, none⟩)] w fun e1 w' => Opened g base p mb Z vk P i s w w' e1 := by
  obtain ⟨A, cap, As, cs⟩ := R
  have hilt : i < P.l.length := (List.getElem?_eq_some_iff.1 hi).1
  have hz := hs.bz
  have hq32 := lastQ_le P.l hq
  have hit : i * Z ≤ 4194304 := by
    have h1 : i * Z ≤ ss.length * Z := Nat.mul_le_mul_right _ (by omega)
    omega
  have HP := Lib.hid hP
  have HS := Lib.hid hs
  have HTh := Lib.hid hTh
  have HQ := Lib.hid hq
  have Hbest := Lib.hid hbest
  have Hi := Lib.hid hi
  have hopd : Hid (P.opened i Z s = ⟨P.l.set i ⟨2, lastQ P.l + 1, s.er + 1⟩, ⟨(i : Int), ((i * Z + 12 : Nat) : Int), ((Z - 12 : Nat) : Int), 0⟩, P.sts ++ [.open_ i (lastQ P.l + 1).toNat]⟩) := Lib.hid (by
    unfold PV.opened
    rw [if_pos (by simpa using hst1)])
  obtain ⟨Q, hQ⟩ : ∃ Q : Int, Q = lastQ P.l := ⟨_, rfl⟩
  have hns : Hid (nsV P.l = .tuple #[.int .u32 (Q + 1), .bool true]) := Lib.hid (by unfold nsV; rw [if_neg hlq, hQ])
  rw [← hQ] at hopd hq32 hlq
  have hQ1 : 0 ≤ Q + 1 ∧ Q + 1 ≤ 4294967295 := by omega
  obtain ⟨n, hne⟩ : ∃ n, n = P.l.length := ⟨_, rfl⟩
  obtain ⟨T, hT⟩ : ∃ T, T = i * Z := ⟨_, rfl⟩
  obtain ⟨V, hV⟩ : ∃ V, V = Z - 12 := ⟨_, rfl⟩
  rw [← hT, ← hV] at hopd
  rw [← hT] at hit
  have HT := Lib.hid hT
  have HV := Lib.hid hV
  have c2 : w.cell? ⟨g, 2, none⟩ = some (.slice A n cap) := by rw [hne]; exact hP.blk.cell 2
  have hO0 : Hid (∀ W, Only Empty w W → W.cell? ⟨g, 2, none⟩ = some (.slice A n cap)) := Lib.hid (fun W hW => by rw [hne]; exact (hW.blk hP.blk (fun h => h)).cell 2)
  have Hlim := Lib.hid (fun W (hW : Only Empty w W) => limit_any g p c e Z L _ ss W (hW.blk hP.blk (fun h => h)) rfl (hs.of hW (fun h => h) (fun h => h) (fun h => h)))
  have Hnx := Lib.hid (fun W (hW : Only Empty w W) => next_any A n cap P.l (L : Int) W (by rw [hne]; exact hP.secs.row.only hW (fun _ _ h => h)) (by omega) (some i) (by rw [hne]; exact hbest))
  have hpv : placeV (some i) = .int .i64 (i : Int) := rfl
  have hin : i < n := by omega
  have hncap : n ≤ cap := by rw [hne]; exact hP.secs.row.2.1
  simp only [hpv, Option.isSome_some] at Hnx
  have Hne := Lib.hid hne
  clear hP hs hTh hq hbest hi hz hT hV hQ hlq hne hpv hss
  go_enter Tryz.func134, Tryz.ntmps134
  go_wp2_with fail
  have hD := (Only.refl Empty w).drew
  have hs1 := hO0.out _ hD
  have HD := Lib.hid hD
  clear hD
  first | (go_region_held3 (fun W => W.cell? ⟨g, 2, none⟩ = some (.slice A n cap)) (first | with_reducible exact hs1 | with_reducible exact hs10 | with_reducible exact hs11)
    (first | (go_at_call 133; (with_reducible refine (Hlim.out _ HD.out).mono ?_); rintro e10 w10 ⟨rfl, hb10⟩; have hO10 := HD.out.trans (Only.of_below (S := Empty) hb10); have hs10 := hO0.out _ hO10)
           | (go_at_call 165; (with_reducible refine (Hnx.out _ hO10).mono ?_); rintro e11 w11 ⟨rfl, hb11⟩; have hO11 := hO10.trans (Only.of_below (S := Empty) hb11); have hs11 := hO0.out _ hO11))) | fail
  have HP11 := Lib.hid (HP.out.only hO11 (fun h => h) (fun _ _ _ h => h))
  have HS11 := Lib.hid (HS.out.of hO11 (fun h => h) (fun h => h) (fun h => h))
  have HO11 := Lib.hid (PO.of_empty (g := g) (base := base) hO11)
  have hnx := nextSeq_any g base p mb Z vk _ P w11 HP11.out HQ.out (by omega)
  rw [hns.out] at hnx
  have HNS := Lib.hid hnx
  clear hO11 hs1 hb10 hO10 hs10 hb11 hnx Hnx Hlim hO0 HD c2
  go_wp2_with fail
  refine HNS.out.mono ?_
  rintro e12 w12 ⟨rfl, hb12⟩
  have HP12 := Lib.hid (HP11.out.below hb12)
  have HS12 := Lib.hid (HS11.out.below hb12)
  have HO12 := Lib.hid (HO11.out.trans (PO.of_below (g := g) (base := base) hb12))
  obtain ⟨b, cur, hA, hb, hB, hbg, hcl⟩ := HP12.out.gs hilt
  simp only at hA
  subst hA
  have d0 := hcl s Hi.out 0 (by omega)
  have d1 := hcl s Hi.out 1 (by omega)
  have d2 := hcl s Hi.out 2 (by omega)
  simp [Sc.cells] at d0 d1 d2
  have f0 := hB.frozen (i * 3)
  have f1 := hB.frozen (i * 3 + 1)
  have f2 := hB.frozen (i * 3 + 2)
  have c2 : w12.cell? ⟨g, 2, none⟩ = some (.slice (some ⟨b, 0, none⟩) n cap) := by rw [Hne.out]; exact HP12.out.blk.cell 2
  have hset := HP12.out.set_sec hilt rfl hb hB ⟨2, Q + 1, s.er + 1⟩
  have Hset := Lib.hid hset
  have hgl := HP12.out.blk.lt
  have hbl := hB.lt
  clear hb12 hset hcl hB
  go_wp2_with fail
  obtain ⟨w13, h13⟩ : ∃ w13, w13 = ((w12.setCell ⟨b, i * 3, none⟩ (.int .i64 2)).setCell ⟨b, i * 3 + 1, none⟩ (.int .u32 (Q + 1))).setCell ⟨b, i * 3 + 2, none⟩ (.int .i64 (s.er + 1)) := ⟨_, rfl⟩
  rw [← h13] at Hset ⊢
  have HP13 := Lib.hid Hset.out.1.drew
  have HO13 := Lib.hid (HO12.out.trans Hset.out.2).drew
  clear h13 Hset d0 d1 d2 f0 f1 f2 c2 hgl hbl HP12 HP11 HP hst1 HNS
  have hsz13 : base ≤ w13.drew.heap.size := Nat.le_trans hbase HO13.out.size
  obtain ⟨As2, cs2, w14, hrun, hP14, hO14, c8b, f8b, -⟩ := HP13.out.step_run (.open_ i (Q + 1).toNat) (Nat.le_trans hst (by decide)) hsz13
  have hv : Stp.v p Z (.open_ i (Q + 1).toNat) = .func (.func 167) #[.agg #[.pointer (some ⟨p, 0, none⟩), .int .i64 (i : Int), .int .u32 (Q + 1)]] #[] := by
    show Value.func _ #[.agg #[_, _, .int .u32 (((Q + 1).toNat : Nat) : Int)]] _ = _
    rw [Int.toNat_of_nonneg hQ1.1]
  rw [hv] at hrun
  have c0 : w13.cell? ⟨g, 0, none⟩ = some (.pointer (some ⟨p, 0, none⟩)) := HP13.out.blk.cell 0
  have c8 : w13.cell? ⟨g, 8, none⟩ = some (.slice As P.sts.length cs) := HP13.out.blk.cell 8
  have hgl : g < w13.heap.size := HP13.out.blk.lt
  replace hrun : (Builtin.append_ #[78, 78] 78 #[.slice As P.sts.length cs, .slice (some ⟨w13.heap.size, 0, none⟩) 1 1]).run Tryz.prog (w13.alloc (.cells #[.func (.func 167) #[.agg #[.pointer (some ⟨p, 0, none⟩), .int .i64 (i : Int), .int .u32 (Q + 1)]] #[]] 132)).drew = .ok (.slice As2 (P.sts.length + 1) cs2) w14 := hrun
  simp only at hrun c8b hP14 hO14
  obtain ⟨k, hk⟩ : ∃ k, k = P.sts.length := ⟨_, rfl⟩
  rw [← hk] at hrun c8 c8b hP14 hO14 hst
  have Hk := Lib.hid hk
  have HP14 := Lib.hid hP14
  have HO14 := Lib.hid (HO13.out.trans hO14)
  clear hv hk hP14 hO14
  go_region_law (refine step_append_eq (ts := 78) rfl (.tmp 62) (.tmp 71) rfl rfl rfl rfl hrun ?_)
  all_goals
    obtain ⟨w15, h15⟩ : ∃ w15, w15 = w14.setCell ⟨g, 8, none⟩ (.slice As2 (k + 1) cs2) := ⟨_, rfl⟩
    rw [← h15] at HP14 HO14 ⊢
    have HS15 := Lib.hid (HS.out.plan HO14.out HTh.out)
    have e0 : w15.cell? ⟨g, 0, none⟩ = some (.pointer (some ⟨p, 0, none⟩)) := HP14.out.blk.cell 0
    have hgz := geo_field1 (ss.length : Int) (Z : Int) (L : Int)
    have hmul : (i : Int) * (Z : Int) = (T : Int) := by rw [HT.out]; simp
    clear h15 hrun c0 c8 c8b f8b hgl hsz13
    go_wp2_with fail
    refine HS15.out.geo.mono ?_
    rintro e16 w16 ⟨rfl, hb16⟩
    have HP16 := Lib.hid (HP14.out.below hb16)
    have HO16 := Lib.hid (HO14.out.trans (PO.of_below (g := g) (base := base) hb16))
    have e1 : w16.cell? ⟨g, 0, none⟩ = some (.pointer (some ⟨p, 0, none⟩)) := HP16.out.blk.cell 0
    have Hbe := Lib.hid (behind_any p c e Z L ss w16 (HS15.out.below hb16))
    rw [← HV.out] at Hbe
    clear hb16 e0
    go_wp2_with fail
    refine Hbe.out.mono ?_
    rintro e17 w17 ⟨rfl, hb17⟩
    have HP17 := Lib.hid (HP16.out.below hb17)
    have HO17 := Lib.hid (HO16.out.trans (PO.of_below (g := g) (base := base) hb17))
    have q4 : w17.cell? ⟨g, 4, none⟩ = some (.int .i64 P.h.sec) := HP17.out.blk.cell 4
    have q5 : w17.cell? ⟨g, 5, none⟩ = some (.int .i64 P.h.next) := HP17.out.blk.cell 5
    have q6 : w17.cell? ⟨g, 6, none⟩ = some (.int .i64 P.h.left) := HP17.out.blk.cell 6
    have q7 : w17.cell? ⟨g, 7, none⟩ = some (.int .u32 P.h.txn) := HP17.out.blk.cell 7
    have r4 := HP17.out.blk.frozen 4
    have r5 := HP17.out.blk.frozen 5
    have r6 := HP17.out.blk.frozen 6
    have r7 := HP17.out.blk.frozen 7
    have hsh := HP17.out.set_head ⟨(i : Int), ((T + 12 : Nat) : Int), (V : Int), 0⟩
    have hT12 : ((T + 12 : Nat) : Int) = (T : Int) + 12 := by simp
    rw [hT12] at hsh hopd
    have Hsh := Lib.hid hsh
    have hgl17 := HP17.out.blk.lt
    clear hb17 e1 hsh Hbe
    go_wp2_with fail
    go_ret
    exact ⟨rfl, ⟨_, by rw [hopd.out]; exact Hsh.out.1⟩, HO17.out.trans Hsh.out.2⟩

end Go.Proofs.YtidbipbangifbaaGreatDoor

/- The walk over a plan's lay. -/
namespace Go.Proofs.YtidbipbangifbaaGreatDoor
set_option maxRecDepth 100000
open Go.RowKit

theorem PlanAt.cell_ {w : World} {g base p mb Z : Nat} {vk : Value} {R : PP} {P : PV} (h : PlanAt w g base p mb Z vk R P) (j : Nat) (v : Value) (x : HeadV) (e : ∀ vs vst, (planC p mb vs vk P.h vst).setIfInBounds j v = planC p mb vs vk x vst) :
    PlanAt (w.setCell ⟨g, j, none⟩ v) g base p mb Z vk R { P with h := x } ∧ PO g base w (w.setCell ⟨g, j, none⟩ v) := by
  have hO : Only (· = g) w (w.setCell ⟨g, j, none⟩ v) := (Only.refl (· = g) w).setCell (p := ⟨g, j, none⟩) (Or.inl rfl) _
  refine ⟨⟨?_, h.secs.far Sc.cells_len h.blk (by decide) hO, h.sts.far (stp_len p Z) h.blk (by decide) hO⟩, hO.mono (fun q _ hq => Or.inl hq), Keep.of_block h.blk (Or.inl rfl) hO⟩
  have h1 := h.blk.set_ j v
  rw [e] at h1
  exact h1

/-- A plan behind a commit that was laid in its head. -/
def PV.laid (P : PV) (k o t : Nat) (A : Option Addr) (n cap : Nat) (l : List Ch) : PV :=
  ⟨P.l, ⟨P.h.sec, P.h.next + (roomL l : Int), P.h.left - (roomL l : Int), P.h.txn + 1⟩, P.sts ++ [.lay k o t A n cap l]⟩

set_option maxHeartbeats 1000000 in
theorem pLay_any (g base p mb Z : Nat) (vk : Value) (R : PP) (P : PV) (k o t : Nat) (A : Option Addr) (n cap : Nat) (l : List Ch) (w : World) (hP : PlanAt w g base p mb Z vk R P) (hlen : l.length = n) (hC : ∀ W, PO g base w W → Chs W Empty A n cap l) (hF : Fair l) (hn : n ≤ 1024) (hst : P.sts.length ≤ 1000000) (hbase : base ≤ w.heap.size)
    (hnx : P.h.next = ((k * Z + o : Nat) : Int)) (ht : P.h.txn + 1 = (t : Int)) (ht1 : 0 ≤ P.h.txn) (ht2 : P.h.txn ≤ 4294901759) (hkz : k * Z + o ≤ 4194304) (hlf : 0 ≤ P.h.left ∧ P.h.left ≤ 65536) :
    Calls Tryz.prog 78 #[.pointer (some ⟨g, 0, none⟩), .slice A n cap] w fun e1 w' => e1 = .returned (.tuple #[]) ∧ (∃ R', PlanAt w' g base p mb Z vk R' (P.laid k o t A n cap l)) ∧ PO g base w w' := by
  obtain ⟨RA, Rc, As, cs⟩ := R
  obtain ⟨pl, ⟨hsec, hnext, hleft, htxn⟩, sts⟩ := P
  simp only at hst hnx ht ht1 ht2 hlf
  have HP := Lib.hid hP
  have HC := Lib.hid hC
  have HF := Lib.hid hF
  have hrl := roomL_le l hF
  rw [hlen] at hrl
  have hlaid : Hid (PV.laid ⟨pl, ⟨hsec, hnext, hleft, htxn⟩, sts⟩ k o t A n cap l = ⟨pl, ⟨hsec, hnext + (roomL l : Int), hleft - (roomL l : Int), htxn + 1⟩, sts ++ [.lay k o t A n cap l]⟩) := Lib.hid rfl
  have Hro := Lib.hid (fun W (hW : PO g base w W) => roomOf_any A n cap l W (hC W hW) hF hn)
  obtain ⟨M, hM⟩ : ∃ M, M = roomL l := ⟨_, rfl⟩
  rw [← hM] at hlaid Hro hrl
  have c7 : w.cell? ⟨g, 7, none⟩ = some (.int .u32 htxn) := hP.blk.cell 7
  have f7 := hP.blk.frozen 7
  have hgl := hP.blk.lt
  have Hnx := Lib.hid hnx
  have Ht := Lib.hid ht
  have hkb := hnx
  have hh1 := hP.cell_ 7 (.int .u32 (htxn + 1)) ⟨hsec, hnext, hleft, htxn + 1⟩ (fun vs vst => by simp [planC])
  obtain ⟨w1, hw1⟩ : ∃ w1, w1 = w.setCell ⟨g, 7, none⟩ (.int .u32 (htxn + 1)) := ⟨_, rfl⟩
  rw [← hw1] at hh1
  have Hh1 := Lib.hid hh1
  have hbn : 0 ≤ hnext ∧ hnext ≤ 4194304 := by omega
  clear hP hC hF hM hnx hh1 hkb ht hlen
  go_enter Tryz.func78, Tryz.ntmps78
  go_wp2_with fail
  rw [← hw1]
  have HP1 := Lib.hid Hh1.out.1.drew
  have HO1 := Lib.hid Hh1.out.2.drew
  have hsz1 : base ≤ w1.drew.heap.size := Nat.le_trans hbase HO1.out.size
  obtain ⟨As2, cs2, w2, hrun, hP2, hO2, c8b, f8b, hB2⟩ := HP1.out.step_run (.lay k o t A n cap l) (Nat.le_trans hst (by decide)) hsz1
  have hv : Stp.v p Z (.lay k o t A n cap l) = .func (.func 112) #[.agg #[.pointer (some ⟨p, 0, none⟩), .int .i64 hnext, .int .u32 (htxn + 1), .slice A n cap]] #[] := by
    show Value.func _ #[.agg #[_, .int .i64 ((k * Z + o : Nat) : Int), .int .u32 (t : Int), _]] _ = _
    rw [← Hnx.out, ← Ht.out]
  rw [hv] at hrun
  have c0 : w1.cell? ⟨g, 0, none⟩ = some (.pointer (some ⟨p, 0, none⟩)) := HP1.out.blk.cell 0
  have c5 : w1.cell? ⟨g, 5, none⟩ = some (.int .i64 hnext) := HP1.out.blk.cell 5
  have c7b : w1.cell? ⟨g, 7, none⟩ = some (.int .u32 (htxn + 1)) := HP1.out.blk.cell 7
  have c8 : w1.cell? ⟨g, 8, none⟩ = some (.slice As sts.length cs) := HP1.out.blk.cell 8
  have hgl1 : g < w1.heap.size := HP1.out.blk.lt
  replace hrun : (Builtin.append_ #[78, 78] 78 #[.slice As sts.length cs, .slice (some ⟨w1.heap.size, 0, none⟩) 1 1]).run Tryz.prog (w1.alloc (.cells #[.func (.func 112) #[.agg #[.pointer (some ⟨p, 0, none⟩), .int .i64 hnext, .int .u32 (htxn + 1), .slice A n cap]] #[]] 132)).drew = .ok (.slice As2 (sts.length + 1) cs2) w2 := hrun
  simp only at c8b hP2 hO2
  obtain ⟨q, hq⟩ : ∃ q, q = sts.length := ⟨_, rfl⟩
  rw [← hq] at hrun c8 c8b hP2 hO2 hst
  have HP2 := Lib.hid hP2
  have HO2 := Lib.hid (HO1.out.trans hO2)
  have hsA : w1.cell? ⟨g, 0, none⟩ = some (.pointer (some ⟨p, 0, none⟩)) ∧ w1.cell? ⟨g, 5, none⟩ = some (.int .i64 hnext) ∧ w1.cell? ⟨g, 7, none⟩ = some (.int .u32 (htxn + 1)) := ⟨c0, c5, c7b⟩
  have hs1 : w1.drew.cell? ⟨g, 0, none⟩ = some (.pointer (some ⟨p, 0, none⟩)) ∧ w1.drew.cell? ⟨g, 5, none⟩ = some (.int .i64 hnext) ∧ w1.drew.cell? ⟨g, 7, none⟩ = some (.int .u32 (htxn + 1)) := hsA
  have HsAl : Hid (∀ o : Obj, (w1.alloc o).drew.cell? ⟨g, 0, none⟩ = some (.pointer (some ⟨p, 0, none⟩)) ∧ (w1.alloc o).drew.cell? ⟨g, 5, none⟩ = some (.int .i64 hnext) ∧ (w1.alloc o).drew.cell? ⟨g, 7, none⟩ = some (.int .u32 (htxn + 1))) := Lib.hid (fun o => by
    have hb := HP1.out.blk.alloc o
    exact ⟨hb.cell 0, hb.cell 5, hb.cell 7⟩)
  have hs2 : w2.cell? ⟨g, 0, none⟩ = some (.pointer (some ⟨p, 0, none⟩)) ∧ w2.cell? ⟨g, 5, none⟩ = some (.int .i64 hnext) ∧ w2.cell? ⟨g, 7, none⟩ = some (.int .u32 (htxn + 1)) := ⟨hB2.cell 0, hB2.cell 5, hB2.cell 7⟩
  have hs3 : (w2.setCell ⟨g, 8, none⟩ (.slice As2 (q + 1) cs2)).cell? ⟨g, 0, none⟩ = some (.pointer (some ⟨p, 0, none⟩)) ∧ (w2.setCell ⟨g, 8, none⟩ (.slice As2 (q + 1) cs2)).cell? ⟨g, 5, none⟩ = some (.int .i64 hnext) ∧ (w2.setCell ⟨g, 8, none⟩ (.slice As2 (q + 1) cs2)).cell? ⟨g, 7, none⟩ = some (.int .u32 (htxn + 1)) := ⟨HP2.out.blk.cell 0, HP2.out.blk.cell 5, HP2.out.blk.cell 7⟩
  clear hv hq hP2 hO2 c7 f7 hgl hw1 hB2 hsA
  refine wp_region_held_drew (S := fun W => W.cell? ⟨g, 0, none⟩ = some (.pointer (some ⟨p, 0, none⟩)) ∧ W.cell? ⟨g, 5, none⟩ = some (.int .i64 hnext) ∧ W.cell? ⟨g, 7, none⟩ = some (.int .u32 (htxn + 1))) (by kernel_rfl) hs1 (fun hHeld => ?_)
  refine take_yes 0 14 ?_ rfl rfl (by kernel_rfl) (by kernel_rfl) (by kernel_rfl) (fun _ _ _ h => h) (by kernel_rfl) ?_ (by assumption) ?_; rotate_left; (focus (intro w hSw; (try dsimp only at hSw); go_simp; all_goals with_reducible rfl)); simp only [Act.put, List.setIfInBounds_toArray, List.set_cons_zero, List.set_cons_succ]
  refine take_yes 1 15 ?_ rfl rfl (by kernel_rfl) (by kernel_rfl) (by kernel_rfl) (fun _ _ _ h => h) (by kernel_rfl) ?_ (by assumption) ?_; rotate_left; (focus (intro w hSw; (try dsimp only at hSw); go_simp; all_goals with_reducible rfl)); simp only [Act.put, List.setIfInBounds_toArray, List.set_cons_zero, List.set_cons_succ]
  refine take_yes 2 16 ?_ rfl rfl (by kernel_rfl) (by kernel_rfl) (by kernel_rfl) (fun _ _ _ h => h) (by kernel_rfl) ?_ (by assumption) ?_; rotate_left; (focus (intro w hSw; (try dsimp only at hSw); go_simp; all_goals with_reducible rfl)); simp only [Act.put, List.setIfInBounds_toArray, List.set_cons_zero, List.set_cons_succ]
  refine take_yes 3 17 ?_ rfl rfl (by kernel_rfl) (by kernel_rfl) (by kernel_rfl) (fun _ _ _ h => h) (by kernel_rfl) ?_ (by assumption) ?_; rotate_left; (focus (intro w hSw; (try dsimp only at hSw); go_simp; all_goals with_reducible rfl)); simp only [Act.put, List.setIfInBounds_toArray, List.set_cons_zero, List.set_cons_succ]
  refine take_yes 5 19 ?_ rfl rfl (by kernel_rfl) (by kernel_rfl) (by kernel_rfl) (fun _ _ _ h => h) (by kernel_rfl) ?_ (by assumption) ?_; rotate_left; (focus (intro w hSw; (try dsimp only at hSw); go_simp; all_goals with_reducible rfl)); simp only [Act.put, List.setIfInBounds_toArray, List.set_cons_zero, List.set_cons_succ]
  refine take_yes 6 20 ?_ rfl rfl (by kernel_rfl) (by kernel_rfl) (by kernel_rfl) (fun _ _ _ h => h) (by kernel_rfl) ?_ (by assumption) ?_; rotate_left; (focus (intro w hSw; (try dsimp only at hSw); go_simp; all_goals with_reducible rfl)); simp only [Act.put, List.setIfInBounds_toArray, List.set_cons_zero, List.set_cons_succ]
  refine take_yes 7 21 ?_ rfl rfl (by kernel_rfl) (by kernel_rfl) (by kernel_rfl) (fun _ _ _ h => h) (by kernel_rfl) ?_ (by assumption) ?_; rotate_left; (focus (intro w hSw; (try dsimp only at hSw); go_simp; all_goals with_reducible rfl)); simp only [Act.put, List.setIfInBounds_toArray, List.set_cons_zero, List.set_cons_succ]
  refine take_yes 8 22 ?_ rfl rfl (by kernel_rfl) (by kernel_rfl) (by kernel_rfl) (fun _ _ _ h => h) (by kernel_rfl) ?_ (by assumption) ?_; rotate_left; (focus (intro w hSw; (try dsimp only at hSw); go_simp; all_goals with_reducible rfl)); simp only [Act.put, List.setIfInBounds_toArray, List.set_cons_zero, List.set_cons_succ]
  refine take_yes 9 23 ?_ rfl rfl (by kernel_rfl) (by kernel_rfl) (by kernel_rfl) (fun _ _ _ h => h) (by kernel_rfl) ?_ (by assumption) ?_; rotate_left; (focus (intro w hSw; (try dsimp only at hSw); go_simp; all_goals with_reducible rfl)); simp only [Act.put, List.setIfInBounds_toArray, List.set_cons_zero, List.set_cons_succ]
  refine take_yes 10 24 ?_ rfl rfl (by kernel_rfl) (by kernel_rfl) (by kernel_rfl) (fun _ _ _ h => h) (by kernel_rfl) ?_ (by assumption) ?_; rotate_left; (focus (intro w hSw; (try dsimp only at hSw); go_simp; all_goals with_reducible rfl)); simp only [Act.put, List.setIfInBounds_toArray, List.set_cons_zero, List.set_cons_succ]
  refine take_yes 11 25 ?_ rfl rfl (by kernel_rfl) (by kernel_rfl) (by kernel_rfl) (fun _ _ _ h => h) (by kernel_rfl) ?_ (by assumption) ?_; rotate_left; (focus (intro w hSw; (try dsimp only at hSw); go_simp; all_goals with_reducible rfl)); simp only [Act.put, List.setIfInBounds_toArray, List.set_cons_zero, List.set_cons_succ]
  refine take_yes 12 26 ?_ rfl rfl (by kernel_rfl) (by kernel_rfl) (by kernel_rfl) (fun _ _ _ h => h) (by kernel_rfl) ?_ (by assumption) ?_; rotate_left; (focus (intro w hSw; (try dsimp only at hSw); go_simp; all_goals with_reducible rfl)); simp only [Act.put, List.setIfInBounds_toArray, List.set_cons_zero, List.set_cons_succ]
  refine take_yes 13 27 ?_ rfl rfl (by kernel_rfl) (by kernel_rfl) (by kernel_rfl) (fun _ _ _ h => h) (by kernel_rfl) ?_ (by assumption) ?_; rotate_left; (focus (intro w hSw; (try dsimp only at hSw); go_simp; all_goals with_reducible rfl)); simp only [Act.put, List.setIfInBounds_toArray, List.set_cons_zero, List.set_cons_succ]
  refine take_yes 14 28 ?_ rfl rfl (by kernel_rfl) (by kernel_rfl) (by kernel_rfl) (fun _ _ _ h => h) (by kernel_rfl) ?_ (by assumption) ?_; rotate_left; (focus (intro w hSw; (try dsimp only at hSw); go_simp; all_goals with_reducible rfl)); simp only [Act.put, List.setIfInBounds_toArray, List.set_cons_zero, List.set_cons_succ]
  refine take_yes 15 29 ?_ rfl rfl (by kernel_rfl) (by kernel_rfl) (by kernel_rfl) (fun _ _ _ h => h) (by kernel_rfl) ?_ (by assumption) ?_; rotate_left; (focus (intro w hSw; (try dsimp only at hSw); go_simp; all_goals with_reducible rfl)); simp only [Act.put, List.setIfInBounds_toArray, List.set_cons_zero, List.set_cons_succ]
  refine take_yes 16 30 ?_ rfl rfl (by kernel_rfl) (by kernel_rfl) (by kernel_rfl) (fun _ _ _ h => h) (by kernel_rfl) ?_ (by assumption) ?_; rotate_left; (focus (intro w hSw; (try dsimp only at hSw); go_simp; all_goals with_reducible rfl)); simp only [Act.put, List.setIfInBounds_toArray, List.set_cons_zero, List.set_cons_succ]
  refine take_yes 17 31 ?_ rfl rfl (by kernel_rfl) (by kernel_rfl) (by kernel_rfl) (fun _ _ _ h => h) (by kernel_rfl) ?_ (by assumption) ?_; rotate_left; (focus (intro w hSw; (try dsimp only at hSw); go_simp; all_goals with_reducible rfl)); simp only [Act.put, List.setIfInBounds_toArray, List.set_cons_zero, List.set_cons_succ]
  refine take_yes 18 32 ?_ rfl rfl (by kernel_rfl) (by kernel_rfl) (by kernel_rfl) (fun _ _ _ h => h) (by kernel_rfl) ?_ (by assumption) ?_; rotate_left; (focus (intro w hSw; (try dsimp only at hSw); go_simp; all_goals with_reducible rfl)); simp only [Act.put, List.setIfInBounds_toArray, List.set_cons_zero, List.set_cons_succ]
  refine take_yes 19 33 ?_ rfl rfl (by kernel_rfl) (by kernel_rfl) (by kernel_rfl) (fun _ _ _ h => h) (by kernel_rfl) ?_ (by assumption) ?_; rotate_left; (focus (intro w hSw; (try dsimp only at hSw); go_simp; all_goals with_reducible rfl)); simp only [Act.put, List.setIfInBounds_toArray, List.set_cons_zero, List.set_cons_succ]
  refine take_yes 20 34 ?_ rfl rfl (by kernel_rfl) (by kernel_rfl) (by kernel_rfl) (fun _ _ _ h => h) (by kernel_rfl) ?_ (by assumption) ?_; rotate_left; (focus (intro w hSw; (try dsimp only at hSw); go_simp; all_goals with_reducible rfl)); simp only [Act.put, List.setIfInBounds_toArray, List.set_cons_zero, List.set_cons_succ]
  refine take_yes 21 35 ?_ rfl rfl (by kernel_rfl) (by kernel_rfl) (by kernel_rfl) (fun _ _ _ h => h) (by kernel_rfl) ?_ (by assumption) ?_; rotate_left; (focus (intro w hSw; (try dsimp only at hSw); go_simp; all_goals with_reducible rfl)); simp only [Act.put, List.setIfInBounds_toArray, List.set_cons_zero, List.set_cons_succ]
  refine wpAnyH_ready (rs := [4, 22]) (by kernel_rfl) (by simp) ?_
  refine AllReadyH.cons rfl (fun K hK => ?_) (AllReadyH.cons rfl (fun K hK => ?_) AllReadyH.nil)
  · go_simp
    refine hK.out _ _ hs1 (fun _ => ?_)
    clear hK K
    try simp only [Act.put, List.setIfInBounds_toArray, List.set_cons_zero, List.set_cons_succ]
    refine wpAnyH_ready (rs := [22]) (by kernel_rfl) (by simp) ?_
    refine AllReadyH.cons rfl (fun K hK => ?_) AllReadyH.nil
    go_simp
    refine hK.out _ _ (HsAl.out _) (fun _ => ?_)
    clear hK K
    try simp only [Act.put, List.setIfInBounds_toArray, List.set_cons_zero, List.set_cons_succ]
    refine wpAnyH_ready (rs := [23]) (by kernel_rfl) (by simp) ?_
    refine AllReadyH.cons rfl (fun K hK => ?_) AllReadyH.nil
    refine step_append_eq (ts := 78) rfl (.tmp 18) (.tmp 36) rfl rfl rfl rfl hrun ?_
    refine hK.out _ _ hs2 (fun _ => ?_)
    clear hK K
    try simp only [Act.put, List.setIfInBounds_toArray, List.set_cons_zero, List.set_cons_succ]
    refine take_yes 24 38 ?_ rfl rfl (by kernel_rfl) (by kernel_rfl) (by kernel_rfl) (fun _ _ _ h => h) (by kernel_rfl) ?_ (by assumption) ?_; rotate_left; (focus (intro w hSw; (try dsimp only at hSw); go_simp; all_goals with_reducible rfl)); simp only [Act.put, List.setIfInBounds_toArray, List.set_cons_zero, List.set_cons_succ]
    refine take_yes 25 39 ?_ rfl rfl (by kernel_rfl) (by kernel_rfl) (by kernel_rfl) (fun _ _ _ h => h) (by kernel_rfl) ?_ (by assumption) ?_; rotate_left; (focus (intro w hSw; (try dsimp only at hSw); go_simp; all_goals with_reducible rfl)); simp only [Act.put, List.setIfInBounds_toArray, List.set_cons_zero, List.set_cons_succ]
    refine wpAnyH_ready (rs := [26]) (by kernel_rfl) (by simp) ?_
    refine AllReadyH.cons rfl (fun K hK => ?_) AllReadyH.nil
    go_simp
    refine hK.out _ _ (hs3) (fun _ => ?_)
    clear hK K
    try simp only [Act.put, List.setIfInBounds_toArray, List.set_cons_zero, List.set_cons_succ]
    refine wpAnyH_done (by kernel_rfl) ?_ _
    obtain ⟨w3, h3⟩ : ∃ w3, w3 = w2.setCell ⟨g, 8, none⟩ (.slice As2 (q + 1) cs2) := ⟨_, rfl⟩
    rw [← h3] at HP2 HO2 ⊢
    clear h3 hrun c0 c5 c7b c8 c8b f8b hgl1 hsz1 hs1 HsAl hs2 hs3 hHeld
    have Hr3 := Lib.hid (Hro.out w3 HO2.out)
    go_wp2_with fail
    refine Hr3.out.mono ?_
    rintro e4 w4 ⟨rfl, hb4⟩
    have HP4 := Lib.hid (HP2.out.below hb4)
    have HO4 := Lib.hid (HO2.out.trans (PO.of_below (g := g) (base := base) hb4))
    have q5 : w4.cell? ⟨g, 5, none⟩ = some (.int .i64 hnext) := HP4.out.blk.cell 5
    have q6 : w4.cell? ⟨g, 6, none⟩ = some (.int .i64 hleft) := HP4.out.blk.cell 6
    have r5 := HP4.out.blk.frozen 5
    have r6 := HP4.out.blk.frozen 6
    have hgl4 := HP4.out.blk.lt
    have h5 := HP4.out.cell_ 5 (.int .i64 (hnext + (M : Int))) ⟨hsec, hnext + (M : Int), hleft, htxn + 1⟩ (fun vs vst => by simp [planC])
    have h6 := h5.1.cell_ 6 (.int .i64 (hleft - (M : Int))) ⟨hsec, hnext + (M : Int), hleft - (M : Int), htxn + 1⟩ (fun vs vst => by simp [planC])
    have HE := Lib.hid (And.intro h6.1 ((HO4.out.trans h5.2).trans h6.2))
    clear hb4 h5 h6 Hr3 Hro
    go_wp2_with fail
    go_end0
    refine ⟨rfl, ⟨⟨RA, Rc, As2, cs2⟩, ?_⟩, HE.out.2⟩
    rw [hlaid.out]
    exact HE.out.1

  · go_simp
    refine hK.out _ _ (HsAl.out _) (fun _ => ?_)
    clear hK K
    try simp only [Act.put, List.setIfInBounds_toArray, List.set_cons_zero, List.set_cons_succ]
    refine wpAnyH_ready (rs := [4]) (by kernel_rfl) (by simp) ?_
    refine AllReadyH.cons rfl (fun K hK => ?_) AllReadyH.nil
    go_simp
    refine hK.out _ _ (HsAl.out _) (fun _ => ?_)
    clear hK K
    try simp only [Act.put, List.setIfInBounds_toArray, List.set_cons_zero, List.set_cons_succ]
    refine wpAnyH_ready (rs := [23]) (by kernel_rfl) (by simp) ?_
    refine AllReadyH.cons rfl (fun K hK => ?_) AllReadyH.nil
    refine step_append_eq (ts := 78) rfl (.tmp 18) (.tmp 36) rfl rfl rfl rfl hrun ?_
    refine hK.out _ _ hs2 (fun _ => ?_)
    clear hK K
    try simp only [Act.put, List.setIfInBounds_toArray, List.set_cons_zero, List.set_cons_succ]
    refine take_yes 24 38 ?_ rfl rfl (by kernel_rfl) (by kernel_rfl) (by kernel_rfl) (fun _ _ _ h => h) (by kernel_rfl) ?_ (by assumption) ?_; rotate_left; (focus (intro w hSw; (try dsimp only at hSw); go_simp; all_goals with_reducible rfl)); simp only [Act.put, List.setIfInBounds_toArray, List.set_cons_zero, List.set_cons_succ]
    refine take_yes 25 39 ?_ rfl rfl (by kernel_rfl) (by kernel_rfl) (by kernel_rfl) (fun _ _ _ h => h) (by kernel_rfl) ?_ (by assumption) ?_; rotate_left; (focus (intro w hSw; (try dsimp only at hSw); go_simp; all_goals with_reducible rfl)); simp only [Act.put, List.setIfInBounds_toArray, List.set_cons_zero, List.set_cons_succ]
    refine wpAnyH_ready (rs := [26]) (by kernel_rfl) (by simp) ?_
    refine AllReadyH.cons rfl (fun K hK => ?_) AllReadyH.nil
    go_simp
    refine hK.out _ _ (hs3) (fun _ => ?_)
    clear hK K
    try simp only [Act.put, List.setIfInBounds_toArray, List.set_cons_zero, List.set_cons_succ]
    refine wpAnyH_done (by kernel_rfl) ?_ _
    obtain ⟨w3, h3⟩ : ∃ w3, w3 = w2.setCell ⟨g, 8, none⟩ (.slice As2 (q + 1) cs2) := ⟨_, rfl⟩
    rw [← h3] at HP2 HO2 ⊢
    clear h3 hrun c0 c5 c7b c8 c8b f8b hgl1 hsz1 hs1 HsAl hs2 hs3 hHeld
    have Hr3 := Lib.hid (Hro.out w3 HO2.out)
    go_wp2_with fail
    refine Hr3.out.mono ?_
    rintro e4 w4 ⟨rfl, hb4⟩
    have HP4 := Lib.hid (HP2.out.below hb4)
    have HO4 := Lib.hid (HO2.out.trans (PO.of_below (g := g) (base := base) hb4))
    have q5 : w4.cell? ⟨g, 5, none⟩ = some (.int .i64 hnext) := HP4.out.blk.cell 5
    have q6 : w4.cell? ⟨g, 6, none⟩ = some (.int .i64 hleft) := HP4.out.blk.cell 6
    have r5 := HP4.out.blk.frozen 5
    have r6 := HP4.out.blk.frozen 6
    have hgl4 := HP4.out.blk.lt
    have h5 := HP4.out.cell_ 5 (.int .i64 (hnext + (M : Int))) ⟨hsec, hnext + (M : Int), hleft, htxn + 1⟩ (fun vs vst => by simp [planC])
    have h6 := h5.1.cell_ 6 (.int .i64 (hleft - (M : Int))) ⟨hsec, hnext + (M : Int), hleft - (M : Int), htxn + 1⟩ (fun vs vst => by simp [planC])
    have HE := Lib.hid (And.intro h6.1 ((HO4.out.trans h5.2).trans h6.2))
    clear hb4 h5 h6 Hr3 Hro
    go_wp2_with fail
    go_end0
    refine ⟨rfl, ⟨⟨RA, Rc, As2, cs2⟩, ?_⟩, HE.out.2⟩
    rw [hlaid.out]
    exact HE.out.1

end Go.Proofs.YtidbipbangifbaaGreatDoor

/- The walks over blob's letGo and a plan's letGo. -/
namespace Go.Proofs.YtidbipbangifbaaGreatDoor
set_option maxRecDepth 100000
open Go.RowKit

/-- The steps by which a sector is let go. -/
def goSts (L i : Nat) (s : Sc) : List Stp := if (L : Int) ≤ s.er then [.void i] else [.void i, .erase i]
/-- A plan behind them. -/
def PV.letGo (P : PV) (L i : Nat) (s : Sc) : PV := ⟨P.l.set i (if (L : Int) ≤ s.er then ⟨1, 0, s.er⟩ else ⟨0, 0, s.er + 1⟩), P.h, P.sts ++ goSts L i s⟩

set_option maxHeartbeats 1000000 in
theorem letGo_any (p c e Z L i : Nat) (s : Sc) (ss : List (Nat × List UInt8)) (w : World) (hs : FS w p c e Z L ss) :
    Calls Tryz.prog 33 #[.pointer (some ⟨p, 0, none⟩), .int .i64 (i : Int), .agg #[.int .i64 s.st, .int .u32 s.q, .int .i64 s.er]] w fun e1 w' => (∃ b, e1 = .returned (.slice (some ⟨b, 0, none⟩) (goSts L i s).length (goSts L i s).length) ∧ RowSl (Stp.cells p Z) 1 w' Empty (some ⟨b, 0, none⟩) (goSts L i s).length (goSts L i s).length (goSts L i s)) ∧ Below w.heap.size w w' := by
  obtain ⟨st, q, er⟩ := s
  simp only
  have hg := geo_field2 (ss.length : Int) (Z : Int) (L : Int)
  have HS := Lib.hid hs
  have HC : Hid (∀ W, Only Empty ((w.alloc (.cells #[.int .i64 st, .int .u32 q, .int .i64 er] 81)).alloc (.cells #[.pointer (some ⟨p, 0, none⟩), .int .i64 (i : Int), .int .u32 0] 134)) W → W.cell? ⟨w.heap.size, 2, none⟩ = some (.int .i64 er)) :=
    Lib.hid (fun W hW => (hW.blk ((Blk.new w 81 #[.int .i64 st, .int .u32 q, .int .i64 er]).alloc _) (fun h => h)).cell 2)
  have HB2 : Hid (∀ W, Only Empty ((w.alloc (.cells #[.int .i64 st, .int .u32 q, .int .i64 er] 81)).alloc (.cells #[.pointer (some ⟨p, 0, none⟩), .int .i64 (i : Int), .int .u32 0] 134)) W → FS W p c e Z L ss ∧ Below w.heap.size w W ∧ Blk W (w.heap.size + 1) 134 #[.pointer (some ⟨p, 0, none⟩), .int .i64 (i : Int), .int .u32 0]) :=
    Lib.hid (fun W hW => by
      have h1 := (Below.refl w.heap.size w).alloc (Nat.le_refl _) (.cells #[.int .i64 st, .int .u32 q, .int .i64 er] 81)
      have h2 := h1.alloc (by simp) (.cells #[.pointer (some ⟨p, 0, none⟩), .int .i64 (i : Int), .int .u32 0] 134)
      have h3 : Below w.heap.size w W := h2.trans (hW.below (by simp; omega) (fun _ _ h => h))
      have h4 := hW.blk (Blk.new (w.alloc (.cells #[.int .i64 st, .int .u32 q, .int .i64 er] 81)) 134 #[.pointer (some ⟨p, 0, none⟩), .int .i64 (i : Int), .int .u32 0]) (fun h => h)
      exact ⟨hs.below h3, h3, by simpa using h4⟩)
  clear hs
  go_enter Tryz.func33, Tryz.ntmps33
  go_wp2_with fail
  have hD := (Only.refl Empty ((w.alloc (.cells #[.int .i64 st, .int .u32 q, .int .i64 er] 81)).alloc (.cells #[.pointer (some ⟨p, 0, none⟩), .int .i64 (i : Int), .int .u32 0] 134))).drew
  have hs1 := HC.out _ hD
  have HD := Lib.hid hD
  clear hD
  first | (go_region_held3 (fun W => W.cell? ⟨w.heap.size, 2, none⟩ = some (.int .i64 er)) (first | with_reducible exact hs1 | with_reducible exact hs10)
    ((go_at_call 30; (with_reducible refine ((HB2.out _ HD.out).1.geo).mono ?_); rintro e10 w10 ⟨rfl, hb10⟩; have hO10 := HD.out.trans (Only.of_below (S := Empty) hb10); have hs10 := HC.out _ hO10))) | fail
  have hB := HB2.out _ hO10
  have hc := hB.2.2
  have t0 := hc.cell 0
  have t1 := hc.cell 1
  have t2 := hc.cell 2
  have hml := hc.lt
  simp at t0 t1 t2
  have HB := Lib.hid hB.2.1
  clear hb10 hO10 hs10 hs1 hB hc HD HB2 HC
  by_cases hL : (L : Int) ≤ er
  · have hL2 : ¬ er < (L : Int) := by omega
    have He : Hid (goSts L i ⟨st, q, er⟩ = [.void i]) := Lib.hid (if_pos hL)
    have Hr := Lib.hid (RowSl.lit (stp_len p Z) w10 Empty 132 [.void i] 1 [Stp.v p Z (.void i)] rfl rfl (by decide) (fun h => h))
    have Hal := Lib.hid ((Below.refl w10.heap.size w10).alloc (Nat.le_refl _) (.cells #[Stp.v p Z (.void i)] 132))
    go_wp2_with fail
    go_ret
    refine ⟨⟨w10.heap.size, ?_, ?_⟩, HB.out.trans (Hal.out.mono HB.out.size)⟩
    · rw [He.out]; rfl
    · rw [He.out]; exact Hr.out
  · have hL2 : er < (L : Int) := by omega
    have He : Hid (goSts L i ⟨st, q, er⟩ = [.void i, .erase i]) := Lib.hid (if_neg hL)
    have Hr := Lib.hid (RowSl.lit (stp_len p Z) w10 Empty 132 [.void i, .erase i] 2 [Stp.v p Z (.void i), Stp.v p Z (.erase i)] rfl rfl (by decide) (fun h => h))
    have Hal := Lib.hid ((Below.refl w10.heap.size w10).alloc (Nat.le_refl _) (.cells #[Stp.v p Z (.void i), Stp.v p Z (.erase i)] 132))
    go_wp2_with fail
    go_ret
    refine ⟨⟨w10.heap.size, ?_, ?_⟩, HB.out.trans (Hal.out.mono HB.out.size)⟩
    · rw [He.out]; rfl
    · rw [He.out]; exact Hr.out

section
variable {w w' : World} {g base p mb Z : Nat} {vk : Value} {R : PP} {P : PV}
/-- append of steps that lie in a row, as an equation; what is then stored. -/
theorem PlanAt.steps_run (h : PlanAt w g base p mb Z vk R P) {b n : Nat} {l : List Stp} (hrow : RowSl (Stp.cells p Z) 1 w Empty (some ⟨b, 0, none⟩) n n l) (hn : P.sts.length + n ≤ 16777216) (hbase : base ≤ w.heap.size) :
    ∃ As cs w2, (Builtin.append_ #[78, 78] 78 #[.slice R.As P.sts.length R.cs, .slice (some ⟨b, 0, none⟩) n n]).run Tryz.prog w = .ok (.slice As (P.sts.length + n) cs) w2 ∧
      PlanAt (w2.setCell ⟨g, 8, none⟩ (.slice As (P.sts.length + n) cs)) g base p mb Z vk { R with As := As, cs := cs } { P with sts := P.sts ++ l } ∧ PO g base w (w2.setCell ⟨g, 8, none⟩ (.slice As (P.sts.length + n) cs)) ∧ PO g base w w2 ∧
      Blk w2 g 144 (planC p mb (.slice R.A P.l.length R.cap) vk P.h (.slice R.As P.sts.length R.cs)) ∧ GotR Sc.cells 3 81 base w2 R.A P.l.length R.cap P.l := by
  obtain ⟨As, cs, w2, hr, hG, hgr, hro⟩ := run_append_rows (stp_len p Z) (stp_one p Z) (by decide) 78 132 _ 8 Tryz.underlying78 Tryz.infoStep (by simp [Value.cells]) (by decide) 78 base R.As P.sts.length R.cs P.sts h.sts _ n n l hrow hn hbase
  have h2 := h.grow_steps (w' := w2) (row := (Value.slice R.As P.sts.length R.cs).ownBlock) (fun q h => h) hgr
  have e : (P.sts ++ l).length = P.sts.length + n := by rw [List.length_append, hrow.1]
  have h3 := plan_steps (R := R) (P := P) h2.1 h2.2 (As := As) (cs := cs) (sts := P.sts ++ l) (by rw [e]; exact hG)
  rw [e] at h3
  have hO1 : PO g base w w2 := ⟨Only.of_grown hgr (fun k e _ => Or.inr (hro k e)), by
    rcases h.sts.own.2 with ⟨hnil, _⟩ | ⟨g', cap', cur, hv, hbase, hb, _⟩
    · rw [hnil] at hgr
      exact Keep.of_empty (Only.of_grown hgr (fun k e _ => by cases e))
    · have hB : Blk w g' 132 cur := hb
      rw [hv] at hgr
      exact Keep.of_block hB (Or.inr (Or.inr rfl)) (Only.of_grown hgr (fun k e _ => by cases e; rfl))⟩
  exact ⟨As, cs, w2, hr, h3.1, hO1.trans h3.2, hO1, h2.1, h2.2⟩
end

end Go.Proofs.YtidbipbangifbaaGreatDoor
