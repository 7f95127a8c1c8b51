/- Of wear's Next and Oldest, and of the document's: contracts. -/
import Derived.Test.YtmdnhpnaikfpjaaGreatDoorZau
import Derived.BigQuiet
import Derived.Test.YtmdnhpnaikfpjaaGreatDoorZat
import Derived.BigRegion
namespace Go.Proofs.YtmdnhpnaikfpjaaGreatDoor
set_option maxRecDepth 100000
open Go.RowKit

theorem next_any (A : Option Addr) (n cap : Nat) (l : List Sc) (lim : Int) (w : World) (hS : Secs w Empty A n cap l) (hm : n ≤ 1048576) (r : Option Nat) (hr : best (opensB lim) Sc.er l n = r) :
    Calls Tryz.prog 176 #[.slice A n cap, .int .i64 lim] w fun e w' => e = .returned (.tuple #[placeV r, .bool r.isSome]) ∧ Below w.heap.size w w' := by
  have HS := Lib.hid hS
  have Hr := Lib.hid hr
  clear hS hr
  go_enter Tryz.func176, Tryz.ntmps176
  go_wp2_with fail
  refine (canOpen_any lim _).mono ?_
  rintro e1 w1 ⟨rfl, hb1, hk1⟩
  have HB := Lib.hid hb1
  have HK := Lib.hid hk1
  have HS1 := Lib.hid (HS.out.only (Only.of_below (S := Empty) hb1) (fun _ _ h => h))
  clear hb1 hk1
  go_wp2_with fail
  refine (leastI_any A n cap l lim w.heap.size w1 HS1.out HK.out hm r Hr.out).mono ?_
  rintro e2 w2 ⟨rfl, hb2⟩
  have HB2 := Lib.hid (HB.out.trans (hb2.mono HB.out.size))
  clear hb2
  unfold placeV
  go_wp2_with fail
  refine bodyPost_ret (v := .tuple #[placeV r, .bool r.isSome]) (by simp [results, Tryz.results176, go_sem, placeV]) rfl ?_
  exact ⟨rfl, HB2.out⟩

theorem oldest_any (A : Option Addr) (n cap : Nat) (l : List Sc) (w : World) (hS : Secs w Empty A n cap l) (hm : n ≤ 1048576) (r : Option Nat) (hr : best usedB Sc.q l n = r) :
    Calls Tryz.prog 179 #[.slice A n cap] w fun e w' => e = .returned (.tuple #[placeV r, .bool r.isSome]) ∧ Below w.heap.size w w' := by
  have HS := Lib.hid hS
  have Hr := Lib.hid hr
  clear hS hr
  go_enter Tryz.func179, Tryz.ntmps179
  go_wp2_with fail
  refine (leastU_any A n cap l w HS.out hm r Hr.out).mono ?_
  rintro e2 w2 ⟨rfl, hb2⟩
  have HB2 := Lib.hid hb2
  clear hb2
  unfold placeV
  go_wp2_with fail
  refine bodyPost_ret (v := .tuple #[placeV r, .bool r.isSome]) (by simp [results, Tryz.results179, go_sem, placeV]) rfl ?_
  exact ⟨rfl, HB2.out⟩

end Go.Proofs.YtmdnhpnaikfpjaaGreatDoor

/- How many can be opened, how unevenly they are worn: as plain data, and the walks. -/
namespace Go.Proofs.YtmdnhpnaikfpjaaGreatDoor
set_option maxRecDepth 100000
open Go.RowKit

theorem countP_take_snoc (l : List Sc) (p : Sc → Bool) (i : Nat) (s : Sc) (h : l[i]? = some s) : (l.take (i + 1)).countP p = (l.take i).countP p + (if p s = true then 1 else 0) := by
  rw [take_one l i s h, List.countP_append, List.countP_singleton]

set_option maxHeartbeats 1000000 in
theorem free_any (A : Option Addr) (n cap : Nat) (l : List Sc) (lim : Int) (w : World) (hS : Secs w Empty A n cap l) (hm : n ≤ 1048576) :
    Calls Tryz.prog 46 #[.slice A n cap, .int .i64 lim] w fun e w' => e = .returned (.int .i64 ((l.countP (opensB lim) : Nat) : Int)) ∧ Below w.heap.size w w' := by
  have HS := Lib.hid hS
  have hcap := hS.2.1
  have hcap2 : cap ≤ 9223372036854775807 := by have := hS.2.2.1; unfold maxLen at this; omega
  clear hS
  go_enter Tryz.func46, Tryz.ntmps46
  go_wp2_with fail
  refine (canOpen_any lim _).mono ?_
  rintro e1 w1 ⟨rfl, hb1, hk1⟩
  have HB1 := Lib.hid (Only.of_below (S := Empty) hb1)
  have HK := Lib.hid hk1
  clear hb1 hk1
  go_wp2_with fail
  go_loopw [5, 13] (fun v5 v wr => ∃ i : Nat, i ≤ n ∧ v5 = .int .i64 (((l.take i).countP (opensB lim) : Nat) : Int) ∧ v = .int .i64 (i : Int) ∧ Hid (Only Empty w wr) ∧ Hid (Blk wr w.heap.size 3 #[.int .i64 lim])) (fun _ v _ => n - (intOf v).toNat)
  case atStart => exact ⟨0, Nat.zero_le _, by simp, rfl, HB1, HK⟩
  case round =>
    obtain ⟨i, hi, rfl, rfl, HB, HKr⟩ := hrel
    clear HB1 HK
    by_cases hlt : i < n
    · obtain ⟨b, f0, rfl, hb, -, hcl⟩ := HS.out.2.2.2 (by omega)
      obtain ⟨f, hf⟩ : ∃ f, l[i]? = some f := ⟨_, List.getElem?_eq_getElem (by have := HS.out.1; omega)⟩
      have hc := hcl i f hf
      have hcnt := countP_take_snoc l (opensB lim) i f hf
      have hle : (l.take i).countP (opensB lim) ≤ i := Nat.le_trans List.countP_le_length (by rw [List.length_take]; exact Nat.min_le_left _ _)
      obtain ⟨c, hcd⟩ : ∃ c, (l.take i).countP (opensB lim) = c := ⟨_, rfl⟩
      rw [hcd] at hcnt hle ⊢
      obtain ⟨st, q, er⟩ := f
      have d0 : wr.cell? ⟨b, f0 + i * 3, none⟩ = some (.int .i64 st) := (HB.out.cell (p := ⟨b, f0 + i * 3 + 0, none⟩) hb (fun h => h)).trans (hc 0 (by omega))
      have d1 : wr.cell? ⟨b, f0 + i * 3 + 1, none⟩ = some (.int .u32 q) := (HB.out.cell (p := ⟨b, f0 + i * 3 + 1, none⟩) hb (fun h => h)).trans (hc 1 (by omega))
      have d2 : wr.cell? ⟨b, f0 + i * 3 + 2, none⟩ = some (.int .i64 er) := (HB.out.cell (p := ⟨b, f0 + i * 3 + 2, none⟩) hb (fun h => h)).trans (hc 2 (by omega))
      have N1 := canOpen1_any st q er lim w.heap.size _ (HKr.out.alloc (.cells #[.int .i64 st, .int .u32 q, .int .i64 er] 56))
      have HO := Lib.hid (HB.out.alloc (.cells #[.int .i64 st, .int .u32 q, .int .i64 er] 56))
      have HK1 := Lib.hid (HKr.out.alloc (.cells #[.int .i64 st, .int .u32 q, .int .i64 er] 56))
      clear hc hcl hf hcd
      cases hmay : opensB lim ⟨st, q, er⟩ with
      | false =>
        rw [hmay] at N1 hcnt
        have N2 := Lib.hid N1
        have Hcnt := Lib.hid hcnt
        clear N1 hcnt hmay
        go_wp2_with fail
        refine N2.out.mono ?_
        rintro e2 w2 ⟨rfl, hb2⟩
        have HO2 := Lib.hid (HO.out.trans (Only.of_below hb2))
        have HK2 := Lib.hid (HK1.out.of (hb2.block w.heap.size HK1.out.lt))
        clear hb2
        go_wp2_with fail
        go_roundw
        case rel => exact ⟨i + 1, by omega, by rw [Hcnt.out]; rfl, by go_num, HO2, HK2⟩
        case measure => simp [intOf]; omega
      | true =>
        rw [hmay] at N1 hcnt
        have N2 := Lib.hid N1
        have Hcnt := Lib.hid hcnt
        clear N1 hcnt hmay
        go_wp2_with fail
        refine N2.out.mono ?_
        rintro e2 w2 ⟨rfl, hb2⟩
        have HO2 := Lib.hid (HO.out.trans (Only.of_below hb2))
        have HK2 := Lib.hid (HK1.out.of (hb2.block w.heap.size HK1.out.lt))
        clear hb2
        go_wp2_with fail
        go_roundw
        case rel => exact ⟨i + 1, by omega, by rw [Hcnt.out, if_pos trivial]; go_num, by go_num, HO2, HK2⟩
        case measure => simp [intOf]; omega
    · obtain rfl : i = n := by omega
      have ht : l.take i = l := List.take_of_length_le (by rw [HS.out.1]; omega)
      rw [ht]
      go_wp2_with fail
      go_ret
      exact ⟨rfl, HB.out.below (Nat.le_refl _) (fun _ _ h => h)⟩


end Go.Proofs.YtmdnhpnaikfpjaaGreatDoor

/- A plan in memory; the walks over blob's limit and nextSeq. -/
namespace Go.Proofs.YtmdnhpnaikfpjaaGreatDoor
set_option maxRecDepth 100000
open Go.RowKit

theorem Tryz.infoStep : (Tryz.prog.info? 165).map (fun i => (i.zero, i.size, i.bytes)) = some (some .nilFunc, 1, 8) := by kernel_rfl

/-- A plan as plain data. -/
structure PV where
  l : List Sc
  h : HeadV
  sts : List Stp
/-- Where its rows lie. -/
structure PP where
  A : Option Addr
  cap : Nat
  As : Option Addr
  cs : Nat
def planC (p mb : Nat) (vs vk : Value) (h : HeadV) (vst : Value) : Array Value := #[.pointer (some ⟨p, 0, none⟩), .map (some mb), vs, vk, .int .i64 h.sec, .int .i64 h.next, .int .i64 h.left, .int .u32 h.txn, vst]

structure PlanAt (w : World) (g base p mb Z : Nat) (vk : Value) (R : PP) (P : PV) : Prop where
  blk : Blk w g 118 (planC p mb (.slice R.A P.l.length R.cap) vk P.h (.slice R.As P.sts.length R.cs))
  secs : GotR Sc.cells 3 56 base w R.A P.l.length R.cap P.l
  sts : GotR (Stp.cells p Z) 1 165 base w R.As P.sts.length R.cs P.sts

theorem stp_len (p Z : Nat) (s : Stp) : (Stp.cells p Z s).length = 1 := rfl
theorem stp_one (p Z : Nat) (s : Stp) : ∀ v ∈ Stp.cells p Z s, v.oneCell' = true := by
  intro v hv
  simp only [Stp.cells, List.mem_cons, List.not_mem_nil, or_false] at hv
  subst hv
  cases s <;> rfl

section
variable {w w' : World} {g base p mb Z : Nat} {vk : Value} {R : PP} {P : PV}
theorem PlanAt.below (h : PlanAt w g base p mb Z vk R P) (b : Below w.heap.size w w') : PlanAt w' g base p mb Z vk R P :=
  ⟨h.blk.of (b.block g h.blk.lt), h.secs.below Sc.cells_len b, h.sts.below (stp_len p Z) b⟩
/-- Blocks ahead of base may turn, but for the plan's own. -/
theorem PlanAt.only {T : Nat → Prop} (h : PlanAt w g base p mb Z vk R P) (b : Only T w w') (hg : ¬ T g) (hT : ∀ i, base ≤ i → i < w.heap.size → ¬ T i) : PlanAt w' g base p mb Z vk R P :=
  ⟨b.blk h.blk hg, h.secs.only Sc.cells_len b hT, h.sts.only (stp_len p Z) b hT⟩
end

set_option maxHeartbeats 1000000 in
theorem limit_any (g p c e Z L : Nat) (cs : Array Value) (ss : List (Nat × List UInt8)) (w : World) (hb : Blk w g 118 cs) (hp : cs[0]? = some (.pointer (some ⟨p, 0, none⟩))) (hs : FS w p c e Z L ss) :
    Calls Tryz.prog 139 #[.pointer (some ⟨g, 0, none⟩)] w fun e1 w' => e1 = .returned (.int .i64 (L : Int)) ∧ Below w.heap.size w w' := by
  have c0 : w.cell? ⟨g, 0, none⟩ = some (.pointer (some ⟨p, 0, none⟩)) := (hb.cell 0).trans hp
  have hg := geo_field2 (ss.length : Int) (Z : Int) (L : Int)
  have HS := Lib.hid hs
  clear hs hb
  go_enter Tryz.func139, Tryz.ntmps139
  go_wp2_with fail
  refine HS.out.geo.mono ?_
  rintro e1 w1 ⟨rfl, hb1⟩
  go_wp2
  go_ret
  exact ⟨rfl, hb1⟩

/-- The greatest Seq of the used ones. -/
def lastQ (l : List Sc) : Int := l.foldl (fun m s => if s.st = 2 then max m s.q else m) 0
theorem lastQ_snoc (l : List Sc) (s : Sc) : lastQ (l ++ [s]) = if s.st = 2 then max (lastQ l) s.q else lastQ l := by simp [lastQ, List.foldl_append]
/-- Sectors whose numbers are numbers of 32 bits. -/
def Q32 (l : List Sc) : Prop := ∀ s ∈ l, 0 ≤ s.q ∧ s.q ≤ 4294967295
theorem foldQ_le : ∀ (l : List Sc) (m : Int), 0 ≤ m → m ≤ 4294967295 → Q32 l → 0 ≤ l.foldl (fun m s => if s.st = 2 then max m s.q else m) m ∧ l.foldl (fun m s => if s.st = 2 then max m s.q else m) m ≤ 4294967295
  | [], m, h0, h1, _ => ⟨h0, h1⟩
  | s :: l, m, h0, h1, h => by
    have hs := h s List.mem_cons_self
    have hl : Q32 l := fun q hq => h q (List.mem_cons_of_mem _ hq)
    rw [List.foldl_cons]
    split
    · exact foldQ_le l _ (by omega) (by omega) hl
    · exact foldQ_le l m h0 h1 hl
theorem lastQ_le (l : List Sc) (h : Q32 l) : 0 ≤ lastQ l ∧ lastQ l ≤ 4294967295 := foldQ_le l 0 (by decide) (by decide) h

/-- What nextSeq answers. -/
def nsV (l : List Sc) : Value := .tuple (if lastQ l = 4294967295 then #[.int .u32 0, .bool false] else #[.int .u32 (lastQ l + 1), .bool true])

set_option maxHeartbeats 2000000 in
theorem nextSeq_any (g base p mb Z : Nat) (vk : Value) (R : PP) (P : PV) (w : World) (hP : PlanAt w g base p mb Z vk R P) (hq : Q32 P.l) (hn : P.l.length ≤ 1048576) :
    Calls Tryz.prog 177 #[.pointer (some ⟨g, 0, none⟩)] w fun e1 w' => e1 = .returned (nsV P.l) ∧ Below w.heap.size w w' := by
  have c2 : w.cell? ⟨g, 2, none⟩ = some (.slice R.A P.l.length R.cap) := hP.blk.cell 2
  have hrow := hP.secs.row
  obtain ⟨l, h, sts⟩ := P
  obtain ⟨A, cap, As, cs⟩ := R
  simp only at c2 hrow hq hn ⊢
  have HR := Lib.hid hrow
  have HQ := Lib.hid hq
  obtain ⟨n, hn2⟩ : ∃ n, n = l.length := ⟨_, rfl⟩
  rw [← hn2] at c2 hn HR
  have hcap : n ≤ cap := HR.out.2.1
  have hcap2 : cap ≤ 9223372036854775807 := by have := HR.out.2.2.1; unfold maxLen at this; omega
  have Hn := Lib.hid hn2
  clear hP hrow hq hn2
  go_enter Tryz.func177, Tryz.ntmps177
  go_wp2_with fail
  go_loopw [4, 12] (fun a v wr => ∃ (i : Nat) (q : Int), i ≤ n ∧ v = .int .i64 (i : Int) ∧ a = .int .u32 q ∧ Hid (q = lastQ (l.take i)) ∧ Hid (Below w.heap.size w wr)) (fun _ v _ => n - (intOf v).toNat)
  case atStart => exact ⟨0, 0, Nat.zero_le _, rfl, rfl, Lib.hid rfl, Lib.hid (Below.refl _ _)⟩
  case round =>
    obtain ⟨i, q, hi, rfl, rfl, Hq, HB⟩ := hrel
    by_cases hlt : i < n
    · obtain ⟨b, o, s, rfl, hb, -, hf, hc⟩ := (HR.out.below HB.out).at_ hlt
      have htk := take_snoc l i s hf
      have hsn := lastQ_snoc (l.take i) s
      rw [← htk, ← Hq.out] at hsn
      have hs32 := HQ.out s (List.mem_of_getElem? hf)
      have hq32 := lastQ_le (l.take i) (fun x hx => HQ.out x (List.mem_of_mem_take hx))
      rw [← Hq.out] at hq32
      have c0 := hc 0 (by omega)
      have c1 := hc 1 (by omega)
      have c3 := hc 2 (by omega)
      simp [Sc.cells] at c0 c1 c3
      have hal := (Below.refl wr.heap.size wr).alloc (Nat.le_refl _) (.cells #[.int .i64 s.st, .int .u32 s.q, .int .i64 s.er] 56)
      have HB1 := Lib.hid (HB.out.trans (hal.mono HB.out.size))
      clear hc hf htk hal
      by_cases hu : s.st = 2
      · rw [if_pos hu] at hsn
        have Hsn := Lib.hid hsn
        have hu2 : (s.st == 2) = true := by simpa using hu
        clear hsn hu
        go_wp2_with fail
        go_roundw
        case rel => exact ⟨i + 1, max q s.q, by omega, by simp, rfl, Lib.hid Hsn.out.symm, HB1⟩
        case measure => simp [intOf]; omega
      · rw [if_neg hu] at hsn
        have Hsn := Lib.hid hsn
        have hu2 : (s.st == 2) = false := by simpa using hu
        clear hsn hu
        go_wp2_with fail
        go_roundw
        case rel => exact ⟨i + 1, q, by omega, by simp, rfl, Lib.hid Hsn.out.symm, HB1⟩
        case measure => simp [intOf]; omega
    · have hin : i = n := by omega
      subst hin
      have ht : l.take i = l := List.take_of_length_le (by have := Hn.out; omega)
      rw [ht] at Hq
      have hq32 := lastQ_le l HQ.out
      rw [← Hq.out] at hq32
      by_cases hm : q = 4294967295
      · have hm2 : (q == 4294967295) = true := by simpa using hm
        have Hm := Lib.hid hm
        clear hm
        go_wp2_with fail
        go_ret2
        exact ⟨by unfold nsV; rw [← Hq.out, if_pos Hm.out]; rfl, HB.out⟩
      · have hm2 : (q == 4294967295) = false := by simpa using hm
        have Hm := Lib.hid hm
        have h1 : q + 1 ≤ 4294967295 := by omega
        clear hm
        go_wp2_with fail
        go_ret2
        exact ⟨by unfold nsV; rw [← Hq.out, if_neg Hm.out]; rfl, HB.out⟩

end Go.Proofs.YtmdnhpnaikfpjaaGreatDoor
