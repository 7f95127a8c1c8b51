/- The walk over pool.Bytes. -/
import Derived.Test.YtinkjeifkjfkgaaVk
namespace Go.Proofs.Ytinkjeifkjfkgaa
set_option maxRecDepth 100000
open Go.RowKit

def cB (c : Cst) : List UInt8 := if c.tag = 0 then [] else constB c
/-- A pool's bytes. -/
def poolB (l : List Cst) : List UInt8 := putL l.length 2 ++ l.flatMap cB
theorem take_flat {α β : Type} (f : α → List β) (l : List α) (k : Nat) (c : α) (h : l[k]? = some c) : (l.take (k + 1)).flatMap f = (l.take k).flatMap f ++ f c := by
  rw [take_one l k c h, List.flatMap_append]
  simp
theorem take_flat_le {α β : Type} (f : α → List β) (l : List α) (k : Nat) : ((l.take k).flatMap f).length ≤ (l.flatMap f).length := by
  have h : l.flatMap f = (l.take k).flatMap f ++ (l.drop k).flatMap f := by rw [← List.flatMap_append, List.take_append_drop]
  rw [h, List.length_append]
  omega

theorem Wr.none_ (w : World) (g base : Nat) (h : Blk w g 44 #[.slice none 0 0]) (hb : base ≤ w.heap.size) : Wr w g base 0 [] :=
  ⟨none, 0, h, ⟨rfl, Or.inl ⟨rfl, rfl⟩⟩, hb⟩

theorem Wr.only {w w' : World} {g base m : Nat} {zs : List UInt8} (h : Wr w g base m zs) (k : Only Empty w w') : Wr w' g base m zs := by
  obtain ⟨B, c, hA⟩ := h
  exact ⟨B, c, hA.only k⟩

/-- What Bytes answers. -/
def PoolBs (w w' : World) (zs : List UInt8) (e : Ending) : Prop := (∃ A cap, e = .returned (.tuple #[.slice A zs.length cap, .int .i64 0]) ∧ ByteSl w' Empty A zs.length cap zs ∧ (A = none → zs.length = 0 ∧ cap = 0) ∧ w'.ownsRow w.heap.size 5 1 (.slice A zs.length cap) zs.length (zs.map B8)) ∧ Below w.heap.size w w'

theorem bytes_no (A : Option Addr) (n cap : Nat) (l : List Cst) (w : World) (hP : PoolSl w A n cap l) (hn : n ≤ 1000000) (hok : ∀ c ∈ l, c.ok) (hc : checkF l = false) :
    Calls Try.prog 8 #[.slice A n cap] w fun e w' => e = .returned (.tuple #[.slice none 0 0, .int .i64 8]) ∧ Below w.heap.size w w' := by
  have C := check_any A n cap l w hP hn hok
  rw [show checkC l = 8 by unfold checkC; rw [hc]; rfl] at C
  have C := Lib.hid C
  clear hP hok hc
  go_enter Try.func8, Try.ntmps8
  go_wp2_with fail
  refine C.out.mono ?_
  rintro e w1 ⟨rfl, hb⟩
  have Hb := Lib.hid hb
  clear hb
  go_wp2
  go_ret2
  exact ⟨rfl, Hb.out⟩

set_option maxHeartbeats 1000000 in
theorem bytes_yes (A : Option Addr) (n cap : Nat) (l : List Cst) (w : World) (hP : PoolSl w A n cap l) (hok : ∀ c ∈ l, c.ok) (hc : checkF l = true) (hs : ∀ c ∈ l, c.s.length ≤ 1000000) (hB : (poolB l).length ≤ 6000000) :
    Calls Try.prog 8 #[.slice A n cap] w fun e w' => PoolBs w w' (poolB l) e := by
  have hl := hP.1
  have hn : n ≤ 1024 ∧ 1 ≤ n := by
    unfold checkF at hc
    rw [Bool.and_assoc, Bool.and_eq_true] at hc
    have := of_decide_eq_true hc.1
    omega
  have C := check_any A n cap l w hP (by omega) hok
  rw [show checkC l = 0 by unfold checkC; rw [hc]; rfl] at C
  have C := Lib.hid C
  have HP := Lib.hid hP
  have HS := Lib.hid hs
  have HB := Lib.hid hB
  have Hl := Lib.hid hl
  have hwn : IntKind.u64.wrap (n : Int) = (n : Int) := by rw [IntKind.wrap_u64]; omega
  have CN : Hid (∀ (g base m v n : Nat) (zs : List UInt8) (W : World), Wr W g base m zs → v ≤ 18446744073709551615 → 1 ≤ n → n ≤ 8 → m ≤ 8000000 → Calls Try.prog 20 #[.pointer (some ⟨g, 0, none⟩), .int .u64 (v : Int), .int .i64 (n : Int)] W fun e w' => e = .returned (.tuple #[]) ∧ Wr w' g base (m + n) (zs ++ putL v n) ∧ WO g base W w') :=
    Lib.hid (fun g base m v n zs W h h0 h1 h2 h3 => wrNumber_any g base m v n zs W h h0 h1 h2 h3)
  have CC : Hid (∀ (g base m : Nat) (c : Cst) (zs : List UInt8) (W : World), Wr W g base m zs → m + c.s.length ≤ 7000000 → g < W.heap.size → Calls Try.prog 21 #[.pointer (some ⟨g, 0, none⟩), .agg #[.int .i64 c.tag, .int .i64 c.a, .int .i64 c.b, .int .i64 c.n, .string (strB c.s)]] W fun e w' => e = .returned (.tuple #[]) ∧ Wr w' g base (m + (constB c).length) (zs ++ constB c) ∧ WO g base W w') :=
    Lib.hid (fun g base m c zs W h h1 h2 => wrConstant_any g base m c zs W h h1 h2)
  clear hP hok hc hs hB hl
  go_enter Try.func8, Try.ntmps8
  go_wp2_with fail
  refine C.out.mono ?_
  rintro e w1 ⟨rfl, hb⟩
  have Hb := Lib.hid hb
  have HW1 := Lib.hid (Wr.none_ (w1.alloc (.cells #[.slice none 0 0] 44)) w1.heap.size w1.heap.size (Blk.new _ _ _) (by simp))
  clear hb
  obtain ⟨g, hg⟩ : ∃ g, g = w1.heap.size := ⟨_, rfl⟩
  go_wp2_with fail
  refine (CN.out w1.heap.size w1.heap.size 0 n 2 [] _ HW1.out (by omega) (by omega) (by omega) (by omega)).mono ?_
  rintro e w2 ⟨rfl, hw2, ho2⟩
  rw [Nat.zero_add, List.nil_append] at hw2
  have HW2 := Lib.hid hw2
  have HB2 : Hid (Below w.heap.size w w2) := Lib.hid ((Hb.out.alloc Hb.out.size _).trans (ho2.only.below (by have := Hb.out.size; simp; omega) (fun k hk h => by have := Hb.out.size; omega)))
  have HG : Hid (w1.heap.size < w2.heap.size ∧ w.heap.size ≤ w1.heap.size) := Lib.hid ⟨by have := ho2.only.size; simp at this; omega, Hb.out.size⟩
  rw [← hg] at HW2 HG ⊢
  clear hw2 ho2 HW1 Hb hg
  go_wp2
  go_loopw [19] (fun a wr => ∃ k : Nat, k ≤ n ∧ a = .int .i64 (k : Int) ∧ Hid (Below w.heap.size w wr) ∧ Hid (Wr wr g g (2 + ((l.take k).flatMap cB).length) (putL n 2 ++ (l.take k).flatMap cB)) ∧ g < wr.heap.size) (fun a _ => n - (intOf a).toNat)
  case atStart => exact ⟨0, Nat.zero_le _, rfl, HB2, Lib.hid (by simpa using HW2.out), HG.out.1⟩
  case round =>
    obtain ⟨k, hk, rfl, HBk, HWk, hgk⟩ := hrel
    by_cases hlt : k < n
    · obtain ⟨b, o, c, rfl, hc, hb, h0, h1, h2, h3, h4⟩ := pool_at (HP.out.below HBk.out) hlt
      have htk := take_flat cB l k c hc
      have hcl : c.s.length ≤ 1000000 := HS.out c (List.mem_of_getElem? hc)
      have hB := HB.out
      unfold poolB at hB
      rw [Hl.out, List.length_append, putL_len] at hB
      have hle1 := take_flat_le cB l k
      have hO1 : Only Empty wr (wr.alloc (.cells c.cells.toArray 41)) := (Only.refl _ _).alloc _
      by_cases ht : c.tag = 0
      · have hcb : cB c = [] := by unfold cB; rw [if_pos ht]
        have HWk2 : Hid (Wr (wr.alloc (.cells c.cells.toArray 41)) g g (2 + ((l.take (k + 1)).flatMap cB).length) (putL n 2 ++ (l.take (k + 1)).flatMap cB)) := Lib.hid (by rw [htk, hcb, List.append_nil]; exact HWk.out.only hO1)
        have HBk2 : Hid (Below w.heap.size w (wr.alloc (.cells c.cells.toArray 41))) := Lib.hid (HBk.out.alloc HBk.out.size _)
        have hq : (c.tag != 0) = false := by simpa using ht
        rw [Cst.cells] at HWk2 HBk2
        clear htk hcb hcl hB hle1 hO1 hc
        have Ht := Lib.hid ht
        clear ht
        go_wp2
        go_roundw
        case rel => exact ⟨k + 1, by omega, by go_num, HBk2, HWk2, by simp; omega⟩
        case measure => simp [intOf]; omega
      · have hcb : cB c = constB c := by unfold cB; rw [if_neg ht]
        have HWk1 := Lib.hid (HWk.out.only hO1)
        have HBk1 : Hid (Below w.heap.size w (wr.alloc (.cells c.cells.toArray 41))) := Lib.hid (HBk.out.alloc HBk.out.size _)
        have hq : (c.tag != 0) = true := by simpa using ht
        have HM : Hid ((2 + ((l.take k).flatMap cB).length) + c.s.length ≤ 7000000) := Lib.hid (by omega)
        have Htk : Hid ((l.take (k + 1)).flatMap cB = (l.take k).flatMap cB ++ constB c) := Lib.hid (by rw [htk, hcb])
        have HGk := HG
        clear htk hcb hcl hB hle1 hO1 hc ht
        go_wp2_with fail
        refine (CC.out g g _ c _ _ HWk1.out HM.out (by simp; omega)).mono ?_
        rintro e w3 ⟨rfl, hw3, ho3⟩
        have HW3 : Hid (Wr w3 g g (2 + ((l.take (k + 1)).flatMap cB).length) (putL n 2 ++ (l.take (k + 1)).flatMap cB)) := Lib.hid (by rw [Htk.out, List.length_append, ← Nat.add_assoc, ← List.append_assoc]; exact hw3)
        have HB3 : Hid (Below w.heap.size w w3) := Lib.hid (HBk1.out.trans (ho3.only.below HBk1.out.size (fun q hq h => by have := HG.out.2; omega)))
        have hg3 : g < w3.heap.size := by have := ho3.only.size; simp at this; omega
        clear hw3 ho3
        go_wp2
        go_roundw
        case rel => exact ⟨k + 1, by omega, by go_num, HB3, HW3, hg3⟩
        case measure => simp [intOf]; omega
    · obtain rfl : k = n := by omega
      have hpool : putL k 2 ++ (l.take k).flatMap cB = poolB l := by
        unfold poolB
        rw [← Hl.out, List.take_length]
      have HWe := HWk.out
      rw [hpool] at HWe
      have hlen : 2 + ((l.take k).flatMap cB).length = (poolB l).length := by rw [← hpool, List.length_append, putL_len]
      rw [hlen] at HWe
      obtain ⟨B, c2, hA⟩ := HWe
      have hc0 : wr.cell? ⟨g, 0, none⟩ = some (.slice B (poolB l).length c2) := hA.blk.cell 0
      obtain ⟨B', c', he, hB8, hnil⟩ := ByteSl.of_own (S := Empty) hA.own (fun _ _ _ h => h)
      have Hown := Lib.hid (own_base hA.own HG.out.2)
      cases he
      have HB8 := Lib.hid hB8
      have HN : Hid (B = none → (poolB l).length = 0 ∧ c2 = 0) := Lib.hid (fun e => by
        have h := hA.own.2
        rw [e] at h
        rcases h with ⟨h1, h2⟩ | ⟨g', cap', cur, h1, _⟩
        · cases h1
        · cases h1)
      clear hB8 hnil hA hpool hlen
      go_wp2
      go_ret2
      exact ⟨⟨B, c2, rfl, HB8.out, HN.out, Hown.out⟩, HBk.out⟩

end Go.Proofs.Ytinkjeifkjfkgaa
