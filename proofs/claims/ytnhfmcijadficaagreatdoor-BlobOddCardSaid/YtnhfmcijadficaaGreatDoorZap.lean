/- The walks over bytes.Clone and scan.Commits. -/
import Derived.Test.YtnhfmcijadficaaGreatDoorZao
import Derived.Test.YtnhfmcijadficaaGreatDoorZab
import Derived.Test.YtnhfmcijadficaaGreatDoorZaa
namespace Go.Proofs.YtnhfmcijadficaaGreatDoor
set_option maxRecDepth 100000
open Go.RowKit Go.Maps

theorem clone_any (A : Option Addr) (n cap : Nat) (xs : List UInt8) (w : World) (hB : ByteSl w Empty A n cap xs) (hA : A = none → n = 0 ∧ cap = 0) (hm : n ≤ 16777216) :
    Calls Tryz.prog 67 #[.slice A n cap] w fun e w' => (∃ A' cap', e = .returned (.slice A' n cap') ∧ Got w.heap.size w' A' n cap' xs) ∧ Below w.heap.size w w' := by
  have HB := Lib.hid hB
  rcases A with _ | ad
  · obtain ⟨rfl, rfl⟩ := hA rfl
    have hx : xs = [] := List.eq_nil_of_length_eq_zero hB.1
    subst hx
    clear hA hB
    have he := fun W => Lib.run_eql_slice_nil (P := Tryz.prog) W 22 5 none 0 0 0 0 Tryz.underlying22
    go_enter Tryz.func67, Tryz.ntmps67
    go_wp2
    go_ret
    exact ⟨⟨none, 0, rfl, Got.nil_ _ _⟩, Below.refl _ _⟩
  · have he := fun W => Lib.run_eql_slice_nil (P := Tryz.prog) W 22 5 (some ad) n cap 0 0 Tryz.underlying22
    have HO := Lib.hid (own_made w w.heap.size (Nat.le_refl _))
    have HB0 := Lib.hid ((Below.refl w.heap.size w).alloc (Nat.le_refl _) (.cells #[] 5))
    have HX := Lib.hid (HB.out.only (Only.of_below (S := Empty) HB0.out) (fun _ _ h => h))
    have HA := Lib.hid hA
    clear hB hA
    go_enter Tryz.func67, Tryz.ntmps67
    go_wp2_with (at_builtin; refine wpList_append_bytes rfl (.tmp 5) (.tmp 6) rfl w.heap.size _ rfl 0 [] HO.out (some ad) n cap xs Empty rfl HX.out HA.out (by omega) HB0.out.size ?_; intro v2 w2 hown2 hg2 _)
    have hown3 : w2.ownsRow w.heap.size 5 1 v2 n (xs.map B8) := by simpa using hown2
    obtain ⟨A2, c2, rfl, hG2⟩ := Got.of_own hown3
    have hlt := HO.out.lt
    have HB2 := Lib.hid (below_grown HB0.out HB0.out.size hg2 (fun q hq => (hlt q hq).1))
    have HG2 := Lib.hid hG2
    clear hown2 hown3 hg2 hG2 hlt he
    go_ret
    exact ⟨⟨A2, c2, rfl, HG2.out⟩, HB2.out⟩

/-- The records that count. -/
def keepT (F : Nat → Nat × Bool) (d : FD) : Bool := decide (d.k ≠ 3) && (F d.t).2
def commitsF (l : List FD) : List FD := l.filter (keepT (countT l))

set_option maxHeartbeats 4000000 in
theorem commits_any (A : Option Addr) (n cap : Nat) (l : List Fd) (w : World) (hF : Founds w Empty A n cap l) (ht : ∀ f ∈ l, f.t ≤ 4294967295) (hm : n ≤ 1048576) (hbl : ∀ f ∈ l, f.n ≤ 16777216) :
    Calls Tryz.prog 115 #[.slice A n cap] w fun e w' => (∃ A' n' cap' l', e = .returned (.slice A' n' cap') ∧ l'.map Fd.d = commitsF (l.map Fd.d) ∧ GotF w.heap.size w' A' n' cap' l') ∧ Below w.heap.size w w' := by
  have HF := Lib.hid hF
  have Ht := Lib.hid ht
  have Hbl := Lib.hid hbl
  have N1 := Lib.hid (count6_any A n cap l w hF ht hm)
  have hcap := hF.2.1
  have hcap2 : cap ≤ 9223372036854775807 := by have := hF.2.2.1; unfold maxLen at this; omega
  obtain ⟨F, hFe⟩ : ∃ F, F = countT (l.map Fd.d) := ⟨_, rfl⟩
  unfold commitsF
  rw [← hFe] at N1 ⊢
  clear hF ht hbl hFe
  go_enter Tryz.func115, Tryz.ntmps115
  go_wp2_with fail
  refine N1.out.mono ?_
  rintro e1 w1 ⟨⟨rfl, hM1⟩, hb1⟩
  have HM1 := Lib.hid hM1
  have HB1 := Lib.hid hb1
  have hz1 : w.heap.size < w1.heap.size := hM1.lt
  clear hM1 hb1
  go_wp2_with fail
  go_loopw [4, 11] (fun v4 v wr => ∃ (i : Nat) (acc : List Fd), i ≤ n ∧ v = .int .i64 (i : Int) ∧ Hid (acc.map Fd.d = ((l.take i).map Fd.d).filter (keepT F)) ∧ acc.length ≤ i ∧ Hid (TxM wr w.heap.size n F) ∧ Hid (Below w.heap.size w wr) ∧ Hid (w.heap.size < wr.heap.size) ∧
    Hid (wr.ownsRow (w.heap.size + 1) 190 6 v4 acc.length (acc.flatMap Fd.cells)) ∧ Hid (Blobs wr (fun q => v4.ownBlock = some q) acc)) (fun _ v _ => n - (intOf v).toNat)
  case atStart => exact ⟨0, [], Nat.zero_le _, rfl, Lib.hid rfl, Nat.le_refl _, HM1, HB1, Lib.hid hz1, Lib.hid (World.ownsRow_nil _ _ _ _), Lib.hid (Blobs.nil_ _ _)⟩
  case round =>
    obtain ⟨i, acc, hi, rfl, Hacc, hal, HM, HB, Hz, HO, HBl⟩ := hrel
    clear hz1
    have hz := Hz.out
    by_cases hlt : i < n
    · obtain ⟨b, o, rfl, hb, -, hcl⟩ := HF.out.2.2.2.1 (by omega)
      obtain ⟨f, hf⟩ : ∃ f, l[i]? = some f := ⟨_, List.getElem?_eq_getElem (by have := HF.out.1; omega)⟩
      have hc := hcl i f hf
      have hmem := List.mem_of_getElem? hf
      have hft := Ht.out f hmem
      have hfn := Hbl.out f hmem
      have hfb := HF.out.2.2.2.2 f hmem
      have htake : ((l.take (i + 1)).map Fd.d).filter (keepT F) = ((l.take i).map Fd.d).filter (keepT F) ++ (if keepT F f.d = true then [f.d] else []) := by
        rw [take_one l i f hf, List.map_append, List.filter_append]
        simp only [List.map_cons, List.map_nil, List.filter_cons, List.filter_nil]
      rw [← Hacc.out] at htake
      obtain ⟨pl, k, t, s, A1, m1, p1, c, xs⟩ := f
      simp only at hft hfn hfb
      have hcell : ∀ j, j < 6 → wr.cell? ⟨b, o + i * 6 + j, none⟩ = (Fd.mk pl k t s A1 m1 p1 c xs).cells[j]? := fun j hj => (HB.out.cell (p := ⟨b, o + i * 6 + j, none⟩) hb).trans (hc j hj)
      have d0 : wr.cell? ⟨b, o + i * 6, none⟩ = some (.int .i64 pl) := hcell 0 (by omega)
      have d1 : wr.cell? ⟨b, o + i * 6 + 1, none⟩ = some (.int .i64 k) := hcell 1 (by omega)
      have d2 : wr.cell? ⟨b, o + i * 6 + 2, none⟩ = some (.int .u32 (t : Int)) := hcell 2 (by omega)
      have d3 : wr.cell? ⟨b, o + i * 6 + 3, none⟩ = some (.string s) := hcell 3 (by omega)
      have d4 : wr.cell? ⟨b, o + i * 6 + 4, none⟩ = some (.slice A1 m1 p1) := hcell 4 (by omega)
      have d5 : wr.cell? ⟨b, o + i * 6 + 5, none⟩ = some (.int .i64 c) := hcell 5 (by omega)
      obtain ⟨x, y, hxy⟩ : ∃ x y, F t = (x, y) := ⟨_, _, rfl⟩
      have hlook := fun ob => (HM.out.alloc ob).look hft
      rw [hxy] at hlook
      unfold txnV at hlook
      have hfld : ∀ W, (Instr.field 222 (.agg #[.int .i64 (x : Int), .bool y]) 1).run Tryz.prog W = .ok (.bool y) W := fun _ => by kernel_rfl
      have Hfb := Lib.hid hfb
      have hO1 := (Only.refl Empty wr).alloc (.cells #[.int .i64 pl, .int .i64 k, .int .u32 (t : Int), .string s, .slice A1 m1 p1, .int .i64 c] 190)
      have HM2 := Lib.hid (HM.out.alloc (.cells #[.int .i64 pl, .int .i64 k, .int .u32 (t : Int), .string s, .slice A1 m1 p1, .int .i64 c] 190))
      have HB2 := Lib.hid (HB.out.alloc HB.out.size (.cells #[.int .i64 pl, .int .i64 k, .int .u32 (t : Int), .string s, .slice A1 m1 p1, .int .i64 c] 190))
      have HO2 := Lib.hid (HO.out.alloc (.cells #[.int .i64 pl, .int .i64 k, .int .u32 (t : Int), .string s, .slice A1 m1 p1, .int .i64 c] 190))
      have HBl2 := Lib.hid (HBl.out.only hO1 (fun _ _ h => h.elim))
      have HK2 := Lib.hid (Blk.new wr 190 #[.int .i64 pl, .int .i64 k, .int .u32 (t : Int), .string s, .slice A1 m1 p1, .int .i64 c])
      have Hz2 : Hid (w.heap.size < (wr.alloc (.cells #[.int .i64 pl, .int .i64 k, .int .u32 (t : Int), .string s, .slice A1 m1 p1, .int .i64 c] 190)).heap.size) := Lib.hid (by simp; omega)
      clear hc hcl hf hmem hcell hfb hO1
      by_cases hk : k = 3
      · have hkt : keepT F (Fd.mk pl k t s A1 m1 p1 c xs).d = false := by unfold keepT Fd.d; simp [hk]
        rw [hkt, if_neg (by simp), List.append_nil] at htake
        have Htake := Lib.hid htake.symm
        subst hk
        clear htake hxy hkt
        go_wp2
        go_roundw
        case rel => exact ⟨i + 1, acc, by omega, by go_num, Htake, by omega, HM2, HB2, Hz2, HO2, HBl2⟩
        case measure => simp [intOf]; omega
      · have q1 : (k == 3) = false := by simpa using hk
        have q2 : (k != 3) = true := by simp only [bne, q1]; rfl
        cases y with
        | false =>
          have hkt : keepT F (Fd.mk pl k t s A1 m1 p1 c xs).d = false := by unfold keepT Fd.d; simp [hxy]
          rw [hkt, if_neg (by simp), List.append_nil] at htake
          have Htake := Lib.hid htake.symm
          clear htake hxy hkt hk
          go_wp2
          go_roundw
          case rel => exact ⟨i + 1, acc, by omega, by go_num, Htake, by omega, HM2, HB2, Hz2, HO2, HBl2⟩
          case measure => simp [intOf]; omega
        | true =>
          have hkt : keepT F (Fd.mk pl k t s A1 m1 p1 c xs).d = true := by unfold keepT Fd.d; simp [hxy, hk]
          rw [hkt, if_pos rfl] at htake
          have Htake := Lib.hid htake.symm
          clear htake hxy hkt hk
          have HX := Lib.hid (Hfb.out.1.only (Only.of_below (S := Empty) HB2.out) (fun _ _ h => h))
          go_wp2_with fail
          refine (clone_any A1 m1 p1 xs _ HX.out Hfb.out.2 hfn).mono ?_
          rintro e7 w7 ⟨⟨A7, c7, rfl, hG7⟩, hb7⟩
          have hz7 : wr.heap.size < w7.heap.size := by have := hb7.size; simp at this; omega
          have hK7 := HK2.out.of (hb7.block wr.heap.size (by simp))
          have HK8 := Lib.hid (show Blk (w7.setCell ⟨wr.heap.size, 4, none⟩ (.slice A7 m1 c7)) wr.heap.size 190 #[.int .i64 pl, .int .i64 k, .int .u32 (t : Int), .string s, .slice A7 m1 c7, .int .i64 c] from hK7.set_ 4 (.slice A7 m1 c7))
          have x0 := hK7.cell 0
          have x1 := hK7.cell 1
          have x2 := hK7.cell 2
          have x3 := hK7.cell 3
          have x4 := hK7.cell 4
          have x5 := hK7.cell 5
          have g4 := hK7.frozen 4
          simp at x0 x1 x2 x3 x4 x5
          have y0 := HK8.out.cell 0
          have y1 := HK8.out.cell 1
          have y2 := HK8.out.cell 2
          have y3 := HK8.out.cell 3
          have y4 := HK8.out.cell 4
          have y5 := HK8.out.cell 5
          simp at y0 y1 y2 y3 y4 y5
          obtain ⟨f, hf⟩ : ∃ f : Fd, f = ⟨pl, k, t, s, A7, m1, c7, c, xs⟩ := ⟨_, rfl⟩
          have hfd : f.d = (Fd.mk pl k t s A1 m1 p1 c xs).d := by rw [hf]; rfl
          have hFd : f.A = A7 ∧ f.n = m1 ∧ f.cap = c7 ∧ f.blob = xs := by rw [hf]; exact ⟨rfl, rfl, rfl, rfl⟩
          have hcells : f.cells.toArray = #[.int .i64 pl, .int .i64 k, .int .u32 (t : Int), .string s, .slice A7 m1 c7, .int .i64 c] := by rw [hf]; rfl
          have hlt4 := HO.out.lt
          have hO9 : Only Empty wr ((w7.setCell ⟨wr.heap.size, 4, none⟩ (.slice A7 m1 c7)).alloc (.cells #[.int .i64 pl, .int .i64 k, .int .u32 (t : Int), .string s, .slice A7 m1 c7, .int .i64 c] 190)) :=
            ((((Only.refl Empty wr).alloc (.cells #[.int .i64 pl, .int .i64 k, .int .u32 (t : Int), .string s, .slice A1 m1 p1, .int .i64 c] 190)).trans (Only.of_below (S := Empty) hb7)).setCell (p := ⟨wr.heap.size, 4, none⟩) (Or.inr (Nat.le_refl _)) (.slice A7 m1 c7)).alloc _
          have hB9 := HB.out.trans (hO9.below (B := w.heap.size) HB.out.size (fun _ _ h => h))
          obtain ⟨A8, c8, e8, hB8, -⟩ := ByteSl.of_own (S := fun q => Value.ownBlock u4 = some q ∨ q = wr.heap.size) hG7.own (fun q h1 _ h2 => by
            simp at h1
            rcases h2 with h2 | h2
            · have := (hlt4 q h2).2; omega
            · omega)
          cases e8
          have hS : Only (· = wr.heap.size) w7 ((w7.setCell ⟨wr.heap.size, 4, none⟩ (.slice A7 m1 c7)).alloc (.cells #[.int .i64 pl, .int .i64 k, .int .u32 (t : Int), .string s, .slice A7 m1 c7, .int .i64 c] 190)) := ((Only.refl (· = wr.heap.size) w7).setCell (p := ⟨wr.heap.size, 4, none⟩) (Or.inl rfl) _).alloc _
          have hB10 := (hB8.only hS (fun q _ h => Or.inr h)).mono (T := fun q => Value.ownBlock u4 = some q) (fun q _ h => Or.inl h)
          have HB10 : Hid (ByteSl ((w7.setCell ⟨wr.heap.size, 4, none⟩ (.slice A7 m1 c7)).alloc (.cells #[.int .i64 pl, .int .i64 k, .int .u32 (t : Int), .string s, .slice A7 m1 c7, .int .i64 c] 190)) (fun q => Value.ownBlock u4 = some q) f.A f.n f.cap f.blob) := Lib.hid (by rw [hFd.1, hFd.2.1, hFd.2.2.1, hFd.2.2.2]; exact hB10)
          have HN10 : Hid (f.A = none → f.n = 0 ∧ f.cap = 0) := Lib.hid (by rw [hFd.1, hFd.2.1, hFd.2.2.1]; exact hG7.isNil)
          have HO9 := Lib.hid (own_only HO.out hO9 (fun _ _ _ h => h))
          have HBl9 := Lib.hid (HBl.out.only hO9 (fun _ _ h => h.elim))
          have HM9 := Lib.hid (HM.out.only hO9 (fun h => h))
          have HB9 := Lib.hid hB9
          have hK9 : Blk ((w7.setCell ⟨wr.heap.size, 4, none⟩ (.slice A7 m1 c7)).alloc (.cells #[.int .i64 pl, .int .i64 k, .int .u32 (t : Int), .string s, .slice A7 m1 c7, .int .i64 c] 190)) w7.heap.size 190 f.cells.toArray := by
            rw [hcells]
            have h := Blk.new (w7.setCell ⟨wr.heap.size, 4, none⟩ (.slice A7 m1 c7)) 190 #[.int .i64 pl, .int .i64 k, .int .u32 (t : Int), .string s, .slice A7 m1 c7, .int .i64 c]
            have hsz : (w7.setCell ⟨wr.heap.size, 4, none⟩ (.slice A7 m1 c7)).heap.size = w7.heap.size := by simp [World.setCell]
            rw [hsz] at h
            exact h
          have HK9 := Lib.hid hK9
          have Hmm : Hid (acc.length + 1 ≤ 1048576) := Lib.hid (by omega)
          have Hbs : Hid (w.heap.size + 1 ≤ ((w7.setCell ⟨wr.heap.size, 4, none⟩ (.slice A7 m1 c7)).alloc (.cells #[.int .i64 pl, .int .i64 k, .int .u32 (t : Int), .string s, .slice A7 m1 c7, .int .i64 c] 190)).heap.size) := Lib.hid (by have := hO9.size; omega)
          have Hfd := Lib.hid hfd
          clear hK7 hf hfd hFd hcells hlt4 hO9 hB9 hB8 hS hB10 hK9 hG7 hb7 hlook hfld
          go_wp2_with (at_builtin; refine wpList_append_found rfl (.tmp 33) (.tmp 35) rfl (w.heap.size + 1) u4 rfl acc HO9.out f w7.heap.size rfl HK9.out Hmm.out Hbs.out ?_; intro v8 w8 hown8 hg8 hat8)
          have hlt9 := HO9.out.lt
          have HB11 := Lib.hid (below_grown HB9.out HB9.out.size hg8 (fun q hq => by have := (hlt9 q hq).1; omega))
          have HM11 := Lib.hid (HM9.out.kept hg8 (fun e => by have := (hlt9 w.heap.size e.symm).1; omega))
          have HBl11 := Lib.hid (HBl9.out.append HB10.out HN10.out hg8 hat8)
          have HO11 := Lib.hid hown8
          have Hz11 : Hid (w.heap.size < w8.heap.size) := Lib.hid (by have := hg8.size; have := Hbs.out; omega)
          have HT11 : Hid ((acc ++ [f]).map Fd.d = ((l.take (i + 1)).map Fd.d).filter (keepT F)) := Lib.hid (by rw [List.map_append, List.map_cons, List.map_nil, Hfd.out]; exact Htake.out)
          have Hl11 : Hid ((acc ++ [f]).length ≤ i + 1) := Lib.hid (by simp; omega)
          clear hlt9 hg8 hat8 hown8 x0 x1 x2 x3 x4 x5 g4 y0 y1 y2 y3 y4 y5 d0 d1 d2 d3 d4 d5
          go_roundw
          case rel => exact ⟨i + 1, acc ++ [f], by omega, by go_num, HT11, Hl11.out, HM11, HB11, Hz11, HO11, HBl11⟩
          case measure => simp [intOf]; omega
    · obtain rfl : i = n := by omega
      rw [List.take_of_length_le (by rw [HF.out.1]; omega)] at Hacc
      obtain ⟨A2, cap2, rfl, hG⟩ := GotF.of_own (own_base HO.out (show w.heap.size ≤ w.heap.size + 1 by omega)) HBl.out
      have HG := Lib.hid hG
      clear hG
      go_wp2_with fail
      go_ret
      exact ⟨⟨A2, _, cap2, acc, rfl, Hacc.out, HG.out⟩, HB.out⟩

end Go.Proofs.YtnhfmcijadficaaGreatDoor

/- Sectors as plain data; the walks over what tells of one sector alone. -/
namespace Go.Proofs.YtnhfmcijadficaaGreatDoor
set_option maxRecDepth 100000
open Go.ChangeShapes Go.WideShapes Go.ChangeAt Go.RowKit Go.Joins

/-- A sector's three cells. -/
structure Sc where
  st : Int
  q : Int
  er : Int
def Sc.cells (s : Sc) : List Value := [.int .i64 s.st, .int .u32 s.q, .int .i64 s.er]
theorem Sc.cells_len (s : Sc) : s.cells.length = 3 := rfl

/-- Sectors that lie side by side: the slice value reads as them. -/
def Secs (w : World) (S : Nat → Prop) (A : Option Addr) (n cap : Nat) (l : List Sc) : Prop :=
  l.length = n ∧ n ≤ cap ∧ cap ≤ maxLen ∧ (0 < n → ∃ b o, A = some ⟨b, o, none⟩ ∧ b < w.heap.size ∧ ¬ S b ∧ ∀ i f, l[i]? = some f → ∀ j, j < 3 → w.cell? ⟨b, o + i * 3 + j, none⟩ = f.cells[j]?)

section
variable {w w' : World} {S T : Nat → Prop} {A : Option Addr} {n cap : Nat} {l : List Sc}
theorem Secs.only (h : Secs w S A n cap l) (k : Only T w w') (hT : ∀ i, i < w.heap.size → T i → S i) : Secs w' S A n cap l :=
  ⟨h.1, h.2.1, h.2.2.1, fun hn => by
    obtain ⟨b, o, e, hb, hs, hc⟩ := h.2.2.2 hn
    exact ⟨b, o, e, Nat.lt_of_lt_of_le hb k.size, hs, fun i f hf j hj => (k.cell (p := ⟨b, o + i * 3 + j, none⟩) hb (fun ht => hs (hT _ hb ht))).trans (hc i f hf j hj)⟩⟩
theorem Secs.mono (h : Secs w S A n cap l) (hT : ∀ i, i < w.heap.size → T i → S i) : Secs w T A n cap l :=
  ⟨h.1, h.2.1, h.2.2.1, fun hn => by
    obtain ⟨b, o, e, hb, hs, hc⟩ := h.2.2.2 hn
    exact ⟨b, o, e, hb, fun ht => hs (hT _ hb ht), hc⟩⟩
theorem Secs.nil_ (w : World) (S : Nat → Prop) (A : Option Addr) (cap : Nat) (h : cap ≤ maxLen) : Secs w S A 0 cap [] := ⟨rfl, Nat.zero_le _, h, fun h => absurd h (by omega)⟩
end

section
variable {H : Type} {enc : TypeId × Value → H} {W : World} {base : Nat}
theorem open_secs {v : Value} {d : DataW H} {p : List MemPlace} (hv : Value.okWide Tryz.prog W .any base 84 v) (h : DataW.Trod enc Tryz.prog W 0 (fun _ => true) true 84 v d p) :
    ∃ (A : Option Addr) (n cap : Nat) (l : List Sc), v = .slice A n cap ∧ Secs W (fun q => W.heap.size ≤ q) A n cap l ∧ (A = none → n = 0 ∧ cap = 0) := by
  obtain ⟨A, n, cap, l, rfl, hl, hn, hm, hA, hP⟩ := open_rows (enc := enc) (⟨0, 0, 0⟩ : Sc) 84 96 3 Tryz.underlying84 (by kernel_rfl) (by decide)
    (fun b off f => ∀ j, j < 3 → W.cell? ⟨b, off + j, none⟩ = f.cells[j]?)
    (fun b off fuel cs x hc ht => by
      obtain ⟨ys, m, _, _, _, hyl, hg⟩ := DataW.trod_struct Tryz.underlying96 ht
      obtain ⟨_, hl, hat⟩ := World.cells?_some hc
      match cs, hl with
      | [c0, c1, c2], _ =>
        match ys, hyl with
        | [y0, y1, y2], _ =>
          have g0 : DataW.trod enc Tryz.prog W 0 (fun _ => true) true m 3 [c0] = some y0 := hg 0 _ rfl
          have g1 : DataW.trod enc Tryz.prog W 0 (fun _ => true) true m 45 [c1] = some y1 := hg 1 _ rfl
          have g2 : DataW.trod enc Tryz.prog W 0 (fun _ => true) true m 3 [c2] = some y2 := hg 2 _ rfl
          obtain ⟨a, e0, _, _⟩ := DataW.trod_int Tryz.underlying3 g0
          obtain ⟨t, e1, _, _⟩ := DataW.trod_int Tryz.underlying45 g1
          obtain ⟨c, e2, _, _⟩ := DataW.trod_int Tryz.underlying3 g2
          simp at e0 e1 e2
          subst e0 e1 e2
          refine ⟨⟨a, t, c⟩, fun j hj => ?_⟩
          have h1 := hat j hj
          rw [add_off] at h1
          rw [h1]
          rfl)
    hv h
  refine ⟨A, n, cap, l, rfl, ⟨hl, hn, hm, fun h0 => ?_⟩, hA⟩
  obtain ⟨b, o, e, hb, hP2⟩ := hP h0
  exact ⟨b, o, e, hb, by omega, fun i f hf => hP2 i f hf⟩

theorem open_sectorA {v : Value} {d : DataW H} {p : List MemPlace} (hv : Value.okWide Tryz.prog W .any base 96 v) (h : DataW.Trod enc Tryz.prog W 0 (fun _ => true) true 96 v d p) :
    ∃ (a q c : Int), v = .agg #[.int .i64 a, .int .u32 q, .int .i64 c] := by
  obtain ⟨cs, rfl, hsz⟩ := okWide_struct Tryz.underlying96 hv
  obtain ⟨fuel, hf⟩ := h
  obtain ⟨ys, m, _, _, _, hyl, hg⟩ := DataW.trod_struct Tryz.underlying96 hf
  obtain ⟨l⟩ := cs
  have h5 : l.length = 3 := hsz
  match l, h5 with
  | [c0, c1, c2], _ =>
    match ys, hyl with
    | [y0, y1, y2], _ =>
      have g0 : DataW.trod enc Tryz.prog W 0 (fun _ => true) true m 3 [c0] = some y0 := hg 0 _ rfl
      have g1 : DataW.trod enc Tryz.prog W 0 (fun _ => true) true m 45 [c1] = some y1 := hg 1 _ rfl
      have g2 : DataW.trod enc Tryz.prog W 0 (fun _ => true) true m 3 [c2] = some y2 := hg 2 _ rfl
      obtain ⟨a, e0, _, _⟩ := DataW.trod_int Tryz.underlying3 g0
      obtain ⟨t, e1, _, _⟩ := DataW.trod_int Tryz.underlying45 g1
      obtain ⟨c, e2, _, _⟩ := DataW.trod_int Tryz.underlying3 g2
      simp at e0 e1 e2
      subst e0 e1 e2
      exact ⟨a, t, c, rfl⟩
end

/-- Can it be opened? Is it used? -/
def opensB (lim : Int) (s : Sc) : Bool := decide (s.st = 0) || (decide (s.st = 1) && decide (s.er < lim))
def usedB (s : Sc) : Bool := decide (s.st = 2)

theorem retB {a b : Bool} (h : a = b) : Ending.returned (.bool a) = .returned (.bool b) := by rw [h]


theorem canOpen1_any (st q er lim : Int) (g : Nat) (w : World) (hg : Blk w g 3 #[.int .i64 lim]) : Calls Tryz.prog 117 #[.agg #[.int .i64 st, .int .u32 q, .int .i64 er], .pointer (some ⟨g, 0, none⟩)] w fun e w' =>
    e = .returned (.bool (opensB lim ⟨st, q, er⟩)) ∧ Below w.heap.size w w' := by
  have Hb := Lib.hid ((Below.refl w.heap.size w).alloc (Nat.le_refl _) (.cells #[.int .i64 st, .int .u32 q, .int .i64 er] 96))
  have hc := (hg.alloc (.cells #[.int .i64 st, .int .u32 q, .int .i64 er] 96)).cell 0
  simp at hc
  clear hg
  unfold opensB
  by_cases h0 : st = 0
  · subst h0
    go_enter Tryz.func117, Tryz.ntmps117
    go_wp2
    go_ret
    exact ⟨retB (by simp), Hb.out⟩
  · have q0 : (st == 0) = false := by simpa using h0
    by_cases h1 : st = 1
    · subst h1
      by_cases hl : er < lim
      · go_enter Tryz.func117, Tryz.ntmps117
        go_wp2
        go_ret
        exact ⟨retB (by simp [hl]), Hb.out⟩
      · go_enter Tryz.func117, Tryz.ntmps117
        go_wp2
        go_ret
        exact ⟨retB (by simp [hl]), Hb.out⟩
    · have q1 : (st == 1) = false := by simpa using h1
      go_enter Tryz.func117, Tryz.ntmps117
      go_wp2
      go_ret
      exact ⟨retB (by simp [h0, h1]), Hb.out⟩

theorem isUsed_any (st q er : Int) (w : World) : Calls Tryz.prog 189 #[.agg #[.int .i64 st, .int .u32 q, .int .i64 er]] w fun e w' =>
    e = .returned (.bool (usedB ⟨st, q, er⟩)) ∧ Below w.heap.size w w' := by
  have Hb := Lib.hid ((Below.refl w.heap.size w).alloc (Nat.le_refl _) (.cells #[.int .i64 st, .int .u32 q, .int .i64 er] 96))
  unfold usedB
  go_enter Tryz.func189, Tryz.ntmps189
  go_wp2
  go_ret
  exact ⟨rfl, Hb.out⟩

theorem erases_any (st q er : Int) (w : World) : Calls Tryz.prog 186 #[.agg #[.int .i64 st, .int .u32 q, .int .i64 er]] w fun e w' =>
    e = .returned (.int .i64 er) ∧ Below w.heap.size w w' := by
  have Hb := Lib.hid ((Below.refl w.heap.size w).alloc (Nat.le_refl _) (.cells #[.int .i64 st, .int .u32 q, .int .i64 er] 96))
  go_enter Tryz.func186, Tryz.ntmps186
  go_wp2
  go_ret
  exact ⟨rfl, Hb.out⟩

theorem seq_any (st q er : Int) (w : World) : Calls Tryz.prog 190 #[.agg #[.int .i64 st, .int .u32 q, .int .i64 er]] w fun e w' =>
    e = .returned (.int .u32 q) ∧ Below w.heap.size w w' := by
  have Hb := Lib.hid ((Below.refl w.heap.size w).alloc (Nat.le_refl _) (.cells #[.int .i64 st, .int .u32 q, .int .i64 er] 96))
  go_enter Tryz.func190, Tryz.ntmps190
  go_wp2
  go_ret
  exact ⟨rfl, Hb.out⟩

/-- Whether one can be opened is asked by a function value that holds the limit in a block of its own. -/
theorem canOpen_any (lim : Int) (w : World) : Calls Tryz.prog 75 #[.int .i64 lim] w fun e w' =>
    e = .returned (.func (.func 117) #[] #[.pointer (some ⟨w.heap.size, 0, none⟩)]) ∧ Below w.heap.size w w' ∧ Blk w' w.heap.size 3 #[.int .i64 lim] := by
  have Hb := Lib.hid ((Below.refl w.heap.size w).alloc (Nat.le_refl _) (.cells #[.int .i64 lim] 3))
  have Hk := Lib.hid (Blk.new w 3 #[.int .i64 lim])
  go_enter Tryz.func75, Tryz.ntmps75
  go_wp2
  go_ret
  exact ⟨rfl, Hb.out, Hk.out⟩

end Go.Proofs.YtnhfmcijadficaaGreatDoor

/- The first of the least of a row by a key, among those that may be taken: as plain data. -/
namespace Go.Proofs.YtnhfmcijadficaaGreatDoor
set_option maxRecDepth 100000
open Go.RowKit

/-- What the i-th one makes of the place that is the least one's so far. -/
def stepB (may : Sc → Bool) (key : Sc → Int) (l : List Sc) (o : Option Nat) (i : Nat) : Option Nat :=
  match l[i]? with
  | none => o
  | some s => if may s = true then (match o with | none => some i | some p => match l[p]? with | none => some p | some t => if key s < key t then some i else some p) else o
def best (may : Sc → Bool) (key : Sc → Int) (l : List Sc) : Nat → Option Nat
  | 0 => none
  | i + 1 => stepB may key l (best may key l i) i

section
variable {may : Sc → Bool} {key : Sc → Int} {l : List Sc} {o : Option Nat} {i p : Nat} {s t : Sc}
theorem stepB_no (hs : l[i]? = some s) (hm : may s = false) : stepB may key l o i = o := by unfold stepB; rw [hs]; simp [hm]
theorem stepB_first (hs : l[i]? = some s) (hm : may s = true) : stepB may key l none i = some i := by unfold stepB; rw [hs]; simp [hm]
theorem stepB_less (hs : l[i]? = some s) (hm : may s = true) (ht : l[p]? = some t) (hk : key s < key t) : stepB may key l (some p) i = some i := by unfold stepB; rw [hs]; simp [hm, ht, hk]
theorem stepB_more (hs : l[i]? = some s) (hm : may s = true) (ht : l[p]? = some t) (hk : ¬ key s < key t) : stepB may key l (some p) i = some p := by unfold stepB; rw [hs]; simp [hm, ht, hk]

/-- What is asked of the least one's place among the first i. -/
def IsBest (may : Sc → Bool) (key : Sc → Int) (l : List Sc) (i : Nat) : Option Nat → Prop
  | none => ∀ j s, j < i → l[j]? = some s → may s = false
  | some p => p < i ∧ ∃ t, l[p]? = some t ∧ may t = true ∧ ∀ j s, j < i → l[j]? = some s → may s = true → key t ≤ key s

theorem best_is (may : Sc → Bool) (key : Sc → Int) (l : List Sc) : ∀ i, i ≤ l.length → IsBest may key l i (best may key l i)
  | 0, _ => fun j s h _ => absurd h (by omega)
  | i + 1, hi => by
    have ih := best_is may key l i (by omega)
    obtain ⟨s, hs⟩ : ∃ s, l[i]? = some s := ⟨_, List.getElem?_eq_getElem (by omega)⟩
    show IsBest may key l (i + 1) (stepB may key l (best may key l i) i)
    revert ih
    cases best may key l i with
    | none =>
      intro ih
      cases hm : may s with
      | false =>
        rw [stepB_no hs hm]
        intro j t hj ht
        by_cases h : j = i
        · subst h
          rw [hs] at ht
          cases ht
          exact hm
        · exact ih j t (by omega) ht
      | true =>
        rw [stepB_first hs hm]
        refine ⟨by omega, s, hs, hm, fun j t hj ht hmt => ?_⟩
        by_cases h : j = i
        · subst h
          rw [hs] at ht
          cases ht
          exact Int.le_refl _
        · rw [ih j t (by omega) ht] at hmt
          cases hmt
    | some p =>
      rintro ⟨hp, t, ht, hmt, hall⟩
      cases hm : may s with
      | false =>
        rw [stepB_no hs hm]
        refine ⟨by omega, t, ht, hmt, fun j u hj hu hmu => ?_⟩
        by_cases h : j = i
        · subst h
          rw [hs] at hu
          cases hu
          rw [hm] at hmu
          cases hmu
        · exact hall j u (by omega) hu hmu
      | true =>
        by_cases hk : key s < key t
        · rw [stepB_less hs hm ht hk]
          refine ⟨by omega, s, hs, hm, fun j u hj hu hmu => ?_⟩
          by_cases h : j = i
          · subst h
            rw [hs] at hu
            cases hu
            exact Int.le_refl _
          · have := hall j u (by omega) hu hmu
            omega
        · rw [stepB_more hs hm ht hk]
          refine ⟨by omega, t, ht, hmt, fun j u hj hu hmu => ?_⟩
          by_cases h : j = i
          · subst h
            rw [hs] at hu
            cases hu
            omega
          · exact hall j u (by omega) hu hmu

theorem best_lt {o : Option Nat} (h : best may key l i = o) (hi : i ≤ l.length) : o = none ∨ ∃ p t, o = some p ∧ p < i ∧ l[p]? = some t := by
  have hb := best_is may key l i hi
  rw [h] at hb
  cases o with
  | none => exact Or.inl rfl
  | some p => obtain ⟨h1, t, h2, _⟩ := hb; exact Or.inr ⟨p, t, rfl, h1, h2⟩

/-- What stands behind the i-th place is not asked. -/
theorem best_same (may : Sc → Bool) (key : Sc → Int) (l l' : List Sc) : ∀ i, (∀ j, j < i → l[j]? = l'[j]?) → i ≤ l.length → best may key l i = best may key l' i
  | 0, _, _ => rfl
  | i + 1, h, hi => by
    have ih := best_same may key l l' i (fun j hj => h j (by omega)) (by omega)
    show stepB may key l (best may key l i) i = stepB may key l' (best may key l' i) i
    rw [← ih]
    rcases best_lt (may := may) (key := key) (l := l) (i := i) rfl (by omega) with e | ⟨p, t, e, hp, ht⟩
    · rw [e]
      unfold stepB
      rw [h i (by omega)]
    · rw [e]
      unfold stepB
      rw [h i (by omega)]
      have hp2 := h p (by omega)
      cases l'[i]? with
      | none => rfl
      | some u => simp only [hp2]

/-- One more that may not be taken changes nothing. -/
theorem best_snoc (may : Sc → Bool) (key : Sc → Int) (l : List Sc) (s : Sc) (hs : may s = false) : best may key (l ++ [s]) (l.length + 1) = best may key l l.length := by
  have h1 : best may key (l ++ [s]) l.length = best may key l l.length := (best_same may key l (l ++ [s]) l.length (fun j hj => by rw [List.getElem?_append_left hj]) (Nat.le_refl _)).symm
  show stepB may key (l ++ [s]) (best may key (l ++ [s]) l.length) l.length = _
  rw [stepB_no (s := s) (by rw [List.getElem?_append_right (Nat.le_refl _)]; simp) hs, h1]

theorem countP_pos_best (l : List Sc) (may : Sc → Bool) (key : Sc → Int) : (best may key l l.length).isSome = decide (0 < l.countP may) := by
  have hb := best_is may key l l.length (Nat.le_refl _)
  cases h : best may key l l.length with
  | none =>
    rw [h] at hb
    have : l.countP may = 0 := by
      rw [List.countP_eq_zero]
      intro s hs
      obtain ⟨j, hj, he⟩ := List.mem_iff_getElem.1 hs
      rw [hb j s hj (by rw [List.getElem?_eq_getElem hj, he])]
      simp
    simp [this]
  | some p =>
    rw [h] at hb
    obtain ⟨hp, t, ht, hm, _⟩ := hb
    have : 0 < l.countP may := List.countP_pos_iff.2 ⟨t, List.mem_of_getElem? ht, hm⟩
    simp [this]
end

end Go.Proofs.YtnhfmcijadficaaGreatDoor
