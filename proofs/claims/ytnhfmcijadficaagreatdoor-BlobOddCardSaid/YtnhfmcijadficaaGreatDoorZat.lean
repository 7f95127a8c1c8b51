/- The walks over bytes.Clone and scan.Commits. -/
import Derived.Test.YtnhfmcijadficaaGreatDoorZas
import Derived.Test.YtnhfmcijadficaaGreatDoorZaq
import Derived.Test.YtnhfmcijadficaaGreatDoorZar
import Derived.Deep.RegionHeld3
import Derived.Test.YtnhfmcijadficaaGreatDoorZac
import Derived.Test.YtnhfmcijadficaaGreatDoorZak
namespace Go.Proofs.YtnhfmcijadficaaGreatDoor
set_option maxRecDepth 100000
open Go.RowKit Go.Maps

theorem clone_any (A : Option Addr) (n cap : Nat) (xs : List UInt8) (w : World) (hB : ByteSl w Empty A n cap xs) (hA : A = none → n = 0 ∧ cap = 0) (hm : n ≤ 16777216) :
    Calls Tryz.prog 67 #[.slice A n cap] w fun e w' => (∃ A' cap', e = .returned (.slice A' n cap') ∧ Got w.heap.size w' A' n cap' xs) ∧ Below w.heap.size w w' := by
  have HB := Lib.hid hB
  rcases A with _ | ad
  · obtain ⟨rfl, rfl⟩ := hA rfl
    have hx : xs = [] := List.eq_nil_of_length_eq_zero hB.1
    subst hx
    clear hA hB
    have he := fun W => Lib.run_eql_slice_nil (P := Tryz.prog) W 22 5 none 0 0 0 0 Tryz.underlying22
    go_enter Tryz.func67, Tryz.ntmps67
    go_wp2
    go_ret
    exact ⟨⟨none, 0, rfl, Got.nil_ _ _⟩, Below.refl _ _⟩
  · have he := fun W => Lib.run_eql_slice_nil (P := Tryz.prog) W 22 5 (some ad) n cap 0 0 Tryz.underlying22
    have HO := Lib.hid (own_made w w.heap.size (Nat.le_refl _))
    have HB0 := Lib.hid ((Below.refl w.heap.size w).alloc (Nat.le_refl _) (.cells #[] 5))
    have HX := Lib.hid (HB.out.only (Only.of_below (S := Empty) HB0.out) (fun _ _ h => h))
    have HA := Lib.hid hA
    clear hB hA
    go_enter Tryz.func67, Tryz.ntmps67
    go_wp2_with (at_builtin; refine wpList_append_bytes rfl (.tmp 5) (.tmp 6) rfl w.heap.size _ rfl 0 [] HO.out (some ad) n cap xs Empty rfl HX.out HA.out (by omega) HB0.out.size ?_; intro v2 w2 hown2 hg2 _)
    have hown3 : w2.ownsRow w.heap.size 5 1 v2 n (xs.map B8) := by simpa using hown2
    obtain ⟨A2, c2, rfl, hG2⟩ := Got.of_own hown3
    have hlt := HO.out.lt
    have HB2 := Lib.hid (below_grown HB0.out HB0.out.size hg2 (fun q hq => (hlt q hq).1))
    have HG2 := Lib.hid hG2
    clear hown2 hown3 hg2 hG2 hlt he
    go_ret
    exact ⟨⟨A2, c2, rfl, HG2.out⟩, HB2.out⟩

/-- The records that count. -/
def keepT (F : Nat → Nat × Bool) (d : FD) : Bool := decide (d.k ≠ 3) && (F d.t).2
def commitsF (l : List FD) : List FD := l.filter (keepT (countT l))

set_option maxHeartbeats 4000000 in
theorem commits_any (A : Option Addr) (n cap : Nat) (l : List Fd) (w : World) (hF : Founds w Empty A n cap l) (ht : ∀ f ∈ l, f.t ≤ 4294967295) (hm : n ≤ 1048576) (hbl : ∀ f ∈ l, f.n ≤ 16777216) :
    Calls Tryz.prog 115 #[.slice A n cap] w fun e w' => (∃ A' n' cap' l', e = .returned (.slice A' n' cap') ∧ l'.map Fd.d = commitsF (l.map Fd.d) ∧ GotF w.heap.size w' A' n' cap' l') ∧ Below w.heap.size w w' := by
  have HF := Lib.hid hF
  have Ht := Lib.hid ht
  have Hbl := Lib.hid hbl
  have N1 := Lib.hid (count6_any A n cap l w hF ht hm)
  have hcap := hF.2.1
  have hcap2 : cap ≤ 9223372036854775807 := by have := hF.2.2.1; unfold maxLen at this; omega
  obtain ⟨F, hFe⟩ : ∃ F, F = countT (l.map Fd.d) := ⟨_, rfl⟩
  unfold commitsF
  rw [← hFe] at N1 ⊢
  clear hF ht hbl hFe
  go_enter Tryz.func115, Tryz.ntmps115
  go_wp2_with fail
  refine N1.out.mono ?_
  rintro e1 w1 ⟨⟨rfl, hM1⟩, hb1⟩
  have HM1 := Lib.hid hM1
  have HB1 := Lib.hid hb1
  have hz1 : w.heap.size < w1.heap.size := hM1.lt
  clear hM1 hb1
  go_wp2_with fail
  go_loopw [4, 11] (fun v4 v wr => ∃ (i : Nat) (acc : List Fd), i ≤ n ∧ v = .int .i64 (i : Int) ∧ Hid (acc.map Fd.d = ((l.take i).map Fd.d).filter (keepT F)) ∧ acc.length ≤ i ∧ Hid (TxM wr w.heap.size n F) ∧ Hid (Below w.heap.size w wr) ∧ Hid (w.heap.size < wr.heap.size) ∧
    Hid (wr.ownsRow (w.heap.size + 1) 190 6 v4 acc.length (acc.flatMap Fd.cells)) ∧ Hid (Blobs wr (fun q => v4.ownBlock = some q) acc)) (fun _ v _ => n - (intOf v).toNat)
  case atStart => exact ⟨0, [], Nat.zero_le _, rfl, Lib.hid rfl, Nat.le_refl _, HM1, HB1, Lib.hid hz1, Lib.hid (World.ownsRow_nil _ _ _ _), Lib.hid (Blobs.nil_ _ _)⟩
  case round =>
    obtain ⟨i, acc, hi, rfl, Hacc, hal, HM, HB, Hz, HO, HBl⟩ := hrel
    clear hz1
    have hz := Hz.out
    by_cases hlt : i < n
    · obtain ⟨b, o, rfl, hb, -, hcl⟩ := HF.out.2.2.2.1 (by omega)
      obtain ⟨f, hf⟩ : ∃ f, l[i]? = some f := ⟨_, List.getElem?_eq_getElem (by have := HF.out.1; omega)⟩
      have hc := hcl i f hf
      have hmem := List.mem_of_getElem? hf
      have hft := Ht.out f hmem
      have hfn := Hbl.out f hmem
      have hfb := HF.out.2.2.2.2 f hmem
      have htake : ((l.take (i + 1)).map Fd.d).filter (keepT F) = ((l.take i).map Fd.d).filter (keepT F) ++ (if keepT F f.d = true then [f.d] else []) := by
        rw [take_one l i f hf, List.map_append, List.filter_append]
        simp only [List.map_cons, List.map_nil, List.filter_cons, List.filter_nil]
      rw [← Hacc.out] at htake
      obtain ⟨pl, k, t, s, A1, m1, p1, c, xs⟩ := f
      simp only at hft hfn hfb
      have hcell : ∀ j, j < 6 → wr.cell? ⟨b, o + i * 6 + j, none⟩ = (Fd.mk pl k t s A1 m1 p1 c xs).cells[j]? := fun j hj => (HB.out.cell (p := ⟨b, o + i * 6 + j, none⟩) hb).trans (hc j hj)
      have d0 : wr.cell? ⟨b, o + i * 6, none⟩ = some (.int .i64 pl) := hcell 0 (by omega)
      have d1 : wr.cell? ⟨b, o + i * 6 + 1, none⟩ = some (.int .i64 k) := hcell 1 (by omega)
      have d2 : wr.cell? ⟨b, o + i * 6 + 2, none⟩ = some (.int .u32 (t : Int)) := hcell 2 (by omega)
      have d3 : wr.cell? ⟨b, o + i * 6 + 3, none⟩ = some (.string s) := hcell 3 (by omega)
      have d4 : wr.cell? ⟨b, o + i * 6 + 4, none⟩ = some (.slice A1 m1 p1) := hcell 4 (by omega)
      have d5 : wr.cell? ⟨b, o + i * 6 + 5, none⟩ = some (.int .i64 c) := hcell 5 (by omega)
      obtain ⟨x, y, hxy⟩ : ∃ x y, F t = (x, y) := ⟨_, _, rfl⟩
      have hlook := fun ob => (HM.out.alloc ob).look hft
      rw [hxy] at hlook
      unfold txnV at hlook
      have hfld : ∀ W, (Instr.field 222 (.agg #[.int .i64 (x : Int), .bool y]) 1).run Tryz.prog W = .ok (.bool y) W := fun _ => by kernel_rfl
      have Hfb := Lib.hid hfb
      have hO1 := (Only.refl Empty wr).alloc (.cells #[.int .i64 pl, .int .i64 k, .int .u32 (t : Int), .string s, .slice A1 m1 p1, .int .i64 c] 190)
      have HM2 := Lib.hid (HM.out.alloc (.cells #[.int .i64 pl, .int .i64 k, .int .u32 (t : Int), .string s, .slice A1 m1 p1, .int .i64 c] 190))
      have HB2 := Lib.hid (HB.out.alloc HB.out.size (.cells #[.int .i64 pl, .int .i64 k, .int .u32 (t : Int), .string s, .slice A1 m1 p1, .int .i64 c] 190))
      have HO2 := Lib.hid (HO.out.alloc (.cells #[.int .i64 pl, .int .i64 k, .int .u32 (t : Int), .string s, .slice A1 m1 p1, .int .i64 c] 190))
      have HBl2 := Lib.hid (HBl.out.only hO1 (fun _ _ h => h.elim))
      have HK2 := Lib.hid (Blk.new wr 190 #[.int .i64 pl, .int .i64 k, .int .u32 (t : Int), .string s, .slice A1 m1 p1, .int .i64 c])
      have Hz2 : Hid (w.heap.size < (wr.alloc (.cells #[.int .i64 pl, .int .i64 k, .int .u32 (t : Int), .string s, .slice A1 m1 p1, .int .i64 c] 190)).heap.size) := Lib.hid (by simp; omega)
      clear hc hcl hf hmem hcell hfb hO1
      by_cases hk : k = 3
      · have hkt : keepT F (Fd.mk pl k t s A1 m1 p1 c xs).d = false := by unfold keepT Fd.d; simp [hk]
        rw [hkt, if_neg (by simp), List.append_nil] at htake
        have Htake := Lib.hid htake.symm
        subst hk
        clear htake hxy hkt
        go_wp2
        go_roundw
        case rel => exact ⟨i + 1, acc, by omega, by go_num, Htake, by omega, HM2, HB2, Hz2, HO2, HBl2⟩
        case measure => simp [intOf]; omega
      · have q1 : (k == 3) = false := by simpa using hk
        have q2 : (k != 3) = true := by simp only [bne, q1]; rfl
        cases y with
        | false =>
          have hkt : keepT F (Fd.mk pl k t s A1 m1 p1 c xs).d = false := by unfold keepT Fd.d; simp [hxy]
          rw [hkt, if_neg (by simp), List.append_nil] at htake
          have Htake := Lib.hid htake.symm
          clear htake hxy hkt hk
          go_wp2
          go_roundw
          case rel => exact ⟨i + 1, acc, by omega, by go_num, Htake, by omega, HM2, HB2, Hz2, HO2, HBl2⟩
          case measure => simp [intOf]; omega
        | true =>
          have hkt : keepT F (Fd.mk pl k t s A1 m1 p1 c xs).d = true := by unfold keepT Fd.d; simp [hxy, hk]
          rw [hkt, if_pos rfl] at htake
          have Htake := Lib.hid htake.symm
          clear htake hxy hkt hk
          have HX := Lib.hid (Hfb.out.1.only (Only.of_below (S := Empty) HB2.out) (fun _ _ h => h))
          go_wp2_with fail
          refine (clone_any A1 m1 p1 xs _ HX.out Hfb.out.2 hfn).mono ?_
          rintro e7 w7 ⟨⟨A7, c7, rfl, hG7⟩, hb7⟩
          have hz7 : wr.heap.size < w7.heap.size := by have := hb7.size; simp at this; omega
          have hK7 := HK2.out.of (hb7.block wr.heap.size (by simp))
          have HK8 := Lib.hid (show Blk (w7.setCell ⟨wr.heap.size, 4, none⟩ (.slice A7 m1 c7)) wr.heap.size 190 #[.int .i64 pl, .int .i64 k, .int .u32 (t : Int), .string s, .slice A7 m1 c7, .int .i64 c] from hK7.set_ 4 (.slice A7 m1 c7))
          have x0 := hK7.cell 0
          have x1 := hK7.cell 1
          have x2 := hK7.cell 2
          have x3 := hK7.cell 3
          have x4 := hK7.cell 4
          have x5 := hK7.cell 5
          have g4 := hK7.frozen 4
          simp at x0 x1 x2 x3 x4 x5
          have y0 := HK8.out.cell 0
          have y1 := HK8.out.cell 1
          have y2 := HK8.out.cell 2
          have y3 := HK8.out.cell 3
          have y4 := HK8.out.cell 4
          have y5 := HK8.out.cell 5
          simp at y0 y1 y2 y3 y4 y5
          obtain ⟨f, hf⟩ : ∃ f : Fd, f = ⟨pl, k, t, s, A7, m1, c7, c, xs⟩ := ⟨_, rfl⟩
          have hfd : f.d = (Fd.mk pl k t s A1 m1 p1 c xs).d := by rw [hf]; rfl
          have hFd : f.A = A7 ∧ f.n = m1 ∧ f.cap = c7 ∧ f.blob = xs := by rw [hf]; exact ⟨rfl, rfl, rfl, rfl⟩
          have hcells : f.cells.toArray = #[.int .i64 pl, .int .i64 k, .int .u32 (t : Int), .string s, .slice A7 m1 c7, .int .i64 c] := by rw [hf]; rfl
          have hlt4 := HO.out.lt
          have hO9 : Only Empty wr ((w7.setCell ⟨wr.heap.size, 4, none⟩ (.slice A7 m1 c7)).alloc (.cells #[.int .i64 pl, .int .i64 k, .int .u32 (t : Int), .string s, .slice A7 m1 c7, .int .i64 c] 190)) :=
            ((((Only.refl Empty wr).alloc (.cells #[.int .i64 pl, .int .i64 k, .int .u32 (t : Int), .string s, .slice A1 m1 p1, .int .i64 c] 190)).trans (Only.of_below (S := Empty) hb7)).setCell (p := ⟨wr.heap.size, 4, none⟩) (Or.inr (Nat.le_refl _)) (.slice A7 m1 c7)).alloc _
          have hB9 := HB.out.trans (hO9.below (B := w.heap.size) HB.out.size (fun _ _ h => h))
          obtain ⟨A8, c8, e8, hB8, -⟩ := ByteSl.of_own (S := fun q => Value.ownBlock u4 = some q ∨ q = wr.heap.size) hG7.own (fun q h1 _ h2 => by
            simp at h1
            rcases h2 with h2 | h2
            · have := (hlt4 q h2).2; omega
            · omega)
          cases e8
          have hS : Only (· = wr.heap.size) w7 ((w7.setCell ⟨wr.heap.size, 4, none⟩ (.slice A7 m1 c7)).alloc (.cells #[.int .i64 pl, .int .i64 k, .int .u32 (t : Int), .string s, .slice A7 m1 c7, .int .i64 c] 190)) := ((Only.refl (· = wr.heap.size) w7).setCell (p := ⟨wr.heap.size, 4, none⟩) (Or.inl rfl) _).alloc _
          have hB10 := (hB8.only hS (fun q _ h => Or.inr h)).mono (T := fun q => Value.ownBlock u4 = some q) (fun q _ h => Or.inl h)
          have HB10 : Hid (ByteSl ((w7.setCell ⟨wr.heap.size, 4, none⟩ (.slice A7 m1 c7)).alloc (.cells #[.int .i64 pl, .int .i64 k, .int .u32 (t : Int), .string s, .slice A7 m1 c7, .int .i64 c] 190)) (fun q => Value.ownBlock u4 = some q) f.A f.n f.cap f.blob) := Lib.hid (by rw [hFd.1, hFd.2.1, hFd.2.2.1, hFd.2.2.2]; exact hB10)
          have HN10 : Hid (f.A = none → f.n = 0 ∧ f.cap = 0) := Lib.hid (by rw [hFd.1, hFd.2.1, hFd.2.2.1]; exact hG7.isNil)
          have HO9 := Lib.hid (own_only HO.out hO9 (fun _ _ _ h => h))
          have HBl9 := Lib.hid (HBl.out.only hO9 (fun _ _ h => h.elim))
          have HM9 := Lib.hid (HM.out.only hO9 (fun h => h))
          have HB9 := Lib.hid hB9
          have hK9 : Blk ((w7.setCell ⟨wr.heap.size, 4, none⟩ (.slice A7 m1 c7)).alloc (.cells #[.int .i64 pl, .int .i64 k, .int .u32 (t : Int), .string s, .slice A7 m1 c7, .int .i64 c] 190)) w7.heap.size 190 f.cells.toArray := by
            rw [hcells]
            have h := Blk.new (w7.setCell ⟨wr.heap.size, 4, none⟩ (.slice A7 m1 c7)) 190 #[.int .i64 pl, .int .i64 k, .int .u32 (t : Int), .string s, .slice A7 m1 c7, .int .i64 c]
            have hsz : (w7.setCell ⟨wr.heap.size, 4, none⟩ (.slice A7 m1 c7)).heap.size = w7.heap.size := by simp [World.setCell]
            rw [hsz] at h
            exact h
          have HK9 := Lib.hid hK9
          have Hmm : Hid (acc.length + 1 ≤ 1048576) := Lib.hid (by omega)
          have Hbs : Hid (w.heap.size + 1 ≤ ((w7.setCell ⟨wr.heap.size, 4, none⟩ (.slice A7 m1 c7)).alloc (.cells #[.int .i64 pl, .int .i64 k, .int .u32 (t : Int), .string s, .slice A7 m1 c7, .int .i64 c] 190)).heap.size) := Lib.hid (by have := hO9.size; omega)
          have Hfd := Lib.hid hfd
          clear hK7 hf hfd hFd hcells hlt4 hO9 hB9 hB8 hS hB10 hK9 hG7 hb7 hlook hfld
          go_wp2_with (at_builtin; refine wpList_append_found rfl (.tmp 33) (.tmp 35) rfl (w.heap.size + 1) u4 rfl acc HO9.out f w7.heap.size rfl HK9.out Hmm.out Hbs.out ?_; intro v8 w8 hown8 hg8 hat8)
          have hlt9 := HO9.out.lt
          have HB11 := Lib.hid (below_grown HB9.out HB9.out.size hg8 (fun q hq => by have := (hlt9 q hq).1; omega))
          have HM11 := Lib.hid (HM9.out.kept hg8 (fun e => by have := (hlt9 w.heap.size e.symm).1; omega))
          have HBl11 := Lib.hid (HBl9.out.append HB10.out HN10.out hg8 hat8)
          have HO11 := Lib.hid hown8
          have Hz11 : Hid (w.heap.size < w8.heap.size) := Lib.hid (by have := hg8.size; have := Hbs.out; omega)
          have HT11 : Hid ((acc ++ [f]).map Fd.d = ((l.take (i + 1)).map Fd.d).filter (keepT F)) := Lib.hid (by rw [List.map_append, List.map_cons, List.map_nil, Hfd.out]; exact Htake.out)
          have Hl11 : Hid ((acc ++ [f]).length ≤ i + 1) := Lib.hid (by simp; omega)
          clear hlt9 hg8 hat8 hown8 x0 x1 x2 x3 x4 x5 g4 y0 y1 y2 y3 y4 y5 d0 d1 d2 d3 d4 d5
          go_roundw
          case rel => exact ⟨i + 1, acc ++ [f], by omega, by go_num, HT11, Hl11.out, HM11, HB11, Hz11, HO11, HBl11⟩
          case measure => simp [intOf]; omega
    · obtain rfl : i = n := by omega
      rw [List.take_of_length_le (by rw [HF.out.1]; omega)] at Hacc
      obtain ⟨A2, cap2, rfl, hG⟩ := GotF.of_own (own_base HO.out (show w.heap.size ≤ w.heap.size + 1 by omega)) HBl.out
      have HG := Lib.hid hG
      clear hG
      go_wp2_with fail
      go_ret
      exact ⟨⟨A2, _, cap2, acc, rfl, Hacc.out, HG.out⟩, HB.out⟩

end Go.Proofs.YtnhfmcijadficaaGreatDoor

/- A store in memory; the walks over blob's apply and Get. -/
namespace Go.Proofs.YtnhfmcijadficaaGreatDoor
set_option maxRecDepth 100000
open Go.RowKit Go.Maps

/-- The blobs of a map read as they should; their rows lie in no block of S. -/
def BlobsAt (w : World) (S : Nat → Prop) (M : Al Sv) : Prop := ∀ q ∈ M, ByteSl w S (adr q.2.g) q.2.n q.2.cap q.2.xs ∧ (adr q.2.g = none → q.2.n = 0 ∧ q.2.cap = 0)
/-- The blocks that a store's calls turn. -/
def Mut (s mb p c e : Nat) : Nat → Prop := fun k => k = s ∨ k = mb ∨ Three p c e k

section
variable {w w' : World} {S T : Nat → Prop} {M : Al Sv}
theorem BlobsAt.only (h : BlobsAt w S M) (k : Only T w w') (hT : ∀ i, i < w.heap.size → T i → S i) : BlobsAt w' S M := fun q hq => ⟨(h q hq).1.only k hT, (h q hq).2⟩
theorem BlobsAt.below (h : BlobsAt w S M) (k : Below w.heap.size w w') : BlobsAt w' S M := h.only (Only.of_below (S := Empty) k) (fun _ _ h => h.elim)
theorem BlobsAt.put (h : BlobsAt w S M) (k : List UInt8) (f : Sv) (hf : ByteSl w S (adr f.g) f.n f.cap f.xs ∧ (adr f.g = none → f.n = 0 ∧ f.cap = 0)) : BlobsAt w S (aput M k f) := fun q hq => by
  rcases (aput_mem M k f q).1 hq with rfl | ⟨h1, _⟩
  · exact hf
  · exact h q h1
theorem BlobsAt.del (h : BlobsAt w S M) (k : List UInt8) : BlobsAt w S (adel M k) := fun q hq => h q ((adel_mem M k q).1 hq).1
theorem BlobsAt.at_ (h : BlobsAt w S M) (k : List UInt8) : ByteSl w S (adr (svAt M k).g) (svAt M k).n (svAt M k).cap (svAt M k).xs ∧ (adr (svAt M k).g = none → (svAt M k).n = 0 ∧ (svAt M k).cap = 0) := by
  unfold svAt
  cases hf : afind M k with
  | none => exact ⟨ByteSl.nil_ _ _ _ _ (by simp [Sv.zero, maxLen]), fun _ => ⟨rfl, rfl⟩⟩
  | some f => exact h _ (afind_mem hf)
end

/-- A store lies in memory. -/
structure StoreAt (w : World) (s mb p c e : Nat) (M : Al Sv) (h : HeadV) (d : Bool) : Prop where
  blk : Blk w s 106 (storeC p mb h d)
  map : StM w mb M.length M
  bl : BlobsAt w (Mut s mb p c e) M

section
variable {w w' : World} {s mb p c e : Nat} {M : Al Sv} {h : HeadV} {d : Bool} {T : Nat → Prop}
theorem StoreAt.ne (k : StoreAt w s mb p c e M h d) : mb ≠ s := k.map.blk_ne k.blk
theorem StoreAt.below (k : StoreAt w s mb p c e M h d) (b : Below w.heap.size w w') : StoreAt w' s mb p c e M h d :=
  ⟨k.blk.of (b.block s k.blk.lt), k.map.below b, k.bl.below b⟩
/-- Whatever turned was neither the store nor its map, nor a blob's row. -/
theorem StoreAt.only (k : StoreAt w s mb p c e M h d) (b : Only T w w') (hs : ¬ T s) (hm : ¬ T mb) (hT : ∀ i, i < w.heap.size → T i → Mut s mb p c e i) : StoreAt w' s mb p c e M h d :=
  ⟨b.blk k.blk hs, k.map.only b hm, k.bl.only b hT⟩
end

/-- A store into a map, as an equation. -/
theorem StM.put_run {w : World} {b n : Nat} {M : Al Sv} (hM : StM w b n M) (hn : n < maxLen) (s : ByteArray) (hs : s.size ≤ maxLen) (f : Sv) :
    ∃ w', (Instr.mapUpdate 102 (.map (some b)) (.string s) f.v).run Tryz.prog w = .ok () w' ∧ StM w' b (n + 1) (aput M s.data.toList f) ∧ Only (· = b) w w' := by
  obtain ⟨w', hrun, r1, r2⟩ := World.ownsMap.update (P := Tryz.prog) hM Tryz.standKeyed Tryz.underlying102 hn (WideMaps.keyOf_string_mk Tryz.underlying9 hs) (standElem_mk f)
  rw [put_sm] at r1
  exact ⟨w', hrun, r1, Only.of_grown r2 (fun k e _ => by cases e; rfl)⟩
theorem StM.del_run {w : World} {b n : Nat} {M : Al Sv} (hM : StM w b n M) (s : ByteArray) (hs : s.size ≤ maxLen) (ty : TypeId) :
    ∃ w', (Builtin.delete_ #[102, 9] ty #[.map (some b), .string s]).run Tryz.prog w = .ok (.tuple #[]) w' ∧ StM w' b n (adel M s.data.toList) ∧ Only (· = b) w w' := by
  obtain ⟨w', hrun, r1, r2⟩ := World.ownsMap.drop (P := Tryz.prog) hM Tryz.standKeyed Tryz.underlying102 (WideMaps.keyOf_string_mk Tryz.underlying9 hs) ty
  rw [del_sm] at r1
  exact ⟨w', hrun, r1, Only.of_grown r2.grown (fun k e _ => by cases e; rfl)⟩

/-- What a change makes of a map. -/
def applyA (M : Al (Int × List UInt8)) (f : Ch) (sec : Int) : Al (Int × List UInt8) := if f.del then adel M f.s.data.toList else aput M f.s.data.toList (sec, f.blob)
def Sv.a (f : Sv) : Int × List UInt8 := (f.sec, f.xs)
theorem ains_len {α : Type} (p : List UInt8 × α) : ∀ M : Al α, (ains p M).length = M.length + 1
  | [] => rfl
  | q :: r => by
    unfold ains
    split
    · rfl
    · rw [List.length_cons, ains_len p r, List.length_cons]
theorem aput_len {α : Type} (M : Al α) (k : List UInt8) (v : α) : (aput M k v).length ≤ M.length + 1 := by
  unfold aput
  rw [ains_len]
  have := List.length_filter_le (fun p : List UInt8 × α => !(p.1 == k)) M
  unfold adel
  omega
theorem adel_len {α : Type} (M : Al α) (k : List UInt8) : (adel M k).length ≤ M.length := List.length_filter_le _ _

/-- A copy of bytes, as a map keeps it. -/
theorem clone_sv (A : Option Addr) (n cap : Nat) (xs : List UInt8) (S : Nat → Prop) (w : World) (hB : ByteSl w S A n cap xs) (hA : A = none → n = 0 ∧ cap = 0) (hm : n ≤ 16777216) (hS : ∀ W, Below w.heap.size w W → ∀ q, w.heap.size ≤ q → q < W.heap.size → ¬ S q) :
    Calls Tryz.prog 67 #[.slice A n cap] w fun e w' => (∃ g cap', e = .returned (.slice (adr g) n cap') ∧ ByteSl w' S (adr g) n cap' xs ∧ (adr g = none → n = 0 ∧ cap' = 0)) ∧ Below w.heap.size w w' := by
  refine (clone_any A n cap xs w (hB.mono (fun _ _ h => h.elim)) hA hm).mono ?_
  rintro e1 w1 ⟨⟨A1, cap1, rfl, hG⟩, hb⟩
  obtain ⟨A', cap', he, hB1, _⟩ := ByteSl.of_own (S := S) hG.own (fun q h1 h2 => hS w1 hb q h1 h2)
  cases he
  refine ⟨?_, hb⟩
  rcases hG.own.2 with ⟨he, h0⟩ | ⟨g, cap2, cur, he, _⟩
  · cases he
    exact ⟨none, 0, rfl, hB1, fun _ => ⟨h0, rfl⟩⟩
  · cases he
    exact ⟨some g, cap1, rfl, hB1, fun h => by cases h⟩

/-- How a change ends in a store. -/
def Applied (s mb p c e : Nat) (M : Al Sv) (h : HeadV) (d : Bool) (f : Ch) (sec : Int) (w w' : World) (e1 : Ending) : Prop :=
  e1 = .returned (.tuple #[]) ∧ (∃ M', StoreAt w' s mb p c e M' h d ∧ amap Sv.a M' = applyA (amap Sv.a M) f sec ∧ M'.length ≤ M.length + 1) ∧ Only (· = mb) w w'

set_option maxHeartbeats 2000000 in
theorem apply_put (s mb p c e : Nat) (M : Al Sv) (h : HeadV) (d : Bool) (f : Ch) (sec : Int) (w : World) (hS : StoreAt w s mb p c e M h d) (hf : ByteSl w (Mut s mb p c e) f.A f.n f.cap f.blob ∧ (f.A = none → f.n = 0 ∧ f.cap = 0)) (hd : f.del = false) (hk : f.s.size ≤ 64) (hn : f.n ≤ 4096) (hM : M.length ≤ 1048576) (hlt : Three p c e s → False) (hlt2 : ∀ q, w.heap.size ≤ q → ¬ Mut s mb p c e q) :
    Calls Tryz.prog 50 #[.pointer (some ⟨s, 0, none⟩), f.v, .int .i64 sec] w fun e1 w' => Applied s mb p c e M h d f sec w w' e1 := by
  obtain ⟨dl, key, A, n, cap, xs⟩ := f
  simp only at hd hk hn hf
  subst hd
  unfold Ch.v
  have HS := Lib.hid hS
  have hb0 := (Below.refl w.heap.size w).alloc (Nat.le_refl _) (.cells #[.bool false, .string key, .slice A n cap] 37)
  have Hcl := Lib.hid (fun W (hW : Only Empty (w.alloc (.cells #[.bool false, .string key, .slice A n cap] 37)) W) => clone_sv A n cap xs (Mut s mb p c e) W (hf.1.only ((Only.of_below (S := Empty) hb0).trans hW) (fun _ _ h => h.elim)) hf.2 (by omega) (fun W2 _ q h1 _ => hlt2 q (by have := hW.size; simp at this; omega)))
  have hbox := Blk.new w 37 #[.bool false, .string key, .slice A n cap]
  have s1' : w.cell? ⟨s, 1, none⟩ = some (.map (some mb)) := hS.blk.cell 1
  have hsl : s < w.heap.size := hS.blk.lt
  have hne := hS.ne
  have hml : mb < w.heap.size := hS.map.lt
  have HSx : Hid (∀ W, Only (· = mb) (w.alloc (.cells #[.bool false, .string key, .slice A n cap] 37)) W → W.cell? ⟨s, 1, none⟩ = some (.map (some mb)) ∧ W.cell? ⟨w.heap.size, 1, none⟩ = some (.string key) ∧ W.cell? ⟨w.heap.size, 2, none⟩ = some (.slice A n cap)) := Lib.hid (fun W hW => by
    have h1 := hW.blk hbox (by omega)
    exact ⟨(hW.blk (hS.blk.alloc _) (fun h => hne h.symm)).cell 1, h1.cell 1, h1.cell 2⟩)
  have HM : Hid (∀ W, Only Empty (w.alloc (.cells #[.bool false, .string key, .slice A n cap] 37)) W → StM W mb M.length M) := Lib.hid (fun W hW => (hS.map.alloc _).only hW (fun h => h))
  have Hb0 := Lib.hid hb0
  have Hend : Hid (∀ (g : Option Nat) (cap' : Nat) (W1 W2 : World), Only Empty (w.alloc (.cells #[.bool false, .string key, .slice A n cap] 37)) W1 → ByteSl W1 (Mut s mb p c e) (adr g) n cap' xs ∧ (adr g = none → n = 0 ∧ cap' = 0) → StM W2 mb (M.length + 1) (aput M key.data.toList ⟨sec, g, n, cap', xs⟩) → Only (· = mb) W1 W2 →
      (∃ M', StoreAt W2 s mb p c e M' h d ∧ amap Sv.a M' = applyA (amap Sv.a M) ⟨false, key, A, n, cap, xs⟩ sec ∧ M'.length ≤ M.length + 1) ∧ Only (· = mb) w W2) := Lib.hid (fun g cap' W1 W2 h1 h2 h3 h4 => by
    have h0 := (Only.of_below (S := Empty) hb0).trans h1
    have h5 : Only (· = mb) w W2 := (h0.mono (T := (· = mb)) (fun _ _ h => h.elim)).trans h4
    refine ⟨⟨_, ⟨h5.blk hS.blk (fun h => hne h.symm), h3.tight, ?_⟩, ?_, aput_len _ _ _⟩, h5⟩
    · exact BlobsAt.put (hS.bl.only h5 (fun i _ h => Or.inr (Or.inl h))) _ _ ⟨h2.1.only h4 (fun i _ h => Or.inr (Or.inl h)), h2.2⟩
    · rw [aput_map]
      rfl)
  have hk2 : Hid (key.size ≤ maxLen) := Lib.hid (by unfold maxLen; omega)
  have hM2 : Hid (M.length < maxLen) := Lib.hid (by unfold maxLen; omega)
  clear hS hf hlt2 hbox hb0
  go_enter Tryz.func50, Tryz.ntmps50
  go_wp2_with fail
  have hD : Only Empty (w.alloc (.cells #[.bool false, .string key, .slice A n cap] 37)) (w.alloc (.cells #[.bool false, .string key, .slice A n cap] 37)).drew := (Only.refl _ _).drew
  have hs1 := HSx.out _ (hD.mono (fun _ _ h => h.elim))
  have HD := Lib.hid hD
  clear hD
  go_region_held3 (fun W => W.cell? ⟨s, 1, none⟩ = some (.map (some mb)) ∧ W.cell? ⟨w.heap.size, 1, none⟩ = some (.string key) ∧ W.cell? ⟨w.heap.size, 2, none⟩ = some (.slice A n cap)) (first | with_reducible exact hs1 | with_reducible exact hs10 | with_reducible exact hs11)
    ((go_at_call 67; (with_reducible refine (Hcl.out _ HD.out).mono ?_); rintro e10 w10 ⟨⟨g10, cap10, rfl, hG10⟩, hb10⟩; have hO10 := HD.out.trans (Only.of_below (S := Empty) hb10); have hs10 := HSx.out _ (hO10.mono (fun _ _ h => h.elim)); obtain ⟨w11, hr11, hm11, ho11⟩ := (HM.out _ hO10).put_run hM2.out key hk2.out ⟨sec, g10, n, cap10, xs⟩; unfold Sv.v at hr11; simp only at hr11; have hs11 := HSx.out _ ((hO10.mono (fun _ _ h => h.elim)).trans ho11)))
  go_wp2
  go_end0
  exact ⟨rfl, Hend.out g10 cap10 w10 w11 hO10 hG10 hm11 ho11⟩

set_option maxHeartbeats 2000000 in
theorem apply_del (s mb p c e : Nat) (M : Al Sv) (h : HeadV) (d : Bool) (f : Ch) (sec : Int) (w : World) (hS : StoreAt w s mb p c e M h d) (hd : f.del = true) (hk : f.s.size ≤ 64) :
    Calls Tryz.prog 50 #[.pointer (some ⟨s, 0, none⟩), f.v, .int .i64 sec] w fun e1 w' => Applied s mb p c e M h d f sec w w' e1 := by
  obtain ⟨dl, key, A, n, cap, xs⟩ := f
  simp only at hd hk
  subst hd
  unfold Ch.v
  have hb0 := (Below.refl w.heap.size w).alloc (Nat.le_refl _) (.cells #[.bool true, .string key, .slice A n cap] 37)
  have s1 : w.cell? ⟨s, 1, none⟩ = some (.map (some mb)) := hS.blk.cell 1
  have hsl : s < w.heap.size := hS.blk.lt
  have hne := hS.ne
  have hO0 := (Only.of_below (S := Empty) hb0).drew
  obtain ⟨w2, hr2, hm2, ho2⟩ := (hS.map.only hO0 (fun h => h)).del_run key (by unfold maxLen; omega) 0
  have hend : (∃ M', StoreAt w2 s mb p c e M' h d ∧ amap Sv.a M' = applyA (amap Sv.a M) ⟨true, key, A, n, cap, xs⟩ sec ∧ M'.length ≤ M.length + 1) ∧ Only (· = mb) w w2 := by
    have h5 : Only (· = mb) w w2 := (hO0.mono (T := (· = mb)) (fun _ _ h => h.elim)).trans ho2
    refine ⟨⟨_, ⟨h5.blk hS.blk (fun h => hne h.symm), hm2.tight, ?_⟩, ?_, Nat.le_succ_of_le (adel_len _ _)⟩, h5⟩
    · exact BlobsAt.del (hS.bl.only h5 (fun i _ h => Or.inr (Or.inl h))) _
    · rw [adel_map]
      rfl
  have Hend := Lib.hid hend
  clear hS hend hm2 ho2 hO0 hb0
  go_enter Tryz.func50, Tryz.ntmps50
  go_wp2_with fail
  go_region
  go_wp2
  exact bodyPost_ret (v := .tuple #[]) (by simp [results, Tryz.results50, go_sem]) rfl ⟨rfl, Hend.out⟩

theorem apply_any (s mb p c e : Nat) (M : Al Sv) (h : HeadV) (d : Bool) (f : Ch) (sec : Int) (w : World) (hS : StoreAt w s mb p c e M h d) (hf : ByteSl w (Mut s mb p c e) f.A f.n f.cap f.blob ∧ (f.A = none → f.n = 0 ∧ f.cap = 0)) (hF : f.s.size ≤ 64 ∧ f.rN ≤ 4096) (hM : M.length ≤ 1048576) (hlt : Three p c e s → False) (hlt2 : ∀ q, w.heap.size ≤ q → ¬ Mut s mb p c e q) :
    Calls Tryz.prog 50 #[.pointer (some ⟨s, 0, none⟩), f.v, .int .i64 sec] w fun e1 w' => Applied s mb p c e M h d f sec w w' e1 := by
  cases hd : f.del
  · refine apply_put s mb p c e M h d f sec w hS hf hd hF.1 ?_ hM hlt hlt2
    have := hF.2
    unfold Ch.rN at this
    rw [hd] at this
    exact this
  · exact apply_del s mb p c e M h d f sec w hS hd hF.1

set_option maxHeartbeats 2000000 in
theorem get_any (s mb p c e : Nat) (M : Al Sv) (h : HeadV) (d : Bool) (key : ByteArray) (S : Nat → Prop) (w : World) (hS : StoreAt w s mb p c e M h d) (hk : key.size ≤ maxLen) (hn : (svAt M key.data.toList).n ≤ 16777216) :
    Calls Tryz.prog 28 #[.pointer (some ⟨s, 0, none⟩), .string key] w fun e1 w' => (∃ A' cap', e1 = .returned (.tuple #[.slice A' (svAt M key.data.toList).n cap', .bool (afind M key.data.toList).isSome]) ∧ Got w.heap.size w' A' (svAt M key.data.toList).n cap' (svAt M key.data.toList).xs) ∧ Below w.heap.size w w' := by
  have s1 : w.cell? ⟨s, 1, none⟩ = some (.map (some mb)) := hS.blk.cell 1
  have HS := Lib.hid hS
  have Hk := Lib.hid hk
  have hb := hS.bl.at_ key.data.toList
  have Hb := Lib.hid hb
  have hla : Hid (∀ {ops rest o a Q}, o.guard = none → ∀ (m x : Operand), o.op = Op.lookup 102 m x true → a.eval m = .map (some mb) → a.eval x = .string key →
      wpList Tryz.prog ops Q rest (a.put o.dst (.tuple #[(svAt M key.data.toList).v, .bool (afind M key.data.toList).isSome])) w → wpList Tryz.prog ops Q (o :: rest) a w) :=
    Lib.hid (fun hg m x hop hm hx hK => wpList_st_look_ok hg m x hop hm hS.map key hk hx hK)
  obtain ⟨f, hf⟩ : ∃ f, f = svAt M key.data.toList := ⟨_, rfl⟩
  obtain ⟨ok, hok⟩ : ∃ ok, ok = (afind M key.data.toList).isSome := ⟨_, rfl⟩
  rw [← hf, ← hok] at hla
  rw [← hf] at Hb hn
  rw [← hf, ← hok]
  clear hS hk hb hf hok
  obtain ⟨sec, g, n, cap, xs⟩ := f
  unfold Sv.v at hla
  simp only at hla Hb hn ⊢
  go_enter Tryz.func28, Tryz.ntmps28
  go_wp2_with (at_lookup; refine hla.out rfl _ _ rfl rfl rfl ?_)
  have hb0 := (Below.refl w.heap.size w).alloc (Nat.le_refl _) (.cells #[.int .i64 sec, .slice (adr g) n cap] 134)
  have hB1 := (Hb.out.1.only (Only.of_below (S := Empty) hb0) (fun _ _ h => h.elim)).mono (T := Empty) (fun _ _ h => h.elim)
  have Hb0 := Lib.hid hb0
  refine (clone_any (adr g) n cap xs _ hB1 Hb.out.2 hn).mono ?_
  rintro e1 w1 ⟨⟨A1, cap1, rfl, hG⟩, hb1⟩
  have HE := Lib.hid (And.intro (hG.lower hb0.size) (Hb0.out.trans (hb1.mono hb0.size)))
  clear hG hb1 hb0 hB1
  go_wp2_with fail
  go_ret2
  exact ⟨⟨A1, cap1, rfl, HE.out.1⟩, HE.out.2⟩

end Go.Proofs.YtnhfmcijadficaaGreatDoor

/- The walks over blob's behindHeader, limit, Room, look, Sectors. -/
namespace Go.Proofs.YtnhfmcijadficaaGreatDoor
set_option maxRecDepth 100000
open Go.RowKit

section
variable {p c e Z L : Nat} {ss : List (Nat × List UInt8)} {w : World}
theorem FS.geo (hs : FS w p c e Z L ss) : Calls Tryz.prog 39 #[.pointer (some ⟨p, 0, none⟩)] w fun e1 w' => e1 = .returned (.agg #[.int .i64 (ss.length : Int), .int .i64 (Z : Int), .int .i64 (L : Int)]) ∧ Below w.heap.size w w' := by
  obtain ⟨fl, hf, hu, hfu, hS, rfl, rfl, _⟩ := hs
  rw [← hS]
  exact geometry_any p c e fl w hf
end
theorem geo_field2 (a b c : Int) (W : World) : (Instr.field 29 (.agg #[.int .i64 a, .int .i64 b, .int .i64 c]) 2).run Tryz.prog W = .ok (.int .i64 c) W := by kernel_rfl

set_option maxHeartbeats 1000000 in
theorem behind_any (p c e Z L : Nat) (ss : List (Nat × List UInt8)) (w : World) (hs : FS w p c e Z L ss) :
    Calls Tryz.prog 45 #[.pointer (some ⟨p, 0, none⟩)] w fun e1 w' => e1 = .returned (.int .i64 ((Z - 12 : Nat) : Int)) ∧ Below w.heap.size w w' := by
  have hz := hs.bz
  have hg := geo_field1 (ss.length : Int) (Z : Int) (L : Int)
  have hv : IntKind.i64.wrap ((Z : Int) - 12) = ((Z - 12 : Nat) : Int) := by rw [IntKind.wrap_i64]; omega
  have HS := Lib.hid hs
  obtain ⟨V, hV⟩ : ∃ V, V = Z - 12 := ⟨_, rfl⟩
  rw [← hV] at hv ⊢
  clear hs hV hz
  go_enter Tryz.func45, Tryz.ntmps45
  go_wp2_with fail
  refine HS.out.geo.mono ?_
  rintro e1 w1 ⟨rfl, hb1⟩
  go_wp2
  go_ret
  exact ⟨rfl, hb1⟩

/-- Room, of a geometry. -/
def roomMax (S Z : Nat) : Nat := (S - 2) * (Z - 12) / 4

set_option maxHeartbeats 1000000 in
theorem room_any (s mb p c e Z L : Nat) (ss : List (Nat × List UInt8)) (M : Al Sv) (h : HeadV) (d : Bool) (w : World) (hS : StoreAt w s mb p c e M h d) (hs : FS w p c e Z L ss) :
    Calls Tryz.prog 30 #[.pointer (some ⟨s, 0, none⟩)] w fun e1 w' => e1 = .returned (.int .i64 (roomMax ss.length Z : Int)) ∧ Below w.heap.size w w' := by
  have hz := hs.bz
  have s0 : w.cell? ⟨s, 0, none⟩ = some (.pointer (some ⟨p, 0, none⟩)) := hS.blk.cell 0
  have hsl := hS.blk.lt
  have hg := geo_field0 (ss.length : Int) (Z : Int) (L : Int)
  have HS := Lib.hid hs
  have HK := Lib.hid hS.blk
  obtain ⟨n, hn⟩ : ∃ n, n = ss.length := ⟨_, rfl⟩
  rw [← hn] at hg hz ⊢
  have Hn := Lib.hid hn
  have hmx : max (0 : Int) ((n : Int) - 2) = ((n - 2 : Nat) : Int) := by omega
  have hb : (n - 2) * (Z - 12) ≤ 64 * 65536 := Nat.mul_le_mul (by omega) (by omega)
  have Hbeh := Lib.hid (fun W hW => behind_any p c e Z L ss W (hs.below hW))
  obtain ⟨a, ha⟩ : ∃ a, a = n - 2 := ⟨_, rfl⟩
  obtain ⟨b, hbz⟩ : ∃ b, b = Z - 12 := ⟨_, rfl⟩
  have hroom : roomMax n Z = a * b / 4 := by unfold roomMax; rw [ha, hbz]
  rw [← ha] at hmx
  rw [← ha, ← hbz] at hb
  rw [← hbz] at Hbeh
  have hw : (a : Int) * (b : Int) = ((a * b : Nat) : Int) := by simp
  rw [hroom]
  obtain ⟨q, hq⟩ : ∃ q, q = a * b := ⟨_, rfl⟩
  rw [← hq] at hw hb ⊢
  have hn1 : 1 ≤ n := hz.1
  have hn2 : n ≤ 64 := hz.2.1
  clear hs hS hn hroom ha hbz hz hq
  go_enter Tryz.func30, Tryz.ntmps30
  go_wp2_with fail
  refine HS.out.geo.mono ?_
  rw [← Hn.out]
  rintro e1 w1 ⟨rfl, hb1⟩
  have Hb1 := Lib.hid hb1
  have s1 : w1.cell? ⟨s, 0, none⟩ = some (.pointer (some ⟨p, 0, none⟩)) := (HK.out.of (hb1.block s HK.out.lt)).cell 0
  clear hb1
  go_wp2_with fail
  refine (Hbeh.out _ Hb1.out).mono ?_
  rintro e1 w2 ⟨rfl, hb2⟩
  have Hb2 := Lib.hid (Hb1.out.trans (hb2.mono Hb1.out.size))
  clear hb2
  go_wp2_with fail
  go_ret
  exact ⟨congrArg (fun v : Int => Ending.returned (Value.int .i64 v)) (by omega), Hb2.out⟩

/-- append of sectors onto a row of the call's own. -/
theorem wpList_append_sc {ops : Array Oper} {rest : List Oper} {q : Oper} {u : Act} {w : World} {S : Nat → Prop} {Q : Exit → Act → World → Prop} (hgd : q.guard = none) (s x : Operand) (hq : q.op = .call { callee := .builtin .append, args := #[s, x], argTypes := #[84, 84] })
    (base : Nat) (B : Option Addr) (m0 c0 : Nat) (zs : List Sc) (hs : u.eval s = .slice B m0 c0) (hown : GotR Sc.cells 3 96 base w B m0 c0 zs) (A : Option Addr) (m c : Nat) (l : List Sc)
    (hx : u.eval x = .slice A m c) (hB : RowSl Sc.cells 3 w S A m c l) (hn : A = none → m = 0 ∧ c = 0) (hm : m0 + m ≤ 16777216) (hbase : base ≤ w.heap.size)
    (h : ∀ A' c' w', GotR Sc.cells 3 96 base w' A' (m0 + m) c' (zs ++ l) → w.grownBy w' (Value.slice B m0 c0).ownBlock → (∀ g, (Value.slice B m0 c0).ownBlock = some g → base ≤ g) → wpList Tryz.prog ops Q rest (u.put q.dst (.slice A' (m0 + m) c')) w') : wpList Tryz.prog ops Q (q :: rest) u w :=
  wpList_append_rows Sc.cells_len (fun f v hv => secs_one [f] v (by simpa using hv)) (by decide) 84 96 _ 24 Tryz.underlying84 Tryz.infoSector (by simp [Value.cells]) (by decide) hgd s x hq base B m0 c0 zs hs hown A m c l hx hB hn hm hbase (fun A' c' w' h1 h2 h3 _ => h A' c' w' h1 h2 h3)

/-- What is known of a sector, of its bytes and its count. -/
def secOf (x : Nat × List UInt8) : Sc := ⟨stS x.2, stQ x.2, (x.1 : Int)⟩
def secsOf (ss : List (Nat × List UInt8)) : List Sc := ss.map secOf

set_option maxHeartbeats 1000000 in
theorem look_any (p c e Z L : Nat) (ss : List (Nat × List UInt8)) (w : World) (hs : FS w p c e Z L ss) (hM : Mark w) :
    Calls Tryz.prog 35 #[.pointer (some ⟨p, 0, none⟩)] w fun e1 w' => (∃ A cap, e1 = .returned (.tuple #[.slice A ss.length cap, .int .i64 0]) ∧ GotR Sc.cells 3 96 w.heap.size w' A ss.length cap (secsOf ss)) ∧ Below w.heap.size w w' := by
  have hz := hs.bz
  have hg := geo_field0 (ss.length : Int) (Z : Int) (L : Int)
  have HS := Lib.hid hs
  have HM := Lib.hid hM
  obtain ⟨n, hn⟩ : ∃ n, n = ss.length := ⟨_, rfl⟩
  rw [← hn] at hg hz ⊢
  have Hn := Lib.hid hn
  clear hs hM hn
  go_enter Tryz.func35, Tryz.ntmps35
  go_wp2_with fail
  refine HS.out.geo.mono ?_
  rw [← Hn.out]
  rintro e1 w1 ⟨rfl, hb1⟩
  have Hb1 := Lib.hid hb1
  clear hb1
  go_wp2_with fail
  go_loopw [2, 10] (fun r v wr => ∃ (i : Nat) (A : Option Addr) (cap : Nat), i ≤ n ∧ v = .int .i64 (i : Int) ∧ r = .slice A i cap ∧ Hid (GotR Sc.cells 3 96 w.heap.size wr A i cap (secsOf (ss.take i))) ∧ Hid (Below w.heap.size w wr)) (fun _ v _ => n - (intOf v).toNat)
  case atStart => exact ⟨0, none, 0, Nat.zero_le _, rfl, rfl, Lib.hid (GotR.nil_ _ _ _ _ _), Hb1⟩
  case round =>
    obtain ⟨i, A, cap, hi, rfl, rfl, HG, HB⟩ := hrel
    by_cases hlt : i < n
    · obtain ⟨m, xs, hx⟩ := sec_at (ss := ss) (k := i) (by rw [← Hn.out]; exact hlt)
      have htk := take_snoc ss i (m, xs) hx
      have Htk : Hid (secsOf (ss.take (i + 1)) = secsOf (ss.take i) ++ [⟨stS xs, stQ xs, (m : Int)⟩]) := Lib.hid (by rw [htk]; unfold secsOf; rw [List.map_append]; rfl)
      have Hl := Lib.hid (look_sec p c e ss.length Z L i m xs wr ((HS.out.below HB.out).sec hx) (HM.out.below HB.out))
      obtain ⟨st, hst⟩ : ∃ st, st = stS xs := ⟨_, rfl⟩
      obtain ⟨q, hq⟩ : ∃ q, q = stQ xs := ⟨_, rfl⟩
      rw [← hst, ← hq] at Hl Htk
      clear hx htk hst hq
      go_wp2_with fail
      refine Hl.out.mono ?_
      rintro e2 w2 ⟨rfl, hb2⟩
      have HB2 := Lib.hid (HB.out.trans (hb2.mono HB.out.size))
      have HG2 := Lib.hid (HG.out.below Sc.cells_len hb2)
      clear hb2
      have HB3 := Lib.hid (HB2.out.alloc HB2.out.size (.cells #[.int .i64 st, .int .u32 q, .int .i64 (m : Int)] 96))
      have HG3 := Lib.hid (HG2.out.alloc Sc.cells_len (.cells #[.int .i64 st, .int .u32 q, .int .i64 (m : Int)] 96))
      have hrow := RowSl.lit Sc.cells_len (w2.alloc (.cells #[.int .i64 st, .int .u32 q, .int .i64 (m : Int)] 96)) Empty 96 [⟨st, q, (m : Int)⟩] 1 [.int .i64 st, .int .u32 q, .int .i64 (m : Int)] rfl rfl (by decide) (fun h => h)
      have hsz2 : (w2.alloc (.cells #[.int .i64 st, .int .u32 q, .int .i64 (m : Int)] 96)).heap.size = w2.heap.size + 1 := by simp
      rw [hsz2] at hrow
      have Hrow := Lib.hid hrow
      clear hrow hsz2
      go_wp2_with (at_builtin; refine wpList_append_sc rfl _ _ rfl w.heap.size A i cap (secsOf (ss.take i)) rfl (HG3.out.alloc Sc.cells_len _) _ 1 1 _ rfl Hrow.out (fun h => by cases h) (by omega) (by have := HB3.out.size; simp at this ⊢; omega) ?_; intro A3 c3 w3 hg3 hgr3 hr3)
      have HB4 := Lib.hid (below_gotR (HB3.out.alloc HB3.out.size (.cells #[.int .i64 st, .int .u32 q, .int .i64 (m : Int)] 96)) (by have := HB3.out.size; simp at this ⊢; omega) hgr3 hr3 (Nat.le_refl _))
      have HG4 := Lib.hid hg3
      clear hg3 hgr3 hr3
      go_roundw
      case rel => exact ⟨i + 1, A3, c3, by omega, by simp, rfl, by rw [Htk.out]; exact HG4, HB4⟩
      case measure => simp [intOf]; omega
    · have hin : i = n := by omega
      subst hin
      have ht : ss.take i = ss := List.take_of_length_le (by have := Hn.out; omega)
      rw [ht] at HG
      go_wp2_with fail
      go_ret2
      exact ⟨⟨A, cap, rfl, HG.out⟩, HB.out⟩

end Go.Proofs.YtnhfmcijadficaaGreatDoor
