/- The walk over ScanWhole. -/
import Derived.Test.YtidcgobnhfganaaIe
import Derived.Test.YtidcgobnhfganaaIf
import Derived.Test.YtidcgobnhfganaaIi
import Derived.Test.YtidcgobnhfganaaId
import Derived.Test.YtidcgobnhfganaaHg
import Derived.Test.YtidcgobnhfganaaHb
namespace Go.Proofs.Ytidcgobnhfganaa
open Go.RowKit

def Fd.rn (f : Fd) : RN := ⟨f.k.toNat, f.t, f.c.toNat, f.s.data.toList, f.blob⟩

/-- What ScanWhole has made so far: the bytes of the records and what it wants to be told. -/
structure Whole (w : World) (rs : List RN) (v5 v6 : Value) (wr : World) : Prop where
  below : Below w.heap.size w wr
  may : ∀ r ∈ rs, r.may
  small : (laid rs).length ≤ 300 * rs.length
  bytes : ∃ A c, v5 = .slice A (laid rs).length c ∧ Got w.heap.size wr A (laid rs).length c (laid rs)
  want : ∃ acc : List Fd, acc.map Fd.d = fds 12 rs ∧ acc.length = rs.length ∧ wr.ownsRow w.heap.size 31 6 v6 acc.length (acc.flatMap Fd.cells) ∧ Blobs wr (fun q => w.heap.size ≤ q) acc

theorem whole_step {w W : World} {rs : List RN} {acc : List Fd} {f : Fd} {r : RN} {v5 v6 : Value} {N M : Nat} (h0 : ∀ q ∈ rs, q.may) (hr : r.may) (hs : (laid rs).length ≤ 300 * rs.length) (hN : N = (laid rs).length) (hM : r.bytes.length = M) (hM2 : M ≤ 300)
    (hb : Below w.heap.size w W) (ha1 : acc.map Fd.d = fds 12 rs) (ha2 : acc.length = rs.length) (hf : f.d = r.fd (12 + N)) (ho6 : W.ownsRow w.heap.size 31 6 v6 (acc ++ [f]).length ((acc ++ [f]).flatMap Fd.cells))
    (hbl : Blobs W (fun q => w.heap.size ≤ q) (acc ++ [f])) (ho5 : W.ownsRow w.heap.size 5 1 v5 (N + M) ((laid rs ++ r.bytes).map B8)) : Whole w (rs ++ [r]) v5 v6 W := by
  have hl : laid (rs ++ [r]) = laid rs ++ r.bytes := by rw [laid_append]; simp [laid]
  have hlen : (laid (rs ++ [r])).length = N + M := by rw [hl, List.length_append, hN, hM]
  refine ⟨hb, fun q hq => ?_, by rw [hlen, List.length_append, List.length_singleton]; omega, ?_, acc ++ [f], ?_, by simp [ha2], ho6, hbl⟩
  · rcases List.mem_append.1 hq with h | h
    · exact h0 q h
    · rw [List.mem_singleton] at h
      subst h
      exact hr
  · rw [hlen, hl]
    obtain ⟨A, c, rfl, hg⟩ := Got.of_own ho5
    exact ⟨A, c, rfl, hg⟩
  · rw [List.map_append, ha1, fds_append, List.map_cons, List.map_nil, hf, hN]
    rfl

set_option maxHeartbeats 1000000 in
theorem scanWhole_big (A : Option Addr) (n cap : Nat) (more : Int) (w : World) (h : 30 < n) :
    Calls Try.prog 3 #[.slice A n cap, .int .u8 more] w fun e w' => e = .returned (.bool true) ∧ Below w.heap.size w w' := by
  go_enter Try.func3, Try.ntmps3
  go_wp2_with fail
  refine (fixed6_any _).mono ?_
  rintro e1 w1 ⟨rfl, hb1⟩
  have HB1 := Lib.hid hb1
  clear hb1
  go_wp2
  go_ret
  exact ⟨rfl, HB1.out⟩

set_option maxRecDepth 100000 in
set_option maxHeartbeats 8000000 in
theorem scanWhole_yes (A : Option Addr) (n cap : Nat) (l : List Fd) (more : Nat) (w : World) (hR : Recs w (fun q => w.heap.size ≤ q) A n cap l) (hn : n ≤ 30) (hmore : more ≤ 255) :
    Calls Try.prog 3 #[.slice A n cap, .int .u8 (more : Int)] w fun e w' => e = .returned (.bool true) ∧ Below w.heap.size w w' := by
  have HR := Lib.hid hR
  have hcap := hR.2.1
  have hcap2 : cap ≤ 9223372036854775807 := by have := hR.2.2.1; unfold maxLen at this; omega
  have hd30 : decide ((30 : Int) < (n : Int)) = false := by simp; omega
  clear hR
  go_enter Try.func3, Try.ntmps3
  go_wp2_with fail
  refine (fixed6_any _).mono ?_
  rintro e1 w1 ⟨rfl, hb1⟩
  have HB1 := Lib.hid hb1
  clear hb1
  go_wp2_with fail
  clear hd30
  go_loopw [5, 6, 20] (fun v5 v6 v20 wr => ∃ i : Nat, i ≤ n ∧ v20 = .int .i64 (i : Int) ∧ Whole w ((l.take i).map Fd.rn) v5 v6 wr) (fun _ _ v _ => n - (intOf v).toNat)
  case atStart => exact ⟨0, Nat.zero_le _, rfl, HB1.out, (fun r h => by cases h), by simp [laid], ⟨none, 0, rfl, Got.nil_ _ _⟩, [], rfl, rfl, World.ownsRow_nil _ _ _ _, Blobs.nil_ _ _⟩
  case round =>
    obtain ⟨i, hi, rfl, hW⟩ := hrel
    by_cases hlt : i < n
    · obtain ⟨b, o, rfl, hb, -, hcl⟩ := HR.out.2.2.2.1 (by omega)
      obtain ⟨f, hf⟩ : ∃ f, l[i]? = some f := ⟨_, List.getElem?_eq_getElem (by have := HR.out.1; omega)⟩
      have hc := hcl i f hf
      have hmem := List.mem_of_getElem? hf
      have hFb := HR.out.2.2.2.2.1 f hmem
      have hFt := HR.out.2.2.2.2.2 f hmem
      have htake := congrArg (fun z => z.map Fd.rn) (take_one l i f hf)
      rw [List.map_append, List.map_cons, List.map_nil] at htake
      obtain ⟨pl, k, t, s, A1, m1, p1, c, xs⟩ := f
      have hbw := hW.below
      have hcell : ∀ j, j < 5 → wr.cell? ⟨b, o + i * 5 + j, none⟩ = (Fd.mk pl k t s A1 m1 p1 c xs).cells[j + 1]? := fun j hj => (hbw.cell (p := ⟨b, o + i * 5 + j, none⟩) hb).trans (hc j hj)
      have d0 : wr.cell? ⟨b, o + i * 5, none⟩ = some (.int .i64 k) := hcell 0 (by omega)
      have d1 : wr.cell? ⟨b, o + i * 5 + 1, none⟩ = some (.int .u32 (t : Int)) := hcell 1 (by omega)
      have d2 : wr.cell? ⟨b, o + i * 5 + 2, none⟩ = some (.string s) := hcell 2 (by omega)
      have d3 : wr.cell? ⟨b, o + i * 5 + 3, none⟩ = some (.slice A1 m1 p1) := hcell 3 (by omega)
      have d4 : wr.cell? ⟨b, o + i * 5 + 4, none⟩ = some (.int .i64 c) := hcell 4 (by omega)
      have HW := Lib.hid hW
      have Htake := Lib.hid htake
      have HFb := Lib.hid hFb
      have hFt : t ≤ 4294967295 := hFt
      have Hbw := Lib.hid hbw
      have HBox := Lib.hid (Blk.new wr 28 #[.int .i64 k, .int .u32 (t : Int), .string s, .slice A1 m1 p1, .int .i64 c])
      clear hc hcl hf hmem hFb htake hW hbw hcell
      cases hmay : mayB k (t : Int) (s.size : Int) (m1 : Int) c with
      | false =>
        go_wp2_with fail
        refine (right_any k (t : Int) c s A1 m1 p1 _ (by omega)).mono ?_
        rw [hmay]
        rintro e2 w2 ⟨rfl, hb2⟩
        have HB2 := Lib.hid ((Hbw.out.alloc Hbw.out.size (.cells #[.int .i64 k, .int .u32 (t : Int), .string s, .slice A1 m1 p1, .int .i64 c] 28)).trans (hb2.mono (Nat.le_trans Hbw.out.size (by simp))))
        clear hb2 d0 d1 d2 d3 d4
        go_wp2
        go_ret
        exact ⟨rfl, HB2.out⟩
      | true =>
        by_cases h200 : m1 ≤ 200
        · have hy := mayB_iff.1 hmay
          obtain ⟨k, rfl⟩ := Int.eq_ofNat_of_zero_le (show 0 ≤ k by omega)
          obtain ⟨c, rfl⟩ := Int.eq_ofNat_of_zero_le (show 0 ≤ c by omega)
          have hs64 : s.size ≤ 64 := by omega
          have hd2 : decide ((200 : Int) < (m1 : Int)) = false := by simp; omega
          obtain ⟨rs, hrs⟩ : ∃ rs, rs = (l.take i).map Fd.rn := ⟨_, rfl⟩
          rw [← hrs] at HW Htake
          have hlen : rs.length = i := by rw [hrs, List.length_map, List.length_take, HR.out.1]; omega
          have Hrlen := Lib.hid hlen
          obtain ⟨A5, c5, rfl, hG5⟩ := HW.out.bytes
          obtain ⟨acc, ha1, ha2, hown6, hbl6⟩ := HW.out.want
          have hsm := HW.out.small
          obtain ⟨N, hN⟩ : ∃ N, N = (laid rs).length := ⟨_, rfl⟩
          rw [← hN] at hG5 hsm ⊢
          have hN2 : N ≤ 9000 := by omega
          have Hmay := Lib.hid hmay
          have Ha1 := Lib.hid ha1
          have Ha2 := Lib.hid ha2
          have HN := Lib.hid hN
          have HG5 := Lib.hid hG5
          have HO6 := Lib.hid hown6
          have HBl6 := Lib.hid hbl6
          have Hbase := Lib.hid Hbw.out.size
          have HR1 : Hid (∀ W, Calls Try.prog 6 #[.agg #[.int .i64 (k : Int), .int .u32 (t : Int), .string s, .slice A1 m1 p1, .int .i64 (c : Int)]] W fun e W' => e = .returned (.bool true) ∧ Below W.heap.size W W') := Lib.hid (fun W => by
            have h := right_any (k : Int) (t : Int) (c : Int) s A1 m1 p1 W (by omega)
            rw [Hmay.out] at h
            exact h)
          clear hy hrs hlen ha1 ha2 hN hG5 hown6 hbl6 hsm hmay
          go_wp2_with fail
          refine (HR1.out _).mono ?_
          rintro e2 w2 ⟨rfl, hb2⟩
          have hO2 := ((Only.refl Empty wr).alloc (.cells #[.int .i64 (k : Int), .int .u32 (t : Int), .string s, .slice A1 m1 p1, .int .i64 (c : Int)] 28)).trans (Only.of_below (S := Empty) hb2)
          have HBox2 := Lib.hid (HBox.out.of (hb2.block wr.heap.size (by simp)))
          have HB2 := Lib.hid (Hbw.out.trans (hO2.below (B := w.heap.size) Hbw.out.size (fun _ _ h => h)))
          have HO6a := Lib.hid (own_only HO6.out hO2 (fun _ _ _ h => h))
          have HBl6a := Lib.hid (HBl6.out.only hO2 (fun _ _ h => h.elim))
          have HG5a : Hid (Got w.heap.size w2 A5 N c5 (laid rs)) := Lib.hid ⟨own_only HG5.out.own hO2 (fun _ _ _ h => h), HG5.out.bytes.only hO2 (fun _ _ h => h), HG5.out.isNil⟩
          have z0 := HBox2.out.cell 0
          have z1 := HBox2.out.cell 1
          have z2 := HBox2.out.cell 2
          have z3 := HBox2.out.cell 3
          have z4 := HBox2.out.cell 4
          simp at z0 z1 z2 z3 z4
          clear hb2 hO2 d0 d1 d2 d3 d4
          obtain ⟨f, hf⟩ : ∃ f : Fd, f = ⟨12 + (N : Int), k, t, s, A1, m1, p1, c, xs⟩ := ⟨_, rfl⟩
          have hcells : f.cells.toArray = #[.int .i64 (12 + (N : Int)), .int .i64 (k : Int), .int .u32 (t : Int), .string s, .slice A1 m1 p1, .int .i64 (c : Int)] := by rw [hf]; rfl
          have hFd : f.A = A1 ∧ f.n = m1 ∧ f.cap = p1 ∧ f.blob = xs := by rw [hf]; exact ⟨rfl, rfl, rfl, rfl⟩
          have Hcells := Lib.hid hcells
          have HK2 := Lib.hid (Blk.new w2 31 f.cells.toArray)
          have hal : Only Empty w2 (w2.alloc (.cells f.cells.toArray 31)) := (Only.refl Empty w2).alloc _
          have HO6b := Lib.hid (HO6a.out.alloc (.cells f.cells.toArray 31))
          have HB2b := Lib.hid (HB2.out.alloc HB2.out.size (.cells f.cells.toArray 31))
          have HG5b := Lib.hid (HG5a.out.alloc (.cells f.cells.toArray 31))
          have HBox2b := Lib.hid (HBox2.out.alloc (.cells f.cells.toArray 31))
          have HBl6b := Lib.hid ((HBl6a.out.only hal (fun _ _ h => h.elim)).snoc (f := f) (by rw [hFd.1, hFd.2.1, hFd.2.2.1, hFd.2.2.2]; exact (HFb.out.1.only (Only.of_below (S := Empty) HB2b.out) (fun _ _ h => h.elim))) (by rw [hFd.1, hFd.2.1, hFd.2.2.1]; exact HFb.out.2))
          have Hmm : Hid (acc.length + 1 ≤ 1048576) := Lib.hid (by have := Ha2.out; have := Hrlen.out; omega)
          rw [hcells] at HK2 HO6b HB2b HG5b HBox2b HBl6b
          have Hf := Lib.hid hf
          clear hf hcells hal hFd
          go_wp2_with (at_builtin; refine wpList_append_found rfl (.tmp 33) (.tmp 39) rfl w.heap.size _ rfl acc HO6b.out f w2.heap.size rfl (by rw [Hcells.out]; exact HK2.out) Hmm.out HB2b.out.size ?_; intro v7 w7 hown7 hg7 hat7; obtain ⟨y0, y1, y2, y3, y4⟩ := (HBox2b.out.row HO6b.out (by decide) hg7).five)
          have HBox7 := Lib.hid (HBox2b.out.row HO6b.out (by decide) hg7)
          have HG7 := Lib.hid (HG5b.out.row HO6b.out (by decide) hg7)
          have hlt6 := HO6b.out.lt
          have HB7 := Lib.hid (below_grown HB2b.out HB2b.out.size hg7 (fun q hq => (hlt6 q hq).1))
          have HBl7 := Lib.hid (HBl6b.out.only (Only.of_grown (S := fun q => w.heap.size ≤ q) hg7 (fun q hq _ => (hlt6 q hq).1)) (fun _ _ h => h))
          have HO7 := Lib.hid hown7
          clear hlt6 hown7 hg7 hat7 y0 y1 y2 y3 y4 z0 z1 z2 z3 z4
          have HX7 := Lib.hid ((HFb.out.1.only (Only.of_below (S := Empty) HB7.out) (fun _ _ h => h.elim)).mono (T := Empty) (fun _ _ h => h.elim))
          refine (r5Bytes_yes k t c s A1 m1 p1 xs _ Hmay.out hFt HX7.out HFb.out.2).mono ?_
          rintro e8 w8 ⟨⟨A8, c8, rfl, hG8⟩, hb8⟩
          have HB8 := Lib.hid (HB7.out.trans (hb8.mono HB7.out.size))
          have HG8 := Lib.hid hG8.bytes
          have HN8 := Lib.hid hG8.isNil
          have HG5c := Lib.hid (HG7.out.next hb8)
          have HO8 := Lib.hid (own_only HO7.out (Only.of_below (S := Empty) hb8) (fun _ _ _ h => h))
          have HBl8 := Lib.hid (HBl7.out.only (Only.of_below (S := Empty) hb8) (fun _ _ h => h.elim))
          clear hG8 hb8
          have Hk8 : Hid (N + (15 + s.size + m1) ≤ 16777216) := Lib.hid (by omega)
          have Hk9 : Hid (N + (15 + s.size + m1) + 1 ≤ 16777216) := Lib.hid (by omega)
          have HL : Hid (∀ W : World, ByteSl (W.alloc (.cells #[.int .u8 0] 5)) Empty (some ⟨W.heap.size, 0, none⟩) 1 1 [0]) := Lib.hid (fun W => ByteSl.lit W Empty [0] 1 rfl (fun h => h) (by decide))
          have HNil : Hid (∀ q : Addr, some q = none → 1 = 0 ∧ 1 = 0) := Lib.hid (fun q h => by cases h)
          go_wp2_with (first | (at_builtin; refine wpList_append_bytes rfl (.tmp 41) (.tmp 43) rfl w.heap.size _ rfl N (laid rs) HG5c.out.own A8 (15 + s.size + m1) c8 (recB k t c s.data.toList xs) Empty rfl HG8.out HN8.out Hk8.out HB8.out.size ?_; intro v9 w9 hown9 hg9 _; have HB9 := Lib.hid (below_grown HB8.out HB8.out.size hg9 (fun q hq => (HG5c.out.own.lt q hq).1)); have HO9 := Lib.hid (HO8.out.kept hg9 (own_ne HO8.out HG5c.out.own (by decide))); have HBl9 := Lib.hid (HBl8.out.only (Only.of_grown (S := fun q => w.heap.size ≤ q) hg9 (fun q hq _ => (HG5c.out.own.lt q hq).1)) (fun _ _ h => h)); have Hown9 : Hid (w9.ownsRow w.heap.size 5 1 v9 (N + (15 + s.size + m1)) ((laid rs ++ recB k t c s.data.toList xs).map B8)) := (by first | exact Lib.hid hown9 | exact Lib.hid (by rw [List.map_append]; exact hown9)); clear hown9 hg9; have HO9b := Lib.hid (HO9.out.alloc (.cells #[.int .u8 0] 5)); have HBl9b := Lib.hid (HBl9.out.only ((Only.refl Empty w9).alloc (.cells #[.int .u8 0] 5)) (fun _ _ h => h.elim)); have HB9b := Lib.hid (HB9.out.alloc HB9.out.size (.cells #[.int .u8 0] 5)); have Hown9b := Lib.hid (Hown9.out.alloc (.cells #[.int .u8 0] 5))) | (at_builtin; refine wpList_append_bytes rfl (.tmp 44) (.tmp 45) rfl w.heap.size _ rfl (N + (15 + s.size + m1)) (laid rs ++ recB k t c s.data.toList xs) Hown9b.out (some ⟨w9.heap.size, 0, none⟩) 1 1 [0] Empty rfl (HL.out w9) (HNil.out _) Hk9.out HB9b.out.size ?_; intro v10 w10 hown10 hg10 _))
          have hlt9 := Hown9b.out.lt
          have HB10 := Lib.hid (below_grown HB9b.out HB9b.out.size hg10 (fun q hq => (hlt9 q hq).1))
          have HO10 := Lib.hid (HO9b.out.kept hg10 (own_ne HO9b.out Hown9b.out (by decide)))
          have HBl10 := Lib.hid (HBl9b.out.only (Only.of_grown (S := fun q => w.heap.size ≤ q) hg10 (fun q hq _ => (hlt9 q hq).1)) (fun _ _ h => h))
          have hown11 : w10.ownsRow w.heap.size 5 1 v10 (N + (16 + s.size + m1)) ((laid rs ++ (RN.mk k t c s.data.toList xs).bytes).map B8) := by
            have e1 : N + (16 + s.size + m1) = N + (15 + s.size + m1) + 1 := by omega
            rw [e1]
            unfold RN.bytes
            first | exact hown10 | (simp only [List.map_append, List.append_assoc] at hown10 ⊢; exact hown10)
          have Hown11 := Lib.hid hown11
          clear hlt9 hown10 hg10 hown11
          go_roundw
          case rel =>
            refine ⟨i + 1, by omega, by go_num, ?_⟩
            rw [Htake.out]
            have hsl : s.data.toList.length = s.size := Array.length_toList
            have hxl : xs.length = m1 := HFb.out.1.1
            have hmay2 : (RN.mk k t c s.data.toList xs).may := by
              refine ⟨?_, hFt⟩
              rw [hsl, hxl]
              exact Hmay.out
            exact whole_step (r := RN.mk k t c s.data.toList xs) HW.out.may hmay2 HW.out.small HN.out (by rw [RN.len, hsl, hxl]) (by omega) HB10.out Ha1.out Ha2.out (by rw [Hf.out]; rfl) HO10.out HBl10.out Hown11.out
          case measure => simp [intOf]; omega
        · have hd2 : decide ((200 : Int) < (m1 : Int)) = true := by simp; omega
          go_wp2_with fail
          refine (right_any k (t : Int) c s A1 m1 p1 _ (by omega)).mono ?_
          rw [hmay]
          rintro e2 w2 ⟨rfl, hb2⟩
          have HB2 := Lib.hid ((Hbw.out.alloc Hbw.out.size (.cells #[.int .i64 k, .int .u32 (t : Int), .string s, .slice A1 m1 p1, .int .i64 c] 28)).trans (hb2.mono (Nat.le_trans Hbw.out.size (by simp))))
          have HBox2 := HBox.out.of (hb2.block wr.heap.size (by simp))
          have z3 := HBox2.cell 3
          simp at z3
          clear hb2 d0 d1 d2 d3 d4 HBox2
          go_wp2
          go_ret
          exact ⟨rfl, HB2.out⟩
    · obtain rfl : i = n := by omega
      rw [List.take_of_length_le (by rw [HR.out.1]; omega)] at hW
      obtain ⟨A5, c5, rfl, hG5⟩ := hW.bytes
      obtain ⟨rs, hrs⟩ : ∃ rs, rs = l.map Fd.rn := ⟨_, rfl⟩
      rw [← hrs] at hG5 hW ⊢
      have hlen : rs.length = i := by rw [hrs, List.length_map, HR.out.1]
      have hsm := hW.small
      obtain ⟨N, hN⟩ : ∃ N, N = (laid rs).length := ⟨_, rfl⟩
      rw [← hN] at hG5 hsm ⊢
      have hN2 : N ≤ 9000 := by omega
      have HN := Lib.hid hN
      have HG5 := Lib.hid hG5
      have HW := Lib.hid hW
      obtain ⟨acc, ha1, ha2, hown6, hbl6⟩ := hW.want
      have Ha1 := Lib.hid ha1
      have HO6 := Lib.hid hown6
      have HBl6 := Lib.hid hbl6
      have HB0 := Lib.hid hW.below
      have HMay := Lib.hid hW.may
      have hacc : acc.length ≤ 30 := by omega
      clear hrs hlen hsm hN hG5 hW HW ha1 hown6 hbl6 ha2
      go_wp2_with fail
      go_loopw [5, 52] (fun v5 v52 wx => ∃ j : Nat, j ≤ more ∧ v52 = .int .u8 (j : Int) ∧ Hid (Below w.heap.size w wx) ∧ (∃ A c, v5 = .slice A (N + j) c ∧ Hid (Got w.heap.size wx A (N + j) c (laid rs ++ List.replicate j 255))) ∧ Hid (wx.ownsRow w.heap.size 31 6 u6 acc.length (acc.flatMap Fd.cells)) ∧ Hid (Blobs wx (fun q => w.heap.size ≤ q) acc)) (fun _ v _ => more - (intOf v).toNat)
      case atStart => exact ⟨0, Nat.zero_le _, rfl, HB0, ⟨A5, c5, rfl, by simpa using HG5⟩, HO6, HBl6⟩
      case round =>
        obtain ⟨j, hj, rfl, HB, ⟨A6, c6, rfl, HG6⟩, HO6, HBl6⟩ := hrel
        by_cases hjm : j < more
        · have hO := (Only.refl Empty wr).alloc (.cells #[.int .u8 255] 5)
          have HBa := Lib.hid (HB.out.alloc HB.out.size (.cells #[.int .u8 255] 5))
          have HG6a := Lib.hid (HG6.out.alloc (.cells #[.int .u8 255] 5))
          have HO6a := Lib.hid (HO6.out.alloc (.cells #[.int .u8 255] 5))
          have HBl6a := Lib.hid (HBl6.out.only hO (fun _ _ h => h.elim))
          have HL : Hid (ByteSl (wr.alloc (.cells #[.int .u8 255] 5)) Empty (some ⟨wr.heap.size, 0, none⟩) 1 1 [255]) := Lib.hid (ByteSl.lit wr Empty [255] 1 rfl (fun h => h) (by decide))
          have HNil : Hid (∀ q : Addr, some q = none → 1 = 0 ∧ 1 = 0) := Lib.hid (fun q h => by cases h)
          have Hk : Hid (N + j + 1 ≤ 16777216) := Lib.hid (by omega)
          clear hO
          go_wp2_with (at_builtin; refine wpList_append_bytes rfl (.tmp 54) (.tmp 55) rfl w.heap.size _ rfl (N + j) (laid rs ++ List.replicate j 255) HG6a.out.own (some ⟨wr.heap.size, 0, none⟩) 1 1 [255] Empty rfl HL.out (HNil.out _) Hk.out HBa.out.size ?_; intro v7 w7 hown7 hg7 _)
          have hlt7 := HG6a.out.own.lt
          have HB7 := Lib.hid (below_grown HBa.out HBa.out.size hg7 (fun q hq => (hlt7 q hq).1))
          have HO7 := Lib.hid (HO6a.out.kept hg7 (own_ne HO6a.out HG6a.out.own (by decide)))
          have HBl7 := Lib.hid (HBl6a.out.only (Only.of_grown (S := fun q => w.heap.size ≤ q) hg7 (fun q hq _ => (hlt7 q hq).1)) (fun _ _ h => h))
          have hown8 : w7.ownsRow w.heap.size 5 1 v7 (N + (j + 1)) ((laid rs ++ List.replicate (j + 1) 255).map B8) := by
            rw [List.replicate_succ', ← List.append_assoc]
            first | exact hown7 | (simp only [List.map_append, List.append_assoc] at hown7 ⊢; exact hown7)
          obtain ⟨A7, c7, rfl, hG7⟩ := Got.of_own hown8
          have HG7 := Lib.hid hG7
          clear hlt7 hown7 hg7 hown8 hG7
          go_roundw
          case rel => exact ⟨j + 1, by omega, by go_num, HB7, ⟨A7, c7, rfl, HG7⟩, HO7, HBl7⟩
          case measure => simp [intOf]; omega
        · obtain rfl : j = more := by omega
          obtain ⟨B6, d6, rfl, hF6⟩ := Founds.of_own (S := Empty) HO6.out (HBl6.out.mono (fun _ _ h => h.elim)) (fun _ _ _ _ h => h)
          have HF6 := Lib.hid hF6
          clear hF6
          go_wp2_with fail
          refine (sector6_any A6 (N + j) c6 _ _ HG6.out.bytes HG6.out.isNil (by omega)).mono ?_
          rintro e7 w7 ⟨⟨A7, c7, rfl, hG7⟩, hb7⟩
          have HB7 := Lib.hid (HB.out.trans (hb7.mono HB.out.size))
          have HF7 := Lib.hid (HF6.out.only (Only.of_below (S := Empty) hb7) (fun _ _ h => h))
          have HG7 := Lib.hid hG7.bytes
          clear hb7 hG7
          go_wp2_with fail
          refine (scan_laid A7 (12 + (N + j)) c7 rs j _ HG7.out (by omega) HMay.out).mono ?_
          rintro e8 w8 ⟨⟨A8, n8, c8, l8, rfl, hl8, hG8⟩, hb8⟩
          have HB8 := Lib.hid (HB7.out.trans (hb8.mono HB7.out.size))
          have HF8 := Lib.hid (HF7.out.only (Only.of_below (S := Empty) hb8) (fun _ _ h => h))
          have hn8 : n8 = acc.length := by
            have h := congrArg List.length (hl8.trans Ha1.out.symm)
            rw [List.length_map, List.length_map, hG8.reads.1] at h
            exact h
          subst hn8
          have HG8 := Lib.hid hG8.reads
          have Hl8 := Lib.hid (hl8.trans Ha1.out.symm)
          have hto : (((12 + (laid rs).length : Nat)) : Int) = 12 + (N : Int) := by rw [HN.out]; omega
          rw [hto]
          clear hl8 hG8 hb8 hto
          go_wp2_with fail
          refine (same6_any A8 B6 acc.length c8 d6 l8 acc _ HG8.out HF8.out Hl8.out (by omega)).mono ?_
          rintro e9 w9 ⟨rfl, hb9⟩
          have HB9 := Lib.hid (HB8.out.trans (hb9.mono HB8.out.size))
          clear hb9
          go_wp2
          go_ret
          exact ⟨rfl, HB9.out⟩

/-- Whatever comes in. -/
theorem scanWhole_any (A : Option Addr) (n cap : Nat) (l : List Fd) (more : Int) (w : World) (hR : Recs w (fun q => w.heap.size ≤ q) A n cap l) (h1 : 0 ≤ more) (h2 : more ≤ 255) :
    Calls Try.prog 3 #[.slice A n cap, .int .u8 more] w fun e w' => e = .returned (.bool true) ∧ Below w.heap.size w w' := by
  rcases Nat.lt_or_ge 30 n with h | h
  · exact scanWhole_big A n cap more w h
  · obtain ⟨m, rfl⟩ := Int.eq_ofNat_of_zero_le h1
    exact scanWhole_yes A n cap l m w hR h (by omega)

end Go.Proofs.Ytidcgobnhfganaa
