/- The walk over ScanTorn. -/
import Derived.Test.YtidcgobnhfganaaIe
import Derived.Test.YtidcgobnhfganaaIf
import Derived.Test.YtidcgobnhfganaaIi
import Derived.Test.YtidcgobnhfganaaIn
import Derived.Test.YtidcgobnhfganaaHg
import Derived.Test.YtidcgobnhfganaaHb
import Derived.Deep.DeepCutAuto
namespace Go.Proofs.Ytidcgobnhfganaa
open Go.RowKit

/-- The commit that was laid ahead. -/
def firstR : List RN := [RN.mk 1 1 0 [102, 105, 114, 115, 116] [], RN.mk 3 1 1 [] []]
theorem firstR_may : ∀ r ∈ firstR, r.may := by
  intro r hr
  simp only [firstR, List.mem_cons, List.not_mem_nil, or_false] at hr
  rcases hr with rfl | rfl <;> exact ⟨by decide, by decide⟩

theorem fds_mem : ∀ (rs : List RN) (pl : Nat) (d : FD), d ∈ fds pl rs → ∃ r ∈ rs, d.t = r.t ∧ d.blob = r.blob
  | [], pl, d, h => by cases h
  | r :: rs, pl, d, h => by
    rw [fds] at h
    rcases List.mem_cons.1 h with h | h
    · subst h
      exact ⟨r, by simp, rfl, rfl⟩
    · obtain ⟨q, hq, h1⟩ := fds_mem rs _ d h
      exact ⟨q, by simp [hq], h1⟩

theorem fds_len : ∀ (rs : List RN) (pl : Nat), (fds pl rs).length = rs.length
  | [], _ => rfl
  | r :: rs, pl => by rw [fds, List.length_cons, List.length_cons, fds_len rs]

/-- A put or a delete that may be. -/
def RN.part (r : RN) : Prop := r.may ∧ r.t = 2 ∧ r.k ≠ 3 ∧ r.bytes.length ≤ 300
theorem laid_le : ∀ (rs : List RN), (∀ r ∈ rs, r.part) → (laid rs).length ≤ 300 * rs.length
  | [], _ => by simp [laid]
  | r :: rs, h => by
    have h1 := laid_le rs (fun q hq => h q (by simp [hq]))
    have h2 := (h r (by simp)).2.2.2
    rw [laid_cons, List.length_append, List.length_cons]
    omega

set_option maxHeartbeats 2000000 in
theorem scanTorn_out (A : Option Addr) (n cap : Nat) (cut mask : Int) (w : World) (h : 16 < n ∨ n = 0) :
    Calls Try.prog 4 #[.slice A n cap, .int .u16 cut, .int .u8 mask] w fun e w' => e = .returned (.bool true) ∧ Below w.heap.size w w' := by
  rcases Nat.eq_zero_or_pos n with h0 | h0
  · subst h0
    clear h
    go_enter Try.func4, Try.ntmps4
    go_wp2_with fail
    refine (fixed6_any _).mono ?_
    rintro e1 w1 ⟨rfl, hb1⟩
    have HB1 := Lib.hid hb1
    clear hb1
    go_wp2
    go_ret
    exact ⟨rfl, HB1.out⟩
  · have hn : 16 < n := by omega
    clear h h0
    go_enter Try.func4, Try.ntmps4
    go_wp2_with fail
    refine (fixed6_any _).mono ?_
    rintro e1 w1 ⟨rfl, hb1⟩
    have HB1 := Lib.hid hb1
    clear hb1
    go_wp2
    go_ret
    exact ⟨rfl, HB1.out⟩

/-- What Scan tells of the law's sector: the commit ahead, and a beginning of the torn one's records. -/
def TornOk (w : World) (e : Ending) (w' : World) : Prop :=
  (∃ (pre : List RN) (A : Option Addr) (n cap : Nat) (l : List Fd) (tz : Nat) (c : Bool), n ≤ 1048576 ∧ (∀ r ∈ pre, r.part) ∧ e = .returned (.tuple #[.slice A n cap, .int .i64 (tz : Int), .bool c]) ∧ l.map Fd.d = fds 12 (firstR ++ pre) ∧ GotF w.heap.size w' A n cap l) ∧ Below w.heap.size w w'

theorem scan_torn (A : Option Addr) (n cap : Nat) (rs : List RN) (i K : Nat) (x mask : UInt8) (X : List UInt8) (w : World) (hX : X = laid (rs ++ [RN.mk 3 2 i [] []])) (hB : ByteSl w Empty A n cap (sec3 (laid firstR ++ (X.take K ++ [x ||| mask])) ++ [255, 255])) (hx : X[K]? = some x)
    (hno : ¬ (K + 1 = X.length ∧ mask = 0)) (hpart : ∀ r ∈ rs, r.part) (hm : n ≤ 1048576) (hi : i ≤ 16) (hrl : rs.length ≤ 16) :
    Calls Try.prog 8 #[.slice A n cap] w fun e w' => TornOk w e w' := by
  have hbytes : sec3 (laid firstR ++ (X.take K ++ [x ||| mask])) ++ [255, 255] = (headB 3 ++ [0, 255, 255, 255]) ++ (laid firstR ++ (X.take K ++ (x ||| mask) :: [255, 255])) := by
    simp only [sec3, List.append_assoc, List.cons_append, List.nil_append]
  have hl12 : (headB 3 ++ [0, 255, 255, 255]).length = 12 := by simp [headB_len]
  rw [hbytes] at hB
  obtain ⟨en, hE⟩ := IsEnd.exists_ ((headB 3 ++ [0, 255, 255, 255]) ++ (laid firstR ++ (X.take K ++ (x ||| mask) :: [255, 255])))
  subst hX
  have hcm : (RN.mk 3 2 i [] []).may := by
    refine ⟨?_, by show (2 : Nat) ≤ 4294967295; omega⟩
    rw [mayB_iff]
    simp only [List.length_nil]
    omega
  obtain ⟨pre, post, tz, c, hpp, hrun⟩ := torn_found _ hl12 firstR rs (RN.mk 3 2 i [] []) firstR_may (fun r hr => (hpart r hr).1) hcm K mask x hx hno en hE
  have h12 : 12 ≤ n := by
    have := hB.1
    rw [List.length_append, hl12] at this
    omega
  exact (scan_any A n cap _ w hB hm h12 en hE _ _ _ hrun).mono fun e w' ⟨⟨A', n', cap', l, he, hl, hg⟩, hb⟩ =>
    ⟨⟨pre, A', n', cap', l, tz, c, by
      have h1 := congrArg List.length hl
      rw [List.length_map, hg.reads.1, fds_len, List.length_append] at h1
      rw [hpp, List.length_append] at hrl
      have h2 : firstR.length = 2 := rfl
      omega, fun r hr => hpart r (by rw [hpp]; simp [hr]), he, hl, hg⟩, hb⟩

theorem firstR_part : ∀ r ∈ firstR, r.t ≤ 4294967295 ∧ r.blob.length ≤ 16777216 := by
  intro r hr
  simp only [firstR, List.mem_cons, List.not_mem_nil, or_false] at hr
  rcases hr with rfl | rfl <;> exact ⟨by decide, by decide⟩

/-- Of what Scan told the put ahead alone counts. -/
theorem commits_torn (A : Option Addr) (n cap : Nat) (l : List Fd) (pre : List RN) (w : World) (hF : Founds w Empty A n cap l) (hm : n ≤ 1048576) (hpart : ∀ r ∈ pre, r.part) (hl : l.map Fd.d = fds 12 (firstR ++ pre)) :
    Calls Try.prog 11 #[.slice A n cap] w fun e w' => (∃ B cap' b o, e = .returned (.slice B 1 cap') ∧ 1 ≤ cap' ∧ B = some ⟨b, o, none⟩ ∧ w'.cell? ⟨b, o + 3, none⟩ = some (.string ⟨#[102, 105, 114, 115, 116]⟩)) ∧ Below w.heap.size w w' := by
  have hall : ∀ f ∈ l, f.t ≤ 4294967295 ∧ f.n ≤ 16777216 := fun f hf => by
    have hd : f.d ∈ fds 12 (firstR ++ pre) := by rw [← hl]; exact List.mem_map_of_mem hf
    obtain ⟨r, hr, h1, h2⟩ := fds_mem _ _ _ hd
    have hb := (hF.2.2.2.2 f hf).1.1
    have h1 : f.t = r.t := h1
    have h2 : f.blob = r.blob := h2
    rw [h1, ← hb, h2]
    rcases List.mem_append.1 hr with h | h
    · exact firstR_part r h
    · have hp := hpart r h
      have hlen := r.len
      have := hp.2.2.2
      exact ⟨hp.1.2, by omega⟩
  refine (commits_any A n cap l w hF (fun f hf => (hall f hf).1) hm (fun f hf => (hall f hf).2)).mono fun e w' ⟨⟨B, n', cap', l', he, hc, hg⟩, hb⟩ => ⟨?_, hb⟩
  rw [hl] at hc
  have hc2 := hc.trans (torn_commits pre (fun r hr => ⟨(hpart r hr).2.1, (hpart r hr).2.2.1⟩))
  have hn : n' = 1 := by
    have h := congrArg List.length hc2
    rw [List.length_map, hg.reads.1] at h
    exact h
  subst hn
  obtain ⟨f, rfl⟩ : ∃ f, l' = [f] := List.length_eq_one_iff.1 hg.reads.1
  obtain ⟨b, o, rfl, hbl, -, hcell⟩ := hg.reads.2.2.2.1 (by omega)
  refine ⟨_, cap', b, o, he, hg.reads.2.1, rfl, ?_⟩
  have h3 := hcell 0 f rfl 3 (by omega)
  rw [Nat.zero_mul, Nat.add_zero] at h3
  rw [h3]
  rw [List.map_cons, List.map_nil] at hc2
  injection hc2 with hfd
  have hs : f.s.data.toList = [102, 105, 114, 115, 116] := congrArg FD.key hfd
  have hs2 : f.s = ⟨#[102, 105, 114, 115, 116]⟩ := by
    apply ByteArray.ext
    apply Array.toList_inj.1
    exact hs
  show some (Value.string f.s) = _
  rw [hs2]

/-- The record that a change makes, in a block of its own behind the change's. -/
def Picked (w : World) (f : Ch) (wr wx : World) : Prop := ∃ (kk : Nat) (A : Option Addr) (m p : Nat) (xs : List UInt8),
  wx = (wr.alloc (.cells #[.bool f.del, .string f.s, .slice f.A f.n f.cap] 41)).alloc (.cells #[.int .i64 (kk : Int), .int .u32 2, .string f.s, .slice A m p, .int .i64 0] 28) ∧ (kk = 1 ∨ kk = 2) ∧
    ByteSl w (fun q => w.heap.size ≤ q) A m p xs ∧ (A = none → m = 0 ∧ p = 0)

set_option maxRecDepth 100000 in
set_option maxHeartbeats 16000000 in
theorem scanTorn_yes (A : Option Addr) (n cap : Nat) (l : List Ch) (cut : Nat) (mask : UInt8) (w : World) (hR : Chs w (fun q => w.heap.size ≤ q) A n cap l) (hn1 : 1 ≤ n) (hn : n ≤ 16) (hcut : cut ≤ 65535) :
    Calls Try.prog 4 #[.slice A n cap, .int .u16 (cut : Int), .int .u8 (mask.toNat : Int)] w fun e w' => e = .returned (.bool true) ∧ Below w.heap.size w w' := by
  have HR := Lib.hid hR
  have hcap := hR.2.1
  have hcap2 : cap ≤ 9223372036854775807 := by have := hR.2.2.1; unfold maxLen at this; omega
  have hd16 : decide ((16 : Int) < (n : Int)) = false := by simp; omega
  have hd0 : ((n : Int) == 0) = false := by simp; omega
  have HL : Hid (∀ W : World, ByteSl (W.alloc (.cells #[.int .u8 0] 5)) Empty (some ⟨W.heap.size, 0, none⟩) 1 1 [0]) := Lib.hid (fun W => ByteSl.lit W Empty [0] 1 rfl (fun h => h) (by decide))
  have HNil : Hid (∀ (q : Addr) (a b : Nat), some q = none → a = 0 ∧ b = 0) := Lib.hid (fun q a b h => by cases h)
  clear hR
  go_enter Try.func4, Try.ntmps4
  go_wp2_with fail
  refine (fixed6_any _).mono ?_
  rintro e1 w1 ⟨rfl, hb1⟩
  have HB1 := Lib.hid hb1
  clear hb1
  go_wp2_with fail
  clear hd16 hd0
  refine (r5Bytes_yes 1 1 0 ⟨#[102, 105, 114, 115, 116]⟩ none 0 0 [] _ (by decide) (by decide) (ByteSl.nil_ _ _ _ _ (by simp [maxLen])) (fun _ => ⟨rfl, rfl⟩)).mono ?_
  rintro e2 w2 ⟨⟨A2, c2, rfl, hG2⟩, hb2⟩
  have HB2 := Lib.hid ((HB1.out.trans (hb2.mono HB1.out.size)).alloc (Nat.le_trans HB1.out.size hb2.size) (.cells #[.int .u8 0] 5))
  have HG2 := Lib.hid ((hG2.lower HB1.out.size).alloc (.cells #[.int .u8 0] 5))
  clear hb2 hG2
  go_wp2_with (at_builtin; refine wpList_append_got rfl (.tmp 29) (.tmp 30) rfl w.heap.size A2 20 c2 (recB 1 1 0 [102, 105, 114, 115, 116] []) rfl HG2.out (some ⟨w2.heap.size, 0, none⟩) 1 1 [0] rfl (HL.out w2) (HNil.out _ _ _) (by omega) HB2.out.size ?_; intro A3 c3 w3 hG3 hg3 hr3)
  have HB3 := Lib.hid (below_got HB2.out HB2.out.size hg3 hr3 (Nat.le_refl _))
  have HG3 := Lib.hid hG3
  clear hG3 hg3 hr3
  refine (r5Bytes_yes 3 1 1 ⟨#[]⟩ none 0 0 [] _ (by decide) (by decide) (ByteSl.nil_ _ _ _ _ (by simp [maxLen])) (fun _ => ⟨rfl, rfl⟩)).mono ?_
  rintro e4 w4 ⟨⟨A4, c4, rfl, hG4⟩, hb4⟩
  have hb4a := hb4.alloc hb4.size (.cells #[.int .u8 0] 5)
  have HW4 := Lib.hid hb4a
  have HG4 := Lib.hid (hG4.alloc (.cells #[.int .u8 0] 5))
  clear hb4 hG4 hb4a
  go_wp2_with (first | (at_builtin; refine wpList_append_got rfl (.tmp 33) (.tmp 34) rfl w3.heap.size A4 15 c4 (recB 3 1 1 [] []) rfl HG4.out (some ⟨w4.heap.size, 0, none⟩) 1 1 [0] rfl (HL.out w4) (HNil.out _ _ _) (by omega) HW4.out.size ?_; intro A5 c5 w5 hG5 hg5 hr5; have HW5 := Lib.hid (below_got HW4.out HW4.out.size hg5 hr5 (Nat.le_refl _)); have HG5 := Lib.hid hG5; have HG35 := Lib.hid (HG3.out.next HW5.out); have HB5 := Lib.hid (HB3.out.trans (HW5.out.mono HB3.out.size)); clear hG5 hg5 hr5) | (at_builtin; refine wpList_append_got rfl (.tmp 31) (.tmp 35) rfl w.heap.size A3 21 c3 (recB 1 1 0 [102, 105, 114, 115, 116] [] ++ [0]) rfl HG35.out A5 16 c5 (recB 3 1 1 [] [] ++ [0]) rfl HG5.out.bytes HG5.out.isNil (by omega) HB5.out.size ?_; intro A6 c6 w6 hG6 hg6 hr6))
  have hfirst : recB 1 1 0 [102, 105, 114, 115, 116] [] ++ [0] ++ (recB 3 1 1 [] [] ++ [0]) = laid firstR := by simp only [laid, firstR, RN.bytes, List.flatMap_cons, List.flatMap_nil, List.append_assoc, List.append_nil]
  rw [hfirst] at hG6
  have HB6 := Lib.hid (below_got HB5.out HB5.out.size hg6 hr6 (Nat.le_refl _))
  have HG6 := Lib.hid hG6
  clear hG6 hg6 hr6 hfirst HB2 HG2 HB3 HG3 HW4 HG4 HW5 HG5 HG35 HB5
  go_loopw [8, 39] (fun v8 v wr => ∃ (i : Nat) (rs : List RN) (A8 : Option Addr) (c8 : Nat), i ≤ n ∧ v = .int .i64 (i : Int) ∧ rs.length = i ∧ Hid (∀ r ∈ rs, r.part) ∧ v8 = .slice A8 (laid rs).length c8 ∧ Hid (Got w6.heap.size wr A8 (laid rs).length c8 (laid rs)) ∧ Hid (Below w6.heap.size w6 wr)) (fun _ v _ => n - (intOf v).toNat)
  case atStart => exact ⟨0, [], none, 0, Nat.zero_le _, rfl, rfl, Lib.hid (fun r h => by cases h), rfl, Lib.hid (Got.nil_ _ _), Lib.hid (Below.refl _ _)⟩
  case round =>
    obtain ⟨i, rs, A8, c8, hi, rfl, hlen, HPart, rfl, HG8, HW8⟩ := hrel
    have hN2 := laid_le rs HPart.out
    rw [hlen] at hN2
    obtain ⟨N, hN⟩ : ∃ N, N = (laid rs).length := ⟨_, rfl⟩
    rw [← hN] at HG8 hN2 ⊢
    have HN := Lib.hid hN
    have Hlen := Lib.hid hlen
    clear hN hlen
    by_cases hlt : i < n
    · obtain ⟨b, o, rfl, hb, -, hcl⟩ := HR.out.2.2.2.1 (by omega)
      obtain ⟨f, hf⟩ : ∃ f, l[i]? = some f := ⟨_, List.getElem?_eq_getElem (by have := HR.out.1; omega)⟩
      have hc := hcl i f hf
      have hfb := HR.out.2.2.2.2 f (List.mem_of_getElem? hf)
      obtain ⟨del, s, A1, m1, p1, xs⟩ := f
      simp only at hfb
      have hbw := HB6.out.trans (HW8.out.mono HB6.out.size)
      have hcell : ∀ j, j < 3 → wr.cell? ⟨b, o + i * 3 + j, none⟩ = (Ch.mk del s A1 m1 p1 xs).cells[j]? := fun j hj => (hbw.cell (p := ⟨b, o + i * 3 + j, none⟩) hb).trans (hc j hj)
      have d0 : wr.cell? ⟨b, o + i * 3, none⟩ = some (.bool del) := hcell 0 (by omega)
      have d1 : wr.cell? ⟨b, o + i * 3 + 1, none⟩ = some (.string s) := hcell 1 (by omega)
      have d2 : wr.cell? ⟨b, o + i * 3 + 2, none⟩ = some (.slice A1 m1 p1) := hcell 2 (by omega)
      have Hbw := Lib.hid hbw
      have Hfb := Lib.hid hfb
      clear hc hcl hf hfb hbw hcell
      go_upto_if 49 with (fail)
      go_cut [52] (fun _ wx => Picked w (Ch.mk del s A1 m1 p1 xs) wr wx)
      case first =>
        cases del with
        | true =>
          go_wp2
          go_meet
          exact ⟨2, none, 0, 0, [], rfl, Or.inr rfl, ByteSl.nil_ _ _ _ _ (by simp [maxLen]), fun _ => ⟨rfl, rfl⟩⟩
        | false =>
          go_wp2
          go_meet
          exact ⟨1, A1, m1, p1, xs, rfl, Or.inl rfl, Hfb.out.1, Hfb.out.2⟩
      case rest =>
        obtain ⟨kk, A1', m1', p1', xs', rfl, hkk, hX, hXn⟩ := hcut
        have HX := Lib.hid hX
        have HXn := Lib.hid hXn
        have Hkk := Lib.hid hkk
        have hO2 := ((Only.refl Empty wr).alloc (.cells #[.bool del, .string s, .slice A1 m1 p1] 41)).alloc (.cells #[.int .i64 (kk : Int), .int .u32 2, .string s, .slice A1' m1' p1', .int .i64 0] 28)
        have hbox : Blk ((wr.alloc (.cells #[.bool del, .string s, .slice A1 m1 p1] 41)).alloc (.cells #[.int .i64 (kk : Int), .int .u32 2, .string s, .slice A1' m1' p1', .int .i64 0] 28)) (wr.heap.size + 1) 28 #[.int .i64 (kk : Int), .int .u32 2, .string s, .slice A1' m1' p1', .int .i64 0] := by
          have h := Blk.new (wr.alloc (.cells #[.bool del, .string s, .slice A1 m1 p1] 41)) 28 #[.int .i64 (kk : Int), .int .u32 2, .string s, .slice A1' m1' p1', .int .i64 0]
          simpa using h
        obtain ⟨wq, hwq⟩ : ∃ wq, wq = (wr.alloc (.cells #[.bool del, .string s, .slice A1 m1 p1] 41)).alloc (.cells #[.int .i64 (kk : Int), .int .u32 2, .string s, .slice A1' m1' p1', .int .i64 0] 28) := ⟨_, rfl⟩
        rw [← hwq] at hO2 hbox ⊢
        have HBox := Lib.hid hbox
        have HBq := Lib.hid (Hbw.out.trans (hO2.below (B := w.heap.size) Hbw.out.size (fun _ _ h => h)))
        have HWq := Lib.hid (HW8.out.trans (hO2.below (B := w6.heap.size) HW8.out.size (fun _ _ h => h)))
        have HGq : Hid (Got w6.heap.size wq A8 N c8 (laid rs)) := Lib.hid ⟨own_only HG8.out.own hO2 (fun _ _ _ h => h), HG8.out.bytes.only hO2 (fun _ _ h => h), HG8.out.isNil⟩
        clear hX hXn hkk hO2 hbox hwq d0 d1 d2
        have HR1 : Hid (∀ W, Calls Try.prog 6 #[.agg #[.int .i64 (kk : Int), .int .u32 2, .string s, .slice A1' m1' p1', .int .i64 0]] W fun e W' => e = .returned (.bool (mayB (kk : Int) 2 (s.size : Int) (m1' : Int) 0)) ∧ Below W.heap.size W W') := Lib.hid (fun W => right_any (kk : Int) 2 0 s A1' m1' p1' W (by omega))
        obtain ⟨y0, y1, y2, y3, y4⟩ := HBox.out.five
        cases hmay : mayB (kk : Int) 2 (s.size : Int) (m1' : Int) 0 with
        | false =>
          rw [hmay] at HR1
          go_wp2_with fail
          refine (HR1.out _).mono ?_
          rintro e2 w7 ⟨rfl, hb7⟩
          have HB7 := Lib.hid (HBq.out.trans (hb7.mono HBq.out.size))
          clear hb7
          go_wp2
          go_ret
          exact ⟨rfl, HB7.out⟩
        | true =>
          rw [hmay] at HR1
          by_cases h200 : m1' ≤ 200
          · have hd2 : decide ((200 : Int) < (m1' : Int)) = false := by simp; omega
            have hy := mayB_iff.1 hmay
            have hs64 : s.size ≤ 64 := by omega
            have Hmay := Lib.hid hmay
            clear hmay hy
            go_wp2_with fail
            refine (HR1.out _).mono ?_
            rintro e2 w7 ⟨rfl, hb7⟩
            have HB7 := Lib.hid (HBq.out.trans (hb7.mono HBq.out.size))
            have HW7 := Lib.hid (HWq.out.trans (hb7.mono HWq.out.size))
            have HG7 := Lib.hid (HGq.out.next hb7)
            obtain ⟨z0, z1, z2, z3, z4⟩ := (HBox.out.of (hb7.block _ HBox.out.lt)).five
            clear hb7
            go_wp2_with fail
            clear z0 z1 z2 z3 z4 y0 y1 y2 y3 y4 hd2
            have HX7 := Lib.hid ((HX.out.only (Only.of_below (S := Empty) HB7.out) (fun _ _ h => h.elim)).mono (T := Empty) (fun _ _ h => h.elim))
            refine (r5Bytes_yes kk 2 0 s A1' m1' p1' xs' _ Hmay.out (by omega) HX7.out HXn.out).mono ?_
            rintro e3 w8 ⟨⟨A9, c9, rfl, hG9⟩, hb8⟩
            have HW8' := Lib.hid (HW7.out.trans (hb8.mono HW7.out.size))
            have HG9 := Lib.hid hG9.bytes
            have HN9 := Lib.hid hG9.isNil
            have HG8' := Lib.hid (HG7.out.next hb8)
            clear hG9 hb8
            have Hk8 : Hid (N + (15 + s.size + m1') ≤ 16777216) := Lib.hid (by omega)
            have Hk9 : Hid (N + (15 + s.size + m1') + 1 ≤ 16777216) := Lib.hid (by omega)
            go_wp2_with (first | (at_builtin; refine wpList_append_got rfl (.tmp 62) (.tmp 64) rfl w6.heap.size A8 N c8 (laid rs) rfl HG8'.out A9 (15 + s.size + m1') c9 (recB kk 2 0 s.data.toList xs') rfl HG9.out HN9.out Hk8.out HW8'.out.size ?_; intro A10 c10 w10 hG10 hg10 hr10; have HW10 := Lib.hid ((below_got HW8'.out HW8'.out.size hg10 hr10 (Nat.le_refl _)).alloc (Nat.le_trans HW8'.out.size hg10.size) (.cells #[.int .u8 0] 5)); have HG10 := Lib.hid (hG10.alloc (.cells #[.int .u8 0] 5)); clear hG10 hg10 hr10) | (at_builtin; refine wpList_append_got rfl (.tmp 65) (.tmp 66) rfl w6.heap.size A10 (N + (15 + s.size + m1')) c10 (laid rs ++ recB kk 2 0 s.data.toList xs') rfl HG10.out (some ⟨w10.heap.size, 0, none⟩) 1 1 [0] rfl (HL.out w10) (HNil.out _ _ _) Hk9.out HW10.out.size ?_; intro A11 c11 w11 hG11 hg11 hr11))
            have HW11 := Lib.hid (below_got HW10.out HW10.out.size hg11 hr11 (Nat.le_refl _))
            have HG11 := Lib.hid hG11
            clear hG11 hg11 hr11
            go_roundw
            case rel =>
              have hsl : s.data.toList.length = s.size := Array.length_toList
              have hxl : xs'.length = m1' := HX.out.1
              have hrl : (RN.mk kk 2 0 s.data.toList xs').bytes.length = 16 + s.size + m1' := by rw [RN.len, hsl, hxl]
              have hla : laid (rs ++ [RN.mk kk 2 0 s.data.toList xs']) = laid rs ++ recB kk 2 0 s.data.toList xs' ++ [0] := by
                simp only [laid, RN.bytes, List.flatMap_append, List.flatMap_cons, List.flatMap_nil, List.append_assoc, List.append_nil]
              have hln : (laid (rs ++ [RN.mk kk 2 0 s.data.toList xs'])).length = N + (15 + s.size + m1') + 1 := by
                rw [laid_append, List.length_append, ← HN.out, show laid [RN.mk kk 2 0 s.data.toList xs'] = (RN.mk kk 2 0 s.data.toList xs').bytes by simp [laid], hrl]
                omega
              have hpart : (RN.mk kk 2 0 s.data.toList xs').part := by
                refine ⟨⟨?_, by show (2 : Nat) ≤ 4294967295; omega⟩, rfl, ?_, by rw [hrl]; omega⟩
                · rw [hsl, hxl]
                  exact Hmay.out
                · have := Hkk.out
                  show kk ≠ 3
                  omega
              refine ⟨i + 1, rs ++ [RN.mk kk 2 0 s.data.toList xs'], A11, c11, by omega, by go_num, by simp [Hlen.out], Lib.hid (fun q hq => ?_), by rw [hln], ?_, HW11⟩
              · rcases List.mem_append.1 hq with h | h
                · exact HPart.out q h
                · rw [List.mem_singleton] at h
                  subst h
                  exact hpart
              · rw [hln, hla]
                exact HG11
            case measure => simp [intOf]; omega
          · have hd2 : decide ((200 : Int) < (m1' : Int)) = true := by simp; omega
            go_wp2_with fail
            refine (HR1.out _).mono ?_
            rintro e2 w7 ⟨rfl, hb7⟩
            have HB7 := Lib.hid (HBq.out.trans (hb7.mono HBq.out.size))
            obtain ⟨z0, z1, z2, z3, z4⟩ := (HBox.out.of (hb7.block _ HBox.out.lt)).five
            clear hb7
            go_wp2
            go_ret
            exact ⟨rfl, HB7.out⟩
    · obtain rfl : i = n := by omega
      have HB7 := Lib.hid (HB6.out.trans (HW8.out.mono HB6.out.size))
      have hcmay : mayB ((3 : Nat) : Int) ((2 : Nat) : Int) (ByteArray.size ⟨#[]⟩ : Int) ((0 : Nat) : Int) (i : Int) = true := by
        rw [mayB_iff]
        have h0 : (ByteArray.size ⟨#[]⟩ : Int) = 0 := rfl
        rw [h0]
        omega
      have Hcmay := Lib.hid hcmay
      have Hk1 : Hid (N + 15 ≤ 16777216) := Lib.hid (by omega)
      have Hk2 : Hid (N + 15 + 1 ≤ 16777216) := Lib.hid (by omega)
      clear hcmay
      go_wp2_with fail
      refine (r5Bytes_yes 3 2 i ⟨#[]⟩ none 0 0 [] _ Hcmay.out (by decide) (ByteSl.nil_ _ _ _ _ (by simp [maxLen])) (fun _ => ⟨rfl, rfl⟩)).mono ?_
      rintro e9 w9 ⟨⟨A9, c9, rfl, hG9⟩, hb9⟩
      have HW9 := Lib.hid (HW8.out.trans (hb9.mono HW8.out.size))
      have HG9 := Lib.hid hG9.bytes
      have HN9 := Lib.hid hG9.isNil
      have HG8' := Lib.hid (HG8.out.next hb9)
      clear hG9 hb9
      go_upto_region 18 with (first | (at_builtin; refine wpList_append_got rfl (.tmp 69) (.tmp 73) rfl w6.heap.size A8 N c8 (laid rs) rfl HG8'.out A9 15 c9 (recB 3 2 i [] []) rfl HG9.out HN9.out Hk1.out HW9.out.size ?_; intro A10 c10 w10 hG10 hg10 hr10; have HW10 := Lib.hid ((below_got HW9.out HW9.out.size hg10 hr10 (Nat.le_refl _)).alloc (Nat.le_trans HW9.out.size hg10.size) (.cells #[.int .u8 0] 5)); have HG10 := Lib.hid (hG10.alloc (.cells #[.int .u8 0] 5)); clear hG10 hg10 hr10) | (at_builtin; refine wpList_append_got rfl (.tmp 74) (.tmp 75) rfl w6.heap.size A10 (N + 15) c10 (laid rs ++ recB 3 2 i [] []) rfl HG10.out (some ⟨w10.heap.size, 0, none⟩) 1 1 [0] rfl (HL.out w10) (HNil.out _ _ _) Hk2.out HW10.out.size ?_; intro A11 c11 w11 hG11 hg11 hr11))
      have hall : laid rs ++ recB 3 2 i [] [] ++ [0] = laid (rs ++ [RN.mk 3 2 i [] []]) := by
        simp only [laid, RN.bytes, List.flatMap_append, List.flatMap_cons, List.flatMap_nil, List.append_assoc, List.append_nil]
      rw [hall] at hG11
      have HW11 := Lib.hid (below_got HW10.out HW10.out.size hg11 hr11 (Nat.le_refl _))
      obtain ⟨M, hM⟩ : ∃ M, M = N + 15 + 1 := ⟨_, rfl⟩
      rw [← hM] at hG11 ⊢
      obtain ⟨X, hX⟩ : ∃ X, X = laid (rs ++ [RN.mk 3 2 i [] []]) := ⟨_, rfl⟩
      rw [← hX] at hG11
      have hM1 : 16 ≤ M := by omega
      have hM2 : M ≤ 5000 := by omega
      obtain ⟨ad, rfl, -, -, hcel⟩ := hG11.bytes.2.2.2 (by omega)
      have hXl : X.length = M := hG11.bytes.1
      have hc11 : M ≤ c11 := hG11.bytes.2.1
      have hc12 : c11 ≤ 9223372036854775807 := by have := hG11.bytes.2.2.1; unfold maxLen at this; omega
      obtain ⟨K, hK⟩ : ∃ K, K = cut % M := ⟨_, rfl⟩
      have hKlt : K < M := by rw [hK]; exact Nat.mod_lt _ (by omega)
      have hmodI : (cut : Int) % (M : Int) = (K : Int) := by rw [hK]; omega
      obtain ⟨x, hx⟩ : ∃ x, X[K]? = some x := ⟨_, List.getElem?_eq_getElem (by omega)⟩
      have hcK := hcel K x hx
      have Hx := Lib.hid hx
      have HX := Lib.hid hX
      have HXl := Lib.hid hXl
      have HG11 := Lib.hid hG11
      have HcK := Lib.hid hcK
      clear hall hG11 hg11 hr11 hM hX hXl hcel hK hx hcK HG8' HG9 HN9 HW9 HW10 HG10
      go_upto_region 19 with (fail)
      rw [hmodI]
      have HBe := Lib.hid ((Below.refl w11.heap.size w11).alloc (Nat.le_refl _) (.cells #[] 5))
      have HGe := Lib.hid (got_made w11 w11.heap.size (Nat.le_refl _))
      have HBK := Lib.hid ((HG11.out.alloc (.cells #[] 5)).bytes.take_ K (by omega))
      have Had := Lib.hid (cell_lt HcK.out)
      have hK0 : (K : Int) ≤ (c11 : Int) := by omega
      clear hmodI
      go_upto_region 20 with (at_builtin; refine wpList_append_got rfl (.tmp 82) (.tmp 85) rfl w11.heap.size (some ⟨w11.heap.size, 0, none⟩) 0 0 [] rfl HGe.out (some ad) K c11 (X.take K) rfl HBK.out (HNil.out _ _ _) (by omega) HBe.out.size ?_; intro A13 c13 w13 hG13 hg13 hr13)
      have HW13 := Lib.hid (below_got HBe.out HBe.out.size hg13 hr13 (Nat.le_refl _))
      rw [Nat.zero_add, List.nil_append] at hG13
      have HG13 := Lib.hid hG13
      have hcK := (HW13.out.cell (p := ad.add K) Had.out).trans HcK.out
      unfold B8 at hcK
      have hor := b_or x mask
      have HWb := Lib.hid (HW13.out.alloc HW13.out.size (.cells #[.int .u8 ((x ||| mask).toNat : Int)] 5))
      have HGb := Lib.hid (HG13.out.alloc (.cells #[.int .u8 ((x ||| mask).toNat : Int)] 5))
      have HLb : Hid (ByteSl (w13.alloc (.cells #[.int .u8 ((x ||| mask).toNat : Int)] 5)) Empty (some ⟨w13.heap.size, 0, none⟩) 1 1 [x ||| mask]) := Lib.hid (ByteSl.lit w13 Empty [x ||| mask] 1 rfl (fun h => h) (by decide))
      clear hG13 hg13 hr13 hK0
      go_upto_region 21 with (at_builtin; refine wpList_append_got rfl (.tmp 87) (.tmp 94) rfl w11.heap.size A13 K c13 (X.take K) rfl HGb.out (some ⟨w13.heap.size, 0, none⟩) 1 1 [x ||| mask] rfl HLb.out (HNil.out _ _ _) (by omega) HWb.out.size ?_; intro A14 c14 w14 hG14 hg14 hr14)
      have HW14 := Lib.hid (below_got HWb.out HWb.out.size hg14 hr14 (Nat.le_refl _))
      have HG14 := Lib.hid hG14
      clear hcK hor hG14 hg14 hr14 HBe HGe HBK HWb HGb HLb HG13 HW13
      have hXlen := HXl.out
      by_cases hno : K + 1 = M ∧ mask = 0
      · obtain ⟨h1, rfl⟩ := hno
        have e1 : ((K : Int) == (M : Int) - 1) = true := by simp; omega
        have e2 : (((0 : UInt8).toNat : Int) == 0) = true := rfl
        have HBx := Lib.hid (HB6.out.trans ((HW11.out.trans (HW14.out.mono HW11.out.size)).mono HB6.out.size))
        clear h1
        go_wp2
        go_ret
        exact ⟨rfl, HBx.out⟩
      · have hcase : ((K : Int) == (M : Int) - 1) = false ∨ (((K : Int) == (M : Int) - 1) = true ∧ ((mask.toNat : Int) == 0) = false) := by
          by_cases h1 : K + 1 = M
          · refine Or.inr ⟨by simp; omega, ?_⟩
            rw [u8_dec mask 0 0 rfl]
            exact decide_eq_false (fun h => hno ⟨h1, h⟩)
          · refine Or.inl ?_
            rw [beq_eq_false_iff_ne]
            omega
        have HS := Lib.hid (show ¬ (K + 1 = X.length ∧ mask = 0) by rw [hXlen]; exact hno)
        have HWx := Lib.hid (HW11.out.trans (HW14.out.mono HW11.out.size))
        have HGx := Lib.hid (HG6.out.next HWx.out)
        have HBx := Lib.hid (HB6.out.trans (HWx.out.mono HB6.out.size))
        have Hk15 : Hid (37 + (K + 1) ≤ 16777216) := Lib.hid (by omega)
        have Hk17 : Hid (12 + (37 + (K + 1)) + 2 ≤ 16777216) := Lib.hid (by omega)
        clear hXlen hno
        rcases hcase with e1 | ⟨e1, e2⟩
        all_goals
          go_upto_region 23 with (fail)
          clear e1
          try clear e2
          go_wp2_with (at_builtin; refine wpList_append_got rfl (.tmp 106) (.tmp 107) rfl w.heap.size A6 37 c6 (laid firstR) rfl HGx.out A14 (K + 1) c14 (X.take K ++ [x ||| mask]) rfl HG14.out.bytes HG14.out.isNil Hk15.out HBx.out.size ?_; intro A15 c15 w15 hG15 hg15 hr15)
          have HB15 := Lib.hid (below_got HBx.out HBx.out.size hg15 hr15 (Nat.le_refl _))
          have HG15 := Lib.hid hG15
          clear hG15 hg15 hr15
          refine (sector6_any A15 (37 + (K + 1)) c15 _ _ HG15.out.bytes HG15.out.isNil (by omega)).mono ?_
          rintro e16 w16 ⟨⟨A16, c16, rfl, hG16⟩, hb16⟩
          have HB16 := Lib.hid ((HB15.out.trans (hb16.mono HB15.out.size)).alloc (Nat.le_trans HB15.out.size hb16.size) (.cells #[.int .u8 255, .int .u8 255] 5))
          have HG16 := Lib.hid ((hG16.lower HB15.out.size).alloc (.cells #[.int .u8 255, .int .u8 255] 5))
          have HL16 : Hid (ByteSl (w16.alloc (.cells #[.int .u8 255, .int .u8 255] 5)) Empty (some ⟨w16.heap.size, 0, none⟩) 2 2 [255, 255]) := Lib.hid (ByteSl.lit w16 Empty [255, 255] 2 rfl (fun h => h) (by decide))
          clear hG16 hb16
          go_wp2_with (at_builtin; refine wpList_append_got rfl (.tmp 109) (.tmp 110) rfl w.heap.size A16 (12 + (37 + (K + 1))) c16 (sec3 (laid firstR ++ (X.take K ++ [x ||| mask]))) rfl HG16.out (some ⟨w16.heap.size, 0, none⟩) 2 2 [255, 255] rfl HL16.out (HNil.out _ _ _) Hk17.out HB16.out.size ?_; intro A17 c17 w17 hG17 hg17 hr17)
          have HB17 := Lib.hid (below_got HB16.out HB16.out.size hg17 hr17 (Nat.le_refl _))
          have HG17 := Lib.hid hG17.bytes
          clear hG17 hg17 hr17
          refine (scan_torn A17 (12 + (37 + (K + 1)) + 2) c17 rs i K x mask X _ HX.out HG17.out Hx.out HS.out HPart.out (by omega) hn (by rw [Hlen.out]; exact hn)).mono ?_
          rintro e18 w18 ⟨⟨pre, A18, n18, c18, l18, tz, cl, hn18, hpart, rfl, hl18, hG18⟩, hb18⟩
          have HB18 := Lib.hid (HB17.out.trans (hb18.mono HB17.out.size))
          have HF18 := Lib.hid hG18.reads
          have Hl18 := Lib.hid hl18
          have Hpart := Lib.hid hpart
          clear hb18 hG18 hl18 hpart
          go_wp2_with fail
          refine (commits_torn A18 n18 c18 l18 pre _ HF18.out hn18 Hpart.out Hl18.out).mono ?_
          rintro e19 w19 ⟨⟨B19, c19, b19, o19, rfl, hc19, rfl, hcell⟩, hb19⟩
          have HB19 := Lib.hid (HB18.out.trans (hb19.mono HB18.out.size))
          clear hb19
          go_wp2
          go_ret
          exact ⟨rfl, HB19.out⟩

end Go.Proofs.Ytidcgobnhfganaa
