/- The walks over blob's small functions: Down, takes, behindHeader, record, roomOf. -/
import Derived.Test.YtidbipbangifbaaGreatDoorZap
import Derived.Test.YtidbipbangifbaaGreatDoorZac
import Derived.Test.YtidbipbangifbaaGreatDoorZas
import Derived.Test.YtidbipbangifbaaGreatDoorZar
import Derived.Test.YtidbipbangifbaaGreatDoorZat
import Derived.Shelf.Abstract
namespace Go.Proofs.YtidbipbangifbaaGreatDoor
set_option maxRecDepth 100000
open Go.RowKit

/-- A store's cells. -/
structure HeadV where
  sec : Int
  next : Int
  left : Int
  txn : Int
def HeadV.v (h : HeadV) : Value := .agg #[.int .i64 h.sec, .int .i64 h.next, .int .i64 h.left, .int .u32 h.txn]
def HeadV.none : HeadV := ⟨0, 0, 0, 0⟩
def storeC (p mb : Nat) (h : HeadV) (d : Bool) : Array Value := #[.pointer (some ⟨p, 0, .none⟩), .map (some mb), .int .i64 h.sec, .int .i64 h.next, .int .i64 h.left, .int .u32 h.txn, .bool d]

theorem down_nil (w : World) : Calls Tryz.prog 15 #[.pointer none] w fun e w' => e = .returned (.bool true) ∧ w = w' := by
  go_enter Tryz.func15, Tryz.ntmps15
  go_wp2
  go_ret
  exact ⟨rfl, rfl⟩
theorem down_any (s p mb : Nat) (h : HeadV) (d : Bool) (w : World) (hb : Blk w s 98 (storeC p mb h d)) : Calls Tryz.prog 15 #[.pointer (some ⟨s, 0, none⟩)] w fun e w' => e = .returned (.bool d) ∧ w = w' := by
  have c0 := hb.cell 0
  have c6 := hb.cell 6
  simp [storeC] at c0 c6
  go_enter Tryz.func15, Tryz.ntmps15
  go_wp2
  go_ret
  exact ⟨rfl, rfl⟩

/-- Has a head room for so many bytes? -/
def takesB (h : HeadV) (room : Int) : Bool := decide (h.txn ≤ 4294901759) && decide (room ≤ h.left)
theorem takes_any (h : HeadV) (room : Int) (w : World) : Calls Tryz.prog 107 #[h.v, .int .i64 room] w fun e w' => e = .returned (.bool (takesB h room)) ∧ Below w.heap.size w w' := by
  obtain ⟨a, b, c, t⟩ := h
  unfold takesB HeadV.v
  by_cases h1 : t ≤ 4294901759
  · go_enter Tryz.func107, Tryz.ntmps107
    go_wp2
    go_ret
    exact ⟨by simp [h1], (Below.refl _ _).alloc (Nat.le_refl _) _⟩
  · have h2 : decide (t ≤ 4294901759) = false := decide_eq_false h1
    go_enter Tryz.func107, Tryz.ntmps107
    go_wp2
    go_ret
    exact ⟨by simp only [h2, Bool.false_and]; rfl, (Below.refl _ _).alloc (Nat.le_refl _) _⟩

/-- A change's record: its kind, its blob. -/
def Ch.rk (f : Ch) : Nat := if f.del then 2 else 1
def Ch.rA (f : Ch) : Option Addr := if f.del then none else f.A
def Ch.rN (f : Ch) : Nat := if f.del then 0 else f.n
def Ch.rC (f : Ch) : Nat := if f.del then 0 else f.cap
def Ch.rB (f : Ch) : List UInt8 := if f.del then [] else f.blob
def Ch.v (f : Ch) : Value := .agg #[.bool f.del, .string f.s, .slice f.A f.n f.cap]
def recV (f : Ch) (t : Int) : Value := .agg #[.int .i64 (f.rk : Int), .int .u32 t, .string f.s, .slice f.rA f.rN f.rC, .int .i64 0]

set_option maxHeartbeats 1000000 in
theorem chRec_any (f : Ch) (t : Int) (w : World) : Calls Tryz.prog 111 #[f.v, .int .u32 t] w fun e w' => e = .returned (recV f t) ∧ Below w.heap.size w w' := by
  obtain ⟨d, s, A, n, cap, xs⟩ := f
  unfold Ch.v recV Ch.rk Ch.rA Ch.rN Ch.rC
  have hb : Below w.heap.size w ((w.alloc (.cells #[.bool d, .string s, .slice A n cap] 103)).alloc (.cells #[.int .i64 0, .int .u32 0, .string ⟨#[]⟩, .slice none 0 0, .int .i64 0] 172)) :=
    ((Below.refl _ _).alloc (Nat.le_refl _) _).alloc (by simp) _
  cases d
  · go_enter Tryz.func111, Tryz.ntmps111
    go_wp2
    exact bodyPost_ret (v := .agg #[.int .i64 1, .int .u32 t, .string s, .slice A n cap, .int .i64 0]) (by simp [results, Tryz.results111, go_sem]) rfl ⟨rfl, ((Below.refl _ _).alloc (Nat.le_refl _) _).alloc (by simp) _⟩
  · go_enter Tryz.func111, Tryz.ntmps111
    go_wp2
    exact bodyPost_ret (v := .agg #[.int .i64 2, .int .u32 t, .string s, .slice none 0 0, .int .i64 0]) (by simp [results, Tryz.results111, go_sem]) rfl ⟨rfl, ((Below.refl _ _).alloc (Nat.le_refl _) _).alloc (by simp) _⟩

/-- A commit's room. -/
def Ch.sz (f : Ch) : Nat := f.s.size + f.rN + 16
def roomL (l : List Ch) : Nat := 16 + (l.map Ch.sz).sum
theorem roomL_snoc (l : List Ch) (f : Ch) : roomL (l ++ [f]) = roomL l + f.sz := by simp [roomL]; omega
/-- Changes that are none too long. -/
def Fair (l : List Ch) : Prop := ∀ f ∈ l, f.s.size ≤ 64 ∧ f.rN ≤ 4096
theorem roomL_le : ∀ l : List Ch, Fair l → roomL l ≤ 16 + l.length * 4176
  | [], _ => by simp [roomL]
  | f :: l, h => by
    have h1 := roomL_le l (fun g hg => h g (List.mem_cons_of_mem _ hg))
    have h2 := h f List.mem_cons_self
    simp [roomL, Ch.sz] at h1 ⊢
    omega

theorem Chs.at_ {w : World} {S : Nat → Prop} {A : Option Addr} {n cap : Nat} {l : List Ch} (h : Chs w S A n cap l) {i : Nat} (hi : i < n) : ∃ b o f, A = some ⟨b, o, none⟩ ∧ b < w.heap.size ∧ ¬ S b ∧ l[i]? = some f ∧ ∀ j, j < 3 → w.cell? ⟨b, o + i * 3 + j, none⟩ = f.cells[j]? :=
  RowSl.at_ (cells := Ch.cells) (k := 3) ⟨h.1, h.2.1, h.2.2.1, h.2.2.2.1⟩ hi
theorem Chs.only {w w' : World} {S T : Nat → Prop} {A : Option Addr} {n cap : Nat} {l : List Ch} (h : Chs w S A n cap l) (k : Only T w w') (hT : ∀ i, i < w.heap.size → T i → S i) : Chs w' S A n cap l := by
  have h1 := RowSl.only (cells := Ch.cells) (k := 3) ⟨h.1, h.2.1, h.2.2.1, h.2.2.2.1⟩ k hT
  exact ⟨h1.1, h1.2.1, h1.2.2.1, h1.2.2.2, fun f hf => ⟨(h.2.2.2.2 f hf).1.only k hT, (h.2.2.2.2 f hf).2⟩⟩
theorem Chs.mono {w : World} {S T : Nat → Prop} {A : Option Addr} {n cap : Nat} {l : List Ch} (h : Chs w S A n cap l) (hT : ∀ i, i < w.heap.size → T i → S i) : Chs w T A n cap l := by
  have h1 := RowSl.mono (cells := Ch.cells) (k := 3) ⟨h.1, h.2.1, h.2.2.1, h.2.2.2.1⟩ hT
  exact ⟨h1.1, h1.2.1, h1.2.2.1, h1.2.2.2, fun f hf => ⟨(h.2.2.2.2 f hf).1.mono hT, (h.2.2.2.2 f hf).2⟩⟩
theorem Chs.below {w w' : World} {S : Nat → Prop} {A : Option Addr} {n cap : Nat} {l : List Ch} (h : Chs w S A n cap l) (k : Below w.heap.size w w') : Chs w' S A n cap l := h.only (Only.of_below (S := Empty) k) (fun _ _ h => h.elim)
theorem Chs.nil_ (w : World) (S : Nat → Prop) (A : Option Addr) (cap : Nat) (h : cap ≤ maxLen) : Chs w S A 0 cap [] := ⟨rfl, Nat.zero_le _, h, fun h => absurd h (by omega), fun f hf => by cases hf⟩

theorem take_snoc {α : Type} (l : List α) (i : Nat) (f : α) (h : l[i]? = some f) : l.take (i + 1) = l.take i ++ [f] := by
  rw [List.take_add_one, h]
  rfl

set_option maxHeartbeats 2000000 in
theorem roomOf_any (A : Option Addr) (n cap : Nat) (l : List Ch) (w : World) (hC : Chs w Empty A n cap l) (hF : Fair l) (hn : n ≤ 1024) :
    Calls Tryz.prog 77 #[.slice A n cap] w fun e w' => e = .returned (.int .i64 (roomL l : Int)) ∧ Below w.heap.size w w' := by
  have HC := Lib.hid hC
  have HF := Lib.hid hF
  have hcap : n ≤ cap := hC.2.1
  have hcap2 : cap ≤ 9223372036854775807 := by have := hC.2.2.1; unfold maxLen at this; omega
  clear hC hF
  go_enter Tryz.func77, Tryz.ntmps77
  go_wp2_with fail
  refine (rcSize_any 3 0 0 ⟨#[]⟩ none 0 0 _ (by decide) (by decide)).mono ?_
  rintro e1 w1 ⟨rfl, hb1⟩
  have Hb1 := Lib.hid hb1
  clear hb1
  go_wp2_with fail
  go_loopw [3, 10] (fun r v wr => ∃ i : Nat, i ≤ n ∧ v = .int .i64 (i : Int) ∧ r = .int .i64 (roomL (l.take i) : Int) ∧ Hid (Below w.heap.size w wr)) (fun _ v _ => n - (intOf v).toNat)
  case atStart => exact ⟨0, Nat.zero_le _, rfl, by simp [roomL], Hb1⟩
  case round =>
    obtain ⟨i, hi, rfl, rfl, HB⟩ := hrel
    by_cases hlt : i < n
    · obtain ⟨b, o, f, rfl, hb, -, hf, hc⟩ := (HC.out.only (Only.of_below (S := Empty) HB.out) (fun _ _ h => h)).at_ hlt
      have hfair := HF.out f (List.mem_of_getElem? hf)
      have hsum := roomL_snoc (l.take i) f
      rw [← take_snoc l i f hf] at hsum
      have hle := roomL_le (l.take i) (fun g hg => HF.out g (List.mem_of_mem_take hg))
      rw [List.length_take] at hle
      have Hrec := Lib.hid (chRec_any f 0)
      have hsz : f.sz = f.s.size + f.rN + 16 := rfl
      have hk : (f.rk : Int) = 1 ∨ (f.rk : Int) = 2 := by unfold Ch.rk; split <;> simp
      have c0 := hc 0 (by omega)
      have c1 := hc 1 (by omega)
      have c2 := hc 2 (by omega)
      simp [Ch.cells] at c0 c1 c2
      clear hc hf
      go_wp2_with fail
      refine (Hrec.out _).mono ?_
      unfold recV
      rintro e2 w2 ⟨rfl, hb2⟩
      have Hb2 := Lib.hid ((HB.out.alloc HB.out.size _).trans (hb2.mono (by have := HB.out.size; simp; omega)))
      clear hb2
      go_wp2_with fail
      refine (rcSize_any (f.rk : Int) 0 0 f.s f.rA f.rN f.rC _ (by omega) (by omega)).mono ?_
      rintro e3 w3 ⟨rfl, hb3⟩
      have Hb3 := Lib.hid (Hb2.out.trans (hb3.mono Hb2.out.size))
      clear hb3
      go_wp2_with fail
      go_roundw
      case rel => exact ⟨i + 1, by omega, by simp, by rw [hsum, hsz]; congr 1, Hb3⟩
      case measure => simp [intOf]; omega
    · have hin : i = n := by omega
      subst hin
      have ht : l.take i = l := List.take_of_length_le (by have := HC.out.1; omega)
      rw [ht]
      go_wp2_with fail
      go_ret
      exact ⟨rfl, HB.out⟩

end Go.Proofs.YtidbipbangifbaaGreatDoor

/- The records of a commit, as plain data; the walks over blob.layRecord, blob.records and a commit's lay. -/
namespace Go.Proofs.YtidbipbangifbaaGreatDoor
set_option maxRecDepth 100000
open Go.RowKit

/-- A record as it lies in memory, and what its blob reads as. -/
structure Rc where
  k : Nat
  t : Nat
  s : ByteArray
  A : Option Addr
  n : Nat
  cap : Nat
  c : Nat
  blob : List UInt8
def Rc.cells (f : Rc) : List Value := [.int .i64 (f.k : Int), .int .u32 (f.t : Int), .string f.s, .slice f.A f.n f.cap, .int .i64 (f.c : Int)]
theorem Rc.cells_len (f : Rc) : f.cells.length = 5 := rfl
theorem Rc.one (f : Rc) : ∀ v ∈ f.cells, v.oneCell' = true := by
  intro u hu
  simp only [Rc.cells, List.mem_cons, List.not_mem_nil, or_false] at hu
  rcases hu with rfl | rfl | rfl | rfl | rfl <;> rfl
def Rc.v (f : Rc) : Value := .agg #[.int .i64 (f.k : Int), .int .u32 (f.t : Int), .string f.s, .slice f.A f.n f.cap, .int .i64 (f.c : Int)]
/-- It may be laid. -/
structure Rc.Ok (f : Rc) : Prop where
  may : mayB (f.k : Int) (f.t : Int) (f.s.size : Int) (f.n : Int) (f.c : Int) = true
  t32 : f.t ≤ 4294967295
  len : f.blob.length = f.n
/-- All its bytes, the last one too. -/
def Rc.bytes (f : Rc) : List UInt8 := recB f.k f.t f.c f.s.data.toList f.blob ++ [0]
def Rc.sz (f : Rc) : Nat := f.s.size + f.n + 16
theorem Rc.bytes_len (f : Rc) (h : f.blob.length = f.n) : f.bytes.length = f.sz := by
  unfold Rc.bytes Rc.sz
  rw [List.length_append, recB_len, h]
  have : f.s.data.toList.length = f.s.size := by simp
  rw [this]
  simp
  omega
/-- Its blob's bytes lie in no block of S. -/
def Rc.At (w : World) (S : Nat → Prop) (f : Rc) : Prop := ByteSl w S f.A f.n f.cap f.blob ∧ (f.A = none → f.n = 0 ∧ f.cap = 0)

/-- Nothing but 255 from o on, n bytes. -/
def Blank (xs : List UInt8) (o n : Nat) : Prop := ∀ j, o ≤ j → j < o + n → xs[j]? = some 255
theorem Blank.fits {xs : List UInt8} {o n : Nat} (h : Blank xs o n) (ys : List UInt8) (hy : ys.length ≤ n) : Fits xs o ys := by
  intro j hj
  rw [h (o + j) (by omega) (by omega)]
  exact and_none _
theorem Blank.len {xs : List UInt8} {o n : Nat} (h : Blank xs o n) (hn : 0 < n) : o + n ≤ xs.length := by
  have h1 := h (o + n - 1) (by omega) (by omega)
  have := (List.getElem?_eq_some_iff.1 h1).1
  omega
theorem splice_len (L : List UInt8) (o : Nat) (cs : List UInt8) (h : o + cs.length ≤ L.length) : (splice L o cs).length = L.length := by
  unfold splice
  simp
  omega
theorem Blank.behind {xs : List UInt8} {o n : Nat} (h : Blank xs o n) (ys : List UInt8) (hy : ys.length ≤ n) (hl : o + n ≤ xs.length) : Blank (splice xs o ys) (o + ys.length) (n - ys.length) := by
  intro j h1 h2
  rw [splice_get _ _ _ _ (by omega), if_neg (by omega)]
  exact h j (by omega) (by omega)
theorem Blank.less {xs : List UInt8} {o n m : Nat} (h : Blank xs o n) (hm : m ≤ n) : Blank xs o m := fun j h1 h2 => h j h1 (by omega)
theorem splice_two (xs a b : List UInt8) (o : Nat) (h : o + a.length + b.length ≤ xs.length) : splice (splice xs o a) (o + a.length) b = splice xs o (a ++ b) := by
  apply List.ext_getElem?
  intro j
  rw [splice_get _ _ _ _ (by rw [splice_len _ _ _ (by omega)]; omega), splice_get _ _ _ _ (by omega), splice_get _ _ _ _ (by rw [List.length_append]; omega)]
  by_cases h1 : o + a.length ≤ j ∧ j < o + a.length + b.length
  · rw [if_pos h1, if_pos (by rw [List.length_append]; omega), List.getElem?_append_right (by omega)]
    congr 1
    omega
  · rw [if_neg h1]
    by_cases h2 : o ≤ j ∧ j < o + a.length
    · rw [if_pos h2, if_pos (by rw [List.length_append]; omega), List.getElem?_append_left (by omega)]
    · rw [if_neg h2, if_neg (by rw [List.length_append]; omega)]
theorem splice_nil (xs : List UInt8) (o : Nat) (h : o ≤ xs.length) : splice xs o [] = xs := by
  unfold splice
  simp

set_option maxHeartbeats 2000000 in
theorem layRecord_any (p c e Z L k m o : Nat) (r : Rc) (ss : List (Nat × List UInt8)) (xs : List UInt8) (w : World) (hs : FS w p c e Z L ss) (hk : ss[k]? = some (m, xs)) (hr : r.Ok) (hA : r.At w (Three p c e)) (ho : o + r.sz ≤ Z) (hb : Blank xs o r.sz) :
    Calls Tryz.prog 139 #[.pointer (some ⟨p, 0, none⟩), .int .i64 ((k * Z + o : Nat) : Int), r.v] w fun e1 w' => e1 = .returned (.int .i64 0) ∧ FS w' p c e Z L (ss.set k (m, splice xs o r.bytes)) ∧ Only (Three p c e) w w' := by
  have hxl := hs.len hk
  have hbz := hs.bz
  have hkz := kz_lt (Z := Z) hk
  have hsl : r.s.data.toList.length = r.s.size := by simp
  obtain ⟨rB, hrB⟩ : ∃ rB, rB = recB r.k r.t r.c r.s.data.toList r.blob := ⟨_, rfl⟩
  have hrl : rB.length = 15 + r.s.size + r.n := by rw [hrB, recB_len, hr.len, hsl]
  have hby : r.bytes = rB ++ [0] := by rw [Rc.bytes, hrB]
  have hsz : r.sz = r.s.size + r.n + 16 := rfl
  have hfit1 : Fits xs o rB := hb.fits rB (by omega)
  have hfit2 : Fits (splice xs o rB) (o + rB.length) [0] := (hb.behind rB (by omega) (by omega)).fits [0] (by simp; omega)
  have htwo := splice_two xs rB [0] o (by simp; omega)
  rw [← hby] at htwo
  have Hbytes := Lib.hid (fun W hW => rcBytes_yes r.k r.t r.c r.s r.A r.n r.cap r.blob W hr.may hr.t32 hW hA.2)
  have HA0 := Lib.hid (fun (W : World) (hW : Only Empty w W) => ((hA.1.only hW (fun _ _ h => h.elim)).mono (T := Empty) (fun _ _ h => h.elim)))
  have HS := Lib.hid hs
  have HK := Lib.hid hk
  have Hf := Lib.hid (And.intro hfit1 (And.intro hfit2 htwo))
  have HrB := Lib.hid hrB
  clear hs hk hr hA hb hfit1 hfit2 htwo hby hrB
  obtain ⟨T, hT⟩ : ∃ T, T = k * Z + o := ⟨_, rfl⟩
  have HT := Lib.hid hT
  have hTb : T ≤ 4194304 := by omega
  rw [← hT]
  clear hT hkz
  unfold Rc.v
  go_enter Tryz.func139, Tryz.ntmps139
  go_wp2_with fail
  have hO0 := (Only.refl Empty w).alloc (.cells #[.int .i64 (r.k : Int), .int .u32 (r.t : Int), .string r.s, .slice r.A r.n r.cap, .int .i64 (r.c : Int)] 172)
  refine (Hbytes.out _ (HA0.out _ hO0)).mono ?_
  rintro e1 w1 ⟨⟨A1, cap1, rfl, hG1⟩, hb1⟩
  have HS0 := HS.out.of hO0 (fun h => h) (fun h => h) (fun h => h)
  have HO1 := Lib.hid ((Only.mono (T := Three p c e) hO0 (fun _ _ h => h.elim)).trans (Only.of_below (S := Three p c e) hb1))
  have HS1 := Lib.hid (HS0.below hb1)
  obtain ⟨q, hq⟩ : ∃ q, q = rB.length := ⟨_, rfl⟩
  rw [← HrB.out, ← hrl, ← hq] at hG1
  have hB1 : ByteSl w1 (Three p c e) A1 q cap1 rB := by
    obtain ⟨A', cap', he, hB, _⟩ := ByteSl.of_own (S := Three p c e) hG1.own (fun q h1 _ => HS0.three q h1)
    cases he
    exact hB
  have hpr := prog_fs p c e Z L k m o q cap1 ss xs rB A1 w1 HS1.out HK.out hB1 (by omega) Hf.out.1
  rw [← HT.out] at hpr
  have Hpr := Lib.hid hpr
  rw [← hrl, ← hq]
  have hq2 : q ≤ 65536 := by omega
  have hoq : o + q + 1 ≤ Z := by omega
  have Hq := Lib.hid hq
  clear hG1 hb1 hO0 HS0 hpr hB1 hrl hq hxl hsz
  go_wp2_with fail
  refine Hpr.out.mono ?_
  rintro e2 w2 ⟨rfl, hs2, ho2⟩
  have HS2 := Lib.hid hs2
  have HO2 := Lib.hid (HO1.out.trans ho2)
  have h3 : ¬ Three p c e w2.heap.size := hs2.three _ (Nat.le_refl _)
  have hpr2 := prog_fs p c e Z L k m (o + q) 1 1 _ (splice xs o rB) [0] (some ⟨w2.heap.size, 0, none⟩) (w2.alloc (.cells #[.int .u8 0] 5)) (hs2.of ((Only.refl Empty w2).alloc (.cells #[.int .u8 0] 5)) (fun h => h) (fun h => h) (fun h => h)) (set_at HK.out _)
    (ByteSl.lit w2 (Three p c e) [0] 1 rfl h3 (by decide)) hoq (by rw [Hq.out]; exact Hf.out.2.1)
  rw [show k * Z + (o + q) = T + q by rw [HT.out]; omega, Hq.out, Hf.out.2.2, set_set_] at hpr2
  rw [show ((T + rB.length : Nat) : Int) = (T : Int) + (q : Int) by rw [Hq.out]; simp] at hpr2
  have Hpr2 := Lib.hid hpr2
  clear hs2 ho2 hpr2 h3 Hpr HrB Hf Hbytes HA0
  go_wp2_with fail
  refine Hpr2.out.mono ?_
  rintro e3 w3 ⟨rfl, hs3, ho3⟩
  have HE := Lib.hid (And.intro hs3 ((HO2.out.alloc (.cells #[.int .u8 0] 5)).trans ho3))
  clear hs3 ho3
  go_wp2
  go_ret
  exact ⟨rfl, HE.out⟩

end Go.Proofs.YtidbipbangifbaaGreatDoor

/- A commit's records; the walks over blob.records and a commit's lay. -/
namespace Go.Proofs.YtidbipbangifbaaGreatDoor
set_option maxRecDepth 100000
open Go.RowKit

def Ch.rc (f : Ch) (t : Nat) : Rc := ⟨f.rk, t, f.s, f.rA, f.rN, f.rC, 0, f.rB⟩
def endRc (n t : Nat) : Rc := ⟨3, t, ⟨#[]⟩, none, 0, 0, n, []⟩
/-- The records of changes, and the one that makes them count. -/
def recsL (l : List Ch) (t : Nat) : List Rc := l.map (Ch.rc · t) ++ [endRc l.length t]
theorem recsL_len (l : List Ch) (t : Nat) : (recsL l t).length = l.length + 1 := by simp [recsL]

theorem Tryz.infoRec : (Tryz.prog.info? 172).map (fun i => (i.zero, i.size, i.bytes)) = some (some (.agg #[.int .i64 0, .int .u32 0, .string ⟨#[]⟩, .slice none 0 0, .int .i64 0]), 5, 64) := by kernel_rfl

/-- append of records onto a row of the call's own. -/
theorem wpList_append_recs {ops : Array Oper} {rest : List Oper} {q : Oper} {u : Act} {w : World} {S : Nat → Prop} {Q : Exit → Act → World → Prop} (hgd : q.guard = none) (s x : Operand) (hq : q.op = .call { callee := .builtin .append, args := #[s, x], argTypes := #[217, 217] })
    (base : Nat) (B : Option Addr) (m0 c0 : Nat) (zs : List Rc) (hs : u.eval s = .slice B m0 c0) (hown : GotR Rc.cells 5 172 base w B m0 c0 zs) (A : Option Addr) (m c : Nat) (l : List Rc)
    (hx : u.eval x = .slice A m c) (hB : RowSl Rc.cells 5 w S A m c l) (hn : A = none → m = 0 ∧ c = 0) (hm : m0 + m ≤ 16777216) (hbase : base ≤ w.heap.size)
    (h : ∀ A' c' w', GotR Rc.cells 5 172 base w' A' (m0 + m) c' (zs ++ l) → w.grownBy w' (Value.slice B m0 c0).ownBlock → (∀ g, (Value.slice B m0 c0).ownBlock = some g → base ≤ g) → wpList Tryz.prog ops Q rest (u.put q.dst (.slice A' (m0 + m) c')) w') : wpList Tryz.prog ops Q (q :: rest) u w :=
  wpList_append_rows Rc.cells_len Rc.one (by decide) 217 172 _ 64 Tryz.underlying217 Tryz.infoRec (by simp [Value.cells]) (by decide) hgd s x hq base B m0 c0 zs hs hown A m c l hx hB hn hm hbase (fun A' c' w' h1 h2 h3 _ => h A' c' w' h1 h2 h3)

theorem rec_lit (r : Rc) (w : World) : RowSl Rc.cells 5 (w.alloc (.cells #[.int .i64 (r.k : Int), .int .u32 (r.t : Int), .string r.s, .slice r.A r.n r.cap, .int .i64 (r.c : Int)] 172)) Empty (some ⟨w.heap.size, 0, none⟩) 1 1 [r] :=
  RowSl.lit Rc.cells_len w Empty 172 [r] 1 [.int .i64 (r.k : Int), .int .u32 (r.t : Int), .string r.s, .slice r.A r.n r.cap, .int .i64 (r.c : Int)] (by simp [Rc.cells]) rfl (by decide) (fun h => h)

set_option maxHeartbeats 4000000 in
theorem records_any (A : Option Addr) (n cap : Nat) (l : List Ch) (t : Nat) (w : World) (hC : Chs w Empty A n cap l) (hn : n ≤ 1024) :
    Calls Tryz.prog 138 #[.slice A n cap, .int .u32 (t : Int)] w fun e w' => (∃ A' cap', e = .returned (.slice A' (n + 1) cap') ∧ GotR Rc.cells 5 172 w.heap.size w' A' (n + 1) cap' (recsL l t)) ∧ Below w.heap.size w w' := by
  have HC := Lib.hid hC
  have hcap : n ≤ cap := hC.2.1
  have hcap2 : cap ≤ 9223372036854775807 := by have := hC.2.2.1; unfold maxLen at this; omega
  clear hC
  go_enter Tryz.func138, Tryz.ntmps138
  go_wp2_with fail
  go_loopw [5, 10] (fun r v wr => ∃ (i : Nat) (B : Option Addr) (c0 : Nat), i ≤ n ∧ v = .int .i64 (i : Int) ∧ r = .slice B i c0 ∧ Hid (GotR Rc.cells 5 172 w.heap.size wr B i c0 ((l.take i).map (Ch.rc · t))) ∧ Hid (Below w.heap.size w wr)) (fun _ v _ => n - (intOf v).toNat)
  case atStart => exact ⟨0, none, 0, Nat.zero_le _, rfl, rfl, Lib.hid (GotR.nil_ _ _ _ _ _), Lib.hid (Below.refl _ _)⟩
  case round =>
    obtain ⟨i, B, c0, hi, rfl, rfl, HG, HB⟩ := hrel
    by_cases hlt : i < n
    · obtain ⟨b, o, f, rfl, hb, -, hf, hc⟩ := (HC.out.only (Only.of_below (S := Empty) HB.out) (fun _ _ h => h)).at_ hlt
      have htake := take_snoc l i f hf
      have Hrec := Lib.hid (chRec_any f (t : Int))
      have c0' := hc 0 (by omega)
      have c1' := hc 1 (by omega)
      have c2' := hc 2 (by omega)
      simp [Ch.cells] at c0' c1' c2'
      have Ht := Lib.hid htake
      clear hc hf htake
      go_wp2_with fail
      refine (Hrec.out _).mono ?_
      unfold recV
      rintro e2 w2 ⟨rfl, hb2⟩
      have hb2' := (Below.refl wr.heap.size wr).alloc (Nat.le_refl _) (.cells #[.bool f.del, .string f.s, .slice f.A f.n f.cap] 103)
      have hb2'' := hb2'.trans (hb2.mono hb2'.size)
      have Hb2 := Lib.hid (HB.out.trans (hb2''.mono HB.out.size))
      have HG2 := Lib.hid (HG.out.below Rc.cells_len hb2'')
      clear hb2 hb2' hb2''
      have hrl := rec_lit (f.rc t) w2
      unfold Ch.rc at hrl
      simp only at hrl
      have Hrl := Lib.hid hrl
      clear hrl
      go_wp2_with (at_builtin; refine wpList_append_recs rfl _ _ rfl w.heap.size B i c0 ((l.take i).map (Ch.rc · t)) rfl (HG2.out.alloc Rc.cells_len _) _ 1 1 _ rfl Hrl.out (fun h => by cases h) (by omega) (by have := Hb2.out.size; simp; omega) ?_; intro A3 c3 w3 hg3 hgr3 hr3)
      have Hb3 := Lib.hid (below_gotR (Hb2.out.alloc Hb2.out.size (.cells #[.int .i64 (f.rk : Int), .int .u32 (t : Int), .string f.s, .slice f.rA f.rN f.rC, .int .i64 0] 172)) (by have := Hb2.out.size; simp; omega) hgr3 hr3 (Nat.le_refl _))
      have HG3 := Lib.hid hg3
      clear hg3 hgr3 hr3
      go_roundw
      case rel => exact ⟨i + 1, A3, c3, by omega, by simp, rfl, by rw [Ht.out, List.map_append, List.map_cons, List.map_nil]; exact HG3, Hb3⟩
      case measure => simp [intOf]; omega
    · have hin : i = n := by omega
      subst hin
      have ht : l.take i = l := List.take_of_length_le (by have := HC.out.1; omega)
      rw [ht] at HG
      have hrl := rec_lit (endRc i t) wr
      unfold endRc at hrl
      simp only at hrl
      have Hrl := Lib.hid hrl
      have Hl : Hid (l.length = i) := Lib.hid HC.out.1
      clear hrl
      go_wp2_with (at_builtin; refine wpList_append_recs rfl _ _ rfl w.heap.size B i c0 (l.map (Ch.rc · t)) rfl (HG.out.alloc Rc.cells_len _) _ 1 1 _ rfl Hrl.out (fun h => by cases h) (by omega) (by have := HB.out.size; simp; omega) ?_; intro A3 c3 w3 hg3 hgr3 hr3)
      have Hb3 := Lib.hid (below_gotR (HB.out.alloc HB.out.size (.cells #[.int .i64 3, .int .u32 (t : Int), .string ⟨#[]⟩, .slice none 0 0, .int .i64 (i : Int)] 172)) (by have := HB.out.size; simp; omega) hgr3 hr3 (Nat.le_refl _))
      go_ret
      refine ⟨⟨A3, c3, rfl, ?_⟩, Hb3.out⟩
      unfold recsL endRc
      rw [Hl.out]
      exact hg3

end Go.Proofs.YtidbipbangifbaaGreatDoor

/- The walk over a commit's lay: all its records, one behind the other. -/
namespace Go.Proofs.YtidbipbangifbaaGreatDoor
set_option maxRecDepth 100000
open Go.RowKit

/-- A change that may be a record. -/
def Ch.may (f : Ch) : Bool := mayB (f.rk : Int) 1 (f.s.size : Int) (f.rN : Int) 0
theorem Ch.may_rc (f : Ch) (t : Nat) (h : f.may = true) (ht : t ≠ 0) : mayB (f.rk : Int) (t : Int) (f.s.size : Int) (f.rN : Int) 0 = true := by
  unfold Ch.may at h
  rw [mayB_iff] at h ⊢
  omega
theorem Ch.may_fair (f : Ch) (h : f.may = true) : f.s.size ≤ 64 ∧ f.rN ≤ 4096 := by
  unfold Ch.may at h
  rw [mayB_iff] at h
  omega
theorem fair_of {l : List Ch} (h : ∀ f ∈ l, f.may = true) : Fair l := fun f hf => f.may_fair (h f hf)
theorem Ch.rAt {w : World} {S : Nat → Prop} (f : Ch) (h : ByteSl w S f.A f.n f.cap f.blob ∧ (f.A = none → f.n = 0 ∧ f.cap = 0)) : ByteSl w S f.rA f.rN f.rC f.rB ∧ (f.rA = none → f.rN = 0 ∧ f.rC = 0) := by
  unfold Ch.rA Ch.rN Ch.rC Ch.rB
  split
  · exact ⟨ByteSl.nil_ _ _ _ _ (by simp [maxLen]), fun _ => ⟨rfl, rfl⟩⟩
  · exact h

/-- All bytes of a commit. -/
def commitB (l : List Ch) (t : Nat) : List UInt8 := (recsL l t).flatMap Rc.bytes
theorem flat_len : ∀ (l : List Rc), (∀ r ∈ l, r.blob.length = r.n) → (l.flatMap Rc.bytes).length = (l.map Rc.sz).sum
  | [], _ => rfl
  | r :: l, h => by
    rw [List.flatMap_cons, List.length_append, r.bytes_len (h r List.mem_cons_self), flat_len l (fun q hq => h q (List.mem_cons_of_mem _ hq)), List.map_cons, List.sum_cons]
theorem recsL_sum (l : List Ch) (t : Nat) : ((recsL l t).map Rc.sz).sum = roomL l := by
  unfold recsL roomL
  rw [List.map_append, List.sum_append, List.map_map]
  have h1 : (Rc.sz ∘ fun x : Ch => x.rc t) = Ch.sz := rfl
  have h2 : (List.map Rc.sz [endRc l.length t]).sum = 16 := rfl
  rw [h1, h2]
  omega
theorem sum_take_le (l : List Rc) (i : Nat) (r : Rc) (h : l[i]? = some r) : ((l.take i).map Rc.sz).sum + r.sz ≤ (l.map Rc.sz).sum := by
  have h1 := take_snoc l i r h
  have h2 : ((l.take (i + 1)).map Rc.sz).sum ≤ (l.map Rc.sz).sum := by
    have e : l.map Rc.sz = (l.take (i + 1)).map Rc.sz ++ (l.drop (i + 1)).map Rc.sz := by rw [← List.map_append, List.take_append_drop]
    rw [e, List.sum_append]
    omega
  rw [h1, List.map_append, List.sum_append, List.map_cons, List.map_nil, List.sum_cons, List.sum_nil, Nat.add_zero] at h2
  exact h2

theorem recsL_ok {w : World} {S : Nat → Prop} {A : Option Addr} {n cap : Nat} {l : List Ch} (h : Chs w S A n cap l) (hm : ∀ f ∈ l, f.may = true) (hn : n ≤ 16) (t : Nat) (h1 : t ≠ 0) (h2 : t ≤ 4294967295) : ∀ r ∈ recsL l t, r.Ok ∧ r.At w S := by
  intro r hr
  rcases List.mem_append.1 hr with hr | hr
  · obtain ⟨f, hf, rfl⟩ := List.mem_map.1 hr
    have h3 := f.rAt (h.2.2.2.2 f hf)
    exact ⟨⟨f.may_rc t (hm f hf) h1, h2, h3.1.1⟩, h3⟩
  · simp at hr
    subst hr
    refine ⟨⟨?_, h2, rfl⟩, ByteSl.nil_ _ _ _ _ (by show 0 ≤ _; omega), fun _ => ⟨rfl, rfl⟩⟩
    rw [mayB_iff]
    refine ⟨?_, Or.inr (Or.inr ⟨rfl, rfl, rfl, ?_, ?_⟩)⟩
    · show (t : Int) ≠ 0
      omega
    · show (0 : Int) ≤ (l.length : Int)
      omega
    · show (l.length : Int) ≤ 16
      have := h.1
      omega
theorem Rc.At.only {w w' : World} {S T : Nat → Prop} {r : Rc} (h : r.At w S) (k : Only T w w') (hT : ∀ i, i < w.heap.size → T i → S i) : r.At w' S := ⟨h.1.only k hT, h.2⟩

set_option maxHeartbeats 1000000 in
theorem cLay_any (p c e Z L k m o : Nat) (t : Nat) (A : Option Addr) (n cap : Nat) (l : List Ch) (ss : List (Nat × List UInt8)) (xs : List UInt8) (w : World) (hs : FS w p c e Z L ss) (hk : ss[k]? = some (m, xs))
    (hC : Chs w (Three p c e) A n cap l) (hm : ∀ f ∈ l, f.may = true) (hn : n ≤ 16) (ht1 : t ≠ 0) (ht2 : t ≤ 4294967295) (ho : o + roomL l ≤ Z) (hb : Blank xs o (roomL l)) :
    Calls Tryz.prog 112 #[.agg #[.pointer (some ⟨p, 0, none⟩), .int .i64 ((k * Z + o : Nat) : Int), .int .u32 (t : Int), .slice A n cap]] w fun e1 w' => e1 = .returned (.int .i64 0) ∧ FS w' p c e Z L (ss.set k (m, splice xs o (commitB l t))) ∧ Only (Three p c e) w w' := by
  have hxl := hs.len hk
  have hbz := hs.bz
  have hkz := kz_lt (Z := Z) hk
  have hok := recsL_ok hC hm hn t ht1 ht2
  have Hok := Lib.hid hok
  have hsum := recsL_sum l t
  have hrl := recsL_len l t
  rw [hC.1] at hrl
  have HC := Lib.hid (hC.mono (T := Empty) (fun _ _ h => h.elim))
  have HS := Lib.hid hs
  have HK := Lib.hid hk
  obtain ⟨R, hR⟩ : ∃ R, R = recsL l t := ⟨_, rfl⟩
  have hcb : commitB l t = R.flatMap Rc.bytes := by rw [hR]; rfl
  rw [hcb]
  rw [← hR] at hsum hrl Hok
  have hRr := Lib.hid (records_any A n cap l t)
  rw [← hR] at hRr
  obtain ⟨M, hM⟩ : ∃ M, M = roomL l := ⟨_, rfl⟩
  rw [← hM] at hsum ho hb
  have Hb := Lib.hid hb
  obtain ⟨T, hT⟩ : ∃ T, T = k * Z + o := ⟨_, rfl⟩
  have HT := Lib.hid hT
  have hTb : T + M ≤ 4194304 := by omega
  rw [← hT]
  have h3 : ∀ W, Only (Three p c e) w W → ∀ q, w.heap.size ≤ q → ¬ Three p c e q := fun W _ q hq => hs.three q hq
  have h0 : w.heap.size ≠ p := by
    intro h
    exact hs.three w.heap.size (Nat.le_refl _) (Or.inl h)
  have h1b : ¬ Three p c e w.heap.size := hs.three w.heap.size (Nat.le_refl _)
  have Hbl := Lib.hid (Blk.new w 187 #[.pointer (some ⟨p, 0, none⟩), .int .i64 (T : Int), .int .u32 (t : Int), .slice A n cap])
  have H3 := Lib.hid h3
  clear hs hk hC hm hok hR hcb hb hT hM hkz hxl h3 h0
  go_enter Tryz.func112, Tryz.ntmps112
  go_wp2_with fail
  have hb0 := (Below.refl w.heap.size w).alloc (Nat.le_refl _) (.cells #[.pointer (some ⟨p, 0, none⟩), .int .i64 (T : Int), .int .u32 (t : Int), .slice A n cap] 187)
  refine (hRr.out _ (HC.out.below hb0) (by omega)).mono ?_
  rintro e1 w1 ⟨⟨A1, cap1, rfl, hG1⟩, hb1⟩
  have hb01 := hb0.trans (hb1.mono hb0.size)
  have HO1 := Lib.hid (Only.of_below (S := Three p c e) hb01)
  have Hbl1 := Lib.hid (Hbl.out.of (hb1.block w.heap.size (by simp)))
  have HG1 := Lib.hid (hG1.out (S := Three p c e) (fun i h1 _ => H3.out w1 HO1.out i (by simp at h1; omega)))
  have HS1 := Lib.hid (HS.out.below hb01)
  have HN := hG1.isNil
  have hnn : A1 ≠ none := fun h => by have := (HN h).1; omega
  have hc1 := hG1.row.2.1
  have hc2 : cap1 ≤ 9223372036854775807 := by have := hG1.row.2.2.1; unfold maxLen at this; omega
  have HK1 : Hid (ss.set k (m, splice xs o []) = ss) := Lib.hid (by
    rw [splice_nil _ _ (by have := HS.out.len HK.out; omega)]
    have hlt := lt_at HK.out
    apply List.ext_getElem?
    intro j
    by_cases h : k = j
    · subst h
      rw [set_at HK.out, HK.out]
    · rw [set_far _ h])
  clear hG1 hb1 hb0 hb01 HN
  go_wp2_with fail
  go_loopw [3, 14] (fun a v wr => ∃ (i q : Nat), i ≤ n + 1 ∧ v = .int .i64 (i : Int) ∧ a = .int .i64 (q : Int) ∧ Hid (q = T + ((R.take i).map Rc.sz).sum) ∧ Hid (FS wr p c e Z L (ss.set k (m, splice xs o ((R.take i).flatMap Rc.bytes)))) ∧ Hid (Only (Three p c e) w wr) ∧ Hid (Only (Three p c e) w1 wr)) (fun _ v _ => n + 1 - (intOf v).toNat)
  case atStart =>
    refine ⟨0, T, Nat.zero_le _, rfl, rfl, Lib.hid rfl, Lib.hid ?_, HO1, Lib.hid (Only.refl _ _)⟩
    rw [List.take_zero, List.flatMap_nil, HK1.out]
    exact HS1.out
  case round =>
    obtain ⟨i, aq, hi, rfl, rfl, Haq, HS2, HO2, HO12⟩ := hrel
    by_cases hlt : i < n + 1
    · obtain ⟨b, oo, r, rfl, hb, -, hr, hcl⟩ := (HG1.out.only HO12.out (fun _ _ h => h)).at_ hlt
      obtain ⟨q, hq⟩ : ∃ q, q = ((R.take i).map Rc.sz).sum := ⟨_, rfl⟩
      have haq : aq = T + q := by rw [Haq.out, hq]
      have hrok := Hok.out r (List.mem_of_getElem? hr)
      have htk := take_snoc R i r hr
      have hle := sum_take_le R i r hr
      rw [← hq, hsum] at hle
      have hfl := flat_len (R.take i) (fun f hf => (Hok.out f (List.mem_of_mem_take hf)).1.len)
      rw [← hq] at hfl
      have hxl := HS.out.len HK.out
      have hbl2 : Blank (splice xs o ((R.take i).flatMap Rc.bytes)) (o + q) (M - q) := by
        have h := Hb.out.behind ((R.take i).flatMap Rc.bytes) (by omega) (by omega)
        rw [hfl] at h
        exact h
      have htwo := splice_two xs ((R.take i).flatMap Rc.bytes) r.bytes o (by rw [r.bytes_len hrok.1.len, hfl]; omega)
      rw [hfl] at htwo
      have hfm : (R.take (i + 1)).flatMap Rc.bytes = (R.take i).flatMap Rc.bytes ++ r.bytes := by rw [htk, List.flatMap_append]; simp
      have hsm : ((R.take (i + 1)).map Rc.sz).sum = q + r.sz := by rw [htk, List.map_append, List.sum_append, ← hq]; simp
      have hfair : r.s.size ≤ 64 ∧ r.n ≤ 4096 := by
        have := hrok.1.may
        rw [mayB_iff] at this
        omega
      have hrsz : r.sz = r.s.size + r.n + 16 := rfl
      have c0 := hcl 0 (by omega)
      have c1 := hcl 1 (by omega)
      have c2 := hcl 2 (by omega)
      have c3 := hcl 3 (by omega)
      have c4 := hcl 4 (by omega)
      simp [Rc.cells] at c0 c1 c2 c3 c4
      have hlw := HO1.out.size
      have hlw2 : w.heap.size < wr.heap.size := (HO12.out.blk Hbl1.out h1b).lt
      have k0 : wr.cell? ⟨w.heap.size, 0, none⟩ = some (.pointer (some ⟨p, 0, none⟩)) := (HO12.out.blk Hbl1.out h1b).cell 0
      have Hlay := Lib.hid (fun (W : World) (hW : Below wr.heap.size wr W) => layRecord_any p c e Z L k m (o + q) r _ _ W (HS2.out.below hW) (set_at HK.out _) hrok.1 (hrok.2.only (HO2.out.trans (Only.of_below hW)) (fun _ _ h => h)) (by omega) (hbl2.less (by omega)))
      rw [set_set_, htwo, ← hfm, show k * Z + (o + q) = aq by rw [haq, HT.out]; omega] at Hlay
      have Hsm := Lib.hid hsm
      have haqb : aq ≤ 4194304 := by omega
      have HaQ := Lib.hid haq
      clear hcl hr hrok htk hle hfl hxl hbl2 htwo hfm hsm hq haq
      unfold Rc.v at Hlay
      have h3r : ¬ Three p c e wr.heap.size := H3.out wr HO2.out _ HO2.out.size
      go_wp2_with fail
      refine (Hlay.out _ ((Below.refl _ _).alloc (Nat.le_refl _) _)).mono ?_
      rintro e2 w2 ⟨rfl, hs2, ho2⟩
      have hb5 := Blk.new wr 172 #[.int .i64 (r.k : Int), .int .u32 (r.t : Int), .string r.s, .slice r.A r.n r.cap, .int .i64 (r.c : Int)]
      have hoa := ((Only.refl (Three p c e) wr).alloc (.cells #[.int .i64 (r.k : Int), .int .u32 (r.t : Int), .string r.s, .slice r.A r.n r.cap, .int .i64 (r.c : Int)] 172)).trans ho2
      obtain ⟨g0, g1, g2, g3, g4⟩ := (ho2.blk hb5 h3r).five
      have HS3 := Lib.hid hs2
      have HO3 := Lib.hid (HO2.out.trans hoa)
      have HO13 := Lib.hid (HO12.out.trans hoa)
      clear hs2 ho2 hoa hb5 c0 c1 c2 c3 c4 k0 Hlay
      go_wp2_with fail
      refine (rcSize_any (r.k : Int) (r.t : Int) (r.c : Int) r.s r.A r.n r.cap _ (by omega) (by omega)).mono ?_
      rintro e3 w3 ⟨rfl, hb3⟩
      have HS4 := Lib.hid (HS3.out.below hb3)
      have HO4 := Lib.hid (HO3.out.trans (Only.of_below (S := Three p c e) hb3))
      have HO14 := Lib.hid (HO13.out.trans (Only.of_below (S := Three p c e) hb3))
      clear hb3
      go_wp2_with fail
      go_roundw
      case rel => exact ⟨i + 1, aq + (r.s.size + r.n + 16), by omega, by simp, by congr 1, Lib.hid (by rw [Hsm.out, hrsz, HaQ.out]; omega), HS4, HO4, HO14⟩
      case measure => simp [intOf]; omega
    · have hin : i = n + 1 := by omega
      subst hin
      have ht : R.take (n + 1) = R := List.take_of_length_le (by omega)
      rw [ht] at HS2
      go_wp2_with fail
      go_ret
      exact ⟨rfl, HS2.out, HO2.out⟩

end Go.Proofs.YtidbipbangifbaaGreatDoor

/- Steps as plain data: what each asks, what it does to a flash; the walks over a step's methods and over blob.do. -/
namespace Go.Proofs.YtidbipbangifbaaGreatDoor
set_option maxRecDepth 100000
open Go.RowKit

inductive Stp where
  | open_ (i s : Nat)
  | void (i : Nat)
  | erase (i : Nat)
  | lay (k o t : Nat) (A : Option Addr) (n cap : Nat) (l : List Ch)

namespace Stp
/-- How a step lies in memory: a method value. -/
def v (p Z : Nat) : Stp → Value
  | open_ i s => .func (.func 167) #[.agg #[.pointer (some ⟨p, 0, none⟩), .int .i64 (i : Int), .int .u32 (s : Int)]] #[]
  | void i => .func (.func 65) #[.agg #[.pointer (some ⟨p, 0, none⟩), .int .i64 (i : Int), .int .u32 0]] #[]
  | erase i => .func (.func 66) #[.agg #[.pointer (some ⟨p, 0, none⟩), .int .i64 (i : Int), .int .u32 0]] #[]
  | lay k o t A n cap _ => .func (.func 112) #[.agg #[.pointer (some ⟨p, 0, none⟩), .int .i64 ((k * Z + o : Nat) : Int), .int .u32 (t : Int), .slice A n cap]] #[]
def cells (p Z : Nat) (s : Stp) : List Value := [s.v p Z]
/-- What lies in memory beside it. -/
def At (w : World) (S : Nat → Prop) : Stp → Prop
  | lay _ _ _ A n cap l => Chs w S A n cap l
  | _ => True
/-- What a step asks of the sectors. -/
def Ok (Z L : Nat) (ss : List (Nat × List UInt8)) : Stp → Prop
  | open_ i s => ∃ m xs, ss[i]? = some (m, xs) ∧ stU xs = false ∧ (¬ xs.count 255 = xs.length → m < L) ∧ s ≤ 4294967295
  | void i => ∃ m xs, ss[i]? = some (m, xs)
  | erase i => ∃ m xs, ss[i]? = some (m, xs) ∧ m < L
  | lay k o t _ n _ l => ∃ m xs, ss[k]? = some (m, xs) ∧ (∀ f ∈ l, f.may = true) ∧ n ≤ 16 ∧ t ≠ 0 ∧ t ≤ 4294967295 ∧ o + roomL l ≤ Z ∧ Blank xs o (roomL l)
/-- What a step does to the sectors. -/
def at_ (ss : List (Nat × List UInt8)) (i : Nat) : Nat × List UInt8 := ss[i]?.getD (0, [])
def run (Z : Nat) (ss : List (Nat × List UInt8)) : Stp → List (Nat × List UInt8)
  | open_ i s => ss.set i (if (at_ ss i).2.count 255 = (at_ ss i).2.length then (at_ ss i).1 else (at_ ss i).1 + 1, openB Z s)
  | void i => ss.set i ((at_ ss i).1, splice (at_ ss i).2 9 [0])
  | erase i => ss.set i ((at_ ss i).1 + 1, List.replicate Z 255)
  | lay k o t _ _ _ l => ss.set k ((at_ ss k).1, splice (at_ ss k).2 o (commitB l t))
def runs (Z : Nat) (ss : List (Nat × List UInt8)) (l : List Stp) : List (Nat × List UInt8) := l.foldl (run Z) ss
/-- Each step's ask is met when its turn comes. -/
def Oks (Z L : Nat) : List (Nat × List UInt8) → List Stp → Prop
  | _, [] => True
  | ss, s :: l => s.Ok Z L ss ∧ Oks Z L (s.run Z ss) l
theorem at_eq {ss : List (Nat × List UInt8)} {i m : Nat} {xs : List UInt8} (h : ss[i]? = some (m, xs)) : at_ ss i = (m, xs) := by unfold at_; rw [h]; rfl
theorem Oks.at_ {Z L : Nat} : ∀ {l : List Stp} {ss : List (Nat × List UInt8)} {i : Nat} {s : Stp}, Oks Z L ss l → l[i]? = some s → s.Ok Z L (runs Z ss (l.take i))
  | [], _, _, _, _, h => by simp at h
  | s :: l, ss, 0, q, h, hq => by
    simp at hq
    subst hq
    exact h.1
  | s :: l, ss, i + 1, q, h, hq => by
    simp at hq
    have h2 := Oks.at_ (i := i) h.2 hq
    exact h2
theorem runs_snoc (Z : Nat) (ss : List (Nat × List UInt8)) (l : List Stp) (s : Stp) : runs Z ss (l ++ [s]) = s.run Z (runs Z ss l) := by simp [runs, List.foldl_append]
theorem runs_app (Z : Nat) (ss : List (Nat × List UInt8)) (l r : List Stp) : runs Z ss (l ++ r) = runs Z (runs Z ss l) r := by simp [runs, List.foldl_append]
theorem Oks.app {Z L : Nat} : ∀ {l r : List Stp} {ss : List (Nat × List UInt8)}, Oks Z L ss l → Oks Z L (runs Z ss l) r → Oks Z L ss (l ++ r)
  | [], _, _, _, h => h
  | s :: l, r, ss, h, h2 => ⟨h.1, Oks.app h.2 h2⟩
theorem run_len (Z : Nat) (ss : List (Nat × List UInt8)) (s : Stp) : (s.run Z ss).length = ss.length := by cases s <;> simp [run]
theorem runs_len (Z : Nat) : ∀ (l : List Stp) (ss : List (Nat × List UInt8)), (runs Z ss l).length = ss.length
  | [], _ => rfl
  | s :: l, ss => (runs_len Z l (s.run Z ss)).trans (run_len Z ss s)
theorem At.only {w w' : World} {S T : Nat → Prop} {s : Stp} (h : s.At w S) (k : Only T w w') (hT : ∀ i, i < w.heap.size → T i → S i) : s.At w' S := by
  cases s <;> first | trivial | exact Chs.only h k hT
end Stp

section
variable {p c e Z L : Nat} {ss : List (Nat × List UInt8)}
/-- How a step ends. -/
def StepOk (p c e Z L : Nat) (ss : List (Nat × List UInt8)) (w w' : World) (e1 : Ending) : Prop := e1 = .returned (.int .i64 0) ∧ FS w' p c e Z L ss ∧ Only (Three p c e) w w'

set_option maxHeartbeats 1000000 in
theorem tOpen_any (i s m : Nat) (xs : List UInt8) (w : World) (hs : FS w p c e Z L ss) (hk : ss[i]? = some (m, xs)) (hM : Mark w) (hp0 : ¬ Three p c e 0) (hu : stU xs = false) (hml : ¬ xs.count 255 = xs.length → m < L) (hs32 : s ≤ 4294967295) :
    Calls Tryz.prog 167 #[.agg #[.pointer (some ⟨p, 0, none⟩), .int .i64 (i : Int), .int .u32 (s : Int)]] w fun e1 w' => StepOk p c e Z L (ss.set i (if xs.count 255 = xs.length then m else m + 1, openB Z s)) w w' e1 := by
  have hb0 := (Below.refl w.heap.size w).alloc (Nat.le_refl _) (.cells #[.pointer (some ⟨p, 0, none⟩), .int .i64 (i : Int), .int .u32 (s : Int)] 134)
  have H := Lib.hid (open_fs p c e Z L i m s ss xs _ (hs.below hb0) hk (hM.below hb0) hp0 hu hml hs32)
  have Hb := Lib.hid hb0
  obtain ⟨S2, hS2⟩ : ∃ S2, S2 = ss.set i (if xs.count 255 = xs.length then m else m + 1, openB Z s) := ⟨_, rfl⟩
  rw [← hS2] at H ⊢
  clear hs hk hM hp0 hu hml hs32 hb0 hS2
  go_enter Tryz.func167, Tryz.ntmps167
  go_wp2_with fail
  refine H.out.mono ?_
  rintro e1 w1 ⟨rfl, hs1, ho1⟩
  have HE := Lib.hid (And.intro hs1 ((Only.of_below (S := Three p c e) Hb.out).trans ho1))
  clear hs1 ho1
  go_wp2
  go_ret
  exact ⟨rfl, HE.out⟩

set_option maxHeartbeats 1000000 in
theorem tVoid_any (i m : Nat) (xs : List UInt8) (w : World) (hs : FS w p c e Z L ss) (hk : ss[i]? = some (m, xs)) :
    Calls Tryz.prog 65 #[.agg #[.pointer (some ⟨p, 0, none⟩), .int .i64 (i : Int), .int .u32 0]] w fun e1 w' => StepOk p c e Z L (ss.set i (m, splice xs 9 [0])) w w' e1 := by
  have hb0 := (Below.refl w.heap.size w).alloc (Nat.le_refl _) (.cells #[.pointer (some ⟨p, 0, none⟩), .int .i64 (i : Int), .int .u32 0] 134)
  have H := Lib.hid (void_fs p c e Z L i m ss xs _ (hs.below hb0) hk)
  have Hb := Lib.hid hb0
  clear hs hk hb0
  go_enter Tryz.func65, Tryz.ntmps65
  go_wp2_with fail
  refine H.out.mono ?_
  rintro e1 w1 ⟨rfl, hs1, ho1⟩
  have HE := Lib.hid (And.intro hs1 ((Only.of_below (S := Three p c e) Hb.out).trans ho1))
  clear hs1 ho1
  go_wp2
  go_ret
  exact ⟨rfl, HE.out⟩

set_option maxHeartbeats 1000000 in
theorem tErase_any (i m : Nat) (xs : List UInt8) (w : World) (hs : FS w p c e Z L ss) (hk : ss[i]? = some (m, xs)) (hml : m < L) :
    Calls Tryz.prog 66 #[.agg #[.pointer (some ⟨p, 0, none⟩), .int .i64 (i : Int), .int .u32 0]] w fun e1 w' => StepOk p c e Z L (ss.set i (m + 1, List.replicate Z 255)) w w' e1 := by
  have hb0 := (Below.refl w.heap.size w).alloc (Nat.le_refl _) (.cells #[.pointer (some ⟨p, 0, none⟩), .int .i64 (i : Int), .int .u32 0] 134)
  have H := Lib.hid (erase_fs p c e Z L i m ss xs _ (hs.below hb0) hk hml)
  have Hb := Lib.hid hb0
  clear hs hk hb0 hml
  go_enter Tryz.func66, Tryz.ntmps66
  go_wp2_with fail
  refine H.out.mono ?_
  rintro e1 w1 ⟨rfl, hs1, ho1⟩
  have HE := Lib.hid (And.intro hs1 ((Only.of_below (S := Three p c e) Hb.out).trans ho1))
  clear hs1 ho1
  go_wp2
  go_ret
  exact ⟨rfl, HE.out⟩

set_option maxHeartbeats 2000000 in
theorem do_any (A : Option Addr) (n cap : Nat) (l : List Stp) (w : World) (hs : FS w p c e Z L ss) (hR : RowSl (Stp.cells p Z) 1 w (Three p c e) A n cap l) (hA : ∀ s ∈ l, s.At w (Three p c e)) (hO : Stp.Oks Z L ss l) (hM : Mark w) (hp0 : ¬ Three p c e 0) :
    Calls Tryz.prog 32 #[.slice A n cap] w fun e1 w' => StepOk p c e Z L (Stp.runs Z ss l) w w' e1 := by
  have HS := Lib.hid hs
  have HR := Lib.hid hR
  have HA := Lib.hid hA
  have HO := Lib.hid hO
  have HM := Lib.hid hM
  have HP := Lib.hid hp0
  have hcap : n ≤ cap := hR.2.1
  have hcap2 : cap ≤ 9223372036854775807 := by have := hR.2.2.1; unfold maxLen at this; omega
  clear hs hR hA hO hM hp0
  go_enter Tryz.func32, Tryz.ntmps32
  go_wp2_with fail
  go_loopw [7] (fun v wr => ∃ i : Nat, i ≤ n ∧ v = .int .i64 (i : Int) ∧ Hid (FS wr p c e Z L (Stp.runs Z ss (l.take i))) ∧ Hid (Only (Three p c e) w wr)) (fun v _ => n - (intOf v).toNat)
  case atStart => exact ⟨0, Nat.zero_le _, rfl, HS, Lib.hid (Only.refl _ _)⟩
  case round =>
    obtain ⟨i, hi, rfl, HS1, HO1⟩ := hrel
    by_cases hlt : i < n
    · obtain ⟨b, o, s, rfl, hb, -, hf, hc⟩ := (HR.out.only HO1.out (fun _ _ h => h)).at_ hlt
      have hok := HO.out.at_ hf
      have hat := (HA.out s (List.mem_of_getElem? hf)).only HO1.out (fun _ _ h => h)
      have hM1 := HM.out.only HO1.out HP.out
      have htk : Stp.runs Z ss (l.take (i + 1)) = s.run Z (Stp.runs Z ss (l.take i)) := by rw [take_snoc l i s hf, Stp.runs_snoc]
      have c0 := hc 0 (by omega)
      have hcall : Hid (∃ g bound, s.v p Z = .func (.func g) bound #[] ∧ (callFunc g bound).run Tryz.prog wr = .ok (.enter g bound) wr ∧ Calls Tryz.prog g bound wr (fun e1 w' => StepOk p c e Z L (Stp.runs Z ss (l.take (i + 1))) wr w' e1)) := Lib.hid (by
        rw [htk]
        cases s with
        | open_ j q =>
          obtain ⟨m, xs, h1, h2, h3, h4⟩ := hok
          refine ⟨_, _, rfl, ?_⟩
          simp only [Stp.run, Stp.at_eq h1]
          refine ⟨enters_of Tryz.func167 (by kernel_rfl) rfl _ _, ?_⟩
          exact tOpen_any j q m xs wr HS1.out h1 hM1 HP.out h2 h3 h4
        | void j =>
          obtain ⟨m, xs, h1⟩ := hok
          refine ⟨_, _, rfl, ?_⟩
          simp only [Stp.run, Stp.at_eq h1]
          refine ⟨enters_of Tryz.func65 (by kernel_rfl) rfl _ _, ?_⟩
          exact tVoid_any j m xs wr HS1.out h1
        | erase j =>
          obtain ⟨m, xs, h1, h2⟩ := hok
          refine ⟨_, _, rfl, ?_⟩
          simp only [Stp.run, Stp.at_eq h1]
          refine ⟨enters_of Tryz.func66 (by kernel_rfl) rfl _ _, ?_⟩
          exact tErase_any j m xs wr HS1.out h1 h2
        | lay k o t A n cap lc =>
          obtain ⟨m, xs, h1, h2, h3, h4, h5, h6, h7⟩ := hok
          refine ⟨_, _, rfl, ?_⟩
          simp only [Stp.run, Stp.at_eq h1]
          refine ⟨enters_of Tryz.func112 (by kernel_rfl) rfl _ _, ?_⟩
          exact cLay_any p c e Z L k m o t A n cap lc _ xs wr HS1.out h1 hat h2 h3 h4 h5 h6 h7)
      simp only [Stp.cells, List.getElem?_cons_zero] at c0
      rw [Nat.mul_one, Nat.add_zero] at c0
      obtain ⟨g, bound, hv, -⟩ := id hcall.out
      rw [hv] at c0
      have hgo : Hid ((callFunc g bound).run Tryz.prog wr = .ok (.enter g bound) wr ∧ Calls Tryz.prog g bound wr (fun e1 w' => StepOk p c e Z L (Stp.runs Z ss (l.take (i + 1))) wr w' e1)) := Lib.hid (by
        obtain ⟨g', b', h1, h2⟩ := hcall.out
        rw [hv] at h1
        cases h1
        exact h2)
      clear hc hf hok hat hM1 htk hv hcall
      go_wp2_with fail
      rw [hgo.out.1, Oper.upon_enter]
      refine hgo.out.2.mono ?_
      rintro e1 w2 ⟨rfl, hs2, ho2⟩
      have HS2 := Lib.hid hs2
      have HO2 := Lib.hid (HO1.out.trans ho2)
      clear hs2 ho2
      go_wp2_with fail
      go_roundw
      case rel => exact ⟨i + 1, by omega, by simp, HS2, HO2⟩
      case measure => simp [intOf]; omega
    · have hin : i = n := by omega
      subst hin
      have ht : l.take i = l := List.take_of_length_le (by have := HR.out.1; omega)
      rw [ht] at HS1
      go_wp2_with fail
      go_ret
      exact ⟨rfl, HS1.out, HO1.out⟩
end

end Go.Proofs.YtidbipbangifbaaGreatDoor
