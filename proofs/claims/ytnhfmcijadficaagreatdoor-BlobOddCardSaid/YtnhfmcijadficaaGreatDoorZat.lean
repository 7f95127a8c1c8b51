/- The walks over blob's small functions: Down, takes, behindHeader, record, roomOf. -/
import Derived.Test.YtnhfmcijadficaaGreatDoorZas
import Derived.Test.YtnhfmcijadficaaGreatDoorZao
import Derived.Test.YtnhfmcijadficaaGreatDoorZal
namespace Go.Proofs.YtnhfmcijadficaaGreatDoor
set_option maxRecDepth 100000
open Go.RowKit

/-- A store's cells. -/
structure HeadV where
  sec : Int
  next : Int
  left : Int
  txn : Int
def HeadV.v (h : HeadV) : Value := .agg #[.int .i64 h.sec, .int .i64 h.next, .int .i64 h.left, .int .u32 h.txn]
def HeadV.none : HeadV := ⟨0, 0, 0, 0⟩
def storeC (p mb : Nat) (h : HeadV) (d : Bool) : Array Value := #[.pointer (some ⟨p, 0, .none⟩), .map (some mb), .int .i64 h.sec, .int .i64 h.next, .int .i64 h.left, .int .u32 h.txn, .bool d]

theorem down_nil (w : World) : Calls Tryz.prog 23 #[.pointer none] w fun e w' => e = .returned (.bool true) ∧ w = w' := by
  go_enter Tryz.func23, Tryz.ntmps23
  go_wp2
  go_ret
  exact ⟨rfl, rfl⟩
theorem down_any (s p mb : Nat) (h : HeadV) (d : Bool) (w : World) (hb : Blk w s 106 (storeC p mb h d)) : Calls Tryz.prog 23 #[.pointer (some ⟨s, 0, none⟩)] w fun e w' => e = .returned (.bool d) ∧ w = w' := by
  have c0 := hb.cell 0
  have c6 := hb.cell 6
  simp [storeC] at c0 c6
  go_enter Tryz.func23, Tryz.ntmps23
  go_wp2
  go_ret
  exact ⟨rfl, rfl⟩

/-- Has a head room for so many bytes? -/
def takesB (h : HeadV) (room : Int) : Bool := decide (h.txn ≤ 4294901759) && decide (room ≤ h.left)
theorem takes_any (h : HeadV) (room : Int) (w : World) : Calls Tryz.prog 86 #[h.v, .int .i64 room] w fun e w' => e = .returned (.bool (takesB h room)) ∧ Below w.heap.size w w' := by
  obtain ⟨a, b, c, t⟩ := h
  unfold takesB HeadV.v
  by_cases h1 : t ≤ 4294901759
  · go_enter Tryz.func86, Tryz.ntmps86
    go_wp2
    go_ret
    exact ⟨by simp [h1], (Below.refl _ _).alloc (Nat.le_refl _) _⟩
  · have h2 : decide (t ≤ 4294901759) = false := decide_eq_false h1
    go_enter Tryz.func86, Tryz.ntmps86
    go_wp2
    go_ret
    exact ⟨by simp only [h2, Bool.false_and]; rfl, (Below.refl _ _).alloc (Nat.le_refl _) _⟩

/-- A change's record: its kind, its blob. -/
def Ch.rk (f : Ch) : Nat := if f.del then 2 else 1
def Ch.rA (f : Ch) : Option Addr := if f.del then none else f.A
def Ch.rN (f : Ch) : Nat := if f.del then 0 else f.n
def Ch.rC (f : Ch) : Nat := if f.del then 0 else f.cap
def Ch.rB (f : Ch) : List UInt8 := if f.del then [] else f.blob
def Ch.v (f : Ch) : Value := .agg #[.bool f.del, .string f.s, .slice f.A f.n f.cap]
def recV (f : Ch) (t : Int) : Value := .agg #[.int .i64 (f.rk : Int), .int .u32 t, .string f.s, .slice f.rA f.rN f.rC, .int .i64 0]

set_option maxHeartbeats 1000000 in
theorem chRec_any (f : Ch) (t : Int) (w : World) : Calls Tryz.prog 90 #[f.v, .int .u32 t] w fun e w' => e = .returned (recV f t) ∧ Below w.heap.size w w' := by
  obtain ⟨d, s, A, n, cap, xs⟩ := f
  unfold Ch.v recV Ch.rk Ch.rA Ch.rN Ch.rC
  have hb : Below w.heap.size w ((w.alloc (.cells #[.bool d, .string s, .slice A n cap] 37)).alloc (.cells #[.int .i64 0, .int .u32 0, .string ⟨#[]⟩, .slice none 0 0, .int .i64 0] 161)) :=
    ((Below.refl _ _).alloc (Nat.le_refl _) _).alloc (by simp) _
  cases d
  · go_enter Tryz.func90, Tryz.ntmps90
    go_wp2
    exact bodyPost_ret (v := .agg #[.int .i64 1, .int .u32 t, .string s, .slice A n cap, .int .i64 0]) (by simp [results, Tryz.results90, go_sem]) rfl ⟨rfl, ((Below.refl _ _).alloc (Nat.le_refl _) _).alloc (by simp) _⟩
  · go_enter Tryz.func90, Tryz.ntmps90
    go_wp2
    exact bodyPost_ret (v := .agg #[.int .i64 2, .int .u32 t, .string s, .slice none 0 0, .int .i64 0]) (by simp [results, Tryz.results90, go_sem]) rfl ⟨rfl, ((Below.refl _ _).alloc (Nat.le_refl _) _).alloc (by simp) _⟩

/-- A commit's room. -/
def Ch.sz (f : Ch) : Nat := f.s.size + f.rN + 16
def roomL (l : List Ch) : Nat := 16 + (l.map Ch.sz).sum
theorem roomL_snoc (l : List Ch) (f : Ch) : roomL (l ++ [f]) = roomL l + f.sz := by simp [roomL]; omega
/-- Changes that are none too long. -/
def Fair (l : List Ch) : Prop := ∀ f ∈ l, f.s.size ≤ 64 ∧ f.rN ≤ 4096
theorem roomL_le : ∀ l : List Ch, Fair l → roomL l ≤ 16 + l.length * 4176
  | [], _ => by simp [roomL]
  | f :: l, h => by
    have h1 := roomL_le l (fun g hg => h g (List.mem_cons_of_mem _ hg))
    have h2 := h f List.mem_cons_self
    simp [roomL, Ch.sz] at h1 ⊢
    omega

theorem Chs.at_ {w : World} {S : Nat → Prop} {A : Option Addr} {n cap : Nat} {l : List Ch} (h : Chs w S A n cap l) {i : Nat} (hi : i < n) : ∃ b o f, A = some ⟨b, o, none⟩ ∧ b < w.heap.size ∧ ¬ S b ∧ l[i]? = some f ∧ ∀ j, j < 3 → w.cell? ⟨b, o + i * 3 + j, none⟩ = f.cells[j]? :=
  RowSl.at_ (cells := Ch.cells) (k := 3) ⟨h.1, h.2.1, h.2.2.1, h.2.2.2.1⟩ hi
theorem Chs.only {w w' : World} {S T : Nat → Prop} {A : Option Addr} {n cap : Nat} {l : List Ch} (h : Chs w S A n cap l) (k : Only T w w') (hT : ∀ i, i < w.heap.size → T i → S i) : Chs w' S A n cap l := by
  have h1 := RowSl.only (cells := Ch.cells) (k := 3) ⟨h.1, h.2.1, h.2.2.1, h.2.2.2.1⟩ k hT
  exact ⟨h1.1, h1.2.1, h1.2.2.1, h1.2.2.2, fun f hf => ⟨(h.2.2.2.2 f hf).1.only k hT, (h.2.2.2.2 f hf).2⟩⟩
theorem Chs.mono {w : World} {S T : Nat → Prop} {A : Option Addr} {n cap : Nat} {l : List Ch} (h : Chs w S A n cap l) (hT : ∀ i, i < w.heap.size → T i → S i) : Chs w T A n cap l := by
  have h1 := RowSl.mono (cells := Ch.cells) (k := 3) ⟨h.1, h.2.1, h.2.2.1, h.2.2.2.1⟩ hT
  exact ⟨h1.1, h1.2.1, h1.2.2.1, h1.2.2.2, fun f hf => ⟨(h.2.2.2.2 f hf).1.mono hT, (h.2.2.2.2 f hf).2⟩⟩
theorem Chs.below {w w' : World} {S : Nat → Prop} {A : Option Addr} {n cap : Nat} {l : List Ch} (h : Chs w S A n cap l) (k : Below w.heap.size w w') : Chs w' S A n cap l := h.only (Only.of_below (S := Empty) k) (fun _ _ h => h.elim)
theorem Chs.nil_ (w : World) (S : Nat → Prop) (A : Option Addr) (cap : Nat) (h : cap ≤ maxLen) : Chs w S A 0 cap [] := ⟨rfl, Nat.zero_le _, h, fun h => absurd h (by omega), fun f hf => by cases hf⟩

theorem take_snoc {α : Type} (l : List α) (i : Nat) (f : α) (h : l[i]? = some f) : l.take (i + 1) = l.take i ++ [f] := by
  rw [List.take_add_one, h]
  rfl

set_option maxHeartbeats 2000000 in
theorem roomOf_any (A : Option Addr) (n cap : Nat) (l : List Ch) (w : World) (hC : Chs w Empty A n cap l) (hF : Fair l) (hn : n ≤ 1024) :
    Calls Tryz.prog 47 #[.slice A n cap] w fun e w' => e = .returned (.int .i64 (roomL l : Int)) ∧ Below w.heap.size w w' := by
  have HC := Lib.hid hC
  have HF := Lib.hid hF
  have hcap : n ≤ cap := hC.2.1
  have hcap2 : cap ≤ 9223372036854775807 := by have := hC.2.2.1; unfold maxLen at this; omega
  clear hC hF
  go_enter Tryz.func47, Tryz.ntmps47
  go_wp2_with fail
  refine (rcSize_any 3 0 0 ⟨#[]⟩ none 0 0 _ (by decide) (by decide)).mono ?_
  rintro e1 w1 ⟨rfl, hb1⟩
  have Hb1 := Lib.hid hb1
  clear hb1
  go_wp2_with fail
  go_loopw [3, 10] (fun r v wr => ∃ i : Nat, i ≤ n ∧ v = .int .i64 (i : Int) ∧ r = .int .i64 (roomL (l.take i) : Int) ∧ Hid (Below w.heap.size w wr)) (fun _ v _ => n - (intOf v).toNat)
  case atStart => exact ⟨0, Nat.zero_le _, rfl, by simp [roomL], Hb1⟩
  case round =>
    obtain ⟨i, hi, rfl, rfl, HB⟩ := hrel
    by_cases hlt : i < n
    · obtain ⟨b, o, f, rfl, hb, -, hf, hc⟩ := (HC.out.only (Only.of_below (S := Empty) HB.out) (fun _ _ h => h)).at_ hlt
      have hfair := HF.out f (List.mem_of_getElem? hf)
      have hsum := roomL_snoc (l.take i) f
      rw [← take_snoc l i f hf] at hsum
      have hle := roomL_le (l.take i) (fun g hg => HF.out g (List.mem_of_mem_take hg))
      rw [List.length_take] at hle
      have Hrec := Lib.hid (chRec_any f 0)
      have hsz : f.sz = f.s.size + f.rN + 16 := rfl
      have hk : (f.rk : Int) = 1 ∨ (f.rk : Int) = 2 := by unfold Ch.rk; split <;> simp
      have c0 := hc 0 (by omega)
      have c1 := hc 1 (by omega)
      have c2 := hc 2 (by omega)
      simp [Ch.cells] at c0 c1 c2
      clear hc hf
      go_wp2_with fail
      refine (Hrec.out _).mono ?_
      unfold recV
      rintro e2 w2 ⟨rfl, hb2⟩
      have Hb2 := Lib.hid ((HB.out.alloc HB.out.size _).trans (hb2.mono (by have := HB.out.size; simp; omega)))
      clear hb2
      go_wp2_with fail
      refine (rcSize_any (f.rk : Int) 0 0 f.s f.rA f.rN f.rC _ (by omega) (by omega)).mono ?_
      rintro e3 w3 ⟨rfl, hb3⟩
      have Hb3 := Lib.hid (Hb2.out.trans (hb3.mono Hb2.out.size))
      clear hb3
      go_wp2_with fail
      go_roundw
      case rel => exact ⟨i + 1, by omega, by simp, by rw [hsum, hsz]; congr 1, Hb3⟩
      case measure => simp [intOf]; omega
    · have hin : i = n := by omega
      subst hin
      have ht : l.take i = l := List.take_of_length_le (by have := HC.out.1; omega)
      rw [ht]
      go_wp2_with fail
      go_ret
      exact ⟨rfl, HB.out⟩

end Go.Proofs.YtnhfmcijadficaaGreatDoor

/- The records of a commit, as plain data; the walks over blob.layRecord, blob.records and a commit's lay. -/
namespace Go.Proofs.YtnhfmcijadficaaGreatDoor
set_option maxRecDepth 100000
open Go.RowKit

/-- A record as it lies in memory, and what its blob reads as. -/
structure Rc where
  k : Nat
  t : Nat
  s : ByteArray
  A : Option Addr
  n : Nat
  cap : Nat
  c : Nat
  blob : List UInt8
def Rc.cells (f : Rc) : List Value := [.int .i64 (f.k : Int), .int .u32 (f.t : Int), .string f.s, .slice f.A f.n f.cap, .int .i64 (f.c : Int)]
theorem Rc.cells_len (f : Rc) : f.cells.length = 5 := rfl
theorem Rc.one (f : Rc) : ∀ v ∈ f.cells, v.oneCell' = true := by
  intro u hu
  simp only [Rc.cells, List.mem_cons, List.not_mem_nil, or_false] at hu
  rcases hu with rfl | rfl | rfl | rfl | rfl <;> rfl
def Rc.v (f : Rc) : Value := .agg #[.int .i64 (f.k : Int), .int .u32 (f.t : Int), .string f.s, .slice f.A f.n f.cap, .int .i64 (f.c : Int)]
/-- It may be laid. -/
structure Rc.Ok (f : Rc) : Prop where
  may : mayB (f.k : Int) (f.t : Int) (f.s.size : Int) (f.n : Int) (f.c : Int) = true
  t32 : f.t ≤ 4294967295
  len : f.blob.length = f.n
/-- All its bytes, the last one too. -/
def Rc.bytes (f : Rc) : List UInt8 := recB f.k f.t f.c f.s.data.toList f.blob ++ [0]
def Rc.sz (f : Rc) : Nat := f.s.size + f.n + 16
theorem Rc.bytes_len (f : Rc) (h : f.blob.length = f.n) : f.bytes.length = f.sz := by
  unfold Rc.bytes Rc.sz
  rw [List.length_append, recB_len, h]
  have : f.s.data.toList.length = f.s.size := by simp
  rw [this]
  simp
  omega
/-- Its blob's bytes lie in no block of S. -/
def Rc.At (w : World) (S : Nat → Prop) (f : Rc) : Prop := ByteSl w S f.A f.n f.cap f.blob ∧ (f.A = none → f.n = 0 ∧ f.cap = 0)

/-- Nothing but 255 from o on, n bytes. -/
def Blank (xs : List UInt8) (o n : Nat) : Prop := ∀ j, o ≤ j → j < o + n → xs[j]? = some 255
theorem Blank.fits {xs : List UInt8} {o n : Nat} (h : Blank xs o n) (ys : List UInt8) (hy : ys.length ≤ n) : Fits xs o ys := by
  intro j hj
  rw [h (o + j) (by omega) (by omega)]
  exact and_none _
theorem Blank.len {xs : List UInt8} {o n : Nat} (h : Blank xs o n) (hn : 0 < n) : o + n ≤ xs.length := by
  have h1 := h (o + n - 1) (by omega) (by omega)
  have := (List.getElem?_eq_some_iff.1 h1).1
  omega
theorem splice_len (L : List UInt8) (o : Nat) (cs : List UInt8) (h : o + cs.length ≤ L.length) : (splice L o cs).length = L.length := by
  unfold splice
  simp
  omega
theorem Blank.behind {xs : List UInt8} {o n : Nat} (h : Blank xs o n) (ys : List UInt8) (hy : ys.length ≤ n) (hl : o + n ≤ xs.length) : Blank (splice xs o ys) (o + ys.length) (n - ys.length) := by
  intro j h1 h2
  rw [splice_get _ _ _ _ (by omega), if_neg (by omega)]
  exact h j (by omega) (by omega)
theorem Blank.less {xs : List UInt8} {o n m : Nat} (h : Blank xs o n) (hm : m ≤ n) : Blank xs o m := fun j h1 h2 => h j h1 (by omega)
theorem splice_two (xs a b : List UInt8) (o : Nat) (h : o + a.length + b.length ≤ xs.length) : splice (splice xs o a) (o + a.length) b = splice xs o (a ++ b) := by
  apply List.ext_getElem?
  intro j
  rw [splice_get _ _ _ _ (by rw [splice_len _ _ _ (by omega)]; omega), splice_get _ _ _ _ (by omega), splice_get _ _ _ _ (by rw [List.length_append]; omega)]
  by_cases h1 : o + a.length ≤ j ∧ j < o + a.length + b.length
  · rw [if_pos h1, if_pos (by rw [List.length_append]; omega), List.getElem?_append_right (by omega)]
    congr 1
    omega
  · rw [if_neg h1]
    by_cases h2 : o ≤ j ∧ j < o + a.length
    · rw [if_pos h2, if_pos (by rw [List.length_append]; omega), List.getElem?_append_left (by omega)]
    · rw [if_neg h2, if_neg (by rw [List.length_append]; omega)]
theorem splice_nil (xs : List UInt8) (o : Nat) (h : o ≤ xs.length) : splice xs o [] = xs := by
  unfold splice
  simp

set_option maxHeartbeats 2000000 in
theorem layRecord_any (p c e Z L k m o : Nat) (r : Rc) (ss : List (Nat × List UInt8)) (xs : List UInt8) (w : World) (hs : FS w p c e Z L ss) (hk : ss[k]? = some (m, xs)) (hr : r.Ok) (hA : r.At w (Three p c e)) (ho : o + r.sz ≤ Z) (hb : Blank xs o r.sz) :
    Calls Tryz.prog 131 #[.pointer (some ⟨p, 0, none⟩), .int .i64 ((k * Z + o : Nat) : Int), r.v] w fun e1 w' => e1 = .returned (.int .i64 0) ∧ FS w' p c e Z L (ss.set k (m, splice xs o r.bytes)) ∧ Only (Three p c e) w w' := by
  have hxl := hs.len hk
  have hbz := hs.bz
  have hkz := kz_lt (Z := Z) hk
  have hsl : r.s.data.toList.length = r.s.size := by simp
  obtain ⟨rB, hrB⟩ : ∃ rB, rB = recB r.k r.t r.c r.s.data.toList r.blob := ⟨_, rfl⟩
  have hrl : rB.length = 15 + r.s.size + r.n := by rw [hrB, recB_len, hr.len, hsl]
  have hby : r.bytes = rB ++ [0] := by rw [Rc.bytes, hrB]
  have hsz : r.sz = r.s.size + r.n + 16 := rfl
  have hfit1 : Fits xs o rB := hb.fits rB (by omega)
  have hfit2 : Fits (splice xs o rB) (o + rB.length) [0] := (hb.behind rB (by omega) (by omega)).fits [0] (by simp; omega)
  have htwo := splice_two xs rB [0] o (by simp; omega)
  rw [← hby] at htwo
  have Hbytes := Lib.hid (fun W hW => rcBytes_yes r.k r.t r.c r.s r.A r.n r.cap r.blob W hr.may hr.t32 hW hA.2)
  have HA0 := Lib.hid (fun (W : World) (hW : Only Empty w W) => ((hA.1.only hW (fun _ _ h => h.elim)).mono (T := Empty) (fun _ _ h => h.elim)))
  have HS := Lib.hid hs
  have HK := Lib.hid hk
  have Hf := Lib.hid (And.intro hfit1 (And.intro hfit2 htwo))
  have HrB := Lib.hid hrB
  clear hs hk hr hA hb hfit1 hfit2 htwo hby hrB
  obtain ⟨T, hT⟩ : ∃ T, T = k * Z + o := ⟨_, rfl⟩
  have HT := Lib.hid hT
  have hTb : T ≤ 4194304 := by omega
  rw [← hT]
  clear hT hkz
  unfold Rc.v
  go_enter Tryz.func131, Tryz.ntmps131
  go_wp2_with fail
  have hO0 := (Only.refl Empty w).alloc (.cells #[.int .i64 (r.k : Int), .int .u32 (r.t : Int), .string r.s, .slice r.A r.n r.cap, .int .i64 (r.c : Int)] 161)
  refine (Hbytes.out _ (HA0.out _ hO0)).mono ?_
  rintro e1 w1 ⟨⟨A1, cap1, rfl, hG1⟩, hb1⟩
  have HS0 := HS.out.of hO0 (fun h => h) (fun h => h) (fun h => h)
  have HO1 := Lib.hid ((Only.mono (T := Three p c e) hO0 (fun _ _ h => h.elim)).trans (Only.of_below (S := Three p c e) hb1))
  have HS1 := Lib.hid (HS0.below hb1)
  obtain ⟨q, hq⟩ : ∃ q, q = rB.length := ⟨_, rfl⟩
  rw [← HrB.out, ← hrl, ← hq] at hG1
  have hB1 : ByteSl w1 (Three p c e) A1 q cap1 rB := by
    obtain ⟨A', cap', he, hB, _⟩ := ByteSl.of_own (S := Three p c e) hG1.own (fun q h1 _ => HS0.three q h1)
    cases he
    exact hB
  have hpr := prog_fs p c e Z L k m o q cap1 ss xs rB A1 w1 HS1.out HK.out hB1 (by omega) Hf.out.1
  rw [← HT.out] at hpr
  have Hpr := Lib.hid hpr
  rw [← hrl, ← hq]
  have hq2 : q ≤ 65536 := by omega
  have hoq : o + q + 1 ≤ Z := by omega
  have Hq := Lib.hid hq
  clear hG1 hb1 hO0 HS0 hpr hB1 hrl hq hxl hsz
  go_wp2_with fail
  refine Hpr.out.mono ?_
  rintro e2 w2 ⟨rfl, hs2, ho2⟩
  have HS2 := Lib.hid hs2
  have HO2 := Lib.hid (HO1.out.trans ho2)
  have h3 : ¬ Three p c e w2.heap.size := hs2.three _ (Nat.le_refl _)
  have hpr2 := prog_fs p c e Z L k m (o + q) 1 1 _ (splice xs o rB) [0] (some ⟨w2.heap.size, 0, none⟩) (w2.alloc (.cells #[.int .u8 0] 5)) (hs2.of ((Only.refl Empty w2).alloc (.cells #[.int .u8 0] 5)) (fun h => h) (fun h => h) (fun h => h)) (set_at HK.out _)
    (ByteSl.lit w2 (Three p c e) [0] 1 rfl h3 (by decide)) hoq (by rw [Hq.out]; exact Hf.out.2.1)
  rw [show k * Z + (o + q) = T + q by rw [HT.out]; omega, Hq.out, Hf.out.2.2, set_set_] at hpr2
  rw [show ((T + rB.length : Nat) : Int) = (T : Int) + (q : Int) by rw [Hq.out]; simp] at hpr2
  have Hpr2 := Lib.hid hpr2
  clear hs2 ho2 hpr2 h3 Hpr HrB Hf Hbytes HA0
  go_wp2_with fail
  refine Hpr2.out.mono ?_
  rintro e3 w3 ⟨rfl, hs3, ho3⟩
  have HE := Lib.hid (And.intro hs3 ((HO2.out.alloc (.cells #[.int .u8 0] 5)).trans ho3))
  clear hs3 ho3
  go_wp2
  go_ret
  exact ⟨rfl, HE.out⟩

end Go.Proofs.YtnhfmcijadficaaGreatDoor

/- A commit's records; the walks over blob.records and a commit's lay. -/
namespace Go.Proofs.YtnhfmcijadficaaGreatDoor
set_option maxRecDepth 100000
open Go.RowKit

def Ch.rc (f : Ch) (t : Nat) : Rc := ⟨f.rk, t, f.s, f.rA, f.rN, f.rC, 0, f.rB⟩
def endRc (n t : Nat) : Rc := ⟨3, t, ⟨#[]⟩, none, 0, 0, n, []⟩
/-- The records of changes, and the one that makes them count. -/
def recsL (l : List Ch) (t : Nat) : List Rc := l.map (Ch.rc · t) ++ [endRc l.length t]
theorem recsL_len (l : List Ch) (t : Nat) : (recsL l t).length = l.length + 1 := by simp [recsL]

theorem Tryz.infoRec : (Tryz.prog.info? 161).map (fun i => (i.zero, i.size, i.bytes)) = some (some (.agg #[.int .i64 0, .int .u32 0, .string ⟨#[]⟩, .slice none 0 0, .int .i64 0]), 5, 64) := by kernel_rfl

/-- append of records onto a row of the call's own. -/
theorem wpList_append_recs {ops : Array Oper} {rest : List Oper} {q : Oper} {u : Act} {w : World} {S : Nat → Prop} {Q : Exit → Act → World → Prop} (hgd : q.guard = none) (s x : Operand) (hq : q.op = .call { callee := .builtin .append, args := #[s, x], argTypes := #[201, 201] })
    (base : Nat) (B : Option Addr) (m0 c0 : Nat) (zs : List Rc) (hs : u.eval s = .slice B m0 c0) (hown : GotR Rc.cells 5 161 base w B m0 c0 zs) (A : Option Addr) (m c : Nat) (l : List Rc)
    (hx : u.eval x = .slice A m c) (hB : RowSl Rc.cells 5 w S A m c l) (hn : A = none → m = 0 ∧ c = 0) (hm : m0 + m ≤ 16777216) (hbase : base ≤ w.heap.size)
    (h : ∀ A' c' w', GotR Rc.cells 5 161 base w' A' (m0 + m) c' (zs ++ l) → w.grownBy w' (Value.slice B m0 c0).ownBlock → (∀ g, (Value.slice B m0 c0).ownBlock = some g → base ≤ g) → wpList Tryz.prog ops Q rest (u.put q.dst (.slice A' (m0 + m) c')) w') : wpList Tryz.prog ops Q (q :: rest) u w :=
  wpList_append_rows Rc.cells_len Rc.one (by decide) 201 161 _ 64 Tryz.underlying201 Tryz.infoRec (by simp [Value.cells]) (by decide) hgd s x hq base B m0 c0 zs hs hown A m c l hx hB hn hm hbase (fun A' c' w' h1 h2 h3 _ => h A' c' w' h1 h2 h3)

theorem rec_lit (r : Rc) (w : World) : RowSl Rc.cells 5 (w.alloc (.cells #[.int .i64 (r.k : Int), .int .u32 (r.t : Int), .string r.s, .slice r.A r.n r.cap, .int .i64 (r.c : Int)] 161)) Empty (some ⟨w.heap.size, 0, none⟩) 1 1 [r] :=
  RowSl.lit Rc.cells_len w Empty 161 [r] 1 [.int .i64 (r.k : Int), .int .u32 (r.t : Int), .string r.s, .slice r.A r.n r.cap, .int .i64 (r.c : Int)] (by simp [Rc.cells]) rfl (by decide) (fun h => h)

set_option maxHeartbeats 4000000 in
theorem records_any (A : Option Addr) (n cap : Nat) (l : List Ch) (t : Nat) (w : World) (hC : Chs w Empty A n cap l) (hn : n ≤ 1024) :
    Calls Tryz.prog 130 #[.slice A n cap, .int .u32 (t : Int)] w fun e w' => (∃ A' cap', e = .returned (.slice A' (n + 1) cap') ∧ GotR Rc.cells 5 161 w.heap.size w' A' (n + 1) cap' (recsL l t)) ∧ Below w.heap.size w w' := by
  have HC := Lib.hid hC
  have hcap : n ≤ cap := hC.2.1
  have hcap2 : cap ≤ 9223372036854775807 := by have := hC.2.2.1; unfold maxLen at this; omega
  clear hC
  go_enter Tryz.func130, Tryz.ntmps130
  go_wp2_with fail
  go_loopw [5, 10] (fun r v wr => ∃ (i : Nat) (B : Option Addr) (c0 : Nat), i ≤ n ∧ v = .int .i64 (i : Int) ∧ r = .slice B i c0 ∧ Hid (GotR Rc.cells 5 161 w.heap.size wr B i c0 ((l.take i).map (Ch.rc · t))) ∧ Hid (Below w.heap.size w wr)) (fun _ v _ => n - (intOf v).toNat)
  case atStart => exact ⟨0, none, 0, Nat.zero_le _, rfl, rfl, Lib.hid (GotR.nil_ _ _ _ _ _), Lib.hid (Below.refl _ _)⟩
  case round =>
    obtain ⟨i, B, c0, hi, rfl, rfl, HG, HB⟩ := hrel
    by_cases hlt : i < n
    · obtain ⟨b, o, f, rfl, hb, -, hf, hc⟩ := (HC.out.only (Only.of_below (S := Empty) HB.out) (fun _ _ h => h)).at_ hlt
      have htake := take_snoc l i f hf
      have Hrec := Lib.hid (chRec_any f (t : Int))
      have c0' := hc 0 (by omega)
      have c1' := hc 1 (by omega)
      have c2' := hc 2 (by omega)
      simp [Ch.cells] at c0' c1' c2'
      have Ht := Lib.hid htake
      clear hc hf htake
      go_wp2_with fail
      refine (Hrec.out _).mono ?_
      unfold recV
      rintro e2 w2 ⟨rfl, hb2⟩
      have hb2' := (Below.refl wr.heap.size wr).alloc (Nat.le_refl _) (.cells #[.bool f.del, .string f.s, .slice f.A f.n f.cap] 37)
      have hb2'' := hb2'.trans (hb2.mono hb2'.size)
      have Hb2 := Lib.hid (HB.out.trans (hb2''.mono HB.out.size))
      have HG2 := Lib.hid (HG.out.below Rc.cells_len hb2'')
      clear hb2 hb2' hb2''
      have hrl := rec_lit (f.rc t) w2
      unfold Ch.rc at hrl
      simp only at hrl
      have Hrl := Lib.hid hrl
      clear hrl
      go_wp2_with (at_builtin; refine wpList_append_recs rfl _ _ rfl w.heap.size B i c0 ((l.take i).map (Ch.rc · t)) rfl (HG2.out.alloc Rc.cells_len _) _ 1 1 _ rfl Hrl.out (fun h => by cases h) (by omega) (by have := Hb2.out.size; simp; omega) ?_; intro A3 c3 w3 hg3 hgr3 hr3)
      have Hb3 := Lib.hid (below_gotR (Hb2.out.alloc Hb2.out.size (.cells #[.int .i64 (f.rk : Int), .int .u32 (t : Int), .string f.s, .slice f.rA f.rN f.rC, .int .i64 0] 161)) (by have := Hb2.out.size; simp; omega) hgr3 hr3 (Nat.le_refl _))
      have HG3 := Lib.hid hg3
      clear hg3 hgr3 hr3
      go_roundw
      case rel => exact ⟨i + 1, A3, c3, by omega, by simp, rfl, by rw [Ht.out, List.map_append, List.map_cons, List.map_nil]; exact HG3, Hb3⟩
      case measure => simp [intOf]; omega
    · have hin : i = n := by omega
      subst hin
      have ht : l.take i = l := List.take_of_length_le (by have := HC.out.1; omega)
      rw [ht] at HG
      have hrl := rec_lit (endRc i t) wr
      unfold endRc at hrl
      simp only at hrl
      have Hrl := Lib.hid hrl
      have Hl : Hid (l.length = i) := Lib.hid HC.out.1
      clear hrl
      go_wp2_with (at_builtin; refine wpList_append_recs rfl _ _ rfl w.heap.size B i c0 (l.map (Ch.rc · t)) rfl (HG.out.alloc Rc.cells_len _) _ 1 1 _ rfl Hrl.out (fun h => by cases h) (by omega) (by have := HB.out.size; simp; omega) ?_; intro A3 c3 w3 hg3 hgr3 hr3)
      have Hb3 := Lib.hid (below_gotR (HB.out.alloc HB.out.size (.cells #[.int .i64 3, .int .u32 (t : Int), .string ⟨#[]⟩, .slice none 0 0, .int .i64 (i : Int)] 161)) (by have := HB.out.size; simp; omega) hgr3 hr3 (Nat.le_refl _))
      go_ret
      refine ⟨⟨A3, c3, rfl, ?_⟩, Hb3.out⟩
      unfold recsL endRc
      rw [Hl.out]
      exact hg3

end Go.Proofs.YtnhfmcijadficaaGreatDoor
