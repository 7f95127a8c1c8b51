/- The records of a commit, as plain data; the walks over blob.layRecord, blob.records and a commit's lay. -/
import Derived.Test.YtmdnhpnaikfpjaaGreatDoorZan
import Derived.Test.YtmdnhpnaikfpjaaGreatDoorZam
import Derived.Test.YtmdnhpnaikfpjaaGreatDoorZal
namespace Go.Proofs.YtmdnhpnaikfpjaaGreatDoor
set_option maxRecDepth 100000
open Go.RowKit

/-- A record as it lies in memory, and what its blob reads as. -/
structure Rc where
  k : Nat
  t : Nat
  s : ByteArray
  A : Option Addr
  n : Nat
  cap : Nat
  c : Nat
  blob : List UInt8
def Rc.cells (f : Rc) : List Value := [.int .i64 (f.k : Int), .int .u32 (f.t : Int), .string f.s, .slice f.A f.n f.cap, .int .i64 (f.c : Int)]
theorem Rc.cells_len (f : Rc) : f.cells.length = 5 := rfl
theorem Rc.one (f : Rc) : ∀ v ∈ f.cells, v.oneCell' = true := by
  intro u hu
  simp only [Rc.cells, List.mem_cons, List.not_mem_nil, or_false] at hu
  rcases hu with rfl | rfl | rfl | rfl | rfl <;> rfl
def Rc.v (f : Rc) : Value := .agg #[.int .i64 (f.k : Int), .int .u32 (f.t : Int), .string f.s, .slice f.A f.n f.cap, .int .i64 (f.c : Int)]
/-- It may be laid. -/
structure Rc.Ok (f : Rc) : Prop where
  may : mayB (f.k : Int) (f.t : Int) (f.s.size : Int) (f.n : Int) (f.c : Int) = true
  t32 : f.t ≤ 4294967295
  len : f.blob.length = f.n
/-- All its bytes, the last one too. -/
def Rc.bytes (f : Rc) : List UInt8 := recB f.k f.t f.c f.s.data.toList f.blob ++ [0]
def Rc.sz (f : Rc) : Nat := f.s.size + f.n + 16
theorem Rc.bytes_len (f : Rc) (h : f.blob.length = f.n) : f.bytes.length = f.sz := by
  unfold Rc.bytes Rc.sz
  rw [List.length_append, recB_len, h]
  have : f.s.data.toList.length = f.s.size := by simp
  rw [this]
  simp
  omega
/-- Its blob's bytes lie in no block of S. -/
def Rc.At (w : World) (S : Nat → Prop) (f : Rc) : Prop := ByteSl w S f.A f.n f.cap f.blob ∧ (f.A = none → f.n = 0 ∧ f.cap = 0)

/-- Nothing but 255 from o on, n bytes. -/
def Blank (xs : List UInt8) (o n : Nat) : Prop := ∀ j, o ≤ j → j < o + n → xs[j]? = some 255
theorem Blank.fits {xs : List UInt8} {o n : Nat} (h : Blank xs o n) (ys : List UInt8) (hy : ys.length ≤ n) : Fits xs o ys := by
  intro j hj
  rw [h (o + j) (by omega) (by omega)]
  exact and_none _
theorem Blank.len {xs : List UInt8} {o n : Nat} (h : Blank xs o n) (hn : 0 < n) : o + n ≤ xs.length := by
  have h1 := h (o + n - 1) (by omega) (by omega)
  have := (List.getElem?_eq_some_iff.1 h1).1
  omega
theorem splice_len (L : List UInt8) (o : Nat) (cs : List UInt8) (h : o + cs.length ≤ L.length) : (splice L o cs).length = L.length := by
  unfold splice
  simp
  omega
theorem Blank.behind {xs : List UInt8} {o n : Nat} (h : Blank xs o n) (ys : List UInt8) (hy : ys.length ≤ n) (hl : o + n ≤ xs.length) : Blank (splice xs o ys) (o + ys.length) (n - ys.length) := by
  intro j h1 h2
  rw [splice_get _ _ _ _ (by omega), if_neg (by omega)]
  exact h j (by omega) (by omega)
theorem Blank.less {xs : List UInt8} {o n m : Nat} (h : Blank xs o n) (hm : m ≤ n) : Blank xs o m := fun j h1 h2 => h j h1 (by omega)
theorem splice_two (xs a b : List UInt8) (o : Nat) (h : o + a.length + b.length ≤ xs.length) : splice (splice xs o a) (o + a.length) b = splice xs o (a ++ b) := by
  apply List.ext_getElem?
  intro j
  rw [splice_get _ _ _ _ (by rw [splice_len _ _ _ (by omega)]; omega), splice_get _ _ _ _ (by omega), splice_get _ _ _ _ (by rw [List.length_append]; omega)]
  by_cases h1 : o + a.length ≤ j ∧ j < o + a.length + b.length
  · rw [if_pos h1, if_pos (by rw [List.length_append]; omega), List.getElem?_append_right (by omega)]
    congr 1
    omega
  · rw [if_neg h1]
    by_cases h2 : o ≤ j ∧ j < o + a.length
    · rw [if_pos h2, if_pos (by rw [List.length_append]; omega), List.getElem?_append_left (by omega)]
    · rw [if_neg h2, if_neg (by rw [List.length_append]; omega)]
theorem splice_nil (xs : List UInt8) (o : Nat) (h : o ≤ xs.length) : splice xs o [] = xs := by
  unfold splice
  simp

set_option maxHeartbeats 2000000 in
theorem layRecord_any (p c e Z L k m o : Nat) (r : Rc) (ss : List (Nat × List UInt8)) (xs : List UInt8) (w : World) (hs : FS w p c e Z L ss) (hk : ss[k]? = some (m, xs)) (hr : r.Ok) (hA : r.At w (Three p c e)) (ho : o + r.sz ≤ Z) (hb : Blank xs o r.sz) :
    Calls Tryz.prog 145 #[.pointer (some ⟨p, 0, none⟩), .int .i64 ((k * Z + o : Nat) : Int), r.v] w fun e1 w' => e1 = .returned (.int .i64 0) ∧ FS w' p c e Z L (ss.set k (m, splice xs o r.bytes)) ∧ Only (Three p c e) w w' := by
  have hxl := hs.len hk
  have hbz := hs.bz
  have hkz := kz_lt (Z := Z) hk
  have hsl : r.s.data.toList.length = r.s.size := by simp
  obtain ⟨rB, hrB⟩ : ∃ rB, rB = recB r.k r.t r.c r.s.data.toList r.blob := ⟨_, rfl⟩
  have hrl : rB.length = 15 + r.s.size + r.n := by rw [hrB, recB_len, hr.len, hsl]
  have hby : r.bytes = rB ++ [0] := by rw [Rc.bytes, hrB]
  have hsz : r.sz = r.s.size + r.n + 16 := rfl
  have hfit1 : Fits xs o rB := hb.fits rB (by omega)
  have hfit2 : Fits (splice xs o rB) (o + rB.length) [0] := (hb.behind rB (by omega) (by omega)).fits [0] (by simp; omega)
  have htwo := splice_two xs rB [0] o (by simp; omega)
  rw [← hby] at htwo
  have Hbytes := Lib.hid (fun W hW => rcBytes_yes r.k r.t r.c r.s r.A r.n r.cap r.blob W hr.may hr.t32 hW hA.2)
  have HA0 := Lib.hid (fun (W : World) (hW : Only Empty w W) => ((hA.1.only hW (fun _ _ h => h.elim)).mono (T := Empty) (fun _ _ h => h.elim)))
  have HS := Lib.hid hs
  have HK := Lib.hid hk
  have Hf := Lib.hid (And.intro hfit1 (And.intro hfit2 htwo))
  have HrB := Lib.hid hrB
  clear hs hk hr hA hb hfit1 hfit2 htwo hby hrB
  obtain ⟨T, hT⟩ : ∃ T, T = k * Z + o := ⟨_, rfl⟩
  have HT := Lib.hid hT
  have hTb : T ≤ 4194304 := by omega
  rw [← hT]
  clear hT hkz
  unfold Rc.v
  go_enter Tryz.func145, Tryz.ntmps145
  go_wp2_with fail
  have hO0 := (Only.refl Empty w).alloc (.cells #[.int .i64 (r.k : Int), .int .u32 (r.t : Int), .string r.s, .slice r.A r.n r.cap, .int .i64 (r.c : Int)] 105)
  refine (Hbytes.out _ (HA0.out _ hO0)).mono ?_
  rintro e1 w1 ⟨⟨A1, cap1, rfl, hG1⟩, hb1⟩
  have HS0 := HS.out.of hO0 (fun h => h) (fun h => h) (fun h => h)
  have HO1 := Lib.hid ((Only.mono (T := Three p c e) hO0 (fun _ _ h => h.elim)).trans (Only.of_below (S := Three p c e) hb1))
  have HS1 := Lib.hid (HS0.below hb1)
  obtain ⟨q, hq⟩ : ∃ q, q = rB.length := ⟨_, rfl⟩
  rw [← HrB.out, ← hrl, ← hq] at hG1
  have hB1 : ByteSl w1 (Three p c e) A1 q cap1 rB := by
    obtain ⟨A', cap', he, hB, _⟩ := ByteSl.of_own (S := Three p c e) hG1.own (fun q h1 _ => HS0.three q h1)
    cases he
    exact hB
  have hpr := prog_fs p c e Z L k m o q cap1 ss xs rB A1 w1 HS1.out HK.out hB1 (by omega) Hf.out.1
  rw [← HT.out] at hpr
  have Hpr := Lib.hid hpr
  rw [← hrl, ← hq]
  have hq2 : q ≤ 65536 := by omega
  have hoq : o + q + 1 ≤ Z := by omega
  have Hq := Lib.hid hq
  clear hG1 hb1 hO0 HS0 hpr hB1 hrl hq hxl hsz
  go_wp2_with fail
  refine Hpr.out.mono ?_
  rintro e2 w2 ⟨rfl, hs2, ho2⟩
  have HS2 := Lib.hid hs2
  have HO2 := Lib.hid (HO1.out.trans ho2)
  have h3 : ¬ Three p c e w2.heap.size := hs2.three _ (Nat.le_refl _)
  have hpr2 := prog_fs p c e Z L k m (o + q) 1 1 _ (splice xs o rB) [0] (some ⟨w2.heap.size, 0, none⟩) (w2.alloc (.cells #[.int .u8 0] 5)) (hs2.of ((Only.refl Empty w2).alloc (.cells #[.int .u8 0] 5)) (fun h => h) (fun h => h) (fun h => h)) (set_at HK.out _)
    (ByteSl.lit w2 (Three p c e) [0] 1 rfl h3 (by decide)) hoq (by rw [Hq.out]; exact Hf.out.2.1)
  rw [show k * Z + (o + q) = T + q by rw [HT.out]; omega, Hq.out, Hf.out.2.2, set_set_] at hpr2
  rw [show ((T + rB.length : Nat) : Int) = (T : Int) + (q : Int) by rw [Hq.out]; simp] at hpr2
  have Hpr2 := Lib.hid hpr2
  clear hs2 ho2 hpr2 h3 Hpr HrB Hf Hbytes HA0
  go_wp2_with fail
  refine Hpr2.out.mono ?_
  rintro e3 w3 ⟨rfl, hs3, ho3⟩
  have HE := Lib.hid (And.intro hs3 ((HO2.out.alloc (.cells #[.int .u8 0] 5)).trans ho3))
  clear hs3 ho3
  go_wp2
  go_ret
  exact ⟨rfl, HE.out⟩

end Go.Proofs.YtmdnhpnaikfpjaaGreatDoor

/- A commit's records; the walks over blob.records and a commit's lay. -/
namespace Go.Proofs.YtmdnhpnaikfpjaaGreatDoor
set_option maxRecDepth 100000
open Go.RowKit

def Ch.rc (f : Ch) (t : Nat) : Rc := ⟨f.rk, t, f.s, f.rA, f.rN, f.rC, 0, f.rB⟩
def endRc (n t : Nat) : Rc := ⟨3, t, ⟨#[]⟩, none, 0, 0, n, []⟩
/-- The records of changes, and the one that makes them count. -/
def recsL (l : List Ch) (t : Nat) : List Rc := l.map (Ch.rc · t) ++ [endRc l.length t]
theorem recsL_len (l : List Ch) (t : Nat) : (recsL l t).length = l.length + 1 := by simp [recsL]

theorem Tryz.infoRec : (Tryz.prog.info? 105).map (fun i => (i.zero, i.size, i.bytes)) = some (some (.agg #[.int .i64 0, .int .u32 0, .string ⟨#[]⟩, .slice none 0 0, .int .i64 0]), 5, 64) := by kernel_rfl

/-- append of records onto a row of the call's own. -/
theorem wpList_append_recs {ops : Array Oper} {rest : List Oper} {q : Oper} {u : Act} {w : World} {S : Nat → Prop} {Q : Exit → Act → World → Prop} (hgd : q.guard = none) (s x : Operand) (hq : q.op = .call { callee := .builtin .append, args := #[s, x], argTypes := #[213, 213] })
    (base : Nat) (B : Option Addr) (m0 c0 : Nat) (zs : List Rc) (hs : u.eval s = .slice B m0 c0) (hown : GotR Rc.cells 5 105 base w B m0 c0 zs) (A : Option Addr) (m c : Nat) (l : List Rc)
    (hx : u.eval x = .slice A m c) (hB : RowSl Rc.cells 5 w S A m c l) (hn : A = none → m = 0 ∧ c = 0) (hm : m0 + m ≤ 16777216) (hbase : base ≤ w.heap.size)
    (h : ∀ A' c' w', GotR Rc.cells 5 105 base w' A' (m0 + m) c' (zs ++ l) → w.grownBy w' (Value.slice B m0 c0).ownBlock → (∀ g, (Value.slice B m0 c0).ownBlock = some g → base ≤ g) → wpList Tryz.prog ops Q rest (u.put q.dst (.slice A' (m0 + m) c')) w') : wpList Tryz.prog ops Q (q :: rest) u w :=
  wpList_append_rows Rc.cells_len Rc.one (by decide) 213 105 _ 64 Tryz.underlying213 Tryz.infoRec (by simp [Value.cells]) (by decide) hgd s x hq base B m0 c0 zs hs hown A m c l hx hB hn hm hbase (fun A' c' w' h1 h2 h3 _ => h A' c' w' h1 h2 h3)

theorem rec_lit (r : Rc) (w : World) : RowSl Rc.cells 5 (w.alloc (.cells #[.int .i64 (r.k : Int), .int .u32 (r.t : Int), .string r.s, .slice r.A r.n r.cap, .int .i64 (r.c : Int)] 105)) Empty (some ⟨w.heap.size, 0, none⟩) 1 1 [r] :=
  RowSl.lit Rc.cells_len w Empty 105 [r] 1 [.int .i64 (r.k : Int), .int .u32 (r.t : Int), .string r.s, .slice r.A r.n r.cap, .int .i64 (r.c : Int)] (by simp [Rc.cells]) rfl (by decide) (fun h => h)

set_option maxHeartbeats 4000000 in
theorem records_any (A : Option Addr) (n cap : Nat) (l : List Ch) (t : Nat) (w : World) (hC : Chs w Empty A n cap l) (hn : n ≤ 1024) :
    Calls Tryz.prog 144 #[.slice A n cap, .int .u32 (t : Int)] w fun e w' => (∃ A' cap', e = .returned (.slice A' (n + 1) cap') ∧ GotR Rc.cells 5 105 w.heap.size w' A' (n + 1) cap' (recsL l t)) ∧ Below w.heap.size w w' := by
  have HC := Lib.hid hC
  have hcap : n ≤ cap := hC.2.1
  have hcap2 : cap ≤ 9223372036854775807 := by have := hC.2.2.1; unfold maxLen at this; omega
  clear hC
  go_enter Tryz.func144, Tryz.ntmps144
  go_wp2_with fail
  go_loopw [5, 10] (fun r v wr => ∃ (i : Nat) (B : Option Addr) (c0 : Nat), i ≤ n ∧ v = .int .i64 (i : Int) ∧ r = .slice B i c0 ∧ Hid (GotR Rc.cells 5 105 w.heap.size wr B i c0 ((l.take i).map (Ch.rc · t))) ∧ Hid (Below w.heap.size w wr)) (fun _ v _ => n - (intOf v).toNat)
  case atStart => exact ⟨0, none, 0, Nat.zero_le _, rfl, rfl, Lib.hid (GotR.nil_ _ _ _ _ _), Lib.hid (Below.refl _ _)⟩
  case round =>
    obtain ⟨i, B, c0, hi, rfl, rfl, HG, HB⟩ := hrel
    by_cases hlt : i < n
    · obtain ⟨b, o, f, rfl, hb, -, hf, hc⟩ := (HC.out.only (Only.of_below (S := Empty) HB.out) (fun _ _ h => h)).at_ hlt
      have htake := take_snoc l i f hf
      have Hrec := Lib.hid (chRec_any f (t : Int))
      have c0' := hc 0 (by omega)
      have c1' := hc 1 (by omega)
      have c2' := hc 2 (by omega)
      simp [Ch.cells] at c0' c1' c2'
      have Ht := Lib.hid htake
      clear hc hf htake
      go_wp2_with fail
      refine (Hrec.out _).mono ?_
      unfold recV
      rintro e2 w2 ⟨rfl, hb2⟩
      have hb2' := (Below.refl wr.heap.size wr).alloc (Nat.le_refl _) (.cells #[.bool f.del, .string f.s, .slice f.A f.n f.cap] 35)
      have hb2'' := hb2'.trans (hb2.mono hb2'.size)
      have Hb2 := Lib.hid (HB.out.trans (hb2''.mono HB.out.size))
      have HG2 := Lib.hid (HG.out.below Rc.cells_len hb2'')
      clear hb2 hb2' hb2''
      have hrl := rec_lit (f.rc t) w2
      unfold Ch.rc at hrl
      simp only at hrl
      have Hrl := Lib.hid hrl
      clear hrl
      go_wp2_with (at_builtin; refine wpList_append_recs rfl _ _ rfl w.heap.size B i c0 ((l.take i).map (Ch.rc · t)) rfl (HG2.out.alloc Rc.cells_len _) _ 1 1 _ rfl Hrl.out (fun h => by cases h) (by omega) (by have := Hb2.out.size; simp; omega) ?_; intro A3 c3 w3 hg3 hgr3 hr3)
      have Hb3 := Lib.hid (below_gotR (Hb2.out.alloc Hb2.out.size (.cells #[.int .i64 (f.rk : Int), .int .u32 (t : Int), .string f.s, .slice f.rA f.rN f.rC, .int .i64 0] 105)) (by have := Hb2.out.size; simp; omega) hgr3 hr3 (Nat.le_refl _))
      have HG3 := Lib.hid hg3
      clear hg3 hgr3 hr3
      go_roundw
      case rel => exact ⟨i + 1, A3, c3, by omega, by simp, rfl, by rw [Ht.out, List.map_append, List.map_cons, List.map_nil]; exact HG3, Hb3⟩
      case measure => simp [intOf]; omega
    · have hin : i = n := by omega
      subst hin
      have ht : l.take i = l := List.take_of_length_le (by have := HC.out.1; omega)
      rw [ht] at HG
      have hrl := rec_lit (endRc i t) wr
      unfold endRc at hrl
      simp only at hrl
      have Hrl := Lib.hid hrl
      have Hl : Hid (l.length = i) := Lib.hid HC.out.1
      clear hrl
      go_wp2_with (at_builtin; refine wpList_append_recs rfl _ _ rfl w.heap.size B i c0 (l.map (Ch.rc · t)) rfl (HG.out.alloc Rc.cells_len _) _ 1 1 _ rfl Hrl.out (fun h => by cases h) (by omega) (by have := HB.out.size; simp; omega) ?_; intro A3 c3 w3 hg3 hgr3 hr3)
      have Hb3 := Lib.hid (below_gotR (HB.out.alloc HB.out.size (.cells #[.int .i64 3, .int .u32 (t : Int), .string ⟨#[]⟩, .slice none 0 0, .int .i64 (i : Int)] 105)) (by have := HB.out.size; simp; omega) hgr3 hr3 (Nat.le_refl _))
      go_ret
      refine ⟨⟨A3, c3, rfl, ?_⟩, Hb3.out⟩
      unfold recsL endRc
      rw [Hl.out]
      exact hg3

end Go.Proofs.YtmdnhpnaikfpjaaGreatDoor

/- Rows of a call's own that stand side by side: what grows one leaves the others. -/
namespace Go.Proofs.YtmdnhpnaikfpjaaGreatDoor
set_option maxRecDepth 100000
open Go.RowKit

section
variable {w w' : World} {base base' n n' size size' : Nat} {e e' : TypeId} {v v' : Value} {xs xs' : List Value}

theorem own_ne (h : w.ownsRow base e size v n xs) (h' : w.ownsRow base' e' size' v' n' xs') (hne : e ≠ e') : v.ownBlock = none ∨ v.ownBlock ≠ v'.ownBlock := by
  rcases h.2 with ⟨rfl, _⟩ | ⟨g, cap, cur, rfl, _, hh, _⟩
  · exact Or.inl rfl
  · rcases h'.2 with ⟨rfl, _⟩ | ⟨g', cap', cur', rfl, _, hh', _⟩
    · exact Or.inr (by simp [Value.ownBlock])
    · refine Or.inr fun he => ?_
      simp [Value.ownBlock] at he
      subst he
      rw [hh] at hh'
      simp only [Option.some.injEq, Obj.cells.injEq] at hh'
      exact hne hh'.2.1

theorem blk_ne {g : Nat} {t : TypeId} {cs : Array Value} (h : w.ownsRow base e size v n xs) (hb : Blk w g t cs) (hne : e ≠ t) : ¬ v.ownBlock = some g := by
  intro he
  rcases h.2 with ⟨rfl, _⟩ | ⟨g', cap, cur, rfl, _, hh, _⟩
  · cases he
  · simp [Value.ownBlock] at he
    subst he
    exact hne ((Blk.ne_ (w := w) (g := g') (t := e) (t' := t) hh hb · rfl) |> fun k => Classical.byContradiction fun hk => k hk)

/-- A block of another type stays while a row grows. -/
theorem Blk.row {g : Nat} {t : TypeId} {cs : Array Value} (hb : Blk w g t cs) (h : w.ownsRow base e size v n xs) (hne : e ≠ t) (hg : w.grownBy w' v.ownBlock) : Blk w' g t cs :=
  hb.of (hg.block g hb.lt (fun he => blk_ne h hb hne he.symm))

/-- A block of five cells, cell by cell. -/
theorem Blk.five {g : Nat} {t : TypeId} {a b c d u : Value} (h : Blk w g t #[a, b, c, d, u]) :
    w.cell? ⟨g, 0, none⟩ = some a ∧ w.cell? ⟨g, 1, none⟩ = some b ∧ w.cell? ⟨g, 2, none⟩ = some c ∧ w.cell? ⟨g, 3, none⟩ = some d ∧ w.cell? ⟨g, 4, none⟩ = some u :=
  ⟨h.cell 0, h.cell 1, h.cell 2, h.cell 3, h.cell 4⟩

/-- Bytes of the call's own stay while a row of another type grows. -/
theorem Got.row {A : Option Addr} {m cap : Nat} {zs : List UInt8} (h : Got base w A m cap zs) (ho : w.ownsRow base' e size v n xs) (hne : 5 ≠ e) (hg : w.grownBy w' v.ownBlock) : Got base w' A m cap zs := by
  have h1 := h.own.kept hg (own_ne h.own ho hne)
  obtain ⟨A', cap', he, h2⟩ := Got.of_own h1
  cases he
  exact h2
end

/-- append of bytes onto bytes of the call's own: the new value is a slice, too. -/
theorem wpList_append_got {ops : Array Oper} {rest : List Oper} {o : Oper} {a : Act} {w : World} {Q : Exit → Act → World → Prop} (hgd : o.guard = none) (s x : Operand)
    (hq : o.op = .call { callee := .builtin .append, args := #[s, x], argTypes := #[22, 22] })
    (base : Nat) (A : Option Addr) (n cap : Nat) (zs : List UInt8) (hs : a.eval s = .slice A n cap) (hG : Got base w A n cap zs) (B : Option Addr) (m c : Nat) (ys : List UInt8) (hx : a.eval x = .slice B m c)
    (hB : ByteSl w Empty B m c ys) (hBn : B = none → m = 0 ∧ c = 0) (hm : n + m ≤ 16777216) (hbase : base ≤ w.heap.size)
    (h : ∀ A' c' w', Got base w' A' (n + m) c' (zs ++ ys) → w.grownBy w' (Value.slice A n cap).ownBlock → (∀ q, (Value.slice A n cap).ownBlock = some q → base ≤ q) → wpList Tryz.prog ops Q rest (a.put o.dst (.slice A' (n + m) c')) w') : wpList Tryz.prog ops Q (o :: rest) a w := by
  refine wpList_append_bytes hgd s x hq base _ hs n zs hG.own B m c ys Empty hx hB hBn hm hbase ?_
  intro v' w' h1 h2 _
  obtain ⟨A', c', rfl, hG'⟩ := Got.of_own h1
  exact h A' c' w' hG' h2 (fun q hq => (hG.own.lt q hq).1)

/-- A row that was just made, with no bytes. -/
theorem got_made (w : World) (base : Nat) (h : base ≤ w.heap.size) : Got base (w.alloc (.cells #[] 5)) (some ⟨w.heap.size, 0, none⟩) 0 0 [] :=
  ⟨own_made w base h, ByteSl.nil_ _ _ _ _ (by simp [maxLen]), fun h => by cases h⟩

theorem below_got {B : Nat} {a w w' : World} {A : Option Addr} {n cap base : Nat} (h : Below B a w) (hB : B ≤ w.heap.size) (g : w.grownBy w' (Value.slice A n cap).ownBlock) (hr : ∀ q, (Value.slice A n cap).ownBlock = some q → base ≤ q) (hb : B ≤ base) : Below B a w' :=
  below_grown h hB g (fun q hq => Nat.le_trans hb (hr q hq))

end Go.Proofs.YtmdnhpnaikfpjaaGreatDoor
