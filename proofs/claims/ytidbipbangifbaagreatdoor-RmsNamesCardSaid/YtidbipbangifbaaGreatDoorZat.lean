/- What a sector has, as plain data; the walk over scan.Scan. -/
import Derived.Test.YtidbipbangifbaaGreatDoorZas
import Derived.Maps.Own
import Derived.Maps.OwnSet
import Derived.Test.YtidbipbangifbaaGreatDoorZar
namespace Go.Proofs.YtidbipbangifbaaGreatDoor
set_option maxRecDepth 100000
open Go.RowKit

theorem strB_data (xs : List UInt8) : (strB xs).data.toList = xs := by simp [strB]

def fdOf (pl : Nat) (o : Out) : FD := ⟨pl, o.k, o.t, o.key, o.blob, o.c⟩

/-- From a place on, where all behind 'en' is blank: what is found, where the next one may stand, whether the sector is closed. -/
inductive Runs (xs : List UInt8) (en : Nat) : Nat → Bool → List FD → Nat → Bool → Prop
  | stop (pl : Nat) (c : Bool) : en ≤ pl → Runs xs en pl c [] pl c
  | bad (pl : Nat) (c : Bool) : pl < en → (out (xs.drop pl)).e ≠ 0 → Runs xs en pl c [] xs.length true
  | go (pl : Nat) (c : Bool) (l : List FD) (to : Nat) (c' : Bool) : pl < en → (out (xs.drop pl)).e = 0 → Runs xs en (pl + (out (xs.drop pl)).size) (c || !(out (xs.drop pl)).whole) l to c' →
      Runs xs en pl c ((if (out (xs.drop pl)).whole = true then [fdOf pl (out (xs.drop pl))] else []) ++ l) to c'

theorem out_size {ys : List UInt8} (h : (out ys).e = 0) : 16 ≤ (out ys).size ∧ (out ys).size ≤ ys.length := by
  by_cases hp : pE ys = 0
  · have hs : (out ys).size = szOf ys := by
      unfold out
      rw [if_pos hp]
      split <;> rfl
    have hl : ¬ ys.length < szOf ys := by
      intro hl
      unfold pE at hp
      by_cases h0 : hdE ys = 0
      · rw [if_pos h0, if_pos hl] at hp
        cases hp
      · rw [if_neg h0] at hp
        exact h0 hp
    rw [hs]
    exact ⟨by unfold szOf; omega, by omega⟩
  · exfalso
    apply hp
    unfold out at h
    rw [if_neg hp] at h
    exact h

theorem Runs.exists_ (xs : List UInt8) (en : Nat) (hen : en ≤ xs.length) : ∀ (m pl : Nat) (c : Bool), xs.length ≤ pl + m → ∃ l to c', Runs xs en pl c l to c'
  | 0, pl, c, h => ⟨_, _, _, .stop pl c (by omega)⟩
  | m + 1, pl, c, h => by
    by_cases h1 : en ≤ pl
    · exact ⟨_, _, _, .stop pl c h1⟩
    · by_cases h2 : (out (xs.drop pl)).e = 0
      · obtain ⟨l, to, c', hr⟩ := Runs.exists_ xs en hen m (pl + (out (xs.drop pl)).size) (c || !(out (xs.drop pl)).whole) (by have := (out_size h2).1; omega)
        exact ⟨_, _, _, .go pl c l to c' (by omega) h2 hr⟩
      · exact ⟨_, _, _, .bad pl c (by omega) h2⟩

/-- Found records that a call has made: its own row, and what it reads as. -/
structure GotF (base : Nat) (W : World) (A : Option Addr) (n cap : Nat) (l : List Fd) : Prop where
  own : W.ownsRow base 174 6 (.slice A n cap) n (l.flatMap Fd.cells)
  blobs : Blobs W (fun q => Value.ownBlock (.slice A n cap) = some q) l
  reads : Founds W Empty A n cap l

theorem GotF.of_own {base : Nat} {W : World} {v : Value} {l : List Fd} (h : W.ownsRow base 174 6 v l.length (l.flatMap Fd.cells)) (hb : Blobs W (fun q => v.ownBlock = some q) l) :
    ∃ A cap, v = .slice A l.length cap ∧ GotF base W A l.length cap l := by
  obtain ⟨A, cap, rfl, hf⟩ := Founds.of_own (S := Empty) h (hb.mono (fun _ _ h => h.elim)) (fun _ _ _ _ h => h)
  exact ⟨A, cap, rfl, h, hb, hf⟩

def ScanOk (w : World) (L : List FD) (to : Nat) (c : Bool) (e : Ending) (w' : World) : Prop :=
  (∃ A n cap l, e = .returned (.tuple #[.slice A n cap, .int .i64 (to : Int), .bool c]) ∧ l.map Fd.d = L ∧ GotF w.heap.size w' A n cap l) ∧ Below w.heap.size w w'

set_option maxHeartbeats 2000000 in
theorem scan_any (A : Option Addr) (n cap : Nat) (xs : List UInt8) (w : World) (hB : ByteSl w Empty A n cap xs) (hm : n ≤ 1048576) (h12 : 12 ≤ n) (en : Nat) (hE : IsEnd xs en) (L : List FD) (to : Nat) (c : Bool) (hR : Runs xs en 12 false L to c) :
    Calls Tryz.prog 97 #[.slice A n cap] w fun e w' => ScanOk w L to c e w' := by
  obtain ⟨⟨b, o, sp⟩, rfl, hbl, -, hcell⟩ := hB.2.2.2 (by omega)
  have hbl : b < w.heap.size := hbl
  have hcap := hB.2.1
  have hcap2 : cap ≤ 9223372036854775807 := by have := hB.2.2.1; unfold maxLen at this; omega
  have hen := hE.le
  rw [hB.1] at hen
  have HE := Lib.hid (laidEnd_any _ n cap xs w hB hm en hE)
  have HB := Lib.hid hB
  have HR := Lib.hid hR
  clear hB hcell hE hR
  have hd12 : decide ((n : Int) < 12) = false := by simp; omega
  go_enter Tryz.func97, Tryz.ntmps97
  go_wp2_with fail
  go_step3
  go_wp2_with fail
  refine HE.out.mono ?_
  rintro e1 w1 ⟨rfl, rfl⟩
  go_wp2_with fail
  go_step3
  go_wp2_with fail
  clear hd12
  go_loopw [5, 6, 8] (fun v i cc wr => ∃ (pl : Nat) (cl : Bool) (acc : List Fd) (l : List FD), i = .int .i64 (pl : Int) ∧ cc = .bool cl ∧ Hid (acc.map Fd.d ++ l = L) ∧ Runs xs en pl cl l to c ∧ Below w.heap.size w wr ∧ Hid (wr.ownsRow w.heap.size 174 6 v acc.length (acc.flatMap Fd.cells)) ∧ Hid (Blobs wr (fun q => v.ownBlock = some q) acc) ∧ acc.length ≤ pl ∧ pl ≤ n) (fun _ i _ _ => n - (intOf i).toNat)
  case atStart => exact ⟨12, false, [], L, rfl, rfl, Lib.hid rfl, HR.out, Below.refl _ _, Lib.hid (World.ownsRow_nil _ _ _ _), Lib.hid (Blobs.nil_ _ _), Nat.zero_le _, h12⟩
  case round =>
    obtain ⟨pl, cl, acc, l, rfl, rfl, hL, hr, hbw, hown, hbl, hlen, hpn⟩ := hrel
    by_cases hlt : pl < en
    · have hq1 : ¬ cap = pl := by omega
      have hq2 : (pl : Int) ≤ (cap : Int) := by omega
      have hB1 : ByteSl wr Empty (some (Addr.add ⟨b, o, sp⟩ pl)) (n - pl) (cap - pl) (xs.drop pl) := by
        have h := (HB.out.only (Only.of_below (S := Empty) hbw) (fun _ _ h => h)).drop_ pl (n - pl) (by omega)
        rw [List.take_of_length_le (by rw [List.length_drop, HB.out.1]; omega)] at h
        exact h
      have N1 := Lib.hid (rcParse_any _ (n - pl) (cap - pl) (xs.drop pl) wr hB1 (by omega))
      clear hB1
      by_cases he : (out (xs.drop pl)).e = 0
      · obtain ⟨l', rfl, hr'⟩ : ∃ l', l = (if (out (xs.drop pl)).whole = true then [fdOf pl (out (xs.drop pl))] else []) ++ l' ∧ Runs xs en (pl + (out (xs.drop pl)).size) (cl || !(out (xs.drop pl)).whole) l' to c := by
          cases hr with
          | stop _ _ h => omega
          | bad _ _ _ h => exact absurd he h
          | go _ _ l' _ _ _ _ h => exact ⟨l', rfl, h⟩
        have hsz := out_size he
        have hz1 : pl + (out (xs.drop pl)).size ≤ n := by have := hsz.2; rw [List.length_drop, HB.out.1] at this; omega
        have hz2 := hsz.1
        unfold RecOk at N1
        rw [he] at N1
        obtain ⟨q, hq⟩ : ∃ q, q = out (xs.drop pl) := ⟨_, rfl⟩
        rw [← hq] at N1 hL hr' hz1 hz2
        have Hq : Hid (fdOf pl q = ⟨pl, q.k, q.t, q.key, q.blob, q.c⟩) := Lib.hid rfl
        obtain ⟨k, t, key, blob, cc, size, whole, er⟩ := q
        simp only at N1 hL hr' hz1 hz2 Hq
        have Hr := Lib.hid hr'
        clear hr' hr hsz he hq
        cases whole with
        | true =>
          go_wp2_with fail
          refine N1.out.mono ?_
          rintro e2 w2 ⟨⟨A2, n2, cap2, rfl, hG2⟩, hb2⟩
          obtain ⟨f, hf⟩ : ∃ f : Fd, f = ⟨pl, k, t, strB key, A2, n2, cap2, cc, blob⟩ := ⟨_, rfl⟩
          have hlt5 := hown.out.lt
          have hd : f.d = ⟨pl, k, t, key, blob, cc⟩ := by rw [hf]; show FD.mk _ _ _ (strB key).data.toList _ _ = _; rw [strB_data]
          have hcells : f.cells.toArray = #[.int .i64 (pl : Int), .int .i64 (k : Int), .int .u32 (t : Int), .string (strB key), .slice A2 n2 cap2, .int .i64 (cc : Int)] := by rw [hf]; rfl
          obtain ⟨A3, cap3, e3, hB3, -⟩ := ByteSl.of_own (S := fun q => Value.ownBlock u5 = some q) hG2.own (fun q h1 _ h2 => by have := (hlt5 q h2).2; omega)
          cases e3
          have hB4 : ByteSl w2 (fun q => Value.ownBlock u5 = some q) f.A f.n f.cap f.blob := by rw [hf]; exact hB3
          have hN4 : f.A = none → f.n = 0 ∧ f.cap = 0 := by rw [hf]; exact hG2.isNil
          have HO3 := Lib.hid ((Only.of_below (S := Empty) hb2).alloc (.cells #[.int .i64 (k : Int), .int .u32 (t : Int), .string (strB key), .slice A2 n2 cap2, .int .i64 (cc : Int)] 172))
          have HO4 := Lib.hid (HO3.out.alloc (.cells f.cells.toArray 174))
          have Hbw3 := Lib.hid (((hbw.trans (hb2.mono hbw.size)).alloc (Nat.le_trans hbw.size hb2.size) (.cells #[.int .i64 (k : Int), .int .u32 (t : Int), .string (strB key), .slice A2 n2 cap2, .int .i64 (cc : Int)] 172)).alloc (Nat.le_trans hbw.size HO3.out.size) (.cells f.cells.toArray 174))
          have HK4 := Lib.hid (Blk.new (w2.alloc (.cells #[.int .i64 (k : Int), .int .u32 (t : Int), .string (strB key), .slice A2 n2 cap2, .int .i64 (cc : Int)] 172)) 174 f.cells.toArray)
          have HB4 := Lib.hid (hB4.only (((Only.refl Empty w2).alloc (.cells #[.int .i64 (k : Int), .int .u32 (t : Int), .string (strB key), .slice A2 n2 cap2, .int .i64 (cc : Int)] 172)).alloc (.cells f.cells.toArray 174)) (fun _ _ h => h.elim))
          have HN4 := Lib.hid hN4
          have Hown4 := Lib.hid (own_only hown.out HO4.out (fun _ _ _ h => h))
          have Hbl4 := Lib.hid (hbl.out.only HO4.out (fun _ _ h => h.elim))
          have Hd := Lib.hid hd
          have Hmm : Hid (acc.length + 1 ≤ 1048576) := Lib.hid (by omega)
          rw [hcells] at HO4 Hbw3 HK4 HB4 Hown4 Hbl4
          have Hcells := Lib.hid hcells
          clear hf hlt5 hd hcells hB3 hB4 hN4 hG2 hb2 hbw hown hbl
          go_wp2_with (at_builtin; refine wpList_append_found rfl (.tmp 39) (.tmp 43) rfl w.heap.size _ rfl acc Hown4.out f (w2.heap.size + 1) rfl (by rw [Hcells.out]; simpa using HK4.out) Hmm.out Hbw3.out.size ?_; intro v5 w5 hown5 hg5 hat5)
          have hBl5 := Hbl4.out.append HB4.out HN4.out hg5 hat5
          have hlt5 := Hown4.out.lt
          have hbw5 := below_grown Hbw3.out Hbw3.out.size hg5 (fun q hq => (hlt5 q hq).1)
          have HL5 : Hid ((acc ++ [f]).map Fd.d ++ l' = L) := Lib.hid (by
            have h := hL.out
            rw [if_pos trivial, Hq.out] at h
            rw [List.map_append, List.map_cons, List.map_nil, Hd.out, List.append_assoc]
            exact h)
          have Hlen5 : Hid ((acc ++ [f]).length ≤ pl + size) := Lib.hid (by simp; omega)
          have HBl5 := Lib.hid hBl5
          have Hown5 := Lib.hid hown5
          have Hbw5 := Lib.hid hbw5
          clear hBl5 hlt5 hbw5 hown5 hg5 hat5 hL
          go_wp2
          go_roundw
          case rel => exact ⟨pl + size, cl, acc ++ [f], l', by go_num, rfl, HL5, by simpa using Hr.out, Hbw5.out, Hown5, HBl5, Hlen5.out, hz1⟩
          case measure => simp [intOf]; omega
        | false =>
          go_wp2_with fail
          refine N1.out.mono ?_
          rintro e2 w2 ⟨⟨A2, n2, cap2, rfl, hG2⟩, hb2⟩
          have Hbw2 := Lib.hid (hbw.trans (hb2.mono hbw.size))
          have HO2 := Lib.hid ((Only.of_below (S := Empty) hb2).alloc (.cells #[.int .i64 (k : Int), .int .u32 (t : Int), .string (strB key), .slice A2 n2 cap2, .int .i64 (cc : Int)] 172))
          clear hb2 hG2 hbw
          go_wp2
          go_roundw
          case rel => exact ⟨pl + size, true, acc, l', by go_num, rfl, hL, by simpa using Hr.out, Hbw2.out.alloc Hbw2.out.size _, Lib.hid (own_only hown.out HO2.out (fun _ _ _ h => h)), Lib.hid (hbl.out.only HO2.out (fun _ _ h => h.elim)), by omega, by omega⟩
          case measure => simp [intOf]; omega
      · obtain ⟨rfl, rfl, rfl⟩ : l = [] ∧ to = xs.length ∧ c = true := by
          cases hr with
          | stop _ _ h => omega
          | bad _ _ _ h => exact ⟨rfl, rfl, rfl⟩
          | go _ _ l' _ _ _ h _ => exact absurd h he
        obtain ⟨q, hq⟩ : ∃ q, q = out (xs.drop pl) := ⟨_, rfl⟩
        unfold RecOk at N1
        rw [← hq] at N1 he
        obtain ⟨k, t, key, blob, cc, size, whole, er⟩ := q
        simp only at N1 he
        have he1 : (er == 0) = false := by simpa using he
        have he2 : (er != 0) = true := by simp only [bne, he1]; rfl
        have hown2 := hown.out
        have Hl : Hid (xs.length = n) := Lib.hid HB.out.1
        clear hq hr he
        go_wp2_with fail
        refine N1.out.mono ?_
        rintro e2 w2 ⟨⟨A2, n2, cap2, rfl, hG2⟩, hb2⟩
        have hO2 := (Only.of_below (S := Empty) hb2).alloc (.cells #[.int .i64 (k : Int), .int .u32 (t : Int), .string (strB key), .slice A2 n2 cap2, .int .i64 (cc : Int)] 172)
        obtain ⟨A3, cap3, rfl, hG⟩ := GotF.of_own (own_only hown.out hO2 (fun _ _ _ h => h)) (hbl.out.only hO2 (fun _ _ h => h.elim))
        have Hbw2 := Lib.hid ((hbw.trans (hb2.mono hbw.size)).alloc (Nat.le_trans hbw.size hb2.size) (.cells #[.int .i64 (k : Int), .int .u32 (t : Int), .string (strB key), .slice A2 n2 cap2, .int .i64 (cc : Int)] 172))
        have HG := Lib.hid hG
        clear hb2 hG2 hbw hO2 hG hown2
        go_wp2
        rw [Exit.noGoto_ret]
        refine bodyPost_ret (v := .tuple #[.slice A3 acc.length cap3, .int .i64 (n : Int), .bool true]) (by simp [results, Tryz.results97, go_sem]) rfl ⟨⟨A3, _, cap3, acc, by rw [Hl.out], ?_, HG.out⟩, Hbw2.out⟩
        have h := hL.out
        rw [List.append_nil] at h
        exact h
    · obtain ⟨rfl, rfl, rfl⟩ : l = [] ∧ to = pl ∧ c = cl := by
        cases hr with
        | stop _ _ h => exact ⟨rfl, rfl, rfl⟩
        | bad _ _ h _ => omega
        | go _ _ l' _ _ h _ _ => omega
      have hown2 := hown.out
      obtain ⟨A2, cap2, rfl, hG⟩ := GotF.of_own hown.out hbl.out
      have Hb := Lib.hid hbw
      have HG := Lib.hid hG
      clear hbw hG hown2
      go_wp2_with fail
      rw [Exit.noGoto_ret]
      refine bodyPost_ret (v := .tuple #[.slice A2 acc.length cap2, .int .i64 (to : Int), .bool c]) (by simp [results, Tryz.results97, go_sem]) rfl ⟨⟨A2, _, cap2, acc, rfl, ?_, HG.out⟩, Hb.out⟩
      have h := hL.out
      rw [List.append_nil] at h
      exact h

end Go.Proofs.YtidbipbangifbaaGreatDoor

/- Txns in a map, as plain data; the walk over scan.countTxns. -/
namespace Go.Proofs.YtidbipbangifbaaGreatDoor
set_option maxRecDepth 100000
open Go.RowKit Go.Maps

def txnV (p : Nat × Bool) : Value := .agg #[.int .i64 (p.1 : Int), .bool p.2]
def txnD (p : Nat × Bool) : DataW Unit := .agg [.lit (.int .i64 (p.1 : Int)), .lit (.bool p.2)]
/-- How a txn reads. -/
def txnElem : Value → Option (DataW Unit × List MemPlace)
  | .agg ⟨[.int .i64 a, .bool b]⟩ => some (.agg [.lit (.int .i64 a), .lit (.bool b)], [])
  | _ => none
theorem txnElem_mk (p : Nat × Bool) : txnElem (txnV p) = some (txnD p, []) := rfl
theorem txnElem_inv {v : Value} {p : Nat × Bool} {ps : List MemPlace} (h : txnElem v = some (txnD p, ps)) : v = txnV p := by
  unfold txnElem at h
  split at h
  · simp only [txnD, Option.some.injEq, Prod.mk.injEq, DataW.agg.injEq, List.cons.injEq, DataW.lit.injEq, Lit.int.injEq, Lit.bool.injEq, true_and, and_true] at h
    obtain ⟨⟨h1, h2⟩, _⟩ := h
    unfold txnV
    rw [h1, h2]
  · cases h

theorem Tryz.txnKeyed : Keyed Tryz.prog 28 := int_keyed Tryz.underlying28
theorem Tryz.txnZero (w : World) : (zeroValue 206).run Tryz.prog w = .ok (txnV (0, false)) w := by kernel_rfl
theorem u32_wf {t : Nat} (h : t ≤ 4294967295) : (Lit.int .u32 (t : Int)).wf = true := by
  simp [Lit.wf, IntKind.min, IntKind.max, IntKind.bits, IntKind.signed]
  omega

/-- Block b is a map that has f t under each t. -/
def TxM (w : World) (b n : Nat) (f : Nat → Nat × Bool) : Prop :=
  ∃ D : DataW Unit, w.ownsMap Tryz.prog 28 txnElem b n D ∧ ∀ t : Nat, t ≤ 4294967295 → D.atKey (.int .u32 (t : Int)) (txnD (0, false)) = txnD (f t)
def put (f : Nat → Nat × Bool) (t : Nat) (p : Nat × Bool) : Nat → Nat × Bool := fun u => if u = t then p else f u

section
variable {w w' : World} {b n : Nat} {f : Nat → Nat × Bool}
theorem TxM.made (w : World) : TxM (w.alloc (.map #[] 0)) w.heap.size 0 (fun _ => (0, false)) := ⟨_, World.ownsMap_made _ _ _ _, fun _ _ => rfl⟩
theorem TxM.lt (h : TxM w b n f) : b < w.heap.size := by obtain ⟨D, h, _⟩ := h; exact h.lt
theorem TxM.kept {row : Option Nat} (h : TxM w b n f) (hg : w.grownBy w' row) (hne : some b ≠ row) : TxM w' b n f := by
  obtain ⟨D, h, hf⟩ := h
  exact ⟨D, h.kept hg hne, hf⟩
theorem TxM.alloc (h : TxM w b n f) (o : Obj) : TxM (w.alloc o) b n f := h.kept (World.grownBy_alloc w o none) (by simp)
theorem TxM.only {S : Nat → Prop} (h : TxM w b n f) (k : Only S w w') (hS : ¬ S b) : TxM w' b n f := by
  obtain ⟨D, ⟨es, clock, hb, F, hs, hD⟩, hf⟩ := h
  exact ⟨D, ⟨es, clock, (k.block b (Array.getElem?_eq_some_iff.1 hb).1 hS).trans hb, F, hs, hD⟩, hf⟩
theorem TxM.look (h : TxM w b n f) {t : Nat} (ht : t ≤ 4294967295) : (Instr.lookup 203 (.map (some b)) (.int .u32 (t : Int)) false).run Tryz.prog w = .ok (txnV (f t)) w := by
  obtain ⟨D, h, hf⟩ := h
  obtain ⟨v, ps, hrun, hv⟩ := h.lookup Tryz.txnKeyed Tryz.underlying203 (Tryz.txnZero w) (txnElem_mk (0, false)) (keyOf_int_mk Tryz.underlying28 (u32_wf ht))
  rw [hf t ht] at hv
  rw [hrun, txnElem_inv hv]

theorem wpList_txn_put {ops : Array Oper} {rest : List Oper} {o : Oper} {a : Act} {Q : Exit → Act → World → Prop} (hg : o.guard = none) (m x v : Operand) (hop : o.op = Op.mapUpdate 203 m x v)
    (b n : Nat) (f : Nat → Nat × Bool) (hm : a.eval m = .map (some b)) (hM : TxM w b n f) (hn : n < maxLen) (t : Nat) (ht : t ≤ 4294967295) (p : Nat × Bool) (hx : a.eval x = .int .u32 (t : Int)) (hv : a.eval v = txnV p)
    (hK : ∀ w', TxM w' b (n + 1) (put f t p) → w.grownBy w' (some b) → wpList Tryz.prog ops Q rest (a.put o.dst undef) w') : wpList Tryz.prog ops Q (o :: rest) a w := by
  obtain ⟨D, hown, hf⟩ := hM
  refine wpList_mapUpdate_own w hg m x v 203 hop 28 206 Tryz.txnKeyed Tryz.underlying203 txnElem b n D hm hown hn _ _ _ hx hv (keyOf_int_mk Tryz.underlying28 (u32_wf ht)) (txnD p) [] (txnElem_mk p) ?_
  intro w' h1 h2
  refine hK w' ⟨_, h1, fun u hu => ?_⟩ h2
  by_cases hut : u = t
  · subst hut
    rw [atKey_put_same hown.isMap (show WideAt.IsKeyLit (Lit.int .u32 (u : Int)) from trivial)]
    simp [put]
  · rw [atKey_put_other (by simp; omega), hf u hu]
    simp [put, hut]
end

/-- What a found record makes of the Txns. -/
def stepT (f : Nat → Nat × Bool) (d : FD) : Nat → Nat × Bool :=
  put f d.t (if d.k = 3 then (if d.c = ((f d.t).1 : Int) then ((f d.t).1, true) else f d.t) else ((f d.t).1 + 1, false))
def countT (l : List FD) : Nat → Nat × Bool := l.foldl stepT (fun _ => (0, false))
theorem countT_snoc (l : List FD) (d : FD) : countT (l ++ [d]) = stepT (countT l) d := by simp [countT, List.foldl_append]
theorem stepT_le (f : Nat → Nat × Bool) (d : FD) (m : Nat) (h : ∀ t, (f t).1 ≤ m) (t : Nat) : (stepT f d t).1 ≤ m + 1 := by
  have h1 := h t
  have h2 := h d.t
  unfold stepT put
  split
  · split
    · split
      · show (f d.t).1 ≤ m + 1
        omega
      · omega
    · show (f d.t).1 + 1 ≤ m + 1
      omega
  · omega
theorem foldT_le : ∀ (l : List FD) (f : Nat → Nat × Bool) (m : Nat), (∀ t, (f t).1 ≤ m) → ∀ t, (l.foldl stepT f t).1 ≤ m + l.length
  | [], f, m, h, t => h t
  | d :: l, f, m, h, t => by
    have := foldT_le l (stepT f d) (m + 1) (stepT_le f d m h) t
    rw [List.foldl_cons, List.length_cons]
    omega
theorem countT_le (l : List FD) (t : Nat) : (countT l t).1 ≤ l.length := by
  have := foldT_le l (fun _ => (0, false)) 0 (fun _ => Nat.le_refl _) t
  rw [Nat.zero_add] at this
  exact this

set_option maxHeartbeats 4000000 in
theorem count6_any (A : Option Addr) (n cap : Nat) (l : List Fd) (w : World) (hF : Founds w Empty A n cap l) (ht : ∀ f ∈ l, f.t ≤ 4294967295) (hm : n ≤ 1048576) :
    Calls Tryz.prog 126 #[.slice A n cap] w fun e w' => (e = .returned (.map (some w.heap.size)) ∧ TxM w' w.heap.size n (countT (l.map Fd.d))) ∧ Below w.heap.size w w' := by
  have hmm := @run_makeMap Tryz.prog
  have HF := Lib.hid hF
  have Ht := Lib.hid ht
  have hcap := hF.2.1
  have hcap2 : cap ≤ 9223372036854775807 := by have := hF.2.2.1; unfold maxLen at this; omega
  clear hF ht
  go_enter Tryz.func126, Tryz.ntmps126
  go_wp2_with fail
  clear hmm
  go_loopw [10] (fun v wr => ∃ i : Nat, i ≤ n ∧ v = .int .i64 (i : Int) ∧ Hid (TxM wr w.heap.size i (countT ((l.take i).map Fd.d))) ∧ Hid (Below w.heap.size w wr)) (fun v _ => n - (intOf v).toNat)
  case atStart => exact ⟨0, Nat.zero_le _, rfl, Lib.hid (TxM.made w), Lib.hid ((Below.refl _ _).alloc (Nat.le_refl _) _)⟩
  case round =>
    obtain ⟨i, hi, rfl, HM, HB⟩ := hrel
    by_cases hlt : i < n
    · obtain ⟨b, o, rfl, hb, -, hcl⟩ := HF.out.2.2.2.1 (by omega)
      obtain ⟨f, hf⟩ : ∃ f, l[i]? = some f := ⟨_, List.getElem?_eq_getElem (by have := HF.out.1; omega)⟩
      have hc := hcl i f hf
      have hft := Ht.out f (List.mem_of_getElem? hf)
      have htake := congrArg (fun z => z.map Fd.d) (take_one l i f hf)
      rw [List.map_append, List.map_cons, List.map_nil] at htake
      have hcnt : countT ((l.take (i + 1)).map Fd.d) = stepT (countT ((l.take i).map Fd.d)) f.d := by rw [htake, countT_snoc]
      have hle := countT_le ((l.take i).map Fd.d) f.t
      rw [List.length_map, List.length_take] at hle
      obtain ⟨pl, k, t, s, A1, m1, p1, c, xs⟩ := f
      obtain ⟨F, hFd⟩ : ∃ F, F = countT ((l.take i).map Fd.d) := ⟨_, rfl⟩
      rw [← hFd] at hcnt HM hle
      have hst : stepT F (Fd.mk pl k t s A1 m1 p1 c xs).d = put F t (if k = 3 then (if c = ((F t).1 : Int) then ((F t).1, true) else F t) else ((F t).1 + 1, false)) := rfl
      rw [hst] at hcnt
      simp only at hft hle
      have hcell : ∀ j, j < 6 → wr.cell? ⟨b, o + i * 6 + j, none⟩ = (Fd.mk pl k t s A1 m1 p1 c xs).cells[j]? := fun j hj => (HB.out.cell (p := ⟨b, o + i * 6 + j, none⟩) hb).trans (hc j hj)
      have d0 : wr.cell? ⟨b, o + i * 6, none⟩ = some (.int .i64 pl) := hcell 0 (by omega)
      have d1 : wr.cell? ⟨b, o + i * 6 + 1, none⟩ = some (.int .i64 k) := hcell 1 (by omega)
      have d2 : wr.cell? ⟨b, o + i * 6 + 2, none⟩ = some (.int .u32 (t : Int)) := hcell 2 (by omega)
      have d3 : wr.cell? ⟨b, o + i * 6 + 3, none⟩ = some (.string s) := hcell 3 (by omega)
      have d4 : wr.cell? ⟨b, o + i * 6 + 4, none⟩ = some (.slice A1 m1 p1) := hcell 4 (by omega)
      have d5 : wr.cell? ⟨b, o + i * 6 + 5, none⟩ = some (.int .i64 c) := hcell 5 (by omega)
      obtain ⟨x, y, hxy⟩ : ∃ x y, F t = (x, y) := ⟨_, _, rfl⟩
      rw [hxy] at hle hcnt
      simp only at hle hcnt
      have hlook := fun ob => (HM.out.alloc ob).look hft
      rw [hxy] at hlook
      unfold txnV at hlook
      clear hc hcl hf hst hcell hFd htake hxy
      have Hi : Hid (i < maxLen) := Lib.hid (by unfold maxLen; omega)
      by_cases hk : k = 3
      · by_cases hcx : c = (x : Int)
        · have q1 : (c == (x : Int)) = true := by simpa using hcx
          rw [if_pos hk, if_pos hcx] at hcnt
          have Hcnt := Lib.hid hcnt
          subst hk
          clear hcx hcnt
          go_wp2_with (at_mapUpdate; refine wpList_txn_put rfl _ _ _ rfl w.heap.size i F rfl ((HM.out.alloc _).alloc _) Hi.out t hft (x, true) rfl rfl ?_; intro w7 hm7 hg7)
          have HM7 := Lib.hid hm7
          rw [← Hcnt.out] at HM7
          have HB7 := Lib.hid (below_grown ((HB.out.alloc HB.out.size _).alloc (Nat.le_trans HB.out.size (by simp)) _) (Nat.le_trans HB.out.size (by simp; omega)) hg7 (fun q hq => by cases hq; exact Nat.le_refl _))
          clear hm7 hg7 hlook d0 d1 d2 d3 d4 d5
          go_roundw
          case rel => exact ⟨i + 1, by omega, by go_num, HM7, HB7⟩
          case measure => simp [intOf]; omega
        · have q1 : (c == (x : Int)) = false := by simpa using hcx
          rw [if_pos hk, if_neg hcx] at hcnt
          have Hcnt := Lib.hid hcnt
          subst hk
          clear hcx hcnt
          go_wp2_with (at_mapUpdate; refine wpList_txn_put rfl _ _ _ rfl w.heap.size i F rfl ((HM.out.alloc _).alloc _) Hi.out t hft (x, y) rfl rfl ?_; intro w7 hm7 hg7)
          have HM7 := Lib.hid hm7
          rw [← Hcnt.out] at HM7
          have HB7 := Lib.hid (below_grown ((HB.out.alloc HB.out.size _).alloc (Nat.le_trans HB.out.size (by simp)) _) (Nat.le_trans HB.out.size (by simp; omega)) hg7 (fun q hq => by cases hq; exact Nat.le_refl _))
          clear hm7 hg7 hlook d0 d1 d2 d3 d4 d5
          go_roundw
          case rel => exact ⟨i + 1, by omega, by go_num, HM7, HB7⟩
          case measure => simp [intOf]; omega
      · have q1 : (k == 3) = false := by simpa using hk
        have q2 : (k != 3) = true := by simp only [bne, q1]; rfl
        rw [if_neg hk] at hcnt
        have Hcnt := Lib.hid hcnt
        clear hk hcnt
        go_wp2_with (at_mapUpdate; refine wpList_txn_put rfl _ _ _ rfl w.heap.size i F rfl ((HM.out.alloc _).alloc _) Hi.out t hft (x + 1, false) rfl rfl ?_; intro w7 hm7 hg7)
        have HM7 := Lib.hid hm7
        rw [← Hcnt.out] at HM7
        have HB7 := Lib.hid (below_grown ((HB.out.alloc HB.out.size _).alloc (Nat.le_trans HB.out.size (by simp)) _) (Nat.le_trans HB.out.size (by simp; omega)) hg7 (fun q hq => by cases hq; exact Nat.le_refl _))
        clear hm7 hg7 hlook d0 d1 d2 d3 d4 d5
        go_roundw
        case rel => exact ⟨i + 1, by omega, by go_num, HM7, HB7⟩
        case measure => simp [intOf]; omega
    · obtain rfl : i = n := by omega
      rw [List.take_of_length_le (by rw [HF.out.1]; omega)] at HM
      go_wp2_with fail
      go_ret
      exact ⟨⟨rfl, HM.out⟩, HB.out⟩

end Go.Proofs.YtidbipbangifbaaGreatDoor

/- Rows of a call's own that stand side by side: what grows one leaves the others. -/
namespace Go.Proofs.YtidbipbangifbaaGreatDoor
set_option maxRecDepth 100000
open Go.RowKit

section
variable {w w' : World} {base base' n n' size size' : Nat} {e e' : TypeId} {v v' : Value} {xs xs' : List Value}

theorem own_ne (h : w.ownsRow base e size v n xs) (h' : w.ownsRow base' e' size' v' n' xs') (hne : e ≠ e') : v.ownBlock = none ∨ v.ownBlock ≠ v'.ownBlock := by
  rcases h.2 with ⟨rfl, _⟩ | ⟨g, cap, cur, rfl, _, hh, _⟩
  · exact Or.inl rfl
  · rcases h'.2 with ⟨rfl, _⟩ | ⟨g', cap', cur', rfl, _, hh', _⟩
    · exact Or.inr (by simp [Value.ownBlock])
    · refine Or.inr fun he => ?_
      simp [Value.ownBlock] at he
      subst he
      rw [hh] at hh'
      simp only [Option.some.injEq, Obj.cells.injEq] at hh'
      exact hne hh'.2.1

theorem blk_ne {g : Nat} {t : TypeId} {cs : Array Value} (h : w.ownsRow base e size v n xs) (hb : Blk w g t cs) (hne : e ≠ t) : ¬ v.ownBlock = some g := by
  intro he
  rcases h.2 with ⟨rfl, _⟩ | ⟨g', cap, cur, rfl, _, hh, _⟩
  · cases he
  · simp [Value.ownBlock] at he
    subst he
    exact hne ((Blk.ne_ (w := w) (g := g') (t := e) (t' := t) hh hb · rfl) |> fun k => Classical.byContradiction fun hk => k hk)

/-- A block of another type stays while a row grows. -/
theorem Blk.row {g : Nat} {t : TypeId} {cs : Array Value} (hb : Blk w g t cs) (h : w.ownsRow base e size v n xs) (hne : e ≠ t) (hg : w.grownBy w' v.ownBlock) : Blk w' g t cs :=
  hb.of (hg.block g hb.lt (fun he => blk_ne h hb hne he.symm))

/-- A block of five cells, cell by cell. -/
theorem Blk.five {g : Nat} {t : TypeId} {a b c d u : Value} (h : Blk w g t #[a, b, c, d, u]) :
    w.cell? ⟨g, 0, none⟩ = some a ∧ w.cell? ⟨g, 1, none⟩ = some b ∧ w.cell? ⟨g, 2, none⟩ = some c ∧ w.cell? ⟨g, 3, none⟩ = some d ∧ w.cell? ⟨g, 4, none⟩ = some u :=
  ⟨h.cell 0, h.cell 1, h.cell 2, h.cell 3, h.cell 4⟩

/-- Bytes of the call's own stay while a row of another type grows. -/
theorem Got.row {A : Option Addr} {m cap : Nat} {zs : List UInt8} (h : Got base w A m cap zs) (ho : w.ownsRow base' e size v n xs) (hne : 5 ≠ e) (hg : w.grownBy w' v.ownBlock) : Got base w' A m cap zs := by
  have h1 := h.own.kept hg (own_ne h.own ho hne)
  obtain ⟨A', cap', he, h2⟩ := Got.of_own h1
  cases he
  exact h2
end

/-- append of bytes onto bytes of the call's own: the new value is a slice, too. -/
theorem wpList_append_got {ops : Array Oper} {rest : List Oper} {o : Oper} {a : Act} {w : World} {Q : Exit → Act → World → Prop} (hgd : o.guard = none) (s x : Operand)
    (hq : o.op = .call { callee := .builtin .append, args := #[s, x], argTypes := #[22, 22] })
    (base : Nat) (A : Option Addr) (n cap : Nat) (zs : List UInt8) (hs : a.eval s = .slice A n cap) (hG : Got base w A n cap zs) (B : Option Addr) (m c : Nat) (ys : List UInt8) (hx : a.eval x = .slice B m c)
    (hB : ByteSl w Empty B m c ys) (hBn : B = none → m = 0 ∧ c = 0) (hm : n + m ≤ 16777216) (hbase : base ≤ w.heap.size)
    (h : ∀ A' c' w', Got base w' A' (n + m) c' (zs ++ ys) → w.grownBy w' (Value.slice A n cap).ownBlock → (∀ q, (Value.slice A n cap).ownBlock = some q → base ≤ q) → wpList Tryz.prog ops Q rest (a.put o.dst (.slice A' (n + m) c')) w') : wpList Tryz.prog ops Q (o :: rest) a w := by
  refine wpList_append_bytes hgd s x hq base _ hs n zs hG.own B m c ys Empty hx hB hBn hm hbase ?_
  intro v' w' h1 h2 _
  obtain ⟨A', c', rfl, hG'⟩ := Got.of_own h1
  exact h A' c' w' hG' h2 (fun q hq => (hG.own.lt q hq).1)

/-- A row that was just made, with no bytes. -/
theorem got_made (w : World) (base : Nat) (h : base ≤ w.heap.size) : Got base (w.alloc (.cells #[] 5)) (some ⟨w.heap.size, 0, none⟩) 0 0 [] :=
  ⟨own_made w base h, ByteSl.nil_ _ _ _ _ (by simp [maxLen]), fun h => by cases h⟩

theorem below_got {B : Nat} {a w w' : World} {A : Option Addr} {n cap base : Nat} (h : Below B a w) (hB : B ≤ w.heap.size) (g : w.grownBy w' (Value.slice A n cap).ownBlock) (hr : ∀ q, (Value.slice A n cap).ownBlock = some q → base ≤ q) (hb : B ≤ base) : Below B a w' :=
  below_grown h hB g (fun q hq => Nat.le_trans hb (hr q hq))

end Go.Proofs.YtidbipbangifbaaGreatDoor

/- The walks over bytes.Clone and scan.Commits. -/
namespace Go.Proofs.YtidbipbangifbaaGreatDoor
set_option maxRecDepth 100000
open Go.RowKit Go.Maps

theorem clone_any (A : Option Addr) (n cap : Nat) (xs : List UInt8) (w : World) (hB : ByteSl w Empty A n cap xs) (hA : A = none → n = 0 ∧ cap = 0) (hm : n ≤ 16777216) :
    Calls Tryz.prog 103 #[.slice A n cap] w fun e w' => (∃ A' cap', e = .returned (.slice A' n cap') ∧ Got w.heap.size w' A' n cap' xs) ∧ Below w.heap.size w w' := by
  have HB := Lib.hid hB
  rcases A with _ | ad
  · obtain ⟨rfl, rfl⟩ := hA rfl
    have hx : xs = [] := List.eq_nil_of_length_eq_zero hB.1
    subst hx
    clear hA hB
    have he := fun W => Lib.run_eql_slice_nil (P := Tryz.prog) W 22 5 none 0 0 0 0 Tryz.underlying22
    go_enter Tryz.func103, Tryz.ntmps103
    go_wp2
    go_ret
    exact ⟨⟨none, 0, rfl, Got.nil_ _ _⟩, Below.refl _ _⟩
  · have he := fun W => Lib.run_eql_slice_nil (P := Tryz.prog) W 22 5 (some ad) n cap 0 0 Tryz.underlying22
    have HO := Lib.hid (own_made w w.heap.size (Nat.le_refl _))
    have HB0 := Lib.hid ((Below.refl w.heap.size w).alloc (Nat.le_refl _) (.cells #[] 5))
    have HX := Lib.hid (HB.out.only (Only.of_below (S := Empty) HB0.out) (fun _ _ h => h))
    have HA := Lib.hid hA
    clear hB hA
    go_enter Tryz.func103, Tryz.ntmps103
    go_wp2_with (at_builtin; refine wpList_append_bytes rfl (.tmp 5) (.tmp 6) rfl w.heap.size _ rfl 0 [] HO.out (some ad) n cap xs Empty rfl HX.out HA.out (by omega) HB0.out.size ?_; intro v2 w2 hown2 hg2 _)
    have hown3 : w2.ownsRow w.heap.size 5 1 v2 n (xs.map B8) := by simpa using hown2
    obtain ⟨A2, c2, rfl, hG2⟩ := Got.of_own hown3
    have hlt := HO.out.lt
    have HB2 := Lib.hid (below_grown HB0.out HB0.out.size hg2 (fun q hq => (hlt q hq).1))
    have HG2 := Lib.hid hG2
    clear hown2 hown3 hg2 hG2 hlt he
    go_ret
    exact ⟨⟨A2, c2, rfl, HG2.out⟩, HB2.out⟩

/-- The records that count. -/
def keepT (F : Nat → Nat × Bool) (d : FD) : Bool := decide (d.k ≠ 3) && (F d.t).2
def commitsF (l : List FD) : List FD := l.filter (keepT (countT l))

set_option maxHeartbeats 4000000 in
theorem commits_any (A : Option Addr) (n cap : Nat) (l : List Fd) (w : World) (hF : Founds w Empty A n cap l) (ht : ∀ f ∈ l, f.t ≤ 4294967295) (hm : n ≤ 1048576) (hbl : ∀ f ∈ l, f.n ≤ 16777216) :
    Calls Tryz.prog 98 #[.slice A n cap] w fun e w' => (∃ A' n' cap' l', e = .returned (.slice A' n' cap') ∧ l'.map Fd.d = commitsF (l.map Fd.d) ∧ GotF w.heap.size w' A' n' cap' l') ∧ Below w.heap.size w w' := by
  have HF := Lib.hid hF
  have Ht := Lib.hid ht
  have Hbl := Lib.hid hbl
  have N1 := Lib.hid (count6_any A n cap l w hF ht hm)
  have hcap := hF.2.1
  have hcap2 : cap ≤ 9223372036854775807 := by have := hF.2.2.1; unfold maxLen at this; omega
  obtain ⟨F, hFe⟩ : ∃ F, F = countT (l.map Fd.d) := ⟨_, rfl⟩
  unfold commitsF
  rw [← hFe] at N1 ⊢
  clear hF ht hbl hFe
  go_enter Tryz.func98, Tryz.ntmps98
  go_wp2_with fail
  refine N1.out.mono ?_
  rintro e1 w1 ⟨⟨rfl, hM1⟩, hb1⟩
  have HM1 := Lib.hid hM1
  have HB1 := Lib.hid hb1
  have hz1 : w.heap.size < w1.heap.size := hM1.lt
  clear hM1 hb1
  go_wp2_with fail
  go_loopw [4, 11] (fun v4 v wr => ∃ (i : Nat) (acc : List Fd), i ≤ n ∧ v = .int .i64 (i : Int) ∧ Hid (acc.map Fd.d = ((l.take i).map Fd.d).filter (keepT F)) ∧ acc.length ≤ i ∧ Hid (TxM wr w.heap.size n F) ∧ Hid (Below w.heap.size w wr) ∧ Hid (w.heap.size < wr.heap.size) ∧
    Hid (wr.ownsRow (w.heap.size + 1) 174 6 v4 acc.length (acc.flatMap Fd.cells)) ∧ Hid (Blobs wr (fun q => v4.ownBlock = some q) acc)) (fun _ v _ => n - (intOf v).toNat)
  case atStart => exact ⟨0, [], Nat.zero_le _, rfl, Lib.hid rfl, Nat.le_refl _, HM1, HB1, Lib.hid hz1, Lib.hid (World.ownsRow_nil _ _ _ _), Lib.hid (Blobs.nil_ _ _)⟩
  case round =>
    obtain ⟨i, acc, hi, rfl, Hacc, hal, HM, HB, Hz, HO, HBl⟩ := hrel
    clear hz1
    have hz := Hz.out
    by_cases hlt : i < n
    · obtain ⟨b, o, rfl, hb, -, hcl⟩ := HF.out.2.2.2.1 (by omega)
      obtain ⟨f, hf⟩ : ∃ f, l[i]? = some f := ⟨_, List.getElem?_eq_getElem (by have := HF.out.1; omega)⟩
      have hc := hcl i f hf
      have hmem := List.mem_of_getElem? hf
      have hft := Ht.out f hmem
      have hfn := Hbl.out f hmem
      have hfb := HF.out.2.2.2.2 f hmem
      have htake : ((l.take (i + 1)).map Fd.d).filter (keepT F) = ((l.take i).map Fd.d).filter (keepT F) ++ (if keepT F f.d = true then [f.d] else []) := by
        rw [take_one l i f hf, List.map_append, List.filter_append]
        simp only [List.map_cons, List.map_nil, List.filter_cons, List.filter_nil]
      rw [← Hacc.out] at htake
      obtain ⟨pl, k, t, s, A1, m1, p1, c, xs⟩ := f
      simp only at hft hfn hfb
      have hcell : ∀ j, j < 6 → wr.cell? ⟨b, o + i * 6 + j, none⟩ = (Fd.mk pl k t s A1 m1 p1 c xs).cells[j]? := fun j hj => (HB.out.cell (p := ⟨b, o + i * 6 + j, none⟩) hb).trans (hc j hj)
      have d0 : wr.cell? ⟨b, o + i * 6, none⟩ = some (.int .i64 pl) := hcell 0 (by omega)
      have d1 : wr.cell? ⟨b, o + i * 6 + 1, none⟩ = some (.int .i64 k) := hcell 1 (by omega)
      have d2 : wr.cell? ⟨b, o + i * 6 + 2, none⟩ = some (.int .u32 (t : Int)) := hcell 2 (by omega)
      have d3 : wr.cell? ⟨b, o + i * 6 + 3, none⟩ = some (.string s) := hcell 3 (by omega)
      have d4 : wr.cell? ⟨b, o + i * 6 + 4, none⟩ = some (.slice A1 m1 p1) := hcell 4 (by omega)
      have d5 : wr.cell? ⟨b, o + i * 6 + 5, none⟩ = some (.int .i64 c) := hcell 5 (by omega)
      obtain ⟨x, y, hxy⟩ : ∃ x y, F t = (x, y) := ⟨_, _, rfl⟩
      have hlook := fun ob => (HM.out.alloc ob).look hft
      rw [hxy] at hlook
      unfold txnV at hlook
      have hfld : ∀ W, (Instr.field 206 (.agg #[.int .i64 (x : Int), .bool y]) 1).run Tryz.prog W = .ok (.bool y) W := fun _ => by kernel_rfl
      have Hfb := Lib.hid hfb
      have hO1 := (Only.refl Empty wr).alloc (.cells #[.int .i64 pl, .int .i64 k, .int .u32 (t : Int), .string s, .slice A1 m1 p1, .int .i64 c] 174)
      have HM2 := Lib.hid (HM.out.alloc (.cells #[.int .i64 pl, .int .i64 k, .int .u32 (t : Int), .string s, .slice A1 m1 p1, .int .i64 c] 174))
      have HB2 := Lib.hid (HB.out.alloc HB.out.size (.cells #[.int .i64 pl, .int .i64 k, .int .u32 (t : Int), .string s, .slice A1 m1 p1, .int .i64 c] 174))
      have HO2 := Lib.hid (HO.out.alloc (.cells #[.int .i64 pl, .int .i64 k, .int .u32 (t : Int), .string s, .slice A1 m1 p1, .int .i64 c] 174))
      have HBl2 := Lib.hid (HBl.out.only hO1 (fun _ _ h => h.elim))
      have HK2 := Lib.hid (Blk.new wr 174 #[.int .i64 pl, .int .i64 k, .int .u32 (t : Int), .string s, .slice A1 m1 p1, .int .i64 c])
      have Hz2 : Hid (w.heap.size < (wr.alloc (.cells #[.int .i64 pl, .int .i64 k, .int .u32 (t : Int), .string s, .slice A1 m1 p1, .int .i64 c] 174)).heap.size) := Lib.hid (by simp; omega)
      clear hc hcl hf hmem hcell hfb hO1
      by_cases hk : k = 3
      · have hkt : keepT F (Fd.mk pl k t s A1 m1 p1 c xs).d = false := by unfold keepT Fd.d; simp [hk]
        rw [hkt, if_neg (by simp), List.append_nil] at htake
        have Htake := Lib.hid htake.symm
        subst hk
        clear htake hxy hkt
        go_wp2
        go_roundw
        case rel => exact ⟨i + 1, acc, by omega, by go_num, Htake, by omega, HM2, HB2, Hz2, HO2, HBl2⟩
        case measure => simp [intOf]; omega
      · have q1 : (k == 3) = false := by simpa using hk
        have q2 : (k != 3) = true := by simp only [bne, q1]; rfl
        cases y with
        | false =>
          have hkt : keepT F (Fd.mk pl k t s A1 m1 p1 c xs).d = false := by unfold keepT Fd.d; simp [hxy]
          rw [hkt, if_neg (by simp), List.append_nil] at htake
          have Htake := Lib.hid htake.symm
          clear htake hxy hkt hk
          go_wp2
          go_roundw
          case rel => exact ⟨i + 1, acc, by omega, by go_num, Htake, by omega, HM2, HB2, Hz2, HO2, HBl2⟩
          case measure => simp [intOf]; omega
        | true =>
          have hkt : keepT F (Fd.mk pl k t s A1 m1 p1 c xs).d = true := by unfold keepT Fd.d; simp [hxy, hk]
          rw [hkt, if_pos rfl] at htake
          have Htake := Lib.hid htake.symm
          clear htake hxy hkt hk
          have HX := Lib.hid (Hfb.out.1.only (Only.of_below (S := Empty) HB2.out) (fun _ _ h => h))
          go_wp2_with fail
          refine (clone_any A1 m1 p1 xs _ HX.out Hfb.out.2 hfn).mono ?_
          rintro e7 w7 ⟨⟨A7, c7, rfl, hG7⟩, hb7⟩
          have hz7 : wr.heap.size < w7.heap.size := by have := hb7.size; simp at this; omega
          have hK7 := HK2.out.of (hb7.block wr.heap.size (by simp))
          have HK8 := Lib.hid (show Blk (w7.setCell ⟨wr.heap.size, 4, none⟩ (.slice A7 m1 c7)) wr.heap.size 174 #[.int .i64 pl, .int .i64 k, .int .u32 (t : Int), .string s, .slice A7 m1 c7, .int .i64 c] from hK7.set_ 4 (.slice A7 m1 c7))
          have x0 := hK7.cell 0
          have x1 := hK7.cell 1
          have x2 := hK7.cell 2
          have x3 := hK7.cell 3
          have x4 := hK7.cell 4
          have x5 := hK7.cell 5
          have g4 := hK7.frozen 4
          simp at x0 x1 x2 x3 x4 x5
          have y0 := HK8.out.cell 0
          have y1 := HK8.out.cell 1
          have y2 := HK8.out.cell 2
          have y3 := HK8.out.cell 3
          have y4 := HK8.out.cell 4
          have y5 := HK8.out.cell 5
          simp at y0 y1 y2 y3 y4 y5
          obtain ⟨f, hf⟩ : ∃ f : Fd, f = ⟨pl, k, t, s, A7, m1, c7, c, xs⟩ := ⟨_, rfl⟩
          have hfd : f.d = (Fd.mk pl k t s A1 m1 p1 c xs).d := by rw [hf]; rfl
          have hFd : f.A = A7 ∧ f.n = m1 ∧ f.cap = c7 ∧ f.blob = xs := by rw [hf]; exact ⟨rfl, rfl, rfl, rfl⟩
          have hcells : f.cells.toArray = #[.int .i64 pl, .int .i64 k, .int .u32 (t : Int), .string s, .slice A7 m1 c7, .int .i64 c] := by rw [hf]; rfl
          have hlt4 := HO.out.lt
          have hO9 : Only Empty wr ((w7.setCell ⟨wr.heap.size, 4, none⟩ (.slice A7 m1 c7)).alloc (.cells #[.int .i64 pl, .int .i64 k, .int .u32 (t : Int), .string s, .slice A7 m1 c7, .int .i64 c] 174)) :=
            ((((Only.refl Empty wr).alloc (.cells #[.int .i64 pl, .int .i64 k, .int .u32 (t : Int), .string s, .slice A1 m1 p1, .int .i64 c] 174)).trans (Only.of_below (S := Empty) hb7)).setCell (p := ⟨wr.heap.size, 4, none⟩) (Or.inr (Nat.le_refl _)) (.slice A7 m1 c7)).alloc _
          have hB9 := HB.out.trans (hO9.below (B := w.heap.size) HB.out.size (fun _ _ h => h))
          obtain ⟨A8, c8, e8, hB8, -⟩ := ByteSl.of_own (S := fun q => Value.ownBlock u4 = some q ∨ q = wr.heap.size) hG7.own (fun q h1 _ h2 => by
            simp at h1
            rcases h2 with h2 | h2
            · have := (hlt4 q h2).2; omega
            · omega)
          cases e8
          have hS : Only (· = wr.heap.size) w7 ((w7.setCell ⟨wr.heap.size, 4, none⟩ (.slice A7 m1 c7)).alloc (.cells #[.int .i64 pl, .int .i64 k, .int .u32 (t : Int), .string s, .slice A7 m1 c7, .int .i64 c] 174)) := ((Only.refl (· = wr.heap.size) w7).setCell (p := ⟨wr.heap.size, 4, none⟩) (Or.inl rfl) _).alloc _
          have hB10 := (hB8.only hS (fun q _ h => Or.inr h)).mono (T := fun q => Value.ownBlock u4 = some q) (fun q _ h => Or.inl h)
          have HB10 : Hid (ByteSl ((w7.setCell ⟨wr.heap.size, 4, none⟩ (.slice A7 m1 c7)).alloc (.cells #[.int .i64 pl, .int .i64 k, .int .u32 (t : Int), .string s, .slice A7 m1 c7, .int .i64 c] 174)) (fun q => Value.ownBlock u4 = some q) f.A f.n f.cap f.blob) := Lib.hid (by rw [hFd.1, hFd.2.1, hFd.2.2.1, hFd.2.2.2]; exact hB10)
          have HN10 : Hid (f.A = none → f.n = 0 ∧ f.cap = 0) := Lib.hid (by rw [hFd.1, hFd.2.1, hFd.2.2.1]; exact hG7.isNil)
          have HO9 := Lib.hid (own_only HO.out hO9 (fun _ _ _ h => h))
          have HBl9 := Lib.hid (HBl.out.only hO9 (fun _ _ h => h.elim))
          have HM9 := Lib.hid (HM.out.only hO9 (fun h => h))
          have HB9 := Lib.hid hB9
          have hK9 : Blk ((w7.setCell ⟨wr.heap.size, 4, none⟩ (.slice A7 m1 c7)).alloc (.cells #[.int .i64 pl, .int .i64 k, .int .u32 (t : Int), .string s, .slice A7 m1 c7, .int .i64 c] 174)) w7.heap.size 174 f.cells.toArray := by
            rw [hcells]
            have h := Blk.new (w7.setCell ⟨wr.heap.size, 4, none⟩ (.slice A7 m1 c7)) 174 #[.int .i64 pl, .int .i64 k, .int .u32 (t : Int), .string s, .slice A7 m1 c7, .int .i64 c]
            have hsz : (w7.setCell ⟨wr.heap.size, 4, none⟩ (.slice A7 m1 c7)).heap.size = w7.heap.size := by simp [World.setCell]
            rw [hsz] at h
            exact h
          have HK9 := Lib.hid hK9
          have Hmm : Hid (acc.length + 1 ≤ 1048576) := Lib.hid (by omega)
          have Hbs : Hid (w.heap.size + 1 ≤ ((w7.setCell ⟨wr.heap.size, 4, none⟩ (.slice A7 m1 c7)).alloc (.cells #[.int .i64 pl, .int .i64 k, .int .u32 (t : Int), .string s, .slice A7 m1 c7, .int .i64 c] 174)).heap.size) := Lib.hid (by have := hO9.size; omega)
          have Hfd := Lib.hid hfd
          clear hK7 hf hfd hFd hcells hlt4 hO9 hB9 hB8 hS hB10 hK9 hG7 hb7 hlook hfld
          go_wp2_with (at_builtin; refine wpList_append_found rfl (.tmp 33) (.tmp 35) rfl (w.heap.size + 1) u4 rfl acc HO9.out f w7.heap.size rfl HK9.out Hmm.out Hbs.out ?_; intro v8 w8 hown8 hg8 hat8)
          have hlt9 := HO9.out.lt
          have HB11 := Lib.hid (below_grown HB9.out HB9.out.size hg8 (fun q hq => by have := (hlt9 q hq).1; omega))
          have HM11 := Lib.hid (HM9.out.kept hg8 (fun e => by have := (hlt9 w.heap.size e.symm).1; omega))
          have HBl11 := Lib.hid (HBl9.out.append HB10.out HN10.out hg8 hat8)
          have HO11 := Lib.hid hown8
          have Hz11 : Hid (w.heap.size < w8.heap.size) := Lib.hid (by have := hg8.size; have := Hbs.out; omega)
          have HT11 : Hid ((acc ++ [f]).map Fd.d = ((l.take (i + 1)).map Fd.d).filter (keepT F)) := Lib.hid (by rw [List.map_append, List.map_cons, List.map_nil, Hfd.out]; exact Htake.out)
          have Hl11 : Hid ((acc ++ [f]).length ≤ i + 1) := Lib.hid (by simp; omega)
          clear hlt9 hg8 hat8 hown8 x0 x1 x2 x3 x4 x5 g4 y0 y1 y2 y3 y4 y5 d0 d1 d2 d3 d4 d5
          go_roundw
          case rel => exact ⟨i + 1, acc ++ [f], by omega, by go_num, HT11, Hl11.out, HM11, HB11, Hz11, HO11, HBl11⟩
          case measure => simp [intOf]; omega
    · obtain rfl : i = n := by omega
      rw [List.take_of_length_le (by rw [HF.out.1]; omega)] at Hacc
      obtain ⟨A2, cap2, rfl, hG⟩ := GotF.of_own (own_base HO.out (show w.heap.size ≤ w.heap.size + 1 by omega)) HBl.out
      have HG := Lib.hid hG
      clear hG
      go_wp2_with fail
      go_ret
      exact ⟨⟨A2, _, cap2, acc, rfl, Hacc.out, HG.out⟩, HB.out⟩

end Go.Proofs.YtidbipbangifbaaGreatDoor
