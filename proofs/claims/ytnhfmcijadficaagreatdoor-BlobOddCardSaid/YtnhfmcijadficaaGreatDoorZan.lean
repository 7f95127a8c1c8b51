/- Found records as plain data, and as they lie in memory: rows of them that a call has made, rows of them that are read. -/
import Derived.Test.YtnhfmcijadficaaGreatDoorZam
namespace Go.Proofs.YtnhfmcijadficaaGreatDoor
set_option maxRecDepth 100000
open Go.RowKit

/-- A found record as plain data. -/
structure FD where
  pl : Int
  k : Int
  t : Nat
  key : List UInt8
  blob : List UInt8
  c : Int

/-- A found record as it lies in memory, and what its blob reads as. -/
structure Fd where
  pl : Int
  k : Int
  t : Nat
  s : ByteArray
  A : Option Addr
  n : Nat
  cap : Nat
  c : Int
  blob : List UInt8

def Fd.d (f : Fd) : FD := ⟨f.pl, f.k, f.t, f.s.data.toList, f.blob, f.c⟩
def Fd.cells (f : Fd) : List Value := [.int .i64 f.pl, .int .i64 f.k, .int .u32 (f.t : Int), .string f.s, .slice f.A f.n f.cap, .int .i64 f.c]

theorem cells_at : ∀ (l : List Fd) (i j : Nat) (f : Fd), l[i]? = some f → j < 6 → (l.flatMap Fd.cells)[i * 6 + j]? = f.cells[j]?
  | [], i, j, f, h, _ => by simp at h
  | g :: l, 0, j, f, h, hj => by
    simp only [List.getElem?_cons_zero, Option.some.injEq] at h
    subst h
    rw [List.flatMap_cons, List.getElem?_append_left (by show 0 * 6 + j < 6; omega), Nat.zero_mul, Nat.zero_add]
  | g :: l, i + 1, j, f, h, hj => by
    have h6 : g.cells.length = 6 := rfl
    rw [List.flatMap_cons, List.getElem?_append_right (by rw [h6]; omega), h6, show (i + 1) * 6 + j - 6 = i * 6 + j by omega]
    exact cells_at l i j f (by simpa using h) hj

theorem cells_len : ∀ l : List Fd, (l.flatMap Fd.cells).length = l.length * 6
  | [] => rfl
  | g :: l => by
    have h6 : g.cells.length = 6 := rfl
    rw [List.flatMap_cons, List.length_append, cells_len l, List.length_cons, h6]
    omega

/-- Each record's blob reads as its bytes, in a block that isn't in S. -/
def Blobs (w : World) (S : Nat → Prop) (l : List Fd) : Prop := ∀ f ∈ l, ByteSl w S f.A f.n f.cap f.blob ∧ (f.A = none → f.n = 0 ∧ f.cap = 0)

section
variable {w w' : World} {S T : Nat → Prop} {l : List Fd}
theorem Blobs.nil_ (w : World) (S : Nat → Prop) : Blobs w S [] := fun f h => by cases h
theorem Blobs.only (h : Blobs w S l) (k : Only T w w') (hT : ∀ i, i < w.heap.size → T i → S i) : Blobs w' S l := fun f hf => ⟨(h f hf).1.only k hT, (h f hf).2⟩
theorem Blobs.mono (h : Blobs w S l) (hT : ∀ i, i < w.heap.size → T i → S i) : Blobs w T l := fun f hf => ⟨(h f hf).1.mono hT, (h f hf).2⟩
theorem Blobs.snoc (h : Blobs w S l) {f : Fd} (hf : ByteSl w S f.A f.n f.cap f.blob) (hn : f.A = none → f.n = 0 ∧ f.cap = 0) : Blobs w S (l ++ [f]) := fun g hg => by
  rcases List.mem_append.1 hg with hg | hg
  · exact h g hg
  · rw [List.mem_singleton] at hg
    subst hg
    exact ⟨hf, hn⟩
end

/-- The slice value reads as these found records; it and their blobs lie in blocks that aren't in S. -/
def Founds (w : World) (S : Nat → Prop) (A : Option Addr) (n cap : Nat) (l : List Fd) : Prop :=
  l.length = n ∧ n ≤ cap ∧ cap ≤ maxLen ∧ (0 < n → ∃ b o, A = some ⟨b, o, none⟩ ∧ b < w.heap.size ∧ ¬ S b ∧ ∀ i f, l[i]? = some f → ∀ j, j < 6 → w.cell? ⟨b, o + i * 6 + j, none⟩ = f.cells[j]?) ∧ Blobs w S l

section
variable {w w' : World} {S T : Nat → Prop} {A : Option Addr} {n cap : Nat} {l : List Fd}
theorem Founds.only (h : Founds w S A n cap l) (k : Only T w w') (hT : ∀ i, i < w.heap.size → T i → S i) : Founds w' S A n cap l :=
  ⟨h.1, h.2.1, h.2.2.1, fun hn => by
    obtain ⟨b, o, e, hb, hs, hc⟩ := h.2.2.2.1 hn
    exact ⟨b, o, e, Nat.lt_of_lt_of_le hb k.size, hs, fun i f hf j hj => (k.cell (p := ⟨b, o + i * 6 + j, none⟩) hb (fun ht => hs (hT _ hb ht))).trans (hc i f hf j hj)⟩, h.2.2.2.2.only k hT⟩
theorem Founds.mono (h : Founds w S A n cap l) (hT : ∀ i, i < w.heap.size → T i → S i) : Founds w T A n cap l :=
  ⟨h.1, h.2.1, h.2.2.1, fun hn => by
    obtain ⟨b, o, e, hb, hs, hc⟩ := h.2.2.2.1 hn
    exact ⟨b, o, e, hb, fun ht => hs (hT _ hb ht), hc⟩, h.2.2.2.2.mono hT⟩

/-- What a call has made so far reads as what it laid. -/
theorem Founds.of_own {base : Nat} {v : Value} (h : w.ownsRow base 190 6 v l.length (l.flatMap Fd.cells)) (hb : Blobs w S l) (hS : ∀ k, base ≤ k → k < w.heap.size → v.ownBlock = some k → ¬ S k) :
    ∃ A cap, v = .slice A l.length cap ∧ Founds w S A l.length cap l := by
  rcases h.2 with ⟨rfl, h0⟩ | ⟨g, cap, cur, rfl, hg, hh, hnc, hm, hs, ht⟩
  · exact ⟨none, 0, by rw [h0], rfl, by omega, by simp [maxLen], fun hn => absurd hn (by omega), hb⟩
  · have hlt : g < w.heap.size := (Array.getElem?_eq_some_iff.1 hh).1
    refine ⟨_, cap, rfl, rfl, hnc, hm, fun _ => ⟨g, 0, rfl, hlt, hS g hg hlt rfl, fun i f hf j hj => ?_⟩, hb⟩
    have h6 : f.cells.length = 6 := rfl
    have hc := h.cells (g := g) rfl (i * 6 + j) (f.cells[j]'(by omega)) (by rw [cells_at l i j f hf hj]; exact List.getElem?_eq_getElem (by omega))
    have ha : (⟨g, 0, none⟩ : Addr).add (i * 6 + j) = ⟨g, 0 + i * 6 + j, none⟩ := by unfold Addr.add; split <;> simp_all
    rw [ha] at hc
    rw [hc]
    exact (List.getElem?_eq_getElem (by omega)).symm
end

theorem Tryz.infoFound : (Tryz.prog.info? 190).map (fun i => (i.zero, i.size, i.bytes)) = some (some (.agg #[.int .i64 0, .int .i64 0, .int .u32 0, .string ⟨#[]⟩, .slice none 0 0, .int .i64 0]), 6, 72) := by kernel_rfl

/-- append of one found record, which lies in a block of its own, onto a row of the call's own. -/
theorem wpList_append_found {ops : Array Oper} {rest : List Oper} {o : Oper} {a : Act} {w : World} {Q : Exit → Act → World → Prop} (hgd : o.guard = none) (s x : Operand)
    (hq : o.op = .call { callee := .builtin .append, args := #[s, x], argTypes := #[185, 185] })
    (base : Nat) (v : Value) (hs : a.eval s = v) (l : List Fd) (hown : w.ownsRow base 190 6 v l.length (l.flatMap Fd.cells)) (f : Fd) (g : Nat)
    (hx : a.eval x = .slice (some ⟨g, 0, none⟩) 1 1) (hg : Blk w g 190 f.cells.toArray) (hm : l.length + 1 ≤ 1048576) (hbase : base ≤ w.heap.size)
    (h : ∀ v' w', w'.ownsRow base 190 6 v' (l ++ [f]).length ((l ++ [f]).flatMap Fd.cells) → w.grownBy w' v.ownBlock → (v'.ownBlock = v.ownBlock ∨ v'.ownBlock = some w.heap.size) → wpList Tryz.prog ops Q rest (a.put o.dst v') w') : wpList Tryz.prog ops Q (o :: rest) a w := by
  obtain ⟨i0, hi, hz0, hz1, hz2⟩ := info_parts Tryz.infoFound
  refine wpList_append_own_at _ hgd s x 185 hq base 190 i0 _ 6 72 Tryz.underlying185 hi hz0 hz1 hz2 (by simp [Value.cells]) (by decide) v l.length (l.flatMap Fd.cells) hs hown ⟨g, 0, none⟩ 1 1 f.cells hx rfl ?_ ?_ (by unfold maxLen; omega) (by omega) hbase ?_
  · intro j y hj
    have ha : (⟨g, 0, none⟩ : Addr).add j = ⟨g, j, none⟩ := by unfold Addr.add; split <;> simp_all
    rw [ha, hg.cell]
    simpa using hj
  · intro y hy
    simp only [Fd.cells, List.mem_cons, List.not_mem_nil, or_false] at hy
    rcases hy with rfl | rfl | rfl | rfl | rfl | rfl <;> rfl
  · intro v' w' h1 h2 _ h4
    refine h v' w' ?_ h2 h4
    rw [List.length_append, List.flatMap_append]
    simpa using h1

/-- What was read of old records stays, and the new one is read, behind such an append. -/
theorem Blobs.append {w w' : World} {v v' : Value} {l : List Fd} {f : Fd} (h : Blobs w (fun q => v.ownBlock = some q) l) (hf : ByteSl w (fun q => v.ownBlock = some q) f.A f.n f.cap f.blob) (hn : f.A = none → f.n = 0 ∧ f.cap = 0)
    (hg : w.grownBy w' v.ownBlock) (hv : v'.ownBlock = v.ownBlock ∨ v'.ownBlock = some w.heap.size) : Blobs w' (fun q => v'.ownBlock = some q) (l ++ [f]) := by
  have h1 := h.snoc hf hn
  have h2 : Blobs w (fun q => v.ownBlock = some q ∨ v'.ownBlock = some q) (l ++ [f]) := h1.mono (fun i hi hT => by
    rcases hT with hT | hT
    · exact hT
    · rcases hv with e | e
      · rw [← e]; exact hT
      · rw [e] at hT
        cases hT
        omega)
  exact (h2.only (Only.of_grown (S := fun q => v.ownBlock = some q) hg (fun q e _ => e)) (fun i _ h => Or.inl h)).mono (fun i _ h => Or.inr h)

end Go.Proofs.YtnhfmcijadficaaGreatDoor

/- Where bytes end that aren't blank; the walk over scan.laidEnd. -/
namespace Go.Proofs.YtnhfmcijadficaaGreatDoor
set_option maxRecDepth 100000
open Go.RowKit

/-- Behind e there is 255 alone, and e is the first such place. -/
structure IsEnd (xs : List UInt8) (e : Nat) : Prop where
  le : e ≤ xs.length
  blank : ∀ j, e ≤ j → j < xs.length → xs[j]? = some 255
  last : 0 < e → ∀ z, xs[e - 1]? = some z → z ≠ 255

theorem IsEnd.exists_ (xs : List UInt8) : ∃ e, IsEnd xs e := by
  have h : ∀ m, m ≤ xs.length → (∀ j, m ≤ j → j < xs.length → xs[j]? = some 255) → ∃ e, IsEnd xs e := by
    intro m
    induction m with
    | zero => exact fun _ hb => ⟨0, Nat.zero_le _, hb, fun h => absurd h (by omega)⟩
    | succ m ih =>
      intro hm hb
      by_cases hz : xs[m]? = some 255
      · exact ih (by omega) (fun j h1 h2 => by
          by_cases hj : j = m
          · subst hj; exact hz
          · exact hb j (by omega) h2)
      · exact ⟨m + 1, hm, hb, fun _ z h => by
          rw [Nat.add_sub_cancel] at h
          intro e
          rw [e] at h
          exact hz h⟩
  exact h xs.length (Nat.le_refl _) (fun j h1 h2 => absurd h2 (by omega))

set_option maxHeartbeats 1000000 in
theorem laidEnd_any (A : Option Addr) (n cap : Nat) (xs : List UInt8) (w : World) (hB : ByteSl w Empty A n cap xs) (hm : n ≤ 1048576) (e : Nat) (hE : IsEnd xs e) :
    Calls Tryz.prog 141 #[.slice A n cap] w fun r w' => r = .returned (.int .i64 (e : Int)) ∧ w = w' := by
  have hl := hB.1
  have hle := hE.le
  rw [hl] at hle
  have HE := Lib.hid hE
  have HB := Lib.hid hB
  have Hl := Lib.hid hl
  clear hE hB hl
  go_enter Tryz.func141, Tryz.ntmps141
  go_wp2_with fail
  go_loop [3] (fun v => ∃ k : Nat, e ≤ k ∧ k ≤ n ∧ v = .int .i64 (k : Int)) (fun v => (intOf v).toNat)
  case atStart => exact ⟨n, hle, Nat.le_refl _, rfl⟩
  case round =>
    obtain ⟨k, h1, h2, rfl⟩ := hrel
    rcases Nat.eq_zero_or_pos k with h0 | h0
    · subst h0
      obtain rfl : e = 0 := by omega
      go_wp2
      go_ret
      exact ⟨rfl, rfl⟩
    · obtain ⟨j, rfl⟩ : ∃ j, k = j + 1 := ⟨k - 1, by omega⟩
      obtain ⟨ad, rfl, -, -, hcell⟩ := HB.out.2.2.2 (by omega)
      obtain ⟨x, hx⟩ : ∃ x, xs[j]? = some x := ⟨_, List.getElem?_eq_getElem (by have := Hl.out; omega)⟩
      have hc := hcell j x hx
      have hz := u8_dec x 255 255 rfl
      have hv : ((j + 1 : Nat) : Int) = (j : Int) + 1 := by omega
      rw [hv]
      have Hx := Lib.hid hx
      unfold B8 at hc
      have hcap := HB.out.2.1
      have hcap2 : cap ≤ 9223372036854775807 := by have := HB.out.2.2.1; unfold maxLen at this; omega
      clear hcell hx hv h0
      by_cases h255 : x = 255
      · have hne : e ≠ j + 1 := by
          intro e1
          subst e1
          exact HE.out.last (by omega) x (by rw [Nat.add_sub_cancel]; exact Hx.out) h255
        rw [decide_eq_true h255] at hz
        have Hne := Lib.hid hne
        clear hne h255
        go_wp2
        go_round
        case rel => exact ⟨j, by have := Hne.out; omega, by omega, by go_num⟩
        case measure => simp [intOf]
      · have he : e = j + 1 := by
          rcases Nat.lt_or_ge e (j + 1) with h | h
          · have h3 := HE.out.blank j (by omega) (by have := Hl.out; omega)
            rw [Hx.out] at h3
            cases h3
            exact absurd rfl h255
          · omega
        have He := Lib.hid he
        rw [decide_eq_false h255] at hz
        clear he h255
        go_wp2
        go_ret
        exact ⟨by rw [He.out]; rfl, rfl⟩

end Go.Proofs.YtnhfmcijadficaaGreatDoor

/- What a sector has, as plain data; the walk over scan.Scan. -/
namespace Go.Proofs.YtnhfmcijadficaaGreatDoor
set_option maxRecDepth 100000
open Go.RowKit

theorem strB_data (xs : List UInt8) : (strB xs).data.toList = xs := by simp [strB]

def fdOf (pl : Nat) (o : Out) : FD := ⟨pl, o.k, o.t, o.key, o.blob, o.c⟩

/-- From a place on, where all behind 'en' is blank: what is found, where the next one may stand, whether the sector is closed. -/
inductive Runs (xs : List UInt8) (en : Nat) : Nat → Bool → List FD → Nat → Bool → Prop
  | stop (pl : Nat) (c : Bool) : en ≤ pl → Runs xs en pl c [] pl c
  | bad (pl : Nat) (c : Bool) : pl < en → (out (xs.drop pl)).e ≠ 0 → Runs xs en pl c [] xs.length true
  | go (pl : Nat) (c : Bool) (l : List FD) (to : Nat) (c' : Bool) : pl < en → (out (xs.drop pl)).e = 0 → Runs xs en (pl + (out (xs.drop pl)).size) (c || !(out (xs.drop pl)).whole) l to c' →
      Runs xs en pl c ((if (out (xs.drop pl)).whole = true then [fdOf pl (out (xs.drop pl))] else []) ++ l) to c'

theorem out_size {ys : List UInt8} (h : (out ys).e = 0) : 16 ≤ (out ys).size ∧ (out ys).size ≤ ys.length := by
  by_cases hp : pE ys = 0
  · have hs : (out ys).size = szOf ys := by
      unfold out
      rw [if_pos hp]
      split <;> rfl
    have hl : ¬ ys.length < szOf ys := by
      intro hl
      unfold pE at hp
      by_cases h0 : hdE ys = 0
      · rw [if_pos h0, if_pos hl] at hp
        cases hp
      · rw [if_neg h0] at hp
        exact h0 hp
    rw [hs]
    exact ⟨by unfold szOf; omega, by omega⟩
  · exfalso
    apply hp
    unfold out at h
    rw [if_neg hp] at h
    exact h

theorem Runs.exists_ (xs : List UInt8) (en : Nat) (hen : en ≤ xs.length) : ∀ (m pl : Nat) (c : Bool), xs.length ≤ pl + m → ∃ l to c', Runs xs en pl c l to c'
  | 0, pl, c, h => ⟨_, _, _, .stop pl c (by omega)⟩
  | m + 1, pl, c, h => by
    by_cases h1 : en ≤ pl
    · exact ⟨_, _, _, .stop pl c h1⟩
    · by_cases h2 : (out (xs.drop pl)).e = 0
      · obtain ⟨l, to, c', hr⟩ := Runs.exists_ xs en hen m (pl + (out (xs.drop pl)).size) (c || !(out (xs.drop pl)).whole) (by have := (out_size h2).1; omega)
        exact ⟨_, _, _, .go pl c l to c' (by omega) h2 hr⟩
      · exact ⟨_, _, _, .bad pl c (by omega) h2⟩

/-- Found records that a call has made: its own row, and what it reads as. -/
structure GotF (base : Nat) (W : World) (A : Option Addr) (n cap : Nat) (l : List Fd) : Prop where
  own : W.ownsRow base 190 6 (.slice A n cap) n (l.flatMap Fd.cells)
  blobs : Blobs W (fun q => Value.ownBlock (.slice A n cap) = some q) l
  reads : Founds W Empty A n cap l

theorem GotF.of_own {base : Nat} {W : World} {v : Value} {l : List Fd} (h : W.ownsRow base 190 6 v l.length (l.flatMap Fd.cells)) (hb : Blobs W (fun q => v.ownBlock = some q) l) :
    ∃ A cap, v = .slice A l.length cap ∧ GotF base W A l.length cap l := by
  obtain ⟨A, cap, rfl, hf⟩ := Founds.of_own (S := Empty) h (hb.mono (fun _ _ h => h.elim)) (fun _ _ _ _ h => h)
  exact ⟨A, cap, rfl, h, hb, hf⟩

def ScanOk (w : World) (L : List FD) (to : Nat) (c : Bool) (e : Ending) (w' : World) : Prop :=
  (∃ A n cap l, e = .returned (.tuple #[.slice A n cap, .int .i64 (to : Int), .bool c]) ∧ l.map Fd.d = L ∧ GotF w.heap.size w' A n cap l) ∧ Below w.heap.size w w'

set_option maxHeartbeats 2000000 in
theorem scan_any (A : Option Addr) (n cap : Nat) (xs : List UInt8) (w : World) (hB : ByteSl w Empty A n cap xs) (hm : n ≤ 1048576) (h12 : 12 ≤ n) (en : Nat) (hE : IsEnd xs en) (L : List FD) (to : Nat) (c : Bool) (hR : Runs xs en 12 false L to c) :
    Calls Tryz.prog 114 #[.slice A n cap] w fun e w' => ScanOk w L to c e w' := by
  obtain ⟨⟨b, o, sp⟩, rfl, hbl, -, hcell⟩ := hB.2.2.2 (by omega)
  have hbl : b < w.heap.size := hbl
  have hcap := hB.2.1
  have hcap2 : cap ≤ 9223372036854775807 := by have := hB.2.2.1; unfold maxLen at this; omega
  have hen := hE.le
  rw [hB.1] at hen
  have HE := Lib.hid (laidEnd_any _ n cap xs w hB hm en hE)
  have HB := Lib.hid hB
  have HR := Lib.hid hR
  clear hB hcell hE hR
  have hd12 : decide ((n : Int) < 12) = false := by simp; omega
  go_enter Tryz.func114, Tryz.ntmps114
  go_wp2_with fail
  go_step3
  go_wp2_with fail
  refine HE.out.mono ?_
  rintro e1 w1 ⟨rfl, rfl⟩
  go_wp2_with fail
  go_step3
  go_wp2_with fail
  clear hd12
  go_loopw [5, 6, 8] (fun v i cc wr => ∃ (pl : Nat) (cl : Bool) (acc : List Fd) (l : List FD), i = .int .i64 (pl : Int) ∧ cc = .bool cl ∧ Hid (acc.map Fd.d ++ l = L) ∧ Runs xs en pl cl l to c ∧ Below w.heap.size w wr ∧ Hid (wr.ownsRow w.heap.size 190 6 v acc.length (acc.flatMap Fd.cells)) ∧ Hid (Blobs wr (fun q => v.ownBlock = some q) acc) ∧ acc.length ≤ pl ∧ pl ≤ n) (fun _ i _ _ => n - (intOf i).toNat)
  case atStart => exact ⟨12, false, [], L, rfl, rfl, Lib.hid rfl, HR.out, Below.refl _ _, Lib.hid (World.ownsRow_nil _ _ _ _), Lib.hid (Blobs.nil_ _ _), Nat.zero_le _, h12⟩
  case round =>
    obtain ⟨pl, cl, acc, l, rfl, rfl, hL, hr, hbw, hown, hbl, hlen, hpn⟩ := hrel
    by_cases hlt : pl < en
    · have hq1 : ¬ cap = pl := by omega
      have hq2 : (pl : Int) ≤ (cap : Int) := by omega
      have hB1 : ByteSl wr Empty (some (Addr.add ⟨b, o, sp⟩ pl)) (n - pl) (cap - pl) (xs.drop pl) := by
        have h := (HB.out.only (Only.of_below (S := Empty) hbw) (fun _ _ h => h)).drop_ pl (n - pl) (by omega)
        rw [List.take_of_length_le (by rw [List.length_drop, HB.out.1]; omega)] at h
        exact h
      have N1 := Lib.hid (rcParse_any _ (n - pl) (cap - pl) (xs.drop pl) wr hB1 (by omega))
      clear hB1
      by_cases he : (out (xs.drop pl)).e = 0
      · obtain ⟨l', rfl, hr'⟩ : ∃ l', l = (if (out (xs.drop pl)).whole = true then [fdOf pl (out (xs.drop pl))] else []) ++ l' ∧ Runs xs en (pl + (out (xs.drop pl)).size) (cl || !(out (xs.drop pl)).whole) l' to c := by
          cases hr with
          | stop _ _ h => omega
          | bad _ _ _ h => exact absurd he h
          | go _ _ l' _ _ _ _ h => exact ⟨l', rfl, h⟩
        have hsz := out_size he
        have hz1 : pl + (out (xs.drop pl)).size ≤ n := by have := hsz.2; rw [List.length_drop, HB.out.1] at this; omega
        have hz2 := hsz.1
        unfold RecOk at N1
        rw [he] at N1
        obtain ⟨q, hq⟩ : ∃ q, q = out (xs.drop pl) := ⟨_, rfl⟩
        rw [← hq] at N1 hL hr' hz1 hz2
        have Hq : Hid (fdOf pl q = ⟨pl, q.k, q.t, q.key, q.blob, q.c⟩) := Lib.hid rfl
        obtain ⟨k, t, key, blob, cc, size, whole, er⟩ := q
        simp only at N1 hL hr' hz1 hz2 Hq
        have Hr := Lib.hid hr'
        clear hr' hr hsz he hq
        cases whole with
        | true =>
          go_wp2_with fail
          refine N1.out.mono ?_
          rintro e2 w2 ⟨⟨A2, n2, cap2, rfl, hG2⟩, hb2⟩
          obtain ⟨f, hf⟩ : ∃ f : Fd, f = ⟨pl, k, t, strB key, A2, n2, cap2, cc, blob⟩ := ⟨_, rfl⟩
          have hlt5 := hown.out.lt
          have hd : f.d = ⟨pl, k, t, key, blob, cc⟩ := by rw [hf]; show FD.mk _ _ _ (strB key).data.toList _ _ = _; rw [strB_data]
          have hcells : f.cells.toArray = #[.int .i64 (pl : Int), .int .i64 (k : Int), .int .u32 (t : Int), .string (strB key), .slice A2 n2 cap2, .int .i64 (cc : Int)] := by rw [hf]; rfl
          obtain ⟨A3, cap3, e3, hB3, -⟩ := ByteSl.of_own (S := fun q => Value.ownBlock u5 = some q) hG2.own (fun q h1 _ h2 => by have := (hlt5 q h2).2; omega)
          cases e3
          have hB4 : ByteSl w2 (fun q => Value.ownBlock u5 = some q) f.A f.n f.cap f.blob := by rw [hf]; exact hB3
          have hN4 : f.A = none → f.n = 0 ∧ f.cap = 0 := by rw [hf]; exact hG2.isNil
          have HO3 := Lib.hid ((Only.of_below (S := Empty) hb2).alloc (.cells #[.int .i64 (k : Int), .int .u32 (t : Int), .string (strB key), .slice A2 n2 cap2, .int .i64 (cc : Int)] 161))
          have HO4 := Lib.hid (HO3.out.alloc (.cells f.cells.toArray 190))
          have Hbw3 := Lib.hid (((hbw.trans (hb2.mono hbw.size)).alloc (Nat.le_trans hbw.size hb2.size) (.cells #[.int .i64 (k : Int), .int .u32 (t : Int), .string (strB key), .slice A2 n2 cap2, .int .i64 (cc : Int)] 161)).alloc (Nat.le_trans hbw.size HO3.out.size) (.cells f.cells.toArray 190))
          have HK4 := Lib.hid (Blk.new (w2.alloc (.cells #[.int .i64 (k : Int), .int .u32 (t : Int), .string (strB key), .slice A2 n2 cap2, .int .i64 (cc : Int)] 161)) 190 f.cells.toArray)
          have HB4 := Lib.hid (hB4.only (((Only.refl Empty w2).alloc (.cells #[.int .i64 (k : Int), .int .u32 (t : Int), .string (strB key), .slice A2 n2 cap2, .int .i64 (cc : Int)] 161)).alloc (.cells f.cells.toArray 190)) (fun _ _ h => h.elim))
          have HN4 := Lib.hid hN4
          have Hown4 := Lib.hid (own_only hown.out HO4.out (fun _ _ _ h => h))
          have Hbl4 := Lib.hid (hbl.out.only HO4.out (fun _ _ h => h.elim))
          have Hd := Lib.hid hd
          have Hmm : Hid (acc.length + 1 ≤ 1048576) := Lib.hid (by omega)
          rw [hcells] at HO4 Hbw3 HK4 HB4 Hown4 Hbl4
          have Hcells := Lib.hid hcells
          clear hf hlt5 hd hcells hB3 hB4 hN4 hG2 hb2 hbw hown hbl
          go_wp2_with (at_builtin; refine wpList_append_found rfl (.tmp 39) (.tmp 43) rfl w.heap.size _ rfl acc Hown4.out f (w2.heap.size + 1) rfl (by rw [Hcells.out]; simpa using HK4.out) Hmm.out Hbw3.out.size ?_; intro v5 w5 hown5 hg5 hat5)
          have hBl5 := Hbl4.out.append HB4.out HN4.out hg5 hat5
          have hlt5 := Hown4.out.lt
          have hbw5 := below_grown Hbw3.out Hbw3.out.size hg5 (fun q hq => (hlt5 q hq).1)
          have HL5 : Hid ((acc ++ [f]).map Fd.d ++ l' = L) := Lib.hid (by
            have h := hL.out
            rw [if_pos trivial, Hq.out] at h
            rw [List.map_append, List.map_cons, List.map_nil, Hd.out, List.append_assoc]
            exact h)
          have Hlen5 : Hid ((acc ++ [f]).length ≤ pl + size) := Lib.hid (by simp; omega)
          have HBl5 := Lib.hid hBl5
          have Hown5 := Lib.hid hown5
          have Hbw5 := Lib.hid hbw5
          clear hBl5 hlt5 hbw5 hown5 hg5 hat5 hL
          go_wp2
          go_roundw
          case rel => exact ⟨pl + size, cl, acc ++ [f], l', by go_num, rfl, HL5, by simpa using Hr.out, Hbw5.out, Hown5, HBl5, Hlen5.out, hz1⟩
          case measure => simp [intOf]; omega
        | false =>
          go_wp2_with fail
          refine N1.out.mono ?_
          rintro e2 w2 ⟨⟨A2, n2, cap2, rfl, hG2⟩, hb2⟩
          have Hbw2 := Lib.hid (hbw.trans (hb2.mono hbw.size))
          have HO2 := Lib.hid ((Only.of_below (S := Empty) hb2).alloc (.cells #[.int .i64 (k : Int), .int .u32 (t : Int), .string (strB key), .slice A2 n2 cap2, .int .i64 (cc : Int)] 161))
          clear hb2 hG2 hbw
          go_wp2
          go_roundw
          case rel => exact ⟨pl + size, true, acc, l', by go_num, rfl, hL, by simpa using Hr.out, Hbw2.out.alloc Hbw2.out.size _, Lib.hid (own_only hown.out HO2.out (fun _ _ _ h => h)), Lib.hid (hbl.out.only HO2.out (fun _ _ h => h.elim)), by omega, by omega⟩
          case measure => simp [intOf]; omega
      · obtain ⟨rfl, rfl, rfl⟩ : l = [] ∧ to = xs.length ∧ c = true := by
          cases hr with
          | stop _ _ h => omega
          | bad _ _ _ h => exact ⟨rfl, rfl, rfl⟩
          | go _ _ l' _ _ _ h _ => exact absurd h he
        obtain ⟨q, hq⟩ : ∃ q, q = out (xs.drop pl) := ⟨_, rfl⟩
        unfold RecOk at N1
        rw [← hq] at N1 he
        obtain ⟨k, t, key, blob, cc, size, whole, er⟩ := q
        simp only at N1 he
        have he1 : (er == 0) = false := by simpa using he
        have he2 : (er != 0) = true := by simp only [bne, he1]; rfl
        have hown2 := hown.out
        have Hl : Hid (xs.length = n) := Lib.hid HB.out.1
        clear hq hr he
        go_wp2_with fail
        refine N1.out.mono ?_
        rintro e2 w2 ⟨⟨A2, n2, cap2, rfl, hG2⟩, hb2⟩
        have hO2 := (Only.of_below (S := Empty) hb2).alloc (.cells #[.int .i64 (k : Int), .int .u32 (t : Int), .string (strB key), .slice A2 n2 cap2, .int .i64 (cc : Int)] 161)
        obtain ⟨A3, cap3, rfl, hG⟩ := GotF.of_own (own_only hown.out hO2 (fun _ _ _ h => h)) (hbl.out.only hO2 (fun _ _ h => h.elim))
        have Hbw2 := Lib.hid ((hbw.trans (hb2.mono hbw.size)).alloc (Nat.le_trans hbw.size hb2.size) (.cells #[.int .i64 (k : Int), .int .u32 (t : Int), .string (strB key), .slice A2 n2 cap2, .int .i64 (cc : Int)] 161))
        have HG := Lib.hid hG
        clear hb2 hG2 hbw hO2 hG hown2
        go_wp2
        rw [Exit.noGoto_ret]
        refine bodyPost_ret (v := .tuple #[.slice A3 acc.length cap3, .int .i64 (n : Int), .bool true]) (by simp [results, Tryz.results114, go_sem]) rfl ⟨⟨A3, _, cap3, acc, by rw [Hl.out], ?_, HG.out⟩, Hbw2.out⟩
        have h := hL.out
        rw [List.append_nil] at h
        exact h
    · obtain ⟨rfl, rfl, rfl⟩ : l = [] ∧ to = pl ∧ c = cl := by
        cases hr with
        | stop _ _ h => exact ⟨rfl, rfl, rfl⟩
        | bad _ _ h _ => omega
        | go _ _ l' _ _ h _ _ => omega
      have hown2 := hown.out
      obtain ⟨A2, cap2, rfl, hG⟩ := GotF.of_own hown.out hbl.out
      have Hb := Lib.hid hbw
      have HG := Lib.hid hG
      clear hbw hG hown2
      go_wp2_with fail
      rw [Exit.noGoto_ret]
      refine bodyPost_ret (v := .tuple #[.slice A2 acc.length cap2, .int .i64 (to : Int), .bool c]) (by simp [results, Tryz.results114, go_sem]) rfl ⟨⟨A2, _, cap2, acc, rfl, ?_, HG.out⟩, Hb.out⟩
      have h := hL.out
      rw [List.append_nil] at h
      exact h

end Go.Proofs.YtnhfmcijadficaaGreatDoor
