/- What Parse answers of any bytes, as plain data; the walks over rec.Parse where a header is refused or the bytes end too early. -/
import Derived.Test.YtidbipbangifbaaGreatDoorZar
import Derived.Test.YtidbipbangifbaaGreatDoorZae
namespace Go.Proofs.YtidbipbangifbaaGreatDoor
set_option maxRecDepth 100000
open Go.RowKit

/-- How many bytes the record has that a header tells. -/
def szOf (xs : List UInt8) : Nat := nA xs + nB xs + 16
/-- Parse's error. -/
def pE (xs : List UInt8) : Int := if hdE xs = 0 then (if xs.length < szOf xs then 6 else 0) else hdE xs
/-- Has the record its sum of 32 bits? -/
def sumOk (xs : List UInt8) : Bool := decide (getV ((xs.drop (nA xs + nB xs + 11)).take 4) = (crc32 (xs.take (nA xs + nB xs + 11))).toNat)
/-- All that Parse answers. -/
structure Out where
  k : Nat
  t : Nat
  key : List UInt8
  blob : List UInt8
  c : Nat
  size : Nat
  whole : Bool
  e : Int
def out (xs : List UInt8) : Out :=
  if pE xs = 0 then (if sumOk xs = true then ⟨nK xs, nT xs, (xs.drop 11).take (nA xs), (xs.drop (11 + nA xs)).take (nB xs), nC xs, szOf xs, decide (xs[nA xs + nB xs + 15]?.getD 1 = 0), 0⟩ else ⟨0, 0, [], [], 0, szOf xs, false, 0⟩)
  else ⟨0, 0, [], [], 0, 0, false, pE xs⟩
/-- Parse's answer: its record's blob is a row made since base. -/
def RecOk (xs : List UInt8) (w w' : World) (e : Ending) : Prop :=
  (∃ A n cap, e = .returned (.tuple #[.agg #[.int .i64 ((out xs).k : Int), .int .u32 ((out xs).t : Int), .string (strB (out xs).key), .slice A n cap, .int .i64 ((out xs).c : Int)], .int .i64 ((out xs).size : Int), .bool (out xs).whole, .int .i64 (out xs).e]) ∧
    Got w.heap.size w' A n cap (out xs).blob) ∧ Below w.heap.size w w'

/-- The empty record, with a size and an error. -/
def zeroA (s e : Int) : Ending := .returned (.tuple #[.agg #[.int .i64 0, .int .u32 0, .string ⟨#[]⟩, .slice none 0 0, .int .i64 0], .int .i64 s, .bool false, .int .i64 e])
theorem zero_ok {xs : List UInt8} {w w' : World} {s : Nat} {e : Int} (h : out xs = ⟨0, 0, [], [], 0, s, false, e⟩) (hb : Below w.heap.size w w') : RecOk xs w w' (zeroA (s : Int) e) := by
  refine ⟨⟨none, 0, 0, ?_, ?_⟩, hb⟩
  · rw [h]
    rfl
  · rw [h]
    exact Got.nil_ _ _

theorem head_facts {xs : List UInt8} (h : hdE xs = 0) : 11 ≤ xs.length ∧ hdE xs = 0 ∧ nS xs = (crc16 (xs.take 9)).toNat ∧ mayB (nK xs : Int) (nT xs : Int) (nA xs : Int) (nB xs : Int) (nC xs : Int) = true := by
  have h9 := h
  unfold hdE at h
  by_cases h1 : xs[0]?.getD 255 = 255
  · rw [if_pos h1] at h
    cases h
  · rw [if_neg h1] at h
    by_cases h2 : xs.length < 11
    · rw [if_pos h2] at h
      cases h
    · rw [if_neg h2] at h
      by_cases h3 : nS xs = (crc16 (xs.take 9)).toNat
      · rw [if_neg (by simp [h3])] at h
        cases h4 : mayB (nK xs : Int) (nT xs : Int) (nA xs : Int) (nB xs : Int) (nC xs : Int) with
        | true => exact ⟨by omega, h9, h3, rfl⟩
        | false =>
          rw [h4] at h
          simp at h
      · rw [if_pos h3] at h
        cases h

set_option maxHeartbeats 2000000 in
theorem rcParse_no (A : Option Addr) (n cap : Nat) (xs : List UInt8) (w : World) (hB : ByteSl w Empty A n cap xs) (hm : n ≤ 1048576) (h : hdE xs ≠ 0) :
    Calls Tryz.prog 125 #[.slice A n cap] w fun e w' => RecOk xs w w' e := by
  obtain ⟨er, her⟩ : ∃ er, er = hdE xs := ⟨_, rfl⟩
  have hne : (er == 0) = false := by rw [her]; simpa using h
  have hne2 : (er != 0) = true := by simp only [bne, hne]; rfl
  have HC : Hid (∀ w', Below w.heap.size w w' → RecOk xs w w' (zeroA 0 er)) := Lib.hid (fun w' hb => by
    have ho : out xs = ⟨0, 0, [], [], 0, 0, false, er⟩ := by
      unfold out pE
      rw [if_neg h, if_neg h, her]
    exact zero_ok (s := 0) ho hb)
  have hO0 := (Only.refl Empty w).alloc (.cells #[.int .i64 0, .int .u32 0, .string ⟨#[]⟩, .slice none 0 0, .int .i64 0] 172)
  have N1 : Hid (Calls Tryz.prog 158 #[.slice A n cap] (w.alloc (.cells #[.int .i64 0, .int .u32 0, .string ⟨#[]⟩, .slice none 0 0, .int .i64 0] 172)) fun e w' => e = .returned (.tuple #[zeroH, .int .i64 er]) ∧ Below (w.heap.size + 1) (w.alloc (.cells #[.int .i64 0, .int .u32 0, .string ⟨#[]⟩, .slice none 0 0, .int .i64 0] 172)) w') := Lib.hid
    ((parseHead_any A n cap xs _ (hB.only hO0 (fun _ _ h => h)) hm).mono fun e w' ⟨he, hb⟩ => by
      rw [if_neg h, ← her] at he
      exact ⟨he, hb.mono (by simp)⟩)
  unfold zeroH at N1
  clear h her hB hO0
  go_enter Tryz.func125, Tryz.ntmps125
  go_wp2_with fail
  refine N1.out.mono ?_
  rintro e1 w1 ⟨rfl, hb1⟩
  have hj1 := (Blk.new w 172 #[.int .i64 0, .int .u32 0, .string ⟨#[]⟩, .slice none 0 0, .int .i64 0]).of (hb1.block w.heap.size (by omega))
  have HW1 := Lib.hid (((Below.refl w.heap.size w).alloc (Nat.le_refl _) (.cells #[.int .i64 0, .int .u32 0, .string ⟨#[]⟩, .slice none 0 0, .int .i64 0] 172)).trans (hb1.mono (by omega)))
  have hz := hj1.lt
  have j0 := hj1.cell 0
  have j1 := hj1.cell 1
  have j2 := hj1.cell 2
  have j3 := hj1.cell 3
  have j4 := hj1.cell 4
  have g0 := hj1.frozen 0
  have g1 := hj1.frozen 1
  have g2 := hj1.frozen 2
  have g3 := hj1.frozen 3
  have g4 := hj1.frozen 4
  simp at j0 j1 j2 j3 j4
  clear hb1 hj1
  go_wp2
  refine bodyPost_ret (v := .tuple #[.agg #[.int .i64 0, .int .u32 0, .string ⟨#[]⟩, .slice none 0 0, .int .i64 0], .int .i64 0, .bool false, .int .i64 er]) (by simp [results, Tryz.results125, go_sem, j0, j1, j2, j3, j4, hz]) rfl (HC.out _ ?_)
  exact ((((((HW1.out.setCell (by simp) _).setCell (by simp) _).setCell (by simp) _).setCell (by simp) _).setCell (by simp) _).alloc (by simpa using HW1.out.size) _)

set_option maxHeartbeats 2000000 in
theorem rcParse_short (A : Option Addr) (n cap : Nat) (xs : List UInt8) (w : World) (hBy : ByteSl w Empty A n cap xs) (hm : n ≤ 1048576) (h : hdE xs = 0) (hs : xs.length < szOf xs) :
    Calls Tryz.prog 125 #[.slice A n cap] w fun e w' => RecOk xs w w' e := by
  have HC : Hid (∀ w', Below w.heap.size w w' → RecOk xs w w' (zeroA 0 6)) := Lib.hid (fun w' hb => by
    have hp : pE xs = 6 := by unfold pE; rw [if_pos h, if_pos hs]
    have ho : out xs = ⟨0, 0, [], [], 0, 0, false, 6⟩ := by
      unfold out
      rw [hp]
      rfl
    exact zero_ok (s := 0) ho hb)
  have hO0 := (Only.refl Empty w).alloc (.cells #[.int .i64 0, .int .u32 0, .string ⟨#[]⟩, .slice none 0 0, .int .i64 0] 172)
  obtain ⟨v1, e1⟩ : ∃ v, v = nK xs := ⟨_, rfl⟩
  obtain ⟨v2, e2⟩ : ∃ v, v = nT xs := ⟨_, rfl⟩
  obtain ⟨v3, e3, b3⟩ : ∃ v, v = nA xs ∧ v ≤ 255 := ⟨_, rfl, nA_le xs⟩
  obtain ⟨v4, e4, b4⟩ : ∃ v, v = nB xs ∧ v ≤ 65535 := ⟨_, rfl, nB_le xs⟩
  obtain ⟨v5, e5⟩ : ∃ v, v = nC xs := ⟨_, rfl⟩
  have hlt : n < v3 + v4 + 16 := by
    unfold szOf at hs
    rw [hBy.1, ← e3, ← e4] at hs
    exact hs
  have N1 : Hid (Calls Tryz.prog 158 #[.slice A n cap] (w.alloc (.cells #[.int .i64 0, .int .u32 0, .string ⟨#[]⟩, .slice none 0 0, .int .i64 0] 172)) fun e w' => e = .returned (.tuple #[.agg #[.int .i64 (v1 : Int), .int .u32 (v2 : Int), .int .i64 (v3 : Int), .int .i64 (v4 : Int), .int .i64 (v5 : Int)], .int .i64 0]) ∧ Below (w.heap.size + 1) (w.alloc (.cells #[.int .i64 0, .int .u32 0, .string ⟨#[]⟩, .slice none 0 0, .int .i64 0] 172)) w') := Lib.hid
    ((parseHead_any A n cap xs _ (hBy.only hO0 (fun _ _ h => h)) hm).mono fun e w' ⟨he, hb⟩ => by
      rw [if_pos h, h, headV, ← e1, ← e2, ← e3, ← e4, ← e5] at he
      exact ⟨he, hb.mono (by simp)⟩)
  clear h hs hBy hO0 e1 e2 e3 e4 e5
  go_enter Tryz.func125, Tryz.ntmps125
  go_wp2_with fail
  refine N1.out.mono ?_
  rintro e1 w1 ⟨rfl, hb1⟩
  have HJ1 := Lib.hid ((Blk.new w 172 #[.int .i64 0, .int .u32 0, .string ⟨#[]⟩, .slice none 0 0, .int .i64 0]).of (hb1.block w.heap.size (by omega)))
  have HW1 := Lib.hid (((Below.refl w.heap.size w).alloc (Nat.le_refl _) (.cells #[.int .i64 0, .int .u32 0, .string ⟨#[]⟩, .slice none 0 0, .int .i64 0] 172)).trans (hb1.mono (by omega)))
  clear hb1
  go_wp2_with fail
  refine (hSize_any (v1 : Int) (v2 : Int) (v5 : Int) v3 v4 _ (by omega) (by omega)).mono ?_
  rintro e1 w2 ⟨rfl, hb2⟩
  have hj1 := (HJ1.out.alloc (.cells #[.int .i64 (v1 : Int), .int .u32 (v2 : Int), .int .i64 (v3 : Int), .int .i64 (v4 : Int), .int .i64 (v5 : Int)] 215)).of (hb2.block w.heap.size (by have := HJ1.out.lt; simp; omega))
  have HW2 := Lib.hid ((HW1.out.alloc HW1.out.size (.cells #[.int .i64 (v1 : Int), .int .u32 (v2 : Int), .int .i64 (v3 : Int), .int .i64 (v4 : Int), .int .i64 (v5 : Int)] 215)).trans (hb2.mono (by have := HW1.out.size; simp; omega)))
  have hz := hj1.lt
  have j0 := hj1.cell 0
  have j1 := hj1.cell 1
  have j2 := hj1.cell 2
  have j3 := hj1.cell 3
  have j4 := hj1.cell 4
  have g0 := hj1.frozen 0
  have g1 := hj1.frozen 1
  have g2 := hj1.frozen 2
  have g3 := hj1.frozen 3
  have g4 := hj1.frozen 4
  simp at j0 j1 j2 j3 j4
  clear hb2 hj1
  obtain ⟨sz, hsz⟩ : ∃ sz, sz = v3 + v4 + 16 := ⟨_, rfl⟩
  rw [← hsz] at hlt ⊢
  have hd : decide ((n : Int) < (sz : Int)) = true := by simp; omega
  have Hsz := Lib.hid hsz
  clear hsz
  go_wp2
  refine bodyPost_ret (v := .tuple #[.agg #[.int .i64 0, .int .u32 0, .string ⟨#[]⟩, .slice none 0 0, .int .i64 0], .int .i64 0, .bool false, .int .i64 6]) (by simp [results, Tryz.results125, go_sem, j0, j1, j2, j3, j4, hz]) rfl (HC.out _ ?_)
  exact ((((HW2.out.setCell (by simp) _).setCell (by simp) _).setCell (by simp) _).setCell (by simp) _).setCell (by simp) _

end Go.Proofs.YtidbipbangifbaaGreatDoor

/- Found records as plain data, and as they lie in memory: rows of them that a call has made, rows of them that are read. -/
namespace Go.Proofs.YtidbipbangifbaaGreatDoor
set_option maxRecDepth 100000
open Go.RowKit

/-- A found record as plain data. -/
structure FD where
  pl : Int
  k : Int
  t : Nat
  key : List UInt8
  blob : List UInt8
  c : Int

/-- A found record as it lies in memory, and what its blob reads as. -/
structure Fd where
  pl : Int
  k : Int
  t : Nat
  s : ByteArray
  A : Option Addr
  n : Nat
  cap : Nat
  c : Int
  blob : List UInt8

def Fd.d (f : Fd) : FD := ⟨f.pl, f.k, f.t, f.s.data.toList, f.blob, f.c⟩
def Fd.cells (f : Fd) : List Value := [.int .i64 f.pl, .int .i64 f.k, .int .u32 (f.t : Int), .string f.s, .slice f.A f.n f.cap, .int .i64 f.c]

theorem cells_at : ∀ (l : List Fd) (i j : Nat) (f : Fd), l[i]? = some f → j < 6 → (l.flatMap Fd.cells)[i * 6 + j]? = f.cells[j]?
  | [], i, j, f, h, _ => by simp at h
  | g :: l, 0, j, f, h, hj => by
    simp only [List.getElem?_cons_zero, Option.some.injEq] at h
    subst h
    rw [List.flatMap_cons, List.getElem?_append_left (by show 0 * 6 + j < 6; omega), Nat.zero_mul, Nat.zero_add]
  | g :: l, i + 1, j, f, h, hj => by
    have h6 : g.cells.length = 6 := rfl
    rw [List.flatMap_cons, List.getElem?_append_right (by rw [h6]; omega), h6, show (i + 1) * 6 + j - 6 = i * 6 + j by omega]
    exact cells_at l i j f (by simpa using h) hj

theorem cells_len : ∀ l : List Fd, (l.flatMap Fd.cells).length = l.length * 6
  | [] => rfl
  | g :: l => by
    have h6 : g.cells.length = 6 := rfl
    rw [List.flatMap_cons, List.length_append, cells_len l, List.length_cons, h6]
    omega

/-- Each record's blob reads as its bytes, in a block that isn't in S. -/
def Blobs (w : World) (S : Nat → Prop) (l : List Fd) : Prop := ∀ f ∈ l, ByteSl w S f.A f.n f.cap f.blob ∧ (f.A = none → f.n = 0 ∧ f.cap = 0)

section
variable {w w' : World} {S T : Nat → Prop} {l : List Fd}
theorem Blobs.nil_ (w : World) (S : Nat → Prop) : Blobs w S [] := fun f h => by cases h
theorem Blobs.only (h : Blobs w S l) (k : Only T w w') (hT : ∀ i, i < w.heap.size → T i → S i) : Blobs w' S l := fun f hf => ⟨(h f hf).1.only k hT, (h f hf).2⟩
theorem Blobs.mono (h : Blobs w S l) (hT : ∀ i, i < w.heap.size → T i → S i) : Blobs w T l := fun f hf => ⟨(h f hf).1.mono hT, (h f hf).2⟩
theorem Blobs.snoc (h : Blobs w S l) {f : Fd} (hf : ByteSl w S f.A f.n f.cap f.blob) (hn : f.A = none → f.n = 0 ∧ f.cap = 0) : Blobs w S (l ++ [f]) := fun g hg => by
  rcases List.mem_append.1 hg with hg | hg
  · exact h g hg
  · rw [List.mem_singleton] at hg
    subst hg
    exact ⟨hf, hn⟩
end

/-- The slice value reads as these found records; it and their blobs lie in blocks that aren't in S. -/
def Founds (w : World) (S : Nat → Prop) (A : Option Addr) (n cap : Nat) (l : List Fd) : Prop :=
  l.length = n ∧ n ≤ cap ∧ cap ≤ maxLen ∧ (0 < n → ∃ b o, A = some ⟨b, o, none⟩ ∧ b < w.heap.size ∧ ¬ S b ∧ ∀ i f, l[i]? = some f → ∀ j, j < 6 → w.cell? ⟨b, o + i * 6 + j, none⟩ = f.cells[j]?) ∧ Blobs w S l

section
variable {w w' : World} {S T : Nat → Prop} {A : Option Addr} {n cap : Nat} {l : List Fd}
theorem Founds.only (h : Founds w S A n cap l) (k : Only T w w') (hT : ∀ i, i < w.heap.size → T i → S i) : Founds w' S A n cap l :=
  ⟨h.1, h.2.1, h.2.2.1, fun hn => by
    obtain ⟨b, o, e, hb, hs, hc⟩ := h.2.2.2.1 hn
    exact ⟨b, o, e, Nat.lt_of_lt_of_le hb k.size, hs, fun i f hf j hj => (k.cell (p := ⟨b, o + i * 6 + j, none⟩) hb (fun ht => hs (hT _ hb ht))).trans (hc i f hf j hj)⟩, h.2.2.2.2.only k hT⟩
theorem Founds.mono (h : Founds w S A n cap l) (hT : ∀ i, i < w.heap.size → T i → S i) : Founds w T A n cap l :=
  ⟨h.1, h.2.1, h.2.2.1, fun hn => by
    obtain ⟨b, o, e, hb, hs, hc⟩ := h.2.2.2.1 hn
    exact ⟨b, o, e, hb, fun ht => hs (hT _ hb ht), hc⟩, h.2.2.2.2.mono hT⟩

/-- What a call has made so far reads as what it laid. -/
theorem Founds.of_own {base : Nat} {v : Value} (h : w.ownsRow base 174 6 v l.length (l.flatMap Fd.cells)) (hb : Blobs w S l) (hS : ∀ k, base ≤ k → k < w.heap.size → v.ownBlock = some k → ¬ S k) :
    ∃ A cap, v = .slice A l.length cap ∧ Founds w S A l.length cap l := by
  rcases h.2 with ⟨rfl, h0⟩ | ⟨g, cap, cur, rfl, hg, hh, hnc, hm, hs, ht⟩
  · exact ⟨none, 0, by rw [h0], rfl, by omega, by simp [maxLen], fun hn => absurd hn (by omega), hb⟩
  · have hlt : g < w.heap.size := (Array.getElem?_eq_some_iff.1 hh).1
    refine ⟨_, cap, rfl, rfl, hnc, hm, fun _ => ⟨g, 0, rfl, hlt, hS g hg hlt rfl, fun i f hf j hj => ?_⟩, hb⟩
    have h6 : f.cells.length = 6 := rfl
    have hc := h.cells (g := g) rfl (i * 6 + j) (f.cells[j]'(by omega)) (by rw [cells_at l i j f hf hj]; exact List.getElem?_eq_getElem (by omega))
    have ha : (⟨g, 0, none⟩ : Addr).add (i * 6 + j) = ⟨g, 0 + i * 6 + j, none⟩ := by unfold Addr.add; split <;> simp_all
    rw [ha] at hc
    rw [hc]
    exact (List.getElem?_eq_getElem (by omega)).symm
end

theorem Tryz.infoFound : (Tryz.prog.info? 174).map (fun i => (i.zero, i.size, i.bytes)) = some (some (.agg #[.int .i64 0, .int .i64 0, .int .u32 0, .string ⟨#[]⟩, .slice none 0 0, .int .i64 0]), 6, 72) := by kernel_rfl

/-- append of one found record, which lies in a block of its own, onto a row of the call's own. -/
theorem wpList_append_found {ops : Array Oper} {rest : List Oper} {o : Oper} {a : Act} {w : World} {Q : Exit → Act → World → Prop} (hgd : o.guard = none) (s x : Operand)
    (hq : o.op = .call { callee := .builtin .append, args := #[s, x], argTypes := #[167, 167] })
    (base : Nat) (v : Value) (hs : a.eval s = v) (l : List Fd) (hown : w.ownsRow base 174 6 v l.length (l.flatMap Fd.cells)) (f : Fd) (g : Nat)
    (hx : a.eval x = .slice (some ⟨g, 0, none⟩) 1 1) (hg : Blk w g 174 f.cells.toArray) (hm : l.length + 1 ≤ 1048576) (hbase : base ≤ w.heap.size)
    (h : ∀ v' w', w'.ownsRow base 174 6 v' (l ++ [f]).length ((l ++ [f]).flatMap Fd.cells) → w.grownBy w' v.ownBlock → (v'.ownBlock = v.ownBlock ∨ v'.ownBlock = some w.heap.size) → wpList Tryz.prog ops Q rest (a.put o.dst v') w') : wpList Tryz.prog ops Q (o :: rest) a w := by
  obtain ⟨i0, hi, hz0, hz1, hz2⟩ := info_parts Tryz.infoFound
  refine wpList_append_own_at _ hgd s x 167 hq base 174 i0 _ 6 72 Tryz.underlying167 hi hz0 hz1 hz2 (by simp [Value.cells]) (by decide) v l.length (l.flatMap Fd.cells) hs hown ⟨g, 0, none⟩ 1 1 f.cells hx rfl ?_ ?_ (by unfold maxLen; omega) (by omega) hbase ?_
  · intro j y hj
    have ha : (⟨g, 0, none⟩ : Addr).add j = ⟨g, j, none⟩ := by unfold Addr.add; split <;> simp_all
    rw [ha, hg.cell]
    simpa using hj
  · intro y hy
    simp only [Fd.cells, List.mem_cons, List.not_mem_nil, or_false] at hy
    rcases hy with rfl | rfl | rfl | rfl | rfl | rfl <;> rfl
  · intro v' w' h1 h2 _ h4
    refine h v' w' ?_ h2 h4
    rw [List.length_append, List.flatMap_append]
    simpa using h1

/-- What was read of old records stays, and the new one is read, behind such an append. -/
theorem Blobs.append {w w' : World} {v v' : Value} {l : List Fd} {f : Fd} (h : Blobs w (fun q => v.ownBlock = some q) l) (hf : ByteSl w (fun q => v.ownBlock = some q) f.A f.n f.cap f.blob) (hn : f.A = none → f.n = 0 ∧ f.cap = 0)
    (hg : w.grownBy w' v.ownBlock) (hv : v'.ownBlock = v.ownBlock ∨ v'.ownBlock = some w.heap.size) : Blobs w' (fun q => v'.ownBlock = some q) (l ++ [f]) := by
  have h1 := h.snoc hf hn
  have h2 : Blobs w (fun q => v.ownBlock = some q ∨ v'.ownBlock = some q) (l ++ [f]) := h1.mono (fun i hi hT => by
    rcases hT with hT | hT
    · exact hT
    · rcases hv with e | e
      · rw [← e]; exact hT
      · rw [e] at hT
        cases hT
        omega)
  exact (h2.only (Only.of_grown (S := fun q => v.ownBlock = some q) hg (fun q e _ => e)) (fun i _ h => Or.inl h)).mono (fun i _ h => Or.inr h)

end Go.Proofs.YtidbipbangifbaaGreatDoor

/- Slices of records, and of changes, that come in. -/
namespace Go.Proofs.YtidbipbangifbaaGreatDoor
set_option maxRecDepth 100000
open Go.ChangeShapes Go.WideShapes Go.ChangeAt Go.RowKit Go.Joins

/-- Records that lie side by side: the slice value reads as them (their places count for nothing). -/
def Recs (w : World) (S : Nat → Prop) (A : Option Addr) (n cap : Nat) (l : List Fd) : Prop :=
  l.length = n ∧ n ≤ cap ∧ cap ≤ maxLen ∧ (0 < n → ∃ b o, A = some ⟨b, o, none⟩ ∧ b < w.heap.size ∧ ¬ S b ∧ ∀ i f, l[i]? = some f → ∀ j, j < 5 → w.cell? ⟨b, o + i * 5 + j, none⟩ = f.cells[j + 1]?) ∧ Blobs w S l ∧ ∀ f ∈ l, f.t ≤ 4294967295

/-- A change as it lies in memory. -/
structure Ch where
  del : Bool
  s : ByteArray
  A : Option Addr
  n : Nat
  cap : Nat
  blob : List UInt8
def Ch.cells (f : Ch) : List Value := [.bool f.del, .string f.s, .slice f.A f.n f.cap]
def Chs (w : World) (S : Nat → Prop) (A : Option Addr) (n cap : Nat) (l : List Ch) : Prop :=
  l.length = n ∧ n ≤ cap ∧ cap ≤ maxLen ∧ (0 < n → ∃ b o, A = some ⟨b, o, none⟩ ∧ b < w.heap.size ∧ ¬ S b ∧ ∀ i f, l[i]? = some f → ∀ j, j < 3 → w.cell? ⟨b, o + i * 3 + j, none⟩ = f.cells[j]?) ∧
    ∀ f ∈ l, ByteSl w S f.A f.n f.cap f.blob ∧ (f.A = none → f.n = 0 ∧ f.cap = 0)

section
variable {H : Type} {enc : TypeId × Value → H} {W : World} {base : Nat}

theorem open_recs {v : Value} {d : DataW H} {p : List MemPlace} (hv : Value.okWide Tryz.prog W .any base 217 v) (h : DataW.Trod enc Tryz.prog W 0 (fun _ => true) true 217 v d p) :
    ∃ (A : Option Addr) (n cap : Nat) (l : List Fd), v = .slice A n cap ∧ Recs W (fun q => W.heap.size ≤ q) A n cap l := by
  obtain ⟨A, n, cap, l, rfl, hl, hn, hm, hA, hP⟩ := open_rows (enc := enc) (⟨0, 0, 0, ⟨#[]⟩, none, 0, 0, 0, []⟩ : Fd) 217 172 5 Tryz.underlying217 (by kernel_rfl) (by decide)
    (fun b off f => (∀ j, j < 5 → W.cell? ⟨b, off + j, none⟩ = f.cells[j + 1]?) ∧ (ByteSl W (fun q => W.heap.size ≤ q) f.A f.n f.cap f.blob ∧ (f.A = none → f.n = 0 ∧ f.cap = 0)) ∧ f.t ≤ 4294967295)
    (fun b off fuel cs x hc ht => by
      obtain ⟨ys, m, _, _, _, hyl, hg⟩ := DataW.trod_struct Tryz.underlying172 ht
      obtain ⟨_, hl, hat⟩ := World.cells?_some hc
      match cs, hl with
      | [c0, c1, c2, c3, c4], _ =>
        match ys, hyl with
        | [y0, y1, y2, y3, y4], _ =>
          have g0 : DataW.trod enc Tryz.prog W 0 (fun _ => true) true m 3 [c0] = some y0 := hg 0 _ rfl
          have g1 : DataW.trod enc Tryz.prog W 0 (fun _ => true) true m 28 [c1] = some y1 := hg 1 _ rfl
          have g2 : DataW.trod enc Tryz.prog W 0 (fun _ => true) true m 9 [c2] = some y2 := hg 2 _ rfl
          have g3 : DataW.trod enc Tryz.prog W 0 (fun _ => true) true m 22 [c3] = some y3 := hg 3 _ rfl
          have g4 : DataW.trod enc Tryz.prog W 0 (fun _ => true) true m 3 [c4] = some y4 := hg 4 _ rfl
          obtain ⟨k, e0, _, _⟩ := DataW.trod_int Tryz.underlying3 g0
          obtain ⟨t, e1, _, w1⟩ := DataW.trod_int Tryz.underlying28 g1
          obtain ⟨s, e2, _, _⟩ := DataW.trod_string Tryz.underlying9 g2
          obtain ⟨A, n, cap, xs, rfl, hB, hA⟩ := bytes_cell g3
          obtain ⟨c, e4, _, _⟩ := DataW.trod_int Tryz.underlying3 g4
          simp at e0 e1 e2 e4
          subst e0 e1 e2 e4
          have hb := bd_u32i w1
          obtain ⟨t', rfl⟩ := Int.eq_ofNat_of_zero_le hb.1
          refine ⟨⟨0, k, t', s, A, n, cap, c, xs⟩, fun j hj => ?_, ⟨hB, hA⟩, by show t' ≤ _; omega⟩
          have h1 := hat j hj
          rw [add_off] at h1
          rw [h1]
          rfl)
    hv h
  have hall : ∀ f ∈ l, (ByteSl W (fun q => W.heap.size ≤ q) f.A f.n f.cap f.blob ∧ (f.A = none → f.n = 0 ∧ f.cap = 0)) ∧ f.t ≤ 4294967295 := fun f hf => by
    obtain ⟨i, hi, he⟩ := List.mem_iff_getElem.1 hf
    obtain ⟨b, o, _, _, hP2⟩ := hP (by omega)
    exact (hP2 i f (by rw [List.getElem?_eq_getElem hi, he])).2
  refine ⟨A, n, cap, l, rfl, hl, hn, hm, fun h0 => ?_, fun f hf => (hall f hf).1, fun f hf => (hall f hf).2⟩
  obtain ⟨b, o, e, hb, hP2⟩ := hP h0
  exact ⟨b, o, e, hb, by omega, fun i f hf => (hP2 i f hf).1⟩

theorem open_changes {v : Value} {d : DataW H} {p : List MemPlace} (hv : Value.okWide Tryz.prog W .any base 104 v) (h : DataW.Trod enc Tryz.prog W 0 (fun _ => true) true 104 v d p) :
    ∃ (A : Option Addr) (n cap : Nat) (l : List Ch), v = .slice A n cap ∧ Chs W (fun q => W.heap.size ≤ q) A n cap l := by
  obtain ⟨A, n, cap, l, rfl, hl, hn, hm, hA, hP⟩ := open_rows (enc := enc) (⟨false, ⟨#[]⟩, none, 0, 0, []⟩ : Ch) 104 103 3 Tryz.underlying104 (by kernel_rfl) (by decide)
    (fun b off f => (∀ j, j < 3 → W.cell? ⟨b, off + j, none⟩ = f.cells[j]?) ∧ (ByteSl W (fun q => W.heap.size ≤ q) f.A f.n f.cap f.blob ∧ (f.A = none → f.n = 0 ∧ f.cap = 0)))
    (fun b off fuel cs x hc ht => by
      obtain ⟨ys, m, _, _, _, hyl, hg⟩ := DataW.trod_struct Tryz.underlying103 ht
      obtain ⟨_, hl, hat⟩ := World.cells?_some hc
      match cs, hl with
      | [c0, c1, c2], _ =>
        match ys, hyl with
        | [y0, y1, y2], _ =>
          have g0 : DataW.trod enc Tryz.prog W 0 (fun _ => true) true m 4 [c0] = some y0 := hg 0 _ rfl
          have g1 : DataW.trod enc Tryz.prog W 0 (fun _ => true) true m 9 [c1] = some y1 := hg 1 _ rfl
          have g2 : DataW.trod enc Tryz.prog W 0 (fun _ => true) true m 22 [c2] = some y2 := hg 2 _ rfl
          obtain ⟨k, e0, _⟩ := DataW.trod_bool Tryz.underlying4 g0
          obtain ⟨s, e1, _, _⟩ := DataW.trod_string Tryz.underlying9 g1
          obtain ⟨A, n, cap, xs, rfl, hB, hA⟩ := bytes_cell g2
          simp at e0 e1
          subst e0 e1
          refine ⟨⟨k, s, A, n, cap, xs⟩, fun j hj => ?_, hB, hA⟩
          have h1 := hat j hj
          rw [add_off] at h1
          rw [h1]
          rfl)
    hv h
  have hall : ∀ f ∈ l, (ByteSl W (fun q => W.heap.size ≤ q) f.A f.n f.cap f.blob ∧ (f.A = none → f.n = 0 ∧ f.cap = 0)) := fun f hf => by
    obtain ⟨i, hi, he⟩ := List.mem_iff_getElem.1 hf
    obtain ⟨b, o, _, _, hP2⟩ := hP (by omega)
    exact (hP2 i f (by rw [List.getElem?_eq_getElem hi, he])).2
  refine ⟨A, n, cap, l, rfl, hl, hn, hm, fun h0 => ?_, hall⟩
  obtain ⟨b, o, e, hb, hP2⟩ := hP h0
  exact ⟨b, o, e, hb, by omega, fun i f hf => (hP2 i f hf).1⟩
end

end Go.Proofs.YtidbipbangifbaaGreatDoor

/- Where bytes end that aren't blank; the walk over scan.laidEnd. -/
namespace Go.Proofs.YtidbipbangifbaaGreatDoor
set_option maxRecDepth 100000
open Go.RowKit

/-- Behind e there is 255 alone, and e is the first such place. -/
structure IsEnd (xs : List UInt8) (e : Nat) : Prop where
  le : e ≤ xs.length
  blank : ∀ j, e ≤ j → j < xs.length → xs[j]? = some 255
  last : 0 < e → ∀ z, xs[e - 1]? = some z → z ≠ 255

theorem IsEnd.exists_ (xs : List UInt8) : ∃ e, IsEnd xs e := by
  have h : ∀ m, m ≤ xs.length → (∀ j, m ≤ j → j < xs.length → xs[j]? = some 255) → ∃ e, IsEnd xs e := by
    intro m
    induction m with
    | zero => exact fun _ hb => ⟨0, Nat.zero_le _, hb, fun h => absurd h (by omega)⟩
    | succ m ih =>
      intro hm hb
      by_cases hz : xs[m]? = some 255
      · exact ih (by omega) (fun j h1 h2 => by
          by_cases hj : j = m
          · subst hj; exact hz
          · exact hb j (by omega) h2)
      · exact ⟨m + 1, hm, hb, fun _ z h => by
          rw [Nat.add_sub_cancel] at h
          intro e
          rw [e] at h
          exact hz h⟩
  exact h xs.length (Nat.le_refl _) (fun j h1 h2 => absurd h2 (by omega))

set_option maxHeartbeats 1000000 in
theorem laidEnd_any (A : Option Addr) (n cap : Nat) (xs : List UInt8) (w : World) (hB : ByteSl w Empty A n cap xs) (hm : n ≤ 1048576) (e : Nat) (hE : IsEnd xs e) :
    Calls Tryz.prog 124 #[.slice A n cap] w fun r w' => r = .returned (.int .i64 (e : Int)) ∧ w = w' := by
  have hl := hB.1
  have hle := hE.le
  rw [hl] at hle
  have HE := Lib.hid hE
  have HB := Lib.hid hB
  have Hl := Lib.hid hl
  clear hE hB hl
  go_enter Tryz.func124, Tryz.ntmps124
  go_wp2_with fail
  go_loop [3] (fun v => ∃ k : Nat, e ≤ k ∧ k ≤ n ∧ v = .int .i64 (k : Int)) (fun v => (intOf v).toNat)
  case atStart => exact ⟨n, hle, Nat.le_refl _, rfl⟩
  case round =>
    obtain ⟨k, h1, h2, rfl⟩ := hrel
    rcases Nat.eq_zero_or_pos k with h0 | h0
    · subst h0
      obtain rfl : e = 0 := by omega
      go_wp2
      go_ret
      exact ⟨rfl, rfl⟩
    · obtain ⟨j, rfl⟩ : ∃ j, k = j + 1 := ⟨k - 1, by omega⟩
      obtain ⟨ad, rfl, -, -, hcell⟩ := HB.out.2.2.2 (by omega)
      obtain ⟨x, hx⟩ : ∃ x, xs[j]? = some x := ⟨_, List.getElem?_eq_getElem (by have := Hl.out; omega)⟩
      have hc := hcell j x hx
      have hz := u8_dec x 255 255 rfl
      have hv : ((j + 1 : Nat) : Int) = (j : Int) + 1 := by omega
      rw [hv]
      have Hx := Lib.hid hx
      unfold B8 at hc
      have hcap := HB.out.2.1
      have hcap2 : cap ≤ 9223372036854775807 := by have := HB.out.2.2.1; unfold maxLen at this; omega
      clear hcell hx hv h0
      by_cases h255 : x = 255
      · have hne : e ≠ j + 1 := by
          intro e1
          subst e1
          exact HE.out.last (by omega) x (by rw [Nat.add_sub_cancel]; exact Hx.out) h255
        rw [decide_eq_true h255] at hz
        have Hne := Lib.hid hne
        clear hne h255
        go_wp2
        go_round
        case rel => exact ⟨j, by have := Hne.out; omega, by omega, by go_num⟩
        case measure => simp [intOf]
      · have he : e = j + 1 := by
          rcases Nat.lt_or_ge e (j + 1) with h | h
          · have h3 := HE.out.blank j (by omega) (by have := Hl.out; omega)
            rw [Hx.out] at h3
            cases h3
            exact absurd rfl h255
          · omega
        have He := Lib.hid he
        rw [decide_eq_false h255] at hz
        clear he h255
        go_wp2
        go_ret
        exact ⟨by rw [He.out]; rfl, rfl⟩

end Go.Proofs.YtidbipbangifbaaGreatDoor

/- The walks over rec.Parse where the record's sum of 32 bits is wrong, and where it is right; Parse as one answer. -/
namespace Go.Proofs.YtidbipbangifbaaGreatDoor
set_option maxRecDepth 100000
open Go.RowKit

set_option maxHeartbeats 4000000 in
theorem rcParse_sum (b o : Nat) (sp : Option Nat) (n cap : Nat) (xs : List UInt8) (w : World) (hBy : ByteSl w Empty (some ⟨b, o, sp⟩) n cap xs) (hm : n ≤ 1048576) (h : hdE xs = 0) (hs : ¬ xs.length < szOf xs) (hsum : sumOk xs = false) :
    Calls Tryz.prog 125 #[.slice (some ⟨b, o, sp⟩) n cap] w fun e w' => RecOk xs w w' e := by
  have hf := head_facts h
  have hf4 := mayB_iff.1 hf.2.2.2
  have HC : Hid (∀ w' : World, Below w.heap.size w w' → RecOk xs w w' (zeroA ((szOf xs : Nat) : Int) 0)) := Lib.hid (fun w' hb => by
    have hp : pE xs = 0 := by unfold pE; rw [if_pos h, if_neg hs]
    have ho : out xs = ⟨0, 0, [], [], 0, szOf xs, false, 0⟩ := by
      unfold out
      rw [hp, hsum]
      rfl
    exact zero_ok ho hb)
  obtain ⟨ad', e, hbl, -, hcell⟩ := hBy.2.2.2 (by have := hBy.1; omega)
  cases e
  have hbl : b < w.heap.size := hbl
  have hcap := hBy.2.1
  have hcap2 : cap ≤ 9223372036854775807 := by have := hBy.2.2.1; unfold maxLen at this; omega
  have hO0 := (Only.refl Empty w).alloc (.cells #[.int .i64 0, .int .u32 0, .string ⟨#[]⟩, .slice none 0 0, .int .i64 0] 172)
  obtain ⟨v1, e1, b1⟩ : ∃ v, v = nK xs ∧ v ≤ 255 := ⟨_, rfl, nK_le xs⟩
  obtain ⟨v2, e2, b2⟩ : ∃ v, v = nT xs ∧ v ≤ 4294967295 := ⟨_, rfl, nT_le xs⟩
  obtain ⟨v3, e3, b3⟩ : ∃ v, v = nA xs ∧ v ≤ 64 := ⟨_, rfl, by omega⟩
  obtain ⟨v4, e4, b4⟩ : ∃ v, v = nB xs ∧ v ≤ 4096 := ⟨_, rfl, by omega⟩
  obtain ⟨v5, e5⟩ : ∃ v, v = nC xs := ⟨_, rfl⟩
  have hge : v3 + v4 + 16 ≤ n := by
    unfold szOf at hs
    rw [hBy.1, ← e3, ← e4] at hs
    omega
  obtain ⟨sm, hsm⟩ : ∃ sm, sm = v3 + v4 + 11 := ⟨_, rfl⟩
  have hsum2 := hsum
  unfold sumOk at hsum2
  rw [← e3, ← e4, ← hsm] at hsum2
  obtain ⟨v6, e6, b6⟩ : ∃ v, v = getV ((xs.drop sm).take 4) ∧ v ≤ 4294967295 := ⟨_, rfl, getV_le _ 4 _ (by simp; omega) rfl⟩
  obtain ⟨v7, e7, b7⟩ : ∃ v, v = (crc32 (xs.take sm)).toNat ∧ v ≤ 4294967295 := ⟨_, rfl, by have := (crc32 (xs.take sm)).isLt; omega⟩
  rw [← e6, ← e7] at hsum2
  have N1 : Hid (Calls Tryz.prog 158 #[.slice (some ⟨b, o, sp⟩) n cap] (w.alloc (.cells #[.int .i64 0, .int .u32 0, .string ⟨#[]⟩, .slice none 0 0, .int .i64 0] 172)) fun e w' => e = .returned (.tuple #[.agg #[.int .i64 (v1 : Int), .int .u32 (v2 : Int), .int .i64 (v3 : Int), .int .i64 (v4 : Int), .int .i64 (v5 : Int)], .int .i64 0]) ∧ Below (w.alloc (.cells #[.int .i64 0, .int .u32 0, .string ⟨#[]⟩, .slice none 0 0, .int .i64 0] 172)).heap.size (w.alloc (.cells #[.int .i64 0, .int .u32 0, .string ⟨#[]⟩, .slice none 0 0, .int .i64 0] 172)) w') := Lib.hid
    ((parseHead_any _ n cap xs _ (hBy.only hO0 (fun _ _ h => h)) hm).mono fun e w' ⟨he, hb⟩ => by
      rw [if_pos h, h, headV, ← e1, ← e2, ← e3, ← e4, ← e5] at he
      exact ⟨he, hb⟩)
  have HBy := Lib.hid hBy
  have N6 : Hid (∀ g W, g ≠ b → Rd W g (some ⟨b, o, sp⟩) n cap sm → ByteSl W Empty (some ⟨b, o, sp⟩) n cap xs → Calls Tryz.prog 159 #[.pointer (some ⟨g, 0, none⟩), .int .i64 4] W fun e W' => e = .returned (.int .u64 (v6 : Int)) ∧ Rd W' g (some ⟨b, o, sp⟩) n cap (sm + 4) ∧ Only (· = g) W W') := Lib.hid fun g W hg hR hB => by
    rw [e6]; exact number_any g _ n cap sm 4 xs W hR hB (by omega) (by omega) hm (by omega)
  have N7 : Hid (∀ W, ByteSl W Empty (some ⟨b, o, sp⟩) n cap xs → Calls Tryz.prog 160 #[.slice (some ⟨b, o, sp⟩) sm cap] W fun e W' => e = .returned (.int .u32 (v7 : Int)) ∧ Below W.heap.size W W') := Lib.hid fun W hB => by
    rw [e7]; exact sum32_any _ sm cap (xs.take sm) W (hB.take_ sm (by omega))
  have hne := of_decide_eq_false hsum2
  have hne1 : ((v6 : Int) == (v7 : Int)) = false := by
    rw [beq_eq_false_iff_ne]
    intro e
    exact hne (by omega)
  have hne2 : ((v6 : Int) != (v7 : Int)) = true := by simp only [bne, hne1]; rfl
  have Hsz : Hid (((szOf xs : Nat) : Int) = (sm : Int) + 5) := Lib.hid (by unfold szOf; rw [← e3, ← e4]; omega)
  rw [Hsz.out] at HC
  clear hne hsum2 e1 e2 e3 e4 e5 e6 e7
  have Hsm := Lib.hid hsm
  have hge2 : sm + 5 ≤ n := by omega
  clear hf hf4 h hs hBy hO0 hsum hcell hsm hge
  go_enter Tryz.func125, Tryz.ntmps125
  go_wp2_with fail
  refine N1.out.mono ?_
  rintro e1 w1 ⟨rfl, hb1⟩
  have HJ1 := Lib.hid ((Blk.new w 172 #[.int .i64 0, .int .u32 0, .string ⟨#[]⟩, .slice none 0 0, .int .i64 0]).of (hb1.block w.heap.size (by simp)))
  have HO1 := Lib.hid (((Only.refl Empty w).alloc (.cells #[.int .i64 0, .int .u32 0, .string ⟨#[]⟩, .slice none 0 0, .int .i64 0] 172)).trans (Only.of_below hb1))
  clear hb1
  go_wp2_with fail
  refine (hSize_any (v1 : Int) (v2 : Int) (v5 : Int) v3 v4 _ (by omega) (by omega)).mono ?_
  rintro e1 w2 ⟨rfl, hb2⟩
  have HJ2 := Lib.hid ((HJ1.out.alloc (.cells #[.int .i64 (v1 : Int), .int .u32 (v2 : Int), .int .i64 (v3 : Int), .int .i64 (v4 : Int), .int .i64 (v5 : Int)] 215)).of (hb2.block w.heap.size (by have := HJ1.out.lt; simp; omega)))
  have HK2 := Lib.hid ((Blk.new w1 215 #[.int .i64 (v1 : Int), .int .u32 (v2 : Int), .int .i64 (v3 : Int), .int .i64 (v4 : Int), .int .i64 (v5 : Int)]).of (hb2.block w1.heap.size (by simp)))
  have HO2 := Lib.hid ((HO1.out.alloc (.cells #[.int .i64 (v1 : Int), .int .u32 (v2 : Int), .int .i64 (v3 : Int), .int .i64 (v4 : Int), .int .i64 (v5 : Int)] 215)).trans (Only.of_below hb2))
  clear hb2
  have hz2 : w1.heap.size < w2.heap.size := HK2.out.lt
  have hz1 : w.heap.size < w1.heap.size := HJ1.out.lt
  rw [show ((v3 + v4 + 16 : Nat) : Int) = (sm : Int) + 5 by have := Hsm.out; omega]
  have hd : decide ((n : Int) < (sm : Int) + 5) = false := by simp; omega
  have hq : (sm : Int) + 5 - 5 = (sm : Int) := by omega
  go_wp2_with fail
  clear hd hq
  have HR3 : Hid (Rd (w2.alloc (.cells #[.slice (some ⟨b, o, sp⟩) n cap, .int .i64 (sm : Int)] 238)).drew w2.heap.size (some ⟨b, o, sp⟩) n cap sm) := Lib.hid (Blk.new w2 238 #[.slice (some ⟨b, o, sp⟩) n cap, .int .i64 (sm : Int)]).drew
  have hO3 : Only Empty w2 (w2.alloc (.cells #[.slice (some ⟨b, o, sp⟩) n cap, .int .i64 (sm : Int)] 238)).drew := ((Only.refl Empty w2).alloc _).drew
  have HO3 := Lib.hid (HO2.out.trans hO3)
  have HB3 := Lib.hid (HBy.out.only HO3.out (fun _ _ h => h))
  have HJ3 := Lib.hid (hO3.blk HJ2.out (fun h => h))
  have HK3 := Lib.hid (hO3.blk HK2.out (fun h => h))
  have Hg : Hid (w2.heap.size ≠ b) := Lib.hid (by omega)
  clear hO3
  have hwv : IntKind.u32.wrap (v6 : Int) = (v6 : Int) := by rw [IntKind.wrap_u32]; omega
  have q1 : (sm : Int) ≤ (cap : Int) := by omega
  have q2 : (sm : Int) ≤ (n : Int) := by omega
  have q3 : (0 : Int) ≤ (sm : Int) := by omega
  have q4 : sm ≤ cap := by omega
  have q5 : sm ≤ n := by omega
  have hT : True := trivial
  go_region_held3 (fun _ => True) (exact hT)
    (first | ((go_at_call 159; (with_reducible refine (N6.out _ _ Hg.out HR3.out HB3.out).mono ?_); rintro e10 w10 ⟨rfl, hR10, hO10⟩; have HB10 := Lib.hid (((HB3.out.mono_of (T := (· = w2.heap.size)) (Ne.symm Hg.out)).only hO10 (fun _ _ h => h)).mono (T := Empty) (fun _ _ h => h.elim)))) | ((go_at_call 160; (with_reducible refine (N7.out _ HB10.out).mono ?_); rintro e11 w11 ⟨rfl, hb11⟩)))
  clear hwv q1 q2 q3 q4 q5
  have hz3 : w2.heap.size < w10.heap.size := hR10.lt
  have hz4 := hb11.size
  have HO11 := Lib.hid (HO3.out.trans' (hO10.trans (Only.of_below hb11)) (fun q h1 h2 => by omega))
  have HR11 : Hid (Rd w11 w2.heap.size (some ⟨b, o, sp⟩) n cap (sm + 4)) := Lib.hid (Blk.of hR10 (hb11.block w2.heap.size (by omega)))
  have HJ11 := Lib.hid ((hO10.blk HJ3.out (by omega)).of (hb11.block w.heap.size (by omega)))
  have HK11 := Lib.hid ((hO10.blk HK3.out (by omega)).of (hb11.block w1.heap.size (by omega)))
  have HB11 := Lib.hid (HBy.out.only HO11.out (fun _ _ h => h))
  clear hR10 hO10 hb11
  have j0 := HJ11.out.cell 0
  have j1 := HJ11.out.cell 1
  have j2 := HJ11.out.cell 2
  have j3 := HJ11.out.cell 3
  have j4 := HJ11.out.cell 4
  have g0 := HJ11.out.frozen 0
  have g1 := HJ11.out.frozen 1
  have g2 := HJ11.out.frozen 2
  have g3 := HJ11.out.frozen 3
  have g4 := HJ11.out.frozen 4
  simp at j0 j1 j2 j3 j4
  go_wp2
  refine bodyPost_ret (v := .tuple #[.agg #[.int .i64 0, .int .u32 0, .string ⟨#[]⟩, .slice none 0 0, .int .i64 0], .int .i64 ((sm : Int) + 5), .bool false, .int .i64 0]) (by simp [results, Tryz.results125, go_sem, j0, j1, j2, j3, j4]) rfl (HC.out _ ?_)
  exact (((((HO11.out.below (Nat.le_refl _) (fun _ _ h => h)).setCell (by simp) _).setCell (by simp) _).setCell (by simp) _).setCell (by simp) _).setCell (by simp) _

set_option maxHeartbeats 4000000 in
theorem rcParse_yes (b o : Nat) (sp : Option Nat) (n cap : Nat) (xs : List UInt8) (w : World) (hBy : ByteSl w Empty (some ⟨b, o, sp⟩) n cap xs) (hm : n ≤ 1048576) (h : hdE xs = 0) (hs : ¬ xs.length < szOf xs) (hsum : sumOk xs = true) :
    Calls Tryz.prog 125 #[.slice (some ⟨b, o, sp⟩) n cap] w fun e w' => RecOk xs w w' e := by
  have hf := head_facts h
  have hf4 := mayB_iff.1 hf.2.2.2
  obtain ⟨ad', e, hbl, -, hcell⟩ := hBy.2.2.2 (by have := hBy.1; omega)
  cases e
  have hbl : b < w.heap.size := hbl
  have hcap := hBy.2.1
  have hcap2 : cap ≤ 9223372036854775807 := by have := hBy.2.2.1; unfold maxLen at this; omega
  have hO0 := (Only.refl Empty w).alloc (.cells #[.int .i64 0, .int .u32 0, .string ⟨#[]⟩, .slice none 0 0, .int .i64 0] 172)
  obtain ⟨v1, e1, b1⟩ : ∃ v, v = nK xs ∧ v ≤ 255 := ⟨_, rfl, nK_le xs⟩
  obtain ⟨v2, e2, b2⟩ : ∃ v, v = nT xs ∧ v ≤ 4294967295 := ⟨_, rfl, nT_le xs⟩
  obtain ⟨v3, e3, b3⟩ : ∃ v, v = nA xs ∧ v ≤ 64 := ⟨_, rfl, by omega⟩
  obtain ⟨v4, e4, b4⟩ : ∃ v, v = nB xs ∧ v ≤ 4096 := ⟨_, rfl, by omega⟩
  obtain ⟨v5, e5⟩ : ∃ v, v = nC xs := ⟨_, rfl⟩
  have hge : v3 + v4 + 16 ≤ n := by
    unfold szOf at hs
    rw [hBy.1, ← e3, ← e4] at hs
    omega
  obtain ⟨sm, hsm⟩ : ∃ sm, sm = v3 + v4 + 11 := ⟨_, rfl⟩
  have hsum2 := hsum
  unfold sumOk at hsum2
  rw [← e3, ← e4, ← hsm] at hsum2
  obtain ⟨v6, e6, b6⟩ : ∃ v, v = getV ((xs.drop sm).take 4) ∧ v ≤ 4294967295 := ⟨_, rfl, getV_le _ 4 _ (by simp; omega) rfl⟩
  obtain ⟨v7, e7, b7⟩ : ∃ v, v = (crc32 (xs.take sm)).toNat ∧ v ≤ 4294967295 := ⟨_, rfl, by have := (crc32 (xs.take sm)).isLt; omega⟩
  rw [← e6, ← e7] at hsum2
  have N1 : Hid (Calls Tryz.prog 158 #[.slice (some ⟨b, o, sp⟩) n cap] (w.alloc (.cells #[.int .i64 0, .int .u32 0, .string ⟨#[]⟩, .slice none 0 0, .int .i64 0] 172)) fun e w' => e = .returned (.tuple #[.agg #[.int .i64 (v1 : Int), .int .u32 (v2 : Int), .int .i64 (v3 : Int), .int .i64 (v4 : Int), .int .i64 (v5 : Int)], .int .i64 0]) ∧ Below (w.alloc (.cells #[.int .i64 0, .int .u32 0, .string ⟨#[]⟩, .slice none 0 0, .int .i64 0] 172)).heap.size (w.alloc (.cells #[.int .i64 0, .int .u32 0, .string ⟨#[]⟩, .slice none 0 0, .int .i64 0] 172)) w') := Lib.hid
    ((parseHead_any _ n cap xs _ (hBy.only hO0 (fun _ _ h => h)) hm).mono fun e w' ⟨he, hb⟩ => by
      rw [if_pos h, h, headV, ← e1, ← e2, ← e3, ← e4, ← e5] at he
      exact ⟨he, hb⟩)
  have HBy := Lib.hid hBy
  have N6 : Hid (∀ g W, g ≠ b → Rd W g (some ⟨b, o, sp⟩) n cap sm → ByteSl W Empty (some ⟨b, o, sp⟩) n cap xs → Calls Tryz.prog 159 #[.pointer (some ⟨g, 0, none⟩), .int .i64 4] W fun e W' => e = .returned (.int .u64 (v6 : Int)) ∧ Rd W' g (some ⟨b, o, sp⟩) n cap (sm + 4) ∧ Only (· = g) W W') := Lib.hid fun g W hg hR hB => by
    rw [e6]; exact number_any g _ n cap sm 4 xs W hR hB (by omega) (by omega) hm (by omega)
  have N7 : Hid (∀ W, ByteSl W Empty (some ⟨b, o, sp⟩) n cap xs → Calls Tryz.prog 160 #[.slice (some ⟨b, o, sp⟩) sm cap] W fun e W' => e = .returned (.int .u32 (v7 : Int)) ∧ Below W.heap.size W W') := Lib.hid fun W hB => by
    rw [e7]; exact sum32_any _ sm cap (xs.take sm) W (hB.take_ sm (by omega))
  obtain ⟨z8, hz8⟩ : ∃ z, xs[sm + 4]? = some z := ⟨_, List.getElem?_eq_getElem (by have := hBy.1; omega)⟩
  have N8 : Hid (∀ g W, Rd W g (some ⟨b, o, sp⟩) n cap (sm + 4) → ByteSl W Empty (some ⟨b, o, sp⟩) n cap xs → Calls Tryz.prog 159 #[.pointer (some ⟨g, 0, none⟩), .int .i64 1] W fun e W' => e = .returned (.int .u64 (z8.toNat : Int)) ∧ Rd W' g (some ⟨b, o, sp⟩) n cap (sm + 5) ∧ Only (· = g) W W') := Lib.hid fun g W hR hB => by
    have hv : getV ((xs.drop (sm + 4)).take 1) = z8.toNat := by
      have hl : sm + 4 < xs.length := (List.getElem?_eq_some_iff.1 hz8).1
      have he := (List.getElem?_eq_some_iff.1 hz8).2
      rw [List.drop_eq_getElem_cons hl, he]
      simp [getV]
    rw [← hv]; exact number_any g _ n cap (sm + 4) 1 xs W hR hB (by omega) (by omega) hm (by omega)
  have HOut : Hid (out xs = ⟨v1, v2, (xs.drop 11).take v3, (xs.drop (11 + v3)).take v4, v5, sm + 5, decide (z8 = 0), 0⟩) := Lib.hid (by
    have hp : pE xs = 0 := by unfold pE; rw [if_pos h, if_neg hs]
    have hz : xs[nA xs + nB xs + 15]? = some z8 := by rw [← e3, ← e4, ← hz8]; congr 1; omega
    have hzz : szOf xs = sm + 5 := by unfold szOf; rw [← e3, ← e4]; omega
    unfold out
    rw [if_pos hp, if_pos hsum, hz, ← e1, ← e2, ← e3, ← e4, ← e5, hzz]
    rfl)
  clear hz8
  have he67 : v6 = v7 := of_decide_eq_true hsum2
  subst he67
  have Hsz : Hid (((szOf xs : Nat) : Int) = (sm : Int) + 5) := Lib.hid (by unfold szOf; rw [← e3, ← e4]; omega)
  have E1 := Lib.hid (And.intro e1 (And.intro e2 (And.intro e3 (And.intro e4 e5))))
  clear hsum2 e1 e2 e3 e4 e5 e6 e7
  have Hsm := Lib.hid hsm
  have hge2 : sm + 5 ≤ n := by omega
  clear hf hf4 h hs hBy hO0 hsum hcell hsm hge
  go_enter Tryz.func125, Tryz.ntmps125
  go_wp2_with fail
  refine N1.out.mono ?_
  rintro e1 w1 ⟨rfl, hb1⟩
  have HJ1 := Lib.hid ((Blk.new w 172 #[.int .i64 0, .int .u32 0, .string ⟨#[]⟩, .slice none 0 0, .int .i64 0]).of (hb1.block w.heap.size (by simp)))
  have HO1 := Lib.hid (((Only.refl Empty w).alloc (.cells #[.int .i64 0, .int .u32 0, .string ⟨#[]⟩, .slice none 0 0, .int .i64 0] 172)).trans (Only.of_below hb1))
  clear hb1
  go_wp2_with fail
  refine (hSize_any (v1 : Int) (v2 : Int) (v5 : Int) v3 v4 _ (by omega) (by omega)).mono ?_
  rintro e1 w2 ⟨rfl, hb2⟩
  have HJ2 := Lib.hid ((HJ1.out.alloc (.cells #[.int .i64 (v1 : Int), .int .u32 (v2 : Int), .int .i64 (v3 : Int), .int .i64 (v4 : Int), .int .i64 (v5 : Int)] 215)).of (hb2.block w.heap.size (by have := HJ1.out.lt; simp; omega)))
  have HK2 := Lib.hid ((Blk.new w1 215 #[.int .i64 (v1 : Int), .int .u32 (v2 : Int), .int .i64 (v3 : Int), .int .i64 (v4 : Int), .int .i64 (v5 : Int)]).of (hb2.block w1.heap.size (by simp)))
  have HO2 := Lib.hid ((HO1.out.alloc (.cells #[.int .i64 (v1 : Int), .int .u32 (v2 : Int), .int .i64 (v3 : Int), .int .i64 (v4 : Int), .int .i64 (v5 : Int)] 215)).trans (Only.of_below hb2))
  clear hb2
  have hz2 : w1.heap.size < w2.heap.size := HK2.out.lt
  have hz1 : w.heap.size < w1.heap.size := HJ1.out.lt
  rw [show ((v3 + v4 + 16 : Nat) : Int) = (sm : Int) + 5 by have := Hsm.out; omega]
  have hd : decide ((n : Int) < (sm : Int) + 5) = false := by simp; omega
  have hq : (sm : Int) + 5 - 5 = (sm : Int) := by omega
  go_wp2_with fail
  clear hd hq
  have HR3 : Hid (Rd (w2.alloc (.cells #[.slice (some ⟨b, o, sp⟩) n cap, .int .i64 (sm : Int)] 238)).drew w2.heap.size (some ⟨b, o, sp⟩) n cap sm) := Lib.hid (Blk.new w2 238 #[.slice (some ⟨b, o, sp⟩) n cap, .int .i64 (sm : Int)]).drew
  have hO3 : Only Empty w2 (w2.alloc (.cells #[.slice (some ⟨b, o, sp⟩) n cap, .int .i64 (sm : Int)] 238)).drew := ((Only.refl Empty w2).alloc _).drew
  have HO3 := Lib.hid (HO2.out.trans hO3)
  have HB3 := Lib.hid (HBy.out.only HO3.out (fun _ _ h => h))
  have HJ3 := Lib.hid (hO3.blk HJ2.out (fun h => h))
  have HK3 := Lib.hid (hO3.blk HK2.out (fun h => h))
  have Hg : Hid (w2.heap.size ≠ b) := Lib.hid (by omega)
  clear hO3
  have hwv : IntKind.u32.wrap (v6 : Int) = (v6 : Int) := by rw [IntKind.wrap_u32]; omega
  have q1 : (sm : Int) ≤ (cap : Int) := by omega
  have q2 : (sm : Int) ≤ (n : Int) := by omega
  have q3 : (0 : Int) ≤ (sm : Int) := by omega
  have q4 : sm ≤ cap := by omega
  have q5 : sm ≤ n := by omega
  have hT : True := trivial
  go_region_held3 (fun _ => True) (exact hT)
    (first | ((go_at_call 159; (with_reducible refine (N6.out _ _ Hg.out HR3.out HB3.out).mono ?_); rintro e10 w10 ⟨rfl, hR10, hO10⟩; have HB10 := Lib.hid (((HB3.out.mono_of (T := (· = w2.heap.size)) (Ne.symm Hg.out)).only hO10 (fun _ _ h => h)).mono (T := Empty) (fun _ _ h => h.elim)))) | ((go_at_call 160; (with_reducible refine (N7.out _ HB10.out).mono ?_); rintro e11 w11 ⟨rfl, hb11⟩)))
  clear hwv q1 q2 q3 q4 q5
  have hz3 : w2.heap.size < w10.heap.size := hR10.lt
  have hz4 := hb11.size
  have HO11 := Lib.hid (HO3.out.trans' (hO10.trans (Only.of_below hb11)) (fun q h1 h2 => by omega))
  have HR11 : Hid (Rd w11 w2.heap.size (some ⟨b, o, sp⟩) n cap (sm + 4)) := Lib.hid (Blk.of hR10 (hb11.block w2.heap.size (by omega)))
  have HJ11 := Lib.hid ((hO10.blk HJ3.out (by omega)).of (hb11.block w.heap.size (by omega)))
  have HK11 := Lib.hid ((hO10.blk HK3.out (by omega)).of (hb11.block w1.heap.size (by omega)))
  have HB11 := Lib.hid (HBy.out.only HO11.out (fun _ _ h => h))
  clear hR10 hO10 hb11
  have j0 := HJ11.out.cell 0
  have j1 := HJ11.out.cell 1
  have j2 := HJ11.out.cell 2
  have j3 := HJ11.out.cell 3
  have j4 := HJ11.out.cell 4
  have g0 := HJ11.out.frozen 0
  have g1 := HJ11.out.frozen 1
  have g2 := HJ11.out.frozen 2
  have g3 := HJ11.out.frozen 3
  have g4 := HJ11.out.frozen 4
  have y0 := HK11.out.cell 0
  have y1 := HK11.out.cell 1
  have y2 := HK11.out.cell 2
  have y3 := HK11.out.cell 3
  have y4 := HK11.out.cell 4
  simp at j0 j1 j2 j3 j4 y0 y1 y2 y3 y4
  have hy1 : w1.heap.size < w11.heap.size := HK11.out.lt
  have hy0 : w.heap.size < w11.heap.size := HJ11.out.lt
  have hz24 : w2.heap.size < w11.heap.size := by omega
  clear hz4
  go_wp2_with fail
  clear y0 y1 y2 y3 y4
  have HO12 := Lib.hid (HO11.out.alloc (.cells #[.slice (some ⟨b, o, sp⟩) n cap, .int .i64 11] 238))
  have HR12 : Hid (Rd (w11.alloc (.cells #[.slice (some ⟨b, o, sp⟩) n cap, .int .i64 11] 238)) w11.heap.size (some ⟨b, o, sp⟩) n cap 11) := Lib.hid (Blk.new w11 238 _)
  have HB12 : Hid (ByteSl (w11.alloc (.cells #[.slice (some ⟨b, o, sp⟩) n cap, .int .i64 11] 238)) (· = w11.heap.size) (some ⟨b, o, sp⟩) n cap xs) := Lib.hid ((HBy.out.only HO12.out (fun _ _ h => h)).mono_of (by omega))
  refine (record_any w11.heap.size _ n cap (v1 : Int) (v2 : Int) (v5 : Int) v3 v4 xs _ HR12.out HB12.out hm (by have := Hsm.out; omega)).mono ?_
  rintro e1 w12 ⟨⟨_, rfl, A2, n2, cap2, rfl, hl2, hown2⟩, hO12⟩
  have hz12 : w11.heap.size < w12.heap.size := (hO12.size |> fun h => by simp at h; omega)
  have HO13 := Lib.hid (HO12.out.trans' hO12 (fun q h1 h2 => by omega))
  have HJ12 := Lib.hid (hO12.blk (HJ11.out.alloc (.cells #[.slice (some ⟨b, o, sp⟩) n cap, .int .i64 11] 238)) (by omega))
  have HR13 : Hid (Rd w12 w2.heap.size (some ⟨b, o, sp⟩) n cap (sm + 4)) := Lib.hid (hO12.blk (Blk.alloc HR11.out (.cells #[.slice (some ⟨b, o, sp⟩) n cap, .int .i64 11] 238)) (by omega))
  have HB13 := Lib.hid (HBy.out.only HO13.out (fun _ _ h => h))
  have Hown2 : Hid (w12.ownsRow (w11.heap.size + 1) 5 1 (.slice A2 n2 cap2) n2 ((((xs.drop (11 + v3)).take v4)).map B8)) := Lib.hid (own_base hown2 (by simp))
  have Hl2 := Lib.hid hl2
  clear hO12 hown2 hl2 j0 j1 j2 j3 j4 g0 g1 g2 g3 g4
  go_wp2_with fail
  refine (N8.out _ _ HR13.out HB13.out).mono ?_
  rintro e1 w13 ⟨rfl, hR14, hO14⟩
  have hj13 := hO14.blk HJ12.out (by omega)
  have HO15 := Lib.hid (HO13.out.trans' hO14 (fun q h1 h2 => by omega))
  have Hown3 := Lib.hid (own_only Hown2.out hO14 (fun q h1 h2 => by omega))
  have hz13 : w12.heap.size ≤ w13.heap.size := hO14.size
  have j0 := hj13.cell 0
  have j1 := hj13.cell 1
  have j2 := hj13.cell 2
  have j3 := hj13.cell 3
  have j4 := hj13.cell 4
  have g0 := hj13.frozen 0
  have g1 := hj13.frozen 1
  have g2 := hj13.frozen 2
  have g3 := hj13.frozen 3
  have g4 := hj13.frozen 4
  simp at j0 j1 j2 j3 j4
  clear hR14 hO14 hj13
  have hzb := u8_dec z8 0 0 rfl
  go_wp2
  have hS : Only (· = w.heap.size) w13 (((((w13.setCell ⟨w.heap.size, 0, none⟩ (.int .i64 (v1 : Int))).setCell ⟨w.heap.size, 1, none⟩ (.int .u32 (v2 : Int))).setCell ⟨w.heap.size, 2, none⟩ (.string (strB ((xs.drop 11).take v3)))).setCell ⟨w.heap.size, 3, none⟩ (.slice A2 n2 cap2)).setCell ⟨w.heap.size, 4, none⟩ (.int .i64 (v5 : Int))) :=
    (((((Only.refl (· = w.heap.size) w13).setCell (p := ⟨w.heap.size, 0, none⟩) (Or.inl rfl) _).setCell (p := ⟨w.heap.size, 1, none⟩) (Or.inl rfl) _).setCell (p := ⟨w.heap.size, 2, none⟩) (Or.inl rfl) _).setCell (p := ⟨w.heap.size, 3, none⟩) (Or.inl rfl) _).setCell (p := ⟨w.heap.size, 4, none⟩) (Or.inl rfl) _
  refine bodyPost_ret (v := .tuple #[.agg #[.int .i64 (v1 : Int), .int .u32 (v2 : Int), .string (strB ((xs.drop 11).take v3)), .slice A2 n2 cap2, .int .i64 (v5 : Int)], .int .i64 ((sm : Int) + 5), .bool (decide (z8 = 0)), .int .i64 0]) (by simp [results, Tryz.results125, go_sem, j0, j1, j2, j3, j4]) rfl ⟨⟨A2, n2, cap2, ?_, ?_⟩, ?_⟩
  · rw [HOut.out]
    rfl
  · rw [HOut.out]
    obtain ⟨A', c', e, hg⟩ := Got.of_own (own_base (own_only Hown3.out hS (fun q h1 h2 => by omega)) (show w.heap.size ≤ w11.heap.size + 1 by omega))
    cases e
    exact hg
  · exact (HO15.out.trans' hS (fun q h1 h2 => by omega)).below (Nat.le_refl _) (fun _ _ h => h)

/-- Parse as one answer. -/
theorem rcParse_any (A : Option Addr) (n cap : Nat) (xs : List UInt8) (w : World) (hBy : ByteSl w Empty A n cap xs) (hm : n ≤ 1048576) :
    Calls Tryz.prog 125 #[.slice A n cap] w fun e w' => RecOk xs w w' e := by
  by_cases h : hdE xs = 0
  · by_cases hs : xs.length < szOf xs
    · exact rcParse_short A n cap xs w hBy hm h hs
    · have hf := head_facts h
      obtain ⟨⟨b, o, sp⟩, rfl, -, -, -⟩ := hBy.2.2.2 (by have := hBy.1; omega)
      cases hsum : sumOk xs with
      | true => exact rcParse_yes b o sp n cap xs w hBy hm h hs hsum
      | false => exact rcParse_sum b o sp n cap xs w hBy hm h hs hsum
  · exact rcParse_no A n cap xs w hBy hm h

end Go.Proofs.YtidbipbangifbaaGreatDoor
