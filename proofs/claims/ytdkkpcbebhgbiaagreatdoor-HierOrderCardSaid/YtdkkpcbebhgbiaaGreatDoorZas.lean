/- How the made classes' rows lie, as rows of data; no walks. -/
import Derived.Test.YtdkkpcbebhgbiaaGreatDoorZaj
import Derived.Test.YtdkkpcbebhgbiaaGreatDoorZar
import Derived.Test.YtdkkpcbebhgbiaaGreatDoorZap
import Derived.Test.YtdkkpcbebhgbiaaGreatDoorZag
import Derived.Test.YtdkkpcbebhgbiaaGreatDoorZaa
namespace Go.Proofs.YtdkkpcbebhgbiaaGreatDoor
set_option maxRecDepth 100000
open Go.RowKit

/-- The blocks that aren't looked at: the tape's, and those that aren't there yet. -/
def Zt (tp : Nat) (w : World) : Nat → Prop := fun q => q = tp ∨ w.heap.size ≤ q
theorem zt_next {tp : Nat} {w w' : World} (k : Only (Zt tp w) w w') : ∀ q, q < w.heap.size → Zt tp w' q → Zt tp w q := fun q _ h => h.elim Or.inl (fun h2 => by have := k.size; exact Or.inr (by omega))
theorem RowS.fwd {α : Type} {R : RepT α} {w w' : World} {tp : Nat} {A : Option Addr} {n c : Nat} {l : List α} (h : RowS R w (Zt tp w) A n c l) (k : Only (Zt tp w) w w') : RowS R w' (Zt tp w') A n c l := h.next k (zt_next k)
theorem Only.zt {tp : Nat} {w w1 w2 : World} (h : Only (Zt tp w) w w1) (k : Only (Zt tp w1) w1 w2) : Only (Zt tp w) w w2 := h.trans (k.mono (fun q _ e => e.elim Or.inl (fun h2 => Or.inr (by have := h.size; omega))))
theorem Only.zt_below {tp : Nat} {w w1 : World} (h : Below w.heap.size w w1) : Only (Zt tp w) w w1 := Only.of_below h
theorem rowS_of_got {α β : Type} {cells : α → List Value} {R : RepT β} {t : TypeId} {base : Nat} {w : World} {A : Option Addr} {n c : Nat} {l : List α} {l' : List β} {tp : Nat} (h : GotR cells R.k t base w A n c l) (hb : tp < base) (hl : l.length = l'.length)
    (hr : ∀ (i : Nat) (x : α) (y : β), l[i]? = some x → l'[i]? = some y → R.rep w (Zt tp w) (cells x) y) : RowS R w (Zt tp w) A n c l' := by
  obtain ⟨h1, h2, h3, h4⟩ := h.row
  refine ⟨hl.symm.trans h1, h2, h3, h.isNil, fun h0 => ?_⟩
  obtain ⟨b, o, e, hbl, _, hc⟩ := h4 h0
  have hbb : base ≤ b := by
    rcases h.here with h5 | ⟨g, cur, h5, h6, _⟩
    · rw [e] at h5; cases h5
    · rw [e] at h5; cases h5; exact h6
  refine ⟨b, o, e, hbl, fun hz => hz.elim (fun h7 => by omega) (fun h7 => by omega), fun i y hy => ?_⟩
  have hi : i < l.length := by rw [hl]; exact (List.getElem?_eq_some_iff.1 hy).1
  have hx : l[i]? = some l[i] := List.getElem?_eq_getElem hi
  have hrep := hr i _ y hx hy
  refine ⟨cells l[i], fun j v hv => ?_, hrep⟩
  rw [hc i _ hx j (by rw [← R.len hrep]; exact (List.getElem?_eq_some_iff.1 hv).1)]
  exact hv
theorem flat_at {k : Nat} {v : Value} {c : List Value} : ∀ {css : List (List Value)} {i j : Nat}, (∀ c ∈ css, c.length = k) → css[i]? = some c → c[j]? = some v → css.flatten[i * k + j]? = some v
  | [], _, _, _, h, _ => by simp at h
  | d :: r, 0, j, hk, h, hj => by
    simp at h; subst h
    rw [List.flatten_cons, Nat.zero_mul, Nat.zero_add, List.getElem?_append_left (List.getElem?_eq_some_iff.1 hj).1]
    exact hj
  | d :: r, i + 1, j, hk, h, hj => by
    have hd := hk d List.mem_cons_self
    rw [List.flatten_cons, List.getElem?_append_right (by rw [hd, Nat.add_mul]; omega), hd, show (i + 1) * k + j - k = i * k + j by rw [Nat.add_mul]; omega]
    exact flat_at (fun c hc => hk c (List.mem_cons_of_mem _ hc)) (by simpa using h) hj
/-- A block of its own reads as a row. -/
theorem rowS_of_blk {β : Type} {R : RepT β} {t : TypeId} {w : World} {tp b : Nat} {css : List (List Value)} {l : List β} (hB : Blk w b t css.flatten.toArray) (hne : b ≠ tp) (hl : css.length = l.length) (hm : l.length ≤ maxLen)
    (hr : ∀ (i : Nat) (x : List Value) (y : β), css[i]? = some x → l[i]? = some y → R.rep w (Zt tp w) x y) : RowS R w (Zt tp w) (some ⟨b, 0, none⟩) l.length l.length l := by
  refine ⟨rfl, Nat.le_refl _, hm, (fun h => by cases h), fun h0 => ?_⟩
  have hk : ∀ c ∈ css, c.length = R.k := fun c hc => by
    obtain ⟨i, hi⟩ := List.mem_iff_getElem?.1 hc
    have hlt : i < l.length := by rw [← hl]; exact (List.getElem?_eq_some_iff.1 hi).1
    exact R.len (hr i c l[i] hi (List.getElem?_eq_getElem hlt))
  refine ⟨b, 0, rfl, hB.lt, fun hz => hz.elim (fun h7 => hne h7) (fun h7 => by have := hB.lt; omega), fun i y hy => ?_⟩
  have hi : i < css.length := by rw [hl]; exact (List.getElem?_eq_some_iff.1 hy).1
  have hx : css[i]? = some css[i] := List.getElem?_eq_getElem hi
  refine ⟨css[i], fun j v hv => ?_, hr i _ y hx hy⟩
  rw [show 0 + i * R.k + j = i * R.k + j by omega, hB.cell]
  simpa using flat_at hk hx hv
theorem map_ones : ∀ l : List Bs, l.map SV = (l.map (fun s => [SV s])).flatten
  | [] => rfl
  | x :: r => by rw [List.map_cons, List.map_cons, List.flatten_cons, ← map_ones r]; rfl
theorem rowS_of_strB {w : World} {tp : Nat} {cs0 : Array Value} {A : Option Addr} {n c : Nat} {l : List Bs} (ht : Blk w tp 32 cs0) (h : StrB w A n c l) (hm : l.length ≤ maxLen) : RowS strT w (Zt tp w) A n c l := by
  rcases h with ⟨rfl, rfl, rfl, rfl⟩ | ⟨b, rfl, rfl, rfl, hB⟩
  · exact rowS_nil _ _ _
  · have hf : (l.map SV).toArray = ((l.map (fun s => [SV s])).flatten).toArray := by rw [map_ones]
    rw [hf] at hB
    refine rowS_of_blk (R := strT) hB (fun e => ?_) (by simp) hm (fun i x y hx hy => ?_)
    · subst e
      exact Blk.ne_ ht hB (by decide) rfl
    · rw [List.getElem?_map, hy] at hx
      cases hx
      rfl
/-- The writer's rows, as data. -/
theorem rows_code {w : World} {tp base : Nat} {C : Option Addr} {n c : Nat} {l : List InD} (h : GotR inC 7 98 base w C n c l) (hb : tp < base) : RowS inT w (Zt tp w) C n c l :=
  rowS_of_got (R := inT) h hb rfl (fun i x y hx hy => by rw [hx] at hy; cases hy; rfl)
theorem rows_traps {w : World} {tp base : Nat} {C : Option Addr} {n c : Nat} {l : List TrD} (h : GotR trC 4 133 base w C n c l) (hb : tp < base) : RowS trT w (Zt tp w) C n c l :=
  rowS_of_got (R := trT) h hb rfl (fun i x y hx hy => by rw [hx] at hy; cases hy; rfl)
theorem rows_maps {w : World} {tp base : Nat} {cs0 : Array Value} {C : Option Addr} {n c : Nat} {lm : List MpR} {maps : List MpD} (ht : Blk w tp 32 cs0) (h : GotR mpC 3 44 base w C n c lm) (hm : MapsAt w lm maps) (hb : tp < base)
    (hsm : ∀ m ∈ maps, m.locals.length ≤ maxLen ∧ m.stack.length ≤ maxLen) : RowS mpT w (Zt tp w) C n c maps :=
  rowS_of_got (R := mpT) h hb hm.1 (fun i x y hx hy => by
    obtain ⟨h1, h2, h3⟩ := hm.2 i x y hx hy
    have hs := hsm y (List.mem_of_getElem? hy)
    exact ⟨_, _, by rw [← h1]; rfl, ⟨_, _, _, rfl, rowS_of_strB ht h2 hs.1⟩, ⟨_, _, _, rfl, rowS_of_strB ht h3 hs.2⟩⟩)

end Go.Proofs.YtdkkpcbebhgbiaaGreatDoor

/- The walk over carpetbagmake's body; printed by gen/gen_wr.py. -/
namespace Go.Proofs.YtdkkpcbebhgbiaaGreatDoor
set_option maxRecDepth 100000
open Go.RowKit Go.Maps

/-- How body ends. -/
def BodyR (x : Wx) (w w' : World) (st : Bool) (nm : Bs) (sk lc : Int) (s : Ws) (e : Ending) : Prop :=
  ∃ C nc cc T nt ct M nM cM lm, e = .returned (.agg #[.bool st, .string (strB nm), .string (strB dII), .int .i64 sk, .int .i64 lc, .slice C nc cc, .slice T nt ct, .slice M nM cM]) ∧ WrD x w' 0 s C nc cc T nt ct M nM cM lm ∧ Only (Zt x.tp w) w w'
/-- How body ends for an object's method. -/
def BodyO (x : Wx) (w w' : World) (nm : Bs) (s : Ws) (e : Ending) : Prop :=
  ∃ C nc cc T nt ct M nM cM lm, e = .returned (.agg #[.bool false, .string (strB nm), .string (strB dII), .int .i64 8, .int .i64 2, .slice C nc cc, .slice none 0 0, .slice none 0 0]) ∧ WrD x w' 0 s C nc cc T nt ct M nM cM lm ∧ Only (Zt x.tp w) w w'
theorem StrB.side {w w' : World} {A : Option Addr} {n c : Nat} {l : List Bs} {r : Nat} {cs : Array Value} (h : StrB w A n c l) (hr : Blk w r 41 cs) (q : Only (· = r) w w') : StrB w' A n c l := by
  rcases h with h | ⟨b, h1, h2, h3, h4⟩
  · exact Or.inl h
  · exact Or.inr ⟨b, h1, h2, h3, q.blk h4 (fun e => Blk.ne_ h4 hr (by decide) e)⟩
/-- A method's block turned beside a writer. -/
theorem WrD.side {x : Wx} {w w' : World} {D : Int} {s : Ws} {C T M : Option Addr} {nc cc nt ct nm cm : Nat} {lm : List MpR} {r : Nat} {cs : Array Value} (h : WrD x w D s C nc cc T nt ct M nm cm lm) (hr : Blk w r 41 cs) (h1 : r < x.b0) (h2 : x.B ≤ r) (q : Only (· = r) w w') : WrD x w' D s C nc cc T nt ct M nm cm lm :=
  ⟨q.blk h.blk (fun e => by have := h.g0; omega), h.bud, h.tape.only q (fun e => Blk.ne_ h.tape.blk hr (by decide) e) (fun i e => by rw [e]; exact h2), h.code.only inC_len q (fun i h3 _ e => by omega), h.traps.only trC_len q (fun i h3 _ e => by omega), h.maps.only mpC_len q (fun i h3 _ e => by omega),
    ⟨h.mps.1, fun i r' d a b => ⟨(h.mps.2 i r' d a b).1, (h.mps.2 i r' d a b).2.1.side hr q, (h.mps.2 i r' d a b).2.2.side hr q⟩⟩, h.g0, h.tp0, Nat.le_trans h.b0 q.size⟩
def begK (xs : Bs) (a : Nat) : Nat → Ws
  | 0 => startW a
  | k + 1 => (((begK xs a k).nx xs).push (numI (nxV xs 4 (begK xs a k).at_ : Int))).op 54 ((k : Int) + 1)
/-- Where its first loop stands. -/
def RelBd (x : Wx) (a : Nat) (w : World) (i : Value) (wr : World) : Prop := ∃ k : Nat, k ≤ 2 ∧ i = .int .i64 (k : Int) ∧ WrS x wr 0 (begK x.xs a k) ∧ (begK x.xs a k).sz (2 * k) ∧ Fr x w wr
theorem fr_zt {x : Wx} {w w0 w' : World} (h : Only (Zt x.tp w) w w0) (k : Fr x w0 w') (hb : w.heap.size ≤ x.b0) : Only (Zt x.tp w) w w' := h.trans (k.1.mono (fun q _ e => e.elim Or.inl (fun h2 => Or.inr (by omega))))

set_option maxHeartbeats 4000000 in
theorem body_obj (x : Wx) (w : World) (nm : Bs) (a : Nat) (ht : TapeAt w x.B x.tp x.A x.n x.cap x.xs a) (hg : w.heap.size + 1 = x.g) (hbg : x.b0 = x.g) :
    Calls Tryz.prog 56 #[.pointer (some ⟨x.tp, 0, none⟩), .bool false, .string (strB nm), .int .i64 0] w fun e w' => BodyO x w w' nm (objBodyW x.xs a) e := by
  obtain ⟨wr, hwr⟩ : ∃ W, w.alloc (.cells #[.bool false, .string ⟨#[]⟩, .string ⟨#[]⟩, .int .i64 0, .int .i64 0, .slice none 0 0, .slice none 0 0, .slice none 0 0] 41) = W := ⟨_, rfl⟩
  obtain ⟨w0, hw0⟩ : ∃ W, wr.alloc (.cells #[.pointer (some ⟨x.tp, 0, none⟩), .slice none 0 0, .slice none 0 0, .slice none 0 0, .int .i64 0, .int .i64 60] 166) = W := ⟨_, rfl⟩
  have hbr : Below w.heap.size w wr := by rw [← hwr]; exact belowA _ _
  have hsr : wr.heap.size = x.g := by rw [← hwr, ← hg]; exact Array.size_push _
  have hbw : Below wr.heap.size wr w0 := by rw [← hw0]; exact belowA _ _
  have hb0 : Below w.heap.size w w0 := hbr.trans (hbw.mono hbr.size)
  have hs0 : w0.heap.size = x.g + 1 := by rw [← hw0, ← hsr]; exact Array.size_push _
  have kr0 : Blk wr w.heap.size 41 #[.bool false, .string ⟨#[]⟩, .string ⟨#[]⟩, .int .i64 0, .int .i64 0, .slice none 0 0, .slice none 0 0, .slice none 0 0] := by rw [← hwr]; exact Blk.new _ _ _
  have KR : Hid (Blk w0 w.heap.size 41 #[.bool false, .string ⟨#[]⟩, .string ⟨#[]⟩, .int .i64 0, .int .i64 0, .slice none 0 0, .slice none 0 0, .slice none 0 0]) := Lib.hid (kr0.of (hbw.block _ kr0.lt))
  have kw : Blk w0 x.g 166 #[.pointer (some ⟨x.tp, 0, none⟩), .slice none 0 0, .slice none 0 0, .slice none 0 0, .int .i64 0, .int .i64 60] := by rw [← hw0, ← hsr]; exact Blk.new _ _ _
  have htl := ht.blk.lt
  have HW0 : Hid (WrS x w0 0 (startW a)) := Lib.hid ⟨none, 0, 0, none, 0, 0, none, 0, 0, [], ⟨kw, ⟨by simp [startW], by simp [startW]⟩, ht.below hb0, GotR.nil_ _ _ _ _ _, GotR.nil_ _ _ _ _ _, GotR.nil_ _ _ _ _ _, ⟨rfl, fun i r d h1 _ => by simp at h1⟩, by omega, by omega, by have := kw.lt; omega⟩⟩
  have HO0 : Hid (Fr x w0 w0) := Lib.hid (Fr.refl x w0)
  obtain ⟨N, hN⟩ : ∃ N, N = 0 := ⟨0, rfl⟩
  have HZ0 : Hid ((startW a).sz N) := Lib.hid ⟨by simp [startW], by simp [startW], by simp [startW]⟩
  have HB0 : Hid (Only (Zt x.tp w) w w0) := Lib.hid (Only.zt_below hb0)
  have HWR := Lib.hid hwr
  have HWW := Lib.hid hw0
  have HGS := Lib.hid hsr
  have HG1 := Lib.hid hg
  have HBB := Lib.hid hbg
  have HS0 := Lib.hid hs0
  clear hwr hw0 hbr hsr hbw hb0 hs0 kr0 kw
  go_enter Tryz.func56, Tryz.ntmps56
  go_wp2_with fail
  rw [HWR.out, HWW.out]
  refine (op_v x _ _ _ N 21 _ _ (by first | rfl | decide | assumption) HW0.out HZ0.out (by omega)).mono ?_
  rintro e w1 ⟨rfl, h, ho⟩
  have HW1 := Lib.hid h
  have HO1 : Hid (Fr x w0 w1) := Lib.hid (HO0.out.trans ho)
  have HZ1 : Hid ((((startW a)).op 21 1).sz (N + 1)) := Lib.hid ((Ws.sz_op _ _ HZ0.out).more (by omega))
  clear h ho
  go_wp2_with fail
  refine (number_s x _ _ _ (N + 1) 3 (by decide) HW1.out HZ1.out (by omega)).mono ?_
  rintro e w2 ⟨rfl, h, ho⟩
  have HW2 := Lib.hid h
  have HO2 : Hid (Fr x w0 w2) := Lib.hid (HO1.out.trans ho)
  have HZ2 : Hid (((((startW a)).op 21 1).push (numI 3)).sz (N + 2)) := Lib.hid ((Ws.sz_push _ HZ1.out).more (by omega))
  clear h ho
  go_wp2_with fail
  refine (op_v x _ _ _ (N + 2) 96 _ _ (by first | rfl | decide | assumption) HW2.out HZ2.out (by omega)).mono ?_
  rintro e w3 ⟨rfl, h, ho⟩
  have HW3 := Lib.hid h
  have HO3 : Hid (Fr x w0 w3) := Lib.hid (HO2.out.trans ho)
  have HZ3 : Hid ((((((startW a)).op 21 1).push (numI 3)).op 96 0).sz (N + 3)) := Lib.hid ((Ws.sz_op _ _ HZ2.out).more (by omega))
  clear h ho
  go_wp2_with fail
  refine (op_v x _ _ _ (N + 3) 25 _ _ (by first | rfl | decide | assumption) HW3.out HZ3.out (by omega)).mono ?_
  rintro e w4 ⟨rfl, h, ho⟩
  have HW4 := Lib.hid h
  have HO4 : Hid (Fr x w0 w4) := Lib.hid (HO3.out.trans ho)
  have HZ4 : Hid (((((((startW a)).op 21 1).push (numI 3)).op 96 0).op 25 0).sz (N + 4)) := Lib.hid ((Ws.sz_op _ _ HZ3.out).more (by omega))
  clear h ho
  go_wp2_with fail
  refine (name_v x _ _ _ (N + 4) 180 _ [65] [102] [73] _ _ _ rfl rfl rfl rfl HW4.out HZ4.out (by omega)).mono ?_
  rintro e w5 ⟨rfl, h, ho⟩
  have HW5 := Lib.hid h
  have HO5 : Hid (Fr x w0 w5) := Lib.hid (HO4.out.trans ho)
  have HZ5 : Hid ((((((((startW a)).op 21 1).push (numI 3)).op 96 0).op 25 0).name 180 [65] [102] [73]).sz (N + 5)) := Lib.hid ((Ws.sz_name _ _ _ _ HZ4.out).more (by omega))
  clear h ho
  have t5 := HW5.out.t
  have hbt := belowA w5 (.cells #[.int .u8 96, .int .u8 104, .int .u8 130] 5)
  have kb5 := Blk.new w5 5 #[.int .u8 96, .int .u8 104, .int .u8 130]
  have h := HW5.out.below hbt
  have ho := Fr.of_below (x := x) hbt
  obtain ⟨w6, hw5⟩ : ∃ W, w5.alloc (.cells #[.int .u8 96, .int .u8 104, .int .u8 130] 5) = W := ⟨_, rfl⟩
  rw [hw5] at h ho kb5
  have HWW5 := Lib.hid hw5
  have HKB5 := Lib.hid kb5
  have t5b := h.t
  rw [← hw5] at t5b
  have hgl5 := HW5.out.lt
  clear hw5 kb5 hbt
  have HW6 := Lib.hid h
  have HO6 : Hid (Fr x w0 w6) := Lib.hid (HO5.out.trans ho)
  have HZ6 : Hid ((((((((startW a)).op 21 1).push (numI 3)).op 96 0).op 25 0).name 180 [65] [102] [73]).sz (N + 5)) := Lib.hid ((HZ5.out).more (by omega))
  clear h ho
  go_wp2_with fail
  rw [HWW5.out]
  clear t5 t5b
  refine (next_s x _ _ _ 3 _ HW6.out (by omega) (by omega) rfl).mono ?_
  rintro e w7 ⟨rfl, h, ho⟩
  have HQ7 := Lib.hid (ho.2 _ _ _ HKB5.out (by unfold WE; decide))
  have HW7 := Lib.hid h
  have HO7 : Hid (Fr x w0 w7) := Lib.hid (HO6.out.trans ho)
  have HZ7 : Hid (((((((((startW a)).op 21 1).push (numI 3)).op 96 0).op 25 0).name 180 [65] [102] [73]).nx x.xs).sz (N + 5)) := Lib.hid ((Ws.sz_nx x.xs HZ6.out).more (by omega))
  clear h ho
  obtain ⟨v, hv⟩ : ∃ v, nxV x.xs 3 (((((((startW a)).op 21 1).push (numI 3)).op 96 0).op 25 0).name 180 [65] [102] [73]).at_ = v := ⟨_, rfl⟩
  have bv : v < 3 := by rw [← hv]; exact nxV_lt (by omega)
  rw [hv]
  have HVv := Lib.hid hv
  have dv : w7.cell? ⟨w5.heap.size, v, none⟩ = some (.int .u8 ((bodyOps.getD v 0).toNat : Int)) := by
    rw [HQ7.out.cell]
    exact u8_of_tab bodyOps v bv
  have lv : w5.heap.size < w7.heap.size := HQ7.out.lt
  obtain ⟨qv, hqv⟩ : ∃ q : Int, ((bodyOps.getD v 0).toNat : Int) = q := ⟨_, rfl⟩
  rw [hqv] at dv
  have HQv := Lib.hid hqv
  clear hv hqv
  go_wp2_with fail
  refine (op_v x _ _ _ (N + 5) (bodyOps.getD v 0) _ _ HQv.out HW7.out HZ7.out (by omega)).mono ?_
  rintro e w8 ⟨rfl, h, ho⟩
  have HW8 := Lib.hid h
  have HO8 : Hid (Fr x w0 w8) := Lib.hid (HO7.out.trans ho)
  have HZ8 : Hid ((((((((((startW a)).op 21 1).push (numI 3)).op 96 0).op 25 0).name 180 [65] [102] [73]).nx x.xs).op (bodyOps.getD v 0) 0).sz (N + 6)) := Lib.hid ((Ws.sz_op _ _ HZ7.out).more (by omega))
  clear h ho
  go_wp2_with fail
  refine (op_v x _ _ _ (N + 6) 172 _ _ (by first | rfl | decide | assumption) HW8.out HZ8.out (by omega)).mono ?_
  rintro e w9 ⟨rfl, h, ho⟩
  have HW9 := Lib.hid h
  have HO9 : Hid (Fr x w0 w9) := Lib.hid (HO8.out.trans ho)
  have HZ9 : Hid (((((((((((startW a)).op 21 1).push (numI 3)).op 96 0).op 25 0).name 180 [65] [102] [73]).nx x.xs).op (bodyOps.getD v 0) 0).op 172 0).sz (N + 7)) := Lib.hid ((Ws.sz_op _ _ HZ8.out).more (by omega))
  clear h ho
  have HE : objBodyW x.xs a = (((((((((startW a)).op 21 1).push (numI 3)).op 96 0).op 25 0).name 180 [65] [102] [73]).nx x.xs).op (bodyOps.getD v 0) 0).op 172 0 := by unfold objBodyW; simp only [HVv.out]
  obtain ⟨C, nc, cc, T, nt, ct, M, nM, cM, lm, hD⟩ := HW9.out
  have c1 : w9.cell? ⟨x.g, 1, none⟩ = some (.slice C nc cc) := hD.blk.cell 1
  have hgl := hD.blk.lt
  have kR : Blk w9 w.heap.size 41 #[.bool false, .string ⟨#[]⟩, .string ⟨#[]⟩, .int .i64 0, .int .i64 0, .slice none 0 0, .slice none 0 0, .slice none 0 0] := HO9.out.1.blk KR.out (by unfold Ow; have := HBB.out; have := HG1.out; omega)
  have HD := Lib.hid (HE ▸ hD)
  have HKR := Lib.hid kR
  have k0 : w9.cell? ⟨w.heap.size, 0, none⟩ = some (.bool false) := kR.cell 0
  have f0 := kR.frozen 0
  have k1 : w9.cell? ⟨w.heap.size, 1, none⟩ = some (.string ⟨#[]⟩) := kR.cell 1
  have f1 := kR.frozen 1
  have k2 : w9.cell? ⟨w.heap.size, 2, none⟩ = some (.string ⟨#[]⟩) := kR.cell 2
  have f2 := kR.frozen 2
  have k3 : w9.cell? ⟨w.heap.size, 3, none⟩ = some (.int .i64 0) := kR.cell 3
  have f3 := kR.frozen 3
  have k4 : w9.cell? ⟨w.heap.size, 4, none⟩ = some (.int .i64 0) := kR.cell 4
  have f4 := kR.frozen 4
  have k5 : w9.cell? ⟨w.heap.size, 5, none⟩ = some (.slice none 0 0) := kR.cell 5
  have f5 := kR.frozen 5
  have k6 : w9.cell? ⟨w.heap.size, 6, none⟩ = some (.slice none 0 0) := kR.cell 6
  have f6 := kR.frozen 6
  have k7 : w9.cell? ⟨w.heap.size, 7, none⟩ = some (.slice none 0 0) := kR.cell 7
  have f7 := kR.frozen 7
  clear hD HE
  go_wp2
  have hBw := ht.new
  have hxb := HBB.out
  have hxg := HG1.out
  have kF := kR |>.set_ 0 (.bool false) |>.set_ 1 (.string (strB nm)) |>.set_ 2 (.string ⟨#[40, 73, 41, 73]⟩) |>.set_ 3 (.int .i64 8) |>.set_ 4 (.int .i64 2) |>.set_ 5 (.slice C nc cc) |>.set_ 6 (.slice none 0 0) |>.set_ 7 (.slice none 0 0)
  have HO8 : Hid (Only (· = w.heap.size) w9 ((((((((w9.setCell ⟨w.heap.size, 0, none⟩ (.bool false)).setCell ⟨w.heap.size, 1, none⟩ (.string (strB nm))).setCell ⟨w.heap.size, 2, none⟩ (.string ⟨#[40, 73, 41, 73]⟩)).setCell ⟨w.heap.size, 3, none⟩ (.int .i64 8)).setCell ⟨w.heap.size, 4, none⟩ (.int .i64 2)).setCell ⟨w.heap.size, 5, none⟩ (.slice C nc cc)).setCell ⟨w.heap.size, 6, none⟩ (.slice none 0 0)).setCell ⟨w.heap.size, 7, none⟩ (.slice none 0 0))) := Lib.hid (((((((((Only.refl (· = w.heap.size) w9).setCell (p := ⟨w.heap.size, 0, none⟩) (Or.inl rfl) (.bool false)).setCell (p := ⟨w.heap.size, 1, none⟩) (Or.inl rfl) (.string (strB nm))).setCell (p := ⟨w.heap.size, 2, none⟩) (Or.inl rfl) (.string ⟨#[40, 73, 41, 73]⟩)).setCell (p := ⟨w.heap.size, 3, none⟩) (Or.inl rfl) (.int .i64 8)).setCell (p := ⟨w.heap.size, 4, none⟩) (Or.inl rfl) (.int .i64 2)).setCell (p := ⟨w.heap.size, 5, none⟩) (Or.inl rfl) (.slice C nc cc)).setCell (p := ⟨w.heap.size, 6, none⟩) (Or.inl rfl) (.slice none 0 0)).setCell (p := ⟨w.heap.size, 7, none⟩) (Or.inl rfl) (.slice none 0 0))
  have r0 := kF.cell 0
  have r1 := kF.cell 1
  have r2 := kF.cell 2
  have r3 := kF.cell 3
  have r4 := kF.cell 4
  have r5 := kF.cell 5
  have r6 := kF.cell 6
  have r7 := kF.cell 7
  have hltS := kF.lt
  simp at r0 r1 r2 r3 r4 r5 r6 r7 hltS
  clear kF k0 f0 k1 f1 k2 f2 k3 f3 k4 f4 k5 f5 k6 f6 k7 f7
  refine bodyPost_ret (v := .agg #[.bool false, .string (strB nm), .string ⟨#[40, 73, 41, 73]⟩, .int .i64 8, .int .i64 2, .slice C nc cc, .slice none 0 0, .slice none 0 0]) (by simp [results, Tryz.results56, go_sem, r0, r1, r2, r3, r4, r5, r6, r7, hltS, Nat.ne_of_lt hltS]) rfl ?_
  refine ⟨_, _, _, _, _, _, _, _, _, _, rfl, HD.out.side HKR.out (by omega) (by omega) HO8.out, (fr_zt HB0.out HO9.out (by omega)).trans (HO8.out.mono (fun q _ e => Or.inr (by rw [e]; exact Nat.le_refl _)))⟩

set_option maxHeartbeats 4000000 in
theorem body_stat (x : Wx) (w : World) (nm : Bs) (a : Nat) (ht : TapeAt w x.B x.tp x.A x.n x.cap x.xs a) (hg : w.heap.size + 1 = x.g) (hbg : x.b0 = x.g) :
    Calls Tryz.prog 56 #[.pointer (some ⟨x.tp, 0, none⟩), .bool true, .string (strB nm), .int .i64 6] w fun e w' => BodyR x w w' true nm 40 8 (bodyW x.xs 6 a) e := by
  obtain ⟨wr, hwr⟩ : ∃ W, w.alloc (.cells #[.bool false, .string ⟨#[]⟩, .string ⟨#[]⟩, .int .i64 0, .int .i64 0, .slice none 0 0, .slice none 0 0, .slice none 0 0] 41) = W := ⟨_, rfl⟩
  obtain ⟨w0, hw0⟩ : ∃ W, wr.alloc (.cells #[.pointer (some ⟨x.tp, 0, none⟩), .slice none 0 0, .slice none 0 0, .slice none 0 0, .int .i64 0, .int .i64 60] 166) = W := ⟨_, rfl⟩
  have hbr : Below w.heap.size w wr := by rw [← hwr]; exact belowA _ _
  have hsr : wr.heap.size = x.g := by rw [← hwr, ← hg]; exact Array.size_push _
  have hbw : Below wr.heap.size wr w0 := by rw [← hw0]; exact belowA _ _
  have hb0 : Below w.heap.size w w0 := hbr.trans (hbw.mono hbr.size)
  have hs0 : w0.heap.size = x.g + 1 := by rw [← hw0, ← hsr]; exact Array.size_push _
  have kr0 : Blk wr w.heap.size 41 #[.bool false, .string ⟨#[]⟩, .string ⟨#[]⟩, .int .i64 0, .int .i64 0, .slice none 0 0, .slice none 0 0, .slice none 0 0] := by rw [← hwr]; exact Blk.new _ _ _
  have KR : Hid (Blk w0 w.heap.size 41 #[.bool false, .string ⟨#[]⟩, .string ⟨#[]⟩, .int .i64 0, .int .i64 0, .slice none 0 0, .slice none 0 0, .slice none 0 0]) := Lib.hid (kr0.of (hbw.block _ kr0.lt))
  have kw : Blk w0 x.g 166 #[.pointer (some ⟨x.tp, 0, none⟩), .slice none 0 0, .slice none 0 0, .slice none 0 0, .int .i64 0, .int .i64 60] := by rw [← hw0, ← hsr]; exact Blk.new _ _ _
  have htl := ht.blk.lt
  have HW0 : Hid (WrS x w0 0 (startW a)) := Lib.hid ⟨none, 0, 0, none, 0, 0, none, 0, 0, [], ⟨kw, ⟨by simp [startW], by simp [startW]⟩, ht.below hb0, GotR.nil_ _ _ _ _ _, GotR.nil_ _ _ _ _ _, GotR.nil_ _ _ _ _ _, ⟨rfl, fun i r d h1 _ => by simp at h1⟩, by omega, by omega, by have := kw.lt; omega⟩⟩
  have HO0 : Hid (Fr x w0 w0) := Lib.hid (Fr.refl x w0)
  obtain ⟨N, hN⟩ : ∃ N, N = 0 := ⟨0, rfl⟩
  have HZ0 : Hid ((startW a).sz N) := Lib.hid ⟨by simp [startW], by simp [startW], by simp [startW]⟩
  have HB0 : Hid (Only (Zt x.tp w) w w0) := Lib.hid (Only.zt_below hb0)
  have HWR := Lib.hid hwr
  have HWW := Lib.hid hw0
  have HGS := Lib.hid hsr
  have HG1 := Lib.hid hg
  have HBB := Lib.hid hbg
  have HS0 := Lib.hid hs0
  clear hwr hw0 hbr hsr hbw hb0 hs0 kr0 kw
  obtain ⟨wl, hwl⟩ : ∃ W, w0.alloc (.cells #[.int .i64 1, .int .i64 2] 2) = W := ⟨_, rfl⟩
  have hbl : Below w0.heap.size w0 wl := by rw [← hwl]; exact belowA _ _
  have KL : Hid (Blk wl (x.g + 1) 2 #[.int .i64 1, .int .i64 2]) := Lib.hid (by rw [← HS0.out, ← hwl]; exact Blk.new _ _ _)
  have HWL := Lib.hid hwl
  have HBL : Hid (Fr x w0 wl) := Lib.hid (Fr.of_below hbl)
  have HREL : Hid (RelBd x a wl (.int .i64 0) wl) := Lib.hid ⟨0, by omega, rfl, HW0.out.below hbl, ⟨by simp [begK, startW], by simp [begK, startW], by simp [begK, startW]⟩, Fr.refl _ _⟩
  clear hwl hbl HZ0 hN N
  go_enter Tryz.func56, Tryz.ntmps56
  go_wp2_with fail
  rw [HWR.out, HWW.out, HWL.out]
  go_loopw [45] (fun i wr => RelBd x a wl i wr) (fun i _ => 2 - (intOf i).toNat)
  case atStart => exact HREL.out
  case round =>
    clear HREL
    obtain ⟨k, hk, rfl, hW, hZ, hF⟩ := hrel
    have HWk := Lib.hid hW
    have HZk := Lib.hid hZ
    have HFk := Lib.hid hF
    have hcs : k = 0 ∨ k = 1 ∨ k = 2 := by omega
    have kl := hF.2 _ _ _ KL.out (by unfold WE; decide)
    have hll : x.g + 1 < wr.heap.size := kl.lt
    clear hk hW hZ hF
    rcases hcs with rfl | rfl | rfl
    · have kc : wr.cell? ⟨x.g + 1, 0, none⟩ = some (.int .i64 1) := kl.cell 0
      have HWq0 := HWk
      clear kl
      go_wp2_with fail
      refine (next_s x _ _ _ 4 _ HWk.out (by omega) (by omega) rfl).mono ?_
      rintro e v1 ⟨rfl, h, ho⟩
      have HV1 := Lib.hid h
      have HO1 := Lib.hid (HFk.out.trans ho)
      have HZ1 : Hid (((begK x.xs a 0).nx x.xs).sz (2 * 0)) := HZk
      clear h ho kc
      obtain ⟨v, hv⟩ : ∃ v, nxV x.xs 4 (begK x.xs a 0).at_ = v := ⟨_, rfl⟩
      have bv : v < 4 := by rw [← hv]; exact nxV_lt (by omega)
      rw [hv]
      have HVv := Lib.hid hv
      clear hv
      go_wp2_with fail
      refine (number_s x _ _ _ (2 * 0) (v : Int) (by omega) HV1.out HZ1.out (by omega)).mono ?_
      rintro e v2 ⟨rfl, h, ho⟩
      have HV2 := Lib.hid h
      have HO2 := Lib.hid (HO1.out.trans ho)
      have HZ2 := Lib.hid (Ws.sz_push (numI (v : Int)) HZ1.out)
      clear h ho
      go_wp2_with fail
      refine (op_v x _ _ _ (2 * 0 + 1) 54 _ _ (by first | rfl | decide | assumption) HV2.out HZ2.out (by omega)).mono ?_
      rintro e v3 ⟨rfl, h, ho⟩
      have HREL : Hid (RelBd x a wl (.int .i64 1) v3) := Lib.hid ⟨1, by omega, rfl, by
        show WrS x v3 0 ((((begK x.xs a 0).nx x.xs).push (numI (nxV x.xs 4 (begK x.xs a 0).at_ : Int))).op 54 ((0 : Nat) + 1 : Int))
        rw [HVv.out]
        exact h, by
        show ((((begK x.xs a 0).nx x.xs).push (numI (nxV x.xs 4 (begK x.xs a 0).at_ : Int))).op 54 ((0 : Nat) + 1 : Int)).sz (2 * 1)
        rw [HVv.out]
        exact Ws.sz_op _ _ HZ2.out, HO2.out.trans ho⟩
      clear h ho
      go_wp2
      go_roundw
      case rel => exact HREL.out
      case measure => simp [intOf]
    · have kc : wr.cell? ⟨x.g + 1, 1, none⟩ = some (.int .i64 2) := kl.cell 1
      have HWq0 := HWk
      clear kl
      go_wp2_with fail
      refine (next_s x _ _ _ 4 _ HWk.out (by omega) (by omega) rfl).mono ?_
      rintro e v1 ⟨rfl, h, ho⟩
      have HV1 := Lib.hid h
      have HO1 := Lib.hid (HFk.out.trans ho)
      have HZ1 : Hid (((begK x.xs a 1).nx x.xs).sz (2 * 1)) := HZk
      clear h ho kc
      obtain ⟨v, hv⟩ : ∃ v, nxV x.xs 4 (begK x.xs a 1).at_ = v := ⟨_, rfl⟩
      have bv : v < 4 := by rw [← hv]; exact nxV_lt (by omega)
      rw [hv]
      have HVv := Lib.hid hv
      clear hv
      go_wp2_with fail
      refine (number_s x _ _ _ (2 * 1) (v : Int) (by omega) HV1.out HZ1.out (by omega)).mono ?_
      rintro e v2 ⟨rfl, h, ho⟩
      have HV2 := Lib.hid h
      have HO2 := Lib.hid (HO1.out.trans ho)
      have HZ2 := Lib.hid (Ws.sz_push (numI (v : Int)) HZ1.out)
      clear h ho
      go_wp2_with fail
      refine (op_v x _ _ _ (2 * 1 + 1) 54 _ _ (by first | rfl | decide | assumption) HV2.out HZ2.out (by omega)).mono ?_
      rintro e v3 ⟨rfl, h, ho⟩
      have HREL : Hid (RelBd x a wl (.int .i64 2) v3) := Lib.hid ⟨2, by omega, rfl, by
        show WrS x v3 0 ((((begK x.xs a 1).nx x.xs).push (numI (nxV x.xs 4 (begK x.xs a 1).at_ : Int))).op 54 ((1 : Nat) + 1 : Int))
        rw [HVv.out]
        exact h, by
        show ((((begK x.xs a 1).nx x.xs).push (numI (nxV x.xs 4 (begK x.xs a 1).at_ : Int))).op 54 ((1 : Nat) + 1 : Int)).sz (2 * 2)
        rw [HVv.out]
        exact Ws.sz_op _ _ HZ2.out, HO2.out.trans ho⟩
      clear h ho
      go_wp2
      go_roundw
      case rel => exact HREL.out
      case measure => simp [intOf]
    · obtain ⟨N, hN⟩ : ∃ N, N = 4 := ⟨4, rfl⟩
      have HW0 := HWk
      have HO0 : Hid (Fr x w0 wr) := Lib.hid (HBL.out.trans HFk.out)
      have HZ0 : Hid ((begK x.xs a 2).sz N) := Lib.hid (HZk.out.more (by omega))
      obtain ⟨w00, hw00⟩ : ∃ W, W = wr := ⟨_, rfl⟩
      clear kl
      go_wp2_with fail
      refine (op_v x _ _ _ N 10 _ _ (by first | rfl | decide | assumption) HW0.out HZ0.out (by omega)).mono ?_
      rintro e w1 ⟨rfl, h, ho⟩
      have HW1 := Lib.hid h
      have HO1 : Hid (Fr x w0 w1) := Lib.hid (HO0.out.trans ho)
      have HZ1 : Hid ((((begK x.xs a 2)).op 10 0).sz (N + 1)) := Lib.hid ((Ws.sz_op _ _ HZ0.out).more (by omega))
      clear h ho
      go_wp2_with fail
      refine (op_v x _ _ _ (N + 1) 55 _ _ (by first | rfl | decide | assumption) HW1.out HZ1.out (by omega)).mono ?_
      rintro e w2 ⟨rfl, h, ho⟩
      have HW2 := Lib.hid h
      have HO2 : Hid (Fr x w0 w2) := Lib.hid (HO1.out.trans ho)
      have HZ2 : Hid (((((begK x.xs a 2)).op 10 0).op 55 3).sz (N + 2)) := Lib.hid ((Ws.sz_op _ _ HZ1.out).more (by omega))
      clear h ho
      obtain ⟨C2, nc2, cc2, T2, nt2, ct2, M2, nm2, cm2, lm2, hD⟩ := HW2.out
      have hnc2 : nc2 ≤ (N + 2) := by rw [← hD.code.row.1]; exact HZ2.out.1
      have c12 : w2.cell? ⟨x.g, 1, none⟩ = some (.slice C2 nc2 cc2) := hD.blk.cell 1
      have hgl2 := hD.blk.lt
      have hb := belowA w2 (.cells (inC (⟨187, 0, 0, [65], [], [], []⟩ : InD)).toArray 98)
      have hD1 := hD.below hb
      have f12 : w2.frozen? ⟨x.g, 1, none⟩ = false := hD.blk.frozen 1
      have HC2 : Hid (GotR inC 7 98 x.b0 (w2.alloc (.cells (inC (⟨187, 0, 0, [65], [], [], []⟩ : InD)).toArray 98)) C2 nc2 cc2 ((((begK x.xs a 2)).op 10 0).op 55 3).code) := Lib.hid hD1.code
      have HB2 : Hid (Blk (w2.alloc (.cells (inC (⟨187, 0, 0, [65], [], [], []⟩ : InD)).toArray 98)) w2.heap.size 98 (inC (⟨187, 0, 0, [65], [], [], []⟩ : InD)).toArray) := Lib.hid (Blk.new _ _ _)
      have hb02 := hD1.b0
      have HGO2 := Lib.hid (ne_own hD.code hD.blk (by decide))
      have HD12 := Lib.hid hD1
      have HBE2 := Lib.hid hb
      clear hD hD1 hb
      simp only [inC] at HC2 HB2 HBE2 HD12 hb02
      go_wp2_with (at_builtin; refine wpList_push rfl _ _ rfl x.b0 C2 nc2 cc2 ((((begK x.xs a 2)).op 10 0).op 55 3).code rfl HC2.out w2.heap.size (⟨187, 0, 0, [65], [], [], []⟩ : InD) rfl HB2.out (by omega) hb02 ?_; intro C22 c22 wx2 hG2 hg2 hr2; have s12 : wx2.cell? ⟨x.g, 1, none⟩ = some (.slice C2 nc2 cc2) := ((only_grown hg2 hr2).cell (p := ⟨x.g, 1, none⟩) (by simp; omega) HGO2.out).trans (cellA _ c12); have s22 : wx2.frozen? ⟨x.g, 1, none⟩ = false := (((only_grown hg2 hr2).blk HD12.out.blk HGO2.out)).frozen 1)
      obtain ⟨hP, hF⟩ := HD12.out.push hG2 hg2 hr2
      obtain ⟨w3, hwe⟩ : ∃ W, wx2.setCell ⟨x.g, 1, none⟩ (.slice C22 (nc2 + 1) c22) = W := ⟨_, rfl⟩
      rw [hwe] at hP hF ⊢
      have h : WrS x w3 _ (((((begK x.xs a 2)).op 10 0).op 55 3).push ⟨187, 0, 0, [65], [], [], []⟩) := ⟨C22, nc2 + 1, c22, T2, nt2, ct2, M2, nm2, cm2, lm2, hP⟩
      have ho : Fr x w2 w3 := (Fr.of_below HBE2.out).trans hF
      clear hwe hP hF hG2 hg2 hr2 s12 s22 c12 f12
      have HW3 := Lib.hid h
      have HO3 : Hid (Fr x w0 w3) := Lib.hid (HO2.out.trans ho)
      have HZ3 : Hid ((((((begK x.xs a 2)).op 10 0).op 55 3).push ⟨187, 0, 0, [65], [], [], []⟩).sz (N + 3)) := Lib.hid ((Ws.sz_push _ HZ2.out).more (by omega))
      clear h ho
      go_wp2_with fail
      refine (op_v x _ _ _ (N + 3) 58 _ _ (by first | rfl | decide | assumption) HW3.out HZ3.out (by omega)).mono ?_
      rintro e w4 ⟨rfl, h, ho⟩
      have HW4 := Lib.hid h
      have HO4 : Hid (Fr x w0 w4) := Lib.hid (HO3.out.trans ho)
      have HZ4 : Hid (((((((begK x.xs a 2)).op 10 0).op 55 3).push ⟨187, 0, 0, [65], [], [], []⟩).op 58 5).sz (N + 4)) := Lib.hid ((Ws.sz_op _ _ HZ3.out).more (by omega))
      clear h ho
      have t4 := HW4.out.t
      go_wp2_with fail
      refine (next_s x _ _ _ 5 _ HW4.out (by omega) (by omega) rfl).mono ?_
      rintro e w5 ⟨rfl, h, ho⟩
      have HW5 := Lib.hid h
      have HO5 : Hid (Fr x w0 w5) := Lib.hid (HO4.out.trans ho)
      have HZ5 : Hid ((((((((begK x.xs a 2)).op 10 0).op 55 3).push ⟨187, 0, 0, [65], [], [], []⟩).op 58 5).nx x.xs).sz (N + 4)) := Lib.hid ((Ws.sz_nx x.xs HZ4.out).more (by omega))
      clear h ho
      obtain ⟨e, he⟩ : ∃ e, nxV x.xs 5 ((((((begK x.xs a 2)).op 10 0).op 55 3).push ⟨187, 0, 0, [65], [], [], []⟩).op 58 5).at_ = e := ⟨_, rfl⟩
      have be : e < 5 := by rw [← he]; exact nxV_lt (by omega)
      rw [he]
      have HVe := Lib.hid he
      clear he t4
      go_wp2_with fail
      refine (number_s x _ _ _ (N + 4) (e : Int) (by omega) HW5.out HZ5.out (by omega)).mono ?_
      rintro e w6 ⟨rfl, h, ho⟩
      have HW6 := Lib.hid h
      have HO6 : Hid (Fr x w0 w6) := Lib.hid (HO5.out.trans ho)
      have HZ6 : Hid (((((((((begK x.xs a 2)).op 10 0).op 55 3).push ⟨187, 0, 0, [65], [], [], []⟩).op 58 5).nx x.xs).push (numI (e : Int))).sz (N + 5)) := Lib.hid ((Ws.sz_push _ HZ5.out).more (by omega))
      clear h ho
      go_wp2_with fail
      refine (op_v x _ _ _ (N + 5) 188 _ _ (by first | rfl | decide | assumption) HW6.out HZ6.out (by omega)).mono ?_
      rintro e w7 ⟨rfl, h, ho⟩
      have HW7 := Lib.hid h
      have HO7 : Hid (Fr x w0 w7) := Lib.hid (HO6.out.trans ho)
      have HZ7 : Hid ((((((((((begK x.xs a 2)).op 10 0).op 55 3).push ⟨187, 0, 0, [65], [], [], []⟩).op 58 5).nx x.xs).push (numI (e : Int))).op 188 10).sz (N + 6)) := Lib.hid ((Ws.sz_op _ _ HZ6.out).more (by omega))
      clear h ho
      go_wp2_with fail
      refine (op_v x _ _ _ (N + 6) 58 _ _ (by first | rfl | decide | assumption) HW7.out HZ7.out (by omega)).mono ?_
      rintro e w8 ⟨rfl, h, ho⟩
      have HW8 := Lib.hid h
      have HO8 : Hid (Fr x w0 w8) := Lib.hid (HO7.out.trans ho)
      have HZ8 : Hid (((((((((((begK x.xs a 2)).op 10 0).op 55 3).push ⟨187, 0, 0, [65], [], [], []⟩).op 58 5).nx x.xs).push (numI (e : Int))).op 188 10).op 58 6).sz (N + 7)) := Lib.hid ((Ws.sz_op _ _ HZ7.out).more (by omega))
      clear h ho
      go_wp2_with fail
      refine (op_v x _ _ _ (N + 7) 1 _ _ (by first | rfl | decide | assumption) HW8.out HZ8.out (by omega)).mono ?_
      rintro e w9 ⟨rfl, h, ho⟩
      have HW9 := Lib.hid h
      have HO9 : Hid (Fr x w0 w9) := Lib.hid (HO8.out.trans ho)
      have HZ9 : Hid ((((((((((((begK x.xs a 2)).op 10 0).op 55 3).push ⟨187, 0, 0, [65], [], [], []⟩).op 58 5).nx x.xs).push (numI (e : Int))).op 188 10).op 58 6).op 1 0).sz (N + 8)) := Lib.hid ((Ws.sz_op _ _ HZ8.out).more (by omega))
      clear h ho
      go_wp2_with fail
      refine (op_v x _ _ _ (N + 8) 58 _ _ (by first | rfl | decide | assumption) HW9.out HZ9.out (by omega)).mono ?_
      rintro e w10 ⟨rfl, h, ho⟩
      have HW10 := Lib.hid h
      have HO10 : Hid (Fr x w0 w10) := Lib.hid (HO9.out.trans ho)
      have HZ10 : Hid (((((((((((((begK x.xs a 2)).op 10 0).op 55 3).push ⟨187, 0, 0, [65], [], [], []⟩).op 58 5).nx x.xs).push (numI (e : Int))).op 188 10).op 58 6).op 1 0).op 58 7).sz (N + 9)) := Lib.hid ((Ws.sz_op _ _ HZ9.out).more (by omega))
      clear h ho
      have t10 := HW10.out.t
      go_wp2_with fail
      refine (next_s x _ _ _ 6 _ HW10.out (by omega) (by omega) rfl).mono ?_
      rintro e w11 ⟨rfl, h, ho⟩
      have HW11 := Lib.hid h
      have HO11 : Hid (Fr x w0 w11) := Lib.hid (HO10.out.trans ho)
      have HZ11 : Hid ((((((((((((((begK x.xs a 2)).op 10 0).op 55 3).push ⟨187, 0, 0, [65], [], [], []⟩).op 58 5).nx x.xs).push (numI (e : Int))).op 188 10).op 58 6).op 1 0).op 58 7).nx x.xs).sz (N + 9)) := Lib.hid ((Ws.sz_nx x.xs HZ10.out).more (by omega))
      clear h ho
      obtain ⟨v, hv⟩ : ∃ v, nxV x.xs 6 ((((((((((((begK x.xs a 2)).op 10 0).op 55 3).push ⟨187, 0, 0, [65], [], [], []⟩).op 58 5).nx x.xs).push (numI (e : Int))).op 188 10).op 58 6).op 1 0).op 58 7).at_ = v := ⟨_, rfl⟩
      have bv : v < 6 := by rw [← hv]; exact nxV_lt (by omega)
      rw [hv]
      have HVv := Lib.hid hv
      clear hv t10
      obtain ⟨sB, hsB⟩ : ∃ t, ((((((((((((begK x.xs a 2)).op 10 0).op 55 3).push ⟨187, 0, 0, [65], [], [], []⟩).op 58 5).nx x.xs).push (numI (e : Int))).op 188 10).op 58 6).op 1 0).op 58 7).nx x.xs = t := ⟨_, rfl⟩
      have HSB : Hid (sB = (beginW x.xs a).nx x.xs) := Lib.hid (by rw [← hsB, ← HVe.out]; rfl)
      have HVn : Hid (nxV x.xs 6 (beginW x.xs a).at_ = v) := Lib.hid (by rw [← HVv.out, ← HVe.out]; rfl)
      have HWB : Hid (WrS x w11 0 sB) := Lib.hid (by rw [← hsB]; exact HW11.out)
      have HZB : Hid (sB.sz 20) := Lib.hid (by rw [← hsB]; exact HZ11.out.more (by omega))
      have HOB := HO11
      obtain ⟨n, hn⟩ : ∃ n, n = 1 + v := ⟨_, rfl⟩
      have hn7 : n ≤ 6 := by omega
      have HNV := Lib.hid hn
      have HREL : Hid (RelT x 0 (stmW x.xs 3) sB n w11 (.int .i64 (1 + (v : Int))) w11) := Lib.hid ⟨0, Nat.zero_le _, by rw [hn]; simp, HWB.out, Fr.refl _ _⟩
      clear hsB
      go_wp2_with fail
      go_loopw [12] (fun i wr => RelT x 0 (stmW x.xs 3) sB n w11 i wr) (fun i _ => (intOf i).toNat)
      case atStart => exact HREL.out
      case round =>
        clear HREL
        obtain ⟨k, hk, rfl, hW, hFw⟩ := hrel
        have HW := Lib.hid hW
        have HFW := Lib.hid hFw
        have hkc : k * 10360 ≤ 6 * 10360 := Nat.mul_le_mul_right 10360 (by omega)
        have HSZ : Hid ((timesW (stmW x.xs 3) k sB).sz 63000) := Lib.hid ((adds_times (adds_stm x.xs).2.2.2 k _ _ HZB.out).more (by omega))
        by_cases hlt : k < n
        · have CF := Lib.hid (ct_stm3 x wr _ 63000 hW HSZ.out (by omega))
          have hpos : decide (0 < ((n - k : Nat) : Int)) = true := by simp; omega
          obtain ⟨j, hj⟩ : ∃ j, n - k = j + 1 := ⟨n - k - 1, by omega⟩
          rw [hj] at hpos ⊢
          clear hW hFw hkc
          go_wp2_with fail
          refine CF.out.mono ?_
          rintro e w3 ⟨rfl, h, ho⟩
          have HR : Hid (RelT x 0 (stmW x.xs 3) sB n w11 (.int .i64 (j : Int)) w3) := Lib.hid ⟨k + 1, hlt, by rw [show n - (k + 1) = j by omega], by rw [times_snoc]; exact h, HFW.out.trans ho⟩
          clear h ho
          go_wp2
          go_roundw
          case rel => exact HR.out
          case measure => simp [intOf]
        · have hkn : k = n := by omega
          subst hkn
          have HFIN := Lib.hid (show (intW x.xs 1 (timesW (stmW x.xs 3) k sB)).op 172 0 = bodyW x.xs 6 a from by
            unfold bodyW
            simp only
            rw [HVn.out, ← HSB.out, ← HNV.out])
          obtain ⟨Nz, hNz⟩ : ∃ N, N = 63000 := ⟨63000, rfl⟩
          have HW0 := HW
          have HO0 : Hid (Fr x w0 wr) := Lib.hid (HOB.out.trans HFW.out)
          have HZ0 : Hid ((timesW (stmW x.xs 3) k sB).sz Nz) := Lib.hid (HSZ.out.more (by omega))
          have HI1 := Lib.hid (ct_int1 x)
          clear hW hFw hkc
          go_wp2_with fail
          refine (HI1.out _ _ _ Nz HW0.out HZ0.out (by omega)).mono ?_
          rintro e w1 ⟨rfl, h, ho⟩
          have HW1 := Lib.hid h
          have HO1 : Hid (Fr x w0 w1) := Lib.hid (HO0.out.trans ho)
          have HZ1 : Hid ((intW x.xs 1 ((timesW (stmW x.xs 3) k sB))).sz (Nz + 8)) := Lib.hid (((adds_il1 x.xs).1 _ _ HZ0.out).more (by omega))
          clear h ho
          go_wp2_with fail
          refine (op_v x _ _ _ (Nz + 8) 172 _ _ (by first | rfl | decide | assumption) HW1.out HZ1.out (by omega)).mono ?_
          rintro e w2 ⟨rfl, h, ho⟩
          have HW2 := Lib.hid h
          have HO2 : Hid (Fr x w0 w2) := Lib.hid (HO1.out.trans ho)
          have HZ2 : Hid (((intW x.xs 1 ((timesW (stmW x.xs 3) k sB))).op 172 0).sz (Nz + 9)) := Lib.hid ((Ws.sz_op _ _ HZ1.out).more (by omega))
          clear h ho
          obtain ⟨C, nc, cc, T, nt, ct, M, nM, cM, lm, hD0⟩ := HW2.out
          have hD : WrD x w2 0 (bodyW x.xs 6 a) C nc cc T nt ct M nM cM lm := HFIN.out ▸ hD0
          have HD := Lib.hid hD
          have hSw : w2.cell? ⟨x.g, 1, none⟩ = some (.slice C nc cc) ∧ w2.cell? ⟨x.g, 2, none⟩ = some (.slice T nt ct) ∧ w2.cell? ⟨x.g, 3, none⟩ = some (.slice M nM cM) := ⟨hD.blk.cell 1, hD.blk.cell 2, hD.blk.cell 3⟩
          have hgl := hD.blk.lt
          have kR0 : Blk w2 w.heap.size 41 #[.bool false, .string ⟨#[]⟩, .string ⟨#[]⟩, .int .i64 0, .int .i64 0, .slice none 0 0, .slice none 0 0, .slice none 0 0] := HO2.out.1.blk KR.out (by unfold Ow; have := HBB.out; have := HG1.out; omega)
          have HKR := Lib.hid kR0
          have HOD : Hid (Only (Zt x.tp w) w w2) := Lib.hid (fr_zt HB0.out HO2.out (by have := HBB.out; have := HG1.out; omega))
          have kF := kR0 |>.set_ 0 (.bool true) |>.set_ 1 (.string (strB nm)) |>.set_ 2 (.string ⟨#[40, 73, 41, 73]⟩) |>.set_ 3 (.int .i64 40) |>.set_ 4 (.int .i64 8) |>.set_ 5 (.slice C nc cc) |>.set_ 6 (.slice T nt ct) |>.set_ 7 (.slice M nM cM)
          have HO8 : Hid (Only (· = w.heap.size) w2 ((((((((w2.setCell ⟨w.heap.size, 0, none⟩ (.bool true)).setCell ⟨w.heap.size, 1, none⟩ (.string (strB nm))).setCell ⟨w.heap.size, 2, none⟩ (.string ⟨#[40, 73, 41, 73]⟩)).setCell ⟨w.heap.size, 3, none⟩ (.int .i64 40)).setCell ⟨w.heap.size, 4, none⟩ (.int .i64 8)).setCell ⟨w.heap.size, 5, none⟩ (.slice C nc cc)).setCell ⟨w.heap.size, 6, none⟩ (.slice T nt ct)).setCell ⟨w.heap.size, 7, none⟩ (.slice M nM cM))) := Lib.hid (((((((((Only.refl (· = w.heap.size) w2).setCell (p := ⟨w.heap.size, 0, none⟩) (Or.inl rfl) (.bool true)).setCell (p := ⟨w.heap.size, 1, none⟩) (Or.inl rfl) (.string (strB nm))).setCell (p := ⟨w.heap.size, 2, none⟩) (Or.inl rfl) (.string ⟨#[40, 73, 41, 73]⟩)).setCell (p := ⟨w.heap.size, 3, none⟩) (Or.inl rfl) (.int .i64 40)).setCell (p := ⟨w.heap.size, 4, none⟩) (Or.inl rfl) (.int .i64 8)).setCell (p := ⟨w.heap.size, 5, none⟩) (Or.inl rfl) (.slice C nc cc)).setCell (p := ⟨w.heap.size, 6, none⟩) (Or.inl rfl) (.slice T nt ct)).setCell (p := ⟨w.heap.size, 7, none⟩) (Or.inl rfl) (.slice M nM cM))
          have hBw := ht.new
          have hxb := HBB.out
          have hxg := HG1.out
          have hdr : Below (((((((((w2.setCell ⟨w.heap.size, 0, none⟩ (.bool true)).setCell ⟨w.heap.size, 1, none⟩ (.string (strB nm))).setCell ⟨w.heap.size, 2, none⟩ (.string ⟨#[40, 73, 41, 73]⟩)).setCell ⟨w.heap.size, 3, none⟩ (.int .i64 40)).setCell ⟨w.heap.size, 4, none⟩ (.int .i64 8)).setCell ⟨w.heap.size, 5, none⟩ (.slice C nc cc)).setCell ⟨w.heap.size, 6, none⟩ (.slice T nt ct)).setCell ⟨w.heap.size, 7, none⟩ (.slice M nM cM))).heap.size ((((((((w2.setCell ⟨w.heap.size, 0, none⟩ (.bool true)).setCell ⟨w.heap.size, 1, none⟩ (.string (strB nm))).setCell ⟨w.heap.size, 2, none⟩ (.string ⟨#[40, 73, 41, 73]⟩)).setCell ⟨w.heap.size, 3, none⟩ (.int .i64 40)).setCell ⟨w.heap.size, 4, none⟩ (.int .i64 8)).setCell ⟨w.heap.size, 5, none⟩ (.slice C nc cc)).setCell ⟨w.heap.size, 6, none⟩ (.slice T nt ct)).setCell ⟨w.heap.size, 7, none⟩ (.slice M nM cM)) (((((((((w2.setCell ⟨w.heap.size, 0, none⟩ (.bool true)).setCell ⟨w.heap.size, 1, none⟩ (.string (strB nm))).setCell ⟨w.heap.size, 2, none⟩ (.string ⟨#[40, 73, 41, 73]⟩)).setCell ⟨w.heap.size, 3, none⟩ (.int .i64 40)).setCell ⟨w.heap.size, 4, none⟩ (.int .i64 8)).setCell ⟨w.heap.size, 5, none⟩ (.slice C nc cc)).setCell ⟨w.heap.size, 6, none⟩ (.slice T nt ct)).setCell ⟨w.heap.size, 7, none⟩ (.slice M nM cM))).drew := ((Only.refl Empty _).drew).below (Nat.le_refl _) (fun _ _ h => h)
          have HDF := Lib.hid ((HD.out.side HKR.out (by omega) (by omega) HO8.out).below hdr)
          have HOF : Hid (Only (· = w.heap.size) w2 (((((((((w2.setCell ⟨w.heap.size, 0, none⟩ (.bool true)).setCell ⟨w.heap.size, 1, none⟩ (.string (strB nm))).setCell ⟨w.heap.size, 2, none⟩ (.string ⟨#[40, 73, 41, 73]⟩)).setCell ⟨w.heap.size, 3, none⟩ (.int .i64 40)).setCell ⟨w.heap.size, 4, none⟩ (.int .i64 8)).setCell ⟨w.heap.size, 5, none⟩ (.slice C nc cc)).setCell ⟨w.heap.size, 6, none⟩ (.slice T nt ct)).setCell ⟨w.heap.size, 7, none⟩ (.slice M nM cM))).drew) := Lib.hid HO8.out.drew
          have k0 : w2.cell? ⟨w.heap.size, 0, none⟩ = some (.bool false) := kR0.cell 0
          have f0 := kR0.frozen 0
          have k1 : w2.cell? ⟨w.heap.size, 1, none⟩ = some (.string ⟨#[]⟩) := kR0.cell 1
          have f1 := kR0.frozen 1
          have k2 : w2.cell? ⟨w.heap.size, 2, none⟩ = some (.string ⟨#[]⟩) := kR0.cell 2
          have f2 := kR0.frozen 2
          have k3 : w2.cell? ⟨w.heap.size, 3, none⟩ = some (.int .i64 0) := kR0.cell 3
          have f3 := kR0.frozen 3
          have k4 : w2.cell? ⟨w.heap.size, 4, none⟩ = some (.int .i64 0) := kR0.cell 4
          have f4 := kR0.frozen 4
          have k5 : w2.cell? ⟨w.heap.size, 5, none⟩ = some (.slice none 0 0) := kR0.cell 5
          have f5 := kR0.frozen 5
          have k6 : w2.cell? ⟨w.heap.size, 6, none⟩ = some (.slice none 0 0) := kR0.cell 6
          have f6 := kR0.frozen 6
          have k7 : w2.cell? ⟨w.heap.size, 7, none⟩ = some (.slice none 0 0) := kR0.cell 7
          have f7 := kR0.frozen 7
          have hSf : (((((((((w2.setCell ⟨w.heap.size, 0, none⟩ (.bool true)).setCell ⟨w.heap.size, 1, none⟩ (.string (strB nm))).setCell ⟨w.heap.size, 2, none⟩ (.string ⟨#[40, 73, 41, 73]⟩)).setCell ⟨w.heap.size, 3, none⟩ (.int .i64 40)).setCell ⟨w.heap.size, 4, none⟩ (.int .i64 8)).setCell ⟨w.heap.size, 5, none⟩ (.slice C nc cc)).setCell ⟨w.heap.size, 6, none⟩ (.slice T nt ct)).setCell ⟨w.heap.size, 7, none⟩ (.slice M nM cM))).drew.cell? ⟨x.g, 1, none⟩ = some (.slice C nc cc) ∧ (((((((((w2.setCell ⟨w.heap.size, 0, none⟩ (.bool true)).setCell ⟨w.heap.size, 1, none⟩ (.string (strB nm))).setCell ⟨w.heap.size, 2, none⟩ (.string ⟨#[40, 73, 41, 73]⟩)).setCell ⟨w.heap.size, 3, none⟩ (.int .i64 40)).setCell ⟨w.heap.size, 4, none⟩ (.int .i64 8)).setCell ⟨w.heap.size, 5, none⟩ (.slice C nc cc)).setCell ⟨w.heap.size, 6, none⟩ (.slice T nt ct)).setCell ⟨w.heap.size, 7, none⟩ (.slice M nM cM))).drew.cell? ⟨x.g, 2, none⟩ = some (.slice T nt ct) ∧ (((((((((w2.setCell ⟨w.heap.size, 0, none⟩ (.bool true)).setCell ⟨w.heap.size, 1, none⟩ (.string (strB nm))).setCell ⟨w.heap.size, 2, none⟩ (.string ⟨#[40, 73, 41, 73]⟩)).setCell ⟨w.heap.size, 3, none⟩ (.int .i64 40)).setCell ⟨w.heap.size, 4, none⟩ (.int .i64 8)).setCell ⟨w.heap.size, 5, none⟩ (.slice C nc cc)).setCell ⟨w.heap.size, 6, none⟩ (.slice T nt ct)).setCell ⟨w.heap.size, 7, none⟩ (.slice M nM cM))).drew.cell? ⟨x.g, 3, none⟩ = some (.slice M nM cM) := ⟨HDF.out.blk.cell 1, HDF.out.blk.cell 2, HDF.out.blk.cell 3⟩
          have r0 := kF.cell 0
          have r1 := kF.cell 1
          have r2 := kF.cell 2
          have r3 := kF.cell 3
          have r4 := kF.cell 4
          have r5 := kF.cell 5
          have r6 := kF.cell 6
          have r7 := kF.cell 7
          have hltS := kR0.lt
          simp at r0 r1 r2 r3 r4 r5 r6 r7
          have HRR := Lib.hid (And.intro r0 (And.intro r1 (And.intro r2 (And.intro r3 (And.intro r4 (And.intro r5 (And.intro r6 r7)))))))
          clear hD hD0 hdr kR0 kF r0 r1 r2 r3 r4 r5 r6 r7
          go_wp2_with fail
          refine wp_region_held_drew (S := fun W => W.cell? ⟨x.g, 1, none⟩ = some (.slice C nc cc) ∧ W.cell? ⟨x.g, 2, none⟩ = some (.slice T nt ct) ∧ W.cell? ⟨x.g, 3, none⟩ = some (.slice M nM cM)) (by kernel_rfl) hSw (fun hHeld0 => ?_)
          refine take_yes 0 99 ?_ rfl rfl (by kernel_rfl) (by kernel_rfl) (by kernel_rfl) (fun _ _ _ h => h) (by kernel_rfl) ?_ (by assumption) ?_; rotate_left; (focus (intro w hSw; (try dsimp only at hSw); go_simp; all_goals first | with_reducible rfl)); simp only [Act.put, List.setIfInBounds_toArray, List.set_cons_zero, List.set_cons_succ]
          refine take_yes 1 100 ?_ rfl rfl (by kernel_rfl) (by kernel_rfl) (by kernel_rfl) (fun _ _ _ h => h) (by kernel_rfl) ?_ (by assumption) ?_; rotate_left; (focus (intro w hSw; (try dsimp only at hSw); go_simp; all_goals first | with_reducible rfl)); simp only [Act.put, List.setIfInBounds_toArray, List.set_cons_zero, List.set_cons_succ]
          refine take_yes 2 101 ?_ rfl rfl (by kernel_rfl) (by kernel_rfl) (by kernel_rfl) (fun _ _ _ h => h) (by kernel_rfl) ?_ (by assumption) ?_; rotate_left; (focus (intro w hSw; (try dsimp only at hSw); go_simp; all_goals first | with_reducible rfl)); simp only [Act.put, List.setIfInBounds_toArray, List.set_cons_zero, List.set_cons_succ]
          refine take_yes 3 102 ?_ rfl rfl (by kernel_rfl) (by kernel_rfl) (by kernel_rfl) (fun _ _ _ h => h) (by kernel_rfl) ?_ (by assumption) ?_; rotate_left; (focus (intro w hSw; (try dsimp only at hSw); go_simp; all_goals first | with_reducible rfl)); simp only [Act.put, List.setIfInBounds_toArray, List.set_cons_zero, List.set_cons_succ]
          refine take_yes 4 103 ?_ rfl rfl (by kernel_rfl) (by kernel_rfl) (by kernel_rfl) (fun _ _ _ h => h) (by kernel_rfl) ?_ (by assumption) ?_; rotate_left; (focus (intro w hSw; (try dsimp only at hSw); go_simp; all_goals first | with_reducible rfl)); simp only [Act.put, List.setIfInBounds_toArray, List.set_cons_zero, List.set_cons_succ]
          refine take_yes 5 104 ?_ rfl rfl (by kernel_rfl) (by kernel_rfl) (by kernel_rfl) (fun _ _ _ h => h) (by kernel_rfl) ?_ (by assumption) ?_; rotate_left; (focus (intro w hSw; (try dsimp only at hSw); go_simp; all_goals first | with_reducible rfl)); simp only [Act.put, List.setIfInBounds_toArray, List.set_cons_zero, List.set_cons_succ]
          refine take_yes 6 105 ?_ rfl rfl (by kernel_rfl) (by kernel_rfl) (by kernel_rfl) (fun _ _ _ h => h) (by kernel_rfl) ?_ (by assumption) ?_; rotate_left; (focus (intro w hSw; (try dsimp only at hSw); go_simp; all_goals first | with_reducible rfl)); simp only [Act.put, List.setIfInBounds_toArray, List.set_cons_zero, List.set_cons_succ]
          refine take_yes 7 106 ?_ rfl rfl (by kernel_rfl) (by kernel_rfl) (by kernel_rfl) (fun _ _ _ h => h) (by kernel_rfl) ?_ (by assumption) ?_; rotate_left; (focus (intro w hSw; (try dsimp only at hSw); go_simp; all_goals first | with_reducible rfl)); simp only [Act.put, List.setIfInBounds_toArray, List.set_cons_zero, List.set_cons_succ]
          refine take_yes 8 107 ?_ rfl rfl (by kernel_rfl) (by kernel_rfl) (by kernel_rfl) (fun _ _ _ h => h) (by kernel_rfl) ?_ (by assumption) ?_; rotate_left; (focus (intro w hSw; (try dsimp only at hSw); go_simp; all_goals first | with_reducible rfl)); simp only [Act.put, List.setIfInBounds_toArray, List.set_cons_zero, List.set_cons_succ]
          refine take_yes 9 108 ?_ rfl rfl (by kernel_rfl) (by kernel_rfl) (by kernel_rfl) (fun _ _ _ h => h) (by kernel_rfl) ?_ (by assumption) ?_; rotate_left; (focus (intro w hSw; (try dsimp only at hSw); go_simp; all_goals first | with_reducible rfl)); simp only [Act.put, List.setIfInBounds_toArray, List.set_cons_zero, List.set_cons_succ]
          refine take_yes 10 109 ?_ rfl rfl (by kernel_rfl) (by kernel_rfl) (by kernel_rfl) (fun _ _ _ h => h) (by kernel_rfl) ?_ (by assumption) ?_; rotate_left; (focus (intro w hSw; (try dsimp only at hSw); go_simp; all_goals first | with_reducible rfl)); simp only [Act.put, List.setIfInBounds_toArray, List.set_cons_zero, List.set_cons_succ]
          refine take_yes 11 110 ?_ rfl rfl (by kernel_rfl) (by kernel_rfl) (by kernel_rfl) (fun _ _ _ h => h) (by kernel_rfl) ?_ (by assumption) ?_; rotate_left; (focus (intro w hSw; (try dsimp only at hSw); go_simp; all_goals first | with_reducible rfl)); simp only [Act.put, List.setIfInBounds_toArray, List.set_cons_zero, List.set_cons_succ]
          refine take_yes 12 111 ?_ rfl rfl (by kernel_rfl) (by kernel_rfl) (by kernel_rfl) (fun _ _ _ h => h) (by kernel_rfl) ?_ (by assumption) ?_; rotate_left; (focus (intro w hSw; (try dsimp only at hSw); go_simp; all_goals first | with_reducible rfl)); simp only [Act.put, List.setIfInBounds_toArray, List.set_cons_zero, List.set_cons_succ]
          refine take_yes 13 112 ?_ rfl rfl (by kernel_rfl) (by kernel_rfl) (by kernel_rfl) (fun _ _ _ h => h) (by kernel_rfl) ?_ (by assumption) ?_; rotate_left; (focus (intro w hSw; (try dsimp only at hSw); go_simp; all_goals first | with_reducible rfl)); simp only [Act.put, List.setIfInBounds_toArray, List.set_cons_zero, List.set_cons_succ]
          refine wpAnyH_ready (rs := [14]) (by kernel_rfl) (by simp) ?_
          refine AllReadyH.cons rfl (fun K hK => ?_) AllReadyH.nil
          go_simp
          refine hK.out _ _ (hSf) (fun _ => ?_)
          clear hK K
          try simp only [Act.put, List.setIfInBounds_toArray, List.set_cons_zero, List.set_cons_succ]
          refine wpAnyH_done (by kernel_rfl) ?_ _
          clear hSf hHeld0 hSw k0 k1 k2 k3 k4 k5 k6 k7 f0 f1 f2 f3 f4 f5 f6 f7
          obtain ⟨r0, r1, r2, r3, r4, r5, r6, r7⟩ := HRR.out
          go_wp2
          refine bodyPost_ret (v := .agg #[.bool true, .string (strB nm), .string ⟨#[40, 73, 41, 73]⟩, .int .i64 40, .int .i64 8, .slice C nc cc, .slice T nt ct, .slice M nM cM]) (by simp [results, Tryz.results56, go_sem, r0, r1, r2, r3, r4, r5, r6, r7, hltS, Nat.ne_of_lt hltS]) rfl ?_
          exact ⟨_, _, _, _, _, _, _, _, _, _, rfl, HDF.out, HOD.out.trans (HOF.out.mono (fun q _ e => Or.inr (by rw [e]; exact Nat.le_refl _)))⟩

end Go.Proofs.YtdkkpcbebhgbiaaGreatDoor

/- How the rows lie that carpetbagmake's Units makes; printed by gen/gen_wz.py. -/
namespace Go.Proofs.YtdkkpcbebhgbiaaGreatDoor
set_option maxRecDepth 100000
open Go.RowKit Go.Maps

theorem made_small (xs : Bs) (a : Nat) : ∀ u ∈ unitsW xs a, SmallUn u := fun u hu => by
  obtain ⟨h1, h2, h3, h4, h5, h6⟩ := made_sizes xs a u hu
  exact ⟨by omega, by omega, by omega, by omega, fun f hf => by have := h5 f hf; omega, fun m hm => by have := h6 m hm; omega, fun m hm => by
    obtain ⟨_, _, _, _, h7, h8⟩ := h6 m hm
    exact ⟨by omega, fun t ht => by have := h8 t ht; omega⟩⟩
theorem made_good (xs : Bs) (a : Nat) : Good (builtL ++ unitsW xs a) := (both_of_R ((ok_eq _).symm.trans (made_ok xs a))).2.1
theorem made_names (xs : Bs) (a : Nat) : ∀ u ∈ builtL ++ unitsW xs a, u.name.length ≤ 1000000 := fun u hu => by
  rcases List.mem_append.1 hu with h | h
  · have hall : builtL.all (fun u => decide (u.name.length ≤ 1000000)) = true := by decide +kernel
    exact of_decide_eq_true (List.all_eq_true.1 hall u h)
  · have := (made_sizes xs a u h).1
    omega
/-- The blocks that aren't looked at: some, and those that aren't there yet. -/
def Zs (S : Nat → Prop) (w : World) : Nat → Prop := fun q => S q ∨ w.heap.size ≤ q
theorem RowS.fws {α : Type} {R : RepT α} {S S' : Nat → Prop} {w w' : World} {A : Option Addr} {n c : Nat} {l : List α} (h : RowS R w (Zs S w) A n c l) (k : Only (Zs S w) w w') (hS : ∀ q, q < w.heap.size → S' q → S q) : RowS R w' (Zs S' w') A n c l :=
  h.next k (fun q hq hz => hz.elim (fun h => Or.inl (hS q hq h)) (fun h => by have := k.size; exact Or.inr (by omega)))
theorem rep_fws {α : Type} {R : RepT α} {S S' : Nat → Prop} {w w' : World} {cs : List Value} {v : α} (h : R.rep w (Zs S w) cs v) (k : Only (Zs S w) w w') (hS : ∀ q, q < w.heap.size → S' q → S q) : R.rep w' (Zs S' w') cs v :=
  R.next h k (fun q hq hz => hz.elim (fun h => Or.inl (hS q hq h)) (fun h => by have := k.size; exact Or.inr (by omega)))
theorem zs_below {S : Nat → Prop} {w w' : World} (h : Below w.heap.size w w') : Only (Zs S w) w w' := Only.of_below h
theorem zs_one {S : Nat → Prop} {w w' : World} {q : Nat} (h : Only (· = q) w w') (hS : S q) : Only (Zs S w) w w' := h.mono (fun i _ e => Or.inl (by rw [e]; exact hS))
theorem zs_zt {S : Nat → Prop} {w w' : World} {tp : Nat} (h : Only (Zt tp w) w w') (hS : S tp) : Only (Zs S w) w w' := h.mono (fun i _ e => e.elim (fun e => Or.inl (by rw [e]; exact hS)) Or.inr)
theorem zs_trans {S : Nat → Prop} {w w1 w2 : World} (h : Only (Zs S w) w w1) (k : Only (Zs S w1) w1 w2) : Only (Zs S w) w w2 := h.trans (k.mono (fun q _ e => e.elim Or.inl (fun h2 => Or.inr (by have := h.size; omega))))
theorem rowZ_of_got {α β : Type} {cells : α → List Value} {R : RepT β} {t : TypeId} {base : Nat} {w : World} {A : Option Addr} {n c : Nat} {l : List α} {l' : List β} {S : Nat → Prop} (h : GotR cells R.k t base w A n c l) (hb : ∀ q, S q → q < base) (hl : l.length = l'.length)
    (hr : ∀ (i : Nat) (x : α) (y : β), l[i]? = some x → l'[i]? = some y → R.rep w (Zs S w) (cells x) y) : RowS R w (Zs S w) A n c l' := by
  obtain ⟨h1, h2, h3, h4⟩ := h.row
  refine ⟨hl.symm.trans h1, h2, h3, h.isNil, fun h0 => ?_⟩
  obtain ⟨b, o, e, hbl, _, hc⟩ := h4 h0
  have hbb : base ≤ b := by
    rcases h.here with h5 | ⟨g, cur, h5, h6, _⟩
    · rw [e] at h5; cases h5
    · rw [e] at h5; cases h5; exact h6
  refine ⟨b, o, e, hbl, fun hz => hz.elim (fun h7 => by have := hb _ h7; omega) (fun h7 => by omega), fun i y hy => ?_⟩
  have hi : i < l.length := by rw [hl]; exact (List.getElem?_eq_some_iff.1 hy).1
  have hx : l[i]? = some l[i] := List.getElem?_eq_getElem hi
  have hrep := hr i _ y hx hy
  refine ⟨cells l[i], fun j v hv => ?_, hrep⟩
  rw [hc i _ hx j (by rw [← R.len hrep]; exact (List.getElem?_eq_some_iff.1 hv).1)]
  exact hv
theorem rowZ_of_blk {β : Type} {R : RepT β} {t : TypeId} {w : World} {S : Nat → Prop} {b : Nat} {css : List (List Value)} {l : List β} (hB : Blk w b t css.flatten.toArray) (hne : ¬ S b) (hl : css.length = l.length) (hm : l.length ≤ maxLen)
    (hr : ∀ (i : Nat) (x : List Value) (y : β), css[i]? = some x → l[i]? = some y → R.rep w (Zs S w) x y) : RowS R w (Zs S w) (some ⟨b, 0, none⟩) l.length l.length l := by
  refine ⟨rfl, Nat.le_refl _, hm, (fun h => by cases h), fun h0 => ?_⟩
  have hk : ∀ c ∈ css, c.length = R.k := fun c hc => by
    obtain ⟨i, hi⟩ := List.mem_iff_getElem?.1 hc
    have hlt : i < l.length := by rw [← hl]; exact (List.getElem?_eq_some_iff.1 hi).1
    exact R.len (hr i c l[i] hi (List.getElem?_eq_getElem hlt))
  refine ⟨b, 0, rfl, hB.lt, fun hz => hz.elim (fun h7 => hne h7) (fun h7 => by have := hB.lt; omega), fun i y hy => ?_⟩
  have hi : i < css.length := by rw [hl]; exact (List.getElem?_eq_some_iff.1 hy).1
  have hx : css[i]? = some css[i] := List.getElem?_eq_getElem hi
  refine ⟨css[i], fun j v hv => ?_, hr i _ y hx hy⟩
  rw [show 0 + i * R.k + j = i * R.k + j by omega, hB.cell]
  simpa using flat_at hk hx hv
theorem rowZ_of_strB {w : World} {S : Nat → Prop} {A : Option Addr} {n c : Nat} {l : List Bs} (hS : ∀ q, S q → ∃ t cs, Blk w q t cs ∧ t ≠ 9) (h : StrB w A n c l) (hm : l.length ≤ maxLen) : RowS strT w (Zs S w) A n c l := by
  rcases h with ⟨rfl, rfl, rfl, rfl⟩ | ⟨b, rfl, rfl, rfl, hB⟩
  · exact rowS_nil _ _ _
  · have hf : (l.map SV).toArray = ((l.map (fun s => [SV s])).flatten).toArray := by rw [map_ones]
    rw [hf] at hB
    refine rowZ_of_blk (R := strT) hB (fun e => ?_) (by simp) hm (fun i x y hx hy => ?_)
    · obtain ⟨t, cs, h1, h2⟩ := hS _ e
      exact Blk.ne_ h1 hB h2 rfl
    · rw [List.getElem?_map, hy] at hx
      cases hx
      rfl
theorem rowZ_maps {w : World} {S : Nat → Prop} {base : Nat} {C : Option Addr} {n c : Nat} {lm : List MpR} {maps : List MpD} (hS : ∀ q, S q → ∃ t cs, Blk w q t cs ∧ t ≠ 9) (h : GotR mpC 3 44 base w C n c lm) (hm : MapsAt w lm maps) (hb : ∀ q, S q → q < base)
    (hsm : ∀ m ∈ maps, m.locals.length ≤ maxLen ∧ m.stack.length ≤ maxLen) : RowS mpT w (Zs S w) C n c maps :=
  rowZ_of_got (R := mpT) h hb hm.1 (fun i x y hx hy => by
    obtain ⟨h1, h2, h3⟩ := hm.2 i x y hx hy
    have hs := hsm y (List.mem_of_getElem? hy)
    exact ⟨_, _, by rw [← h1]; rfl, ⟨_, _, _, rfl, rowZ_of_strB hS h2 hs.1⟩, ⟨_, _, _, rfl, rowZ_of_strB hS h3 hs.2⟩⟩)
/-- What a method's value tells, as data. -/
theorem meF_of {w : World} {Z : Nat → Prop} {m : MeD} {C : Option Addr} {nc cc : Nat} {T : Option Addr} {nt ct : Nat} {M : Option Addr} {nm cm : Nat} (h1 : RowS inT w Z C nc cc m.code) (h2 : RowS trT w Z T nt ct m.traps) (h3 : RowS mpT w Z M nm cm m.maps) :
    meF.rep w Z [.bool m.static, .string (strB m.name), .string (strB m.desc), .int .i64 m.stack, .int .i64 m.locals, .slice C nc cc, .slice T nt ct, .slice M nm cm] m := ⟨_, _, _, _, _, _, _, _, _, rfl, h2, fun _ => ⟨h1, h3⟩⟩
theorem wrd_main {x : Wx} {w : World} {a : Nat} {S : Nat → Prop} {C T M : Option Addr} {nc cc nt ct nM cM : Nat} {lm : List MpR} (hS : ∀ q, S q → ∃ t cs, Blk w q t cs ∧ t ≠ 9) (hb : ∀ q, S q → q < x.b0) (h : WrD x w 0 (bodyW x.xs 6 a) C nc cc T nt ct M nM cM lm) :
    meF.rep w (Zs S w) [.bool true, .string (strB [109, 97, 105, 110]), .string (strB dII), .int .i64 40, .int .i64 8, .slice C nc cc, .slice T nt ct, .slice M nM cM] (mainMeth x.xs a) :=
  meF_of (m := mainMeth x.xs a) (rowZ_of_got (R := inT) (l' := (bodyW x.xs 6 a).code) h.code hb rfl (fun i x y hx hy => by rw [hx] at hy; cases hy; rfl)) (rowZ_of_got (R := trT) (l' := (bodyW x.xs 6 a).traps) h.traps hb rfl (fun i x y hx hy => by rw [hx] at hy; cases hy; rfl)) (rowZ_maps hS h.maps h.mps hb (fun m hm => by have := body_maps x.xs 6 a m hm; unfold maxLen; omega))
theorem wrd_obj {x : Wx} {w : World} {a : Nat} {S : Nat → Prop} {C T M : Option Addr} {nc cc nt ct nM cM : Nat} {lm : List MpR} (hb : ∀ q, S q → q < x.b0) (h : WrD x w 0 (objBodyW x.xs a) C nc cc T nt ct M nM cM lm) :
    meF.rep w (Zs S w) [.bool false, .string (strB [118]), .string (strB dII), .int .i64 8, .int .i64 2, .slice C nc cc, .slice none 0 0, .slice none 0 0] (objI (nxV x.xs 3 a)) :=
  meF_of (m := objI (nxV x.xs 3 a)) (rowZ_of_got (R := inT) (l' := (objBodyW x.xs a).code) h.code hb rfl (fun i x y hx hy => by rw [hx] at hy; cases hy; rfl)) (rowS_nil _ _ _) (rowS_nil _ _ _)
theorem next_v (B g : Nat) (A : Option Addr) (n cap : Nat) (xs : List UInt8) (at_ k : Nat) (kv : Int) (w : World) (h : TapeAt w B g A n cap xs at_) (hk : 2 ≤ k) (hk2 : k ≤ 1048576) (hv : kv = (k : Int)) :
    Calls Tryz.prog 57 #[.pointer (some ⟨g, 0, none⟩), .int .i64 kv] w fun e w' => e = .returned (.int .i64 (nxV xs k at_ : Int)) ∧ TapeAt w' B g A n cap xs (nxA xs at_) ∧ Only (· = g) w w' := by
  subst hv
  exact next_ex B g A n cap xs at_ k w h hk hk2

end Go.Proofs.YtdkkpcbebhgbiaaGreatDoor

/- The walk over carpetbagmake's Units; printed by gen/gen_wz.py. -/
namespace Go.Proofs.YtdkkpcbebhgbiaaGreatDoor
set_option maxRecDepth 100000
open Go.RowKit Go.Maps

set_option maxHeartbeats 8000000 in
theorem units_any (B tp : Nat) (A : Option Addr) (n cap : Nat) (xs : List UInt8) (a : Nat) (w : World) (ht : TapeAt w B tp A n cap xs a) :
    Calls Tryz.prog 13 #[.pointer (some ⟨tp, 0, none⟩)] w fun e w' => (∃ A2 c2, e = .returned (.slice A2 4 c2) ∧ RowS unF w' Empty A2 4 c2 (unitsW xs a)) ∧ Only (Zt tp w) w w' := by
  obtain ⟨wa, hwa⟩ : ∃ W, w.alloc (.cells #[.bool true, .string ⟨#[115]⟩, .string ⟨#[73]⟩, .bool true, .string ⟨#[111]⟩, .string ⟨#[76, 65, 59]⟩] 95) = W := ⟨_, rfl⟩
  have Bwa : Below w.heap.size w wa := by rw [← hwa]; exact belowA _ _
  have Zwa : wa.heap.size = w.heap.size + 1 := by rw [← hwa]; exact Array.size_push _
  have Kwa : Blk wa w.heap.size 95 #[.bool true, .string ⟨#[115]⟩, .string ⟨#[73]⟩, .bool true, .string ⟨#[111]⟩, .string ⟨#[76, 65, 59]⟩] := by rw [← hwa]; exact Blk.new _ _ _
  have Hwa := Lib.hid hwa
  clear hwa
  obtain ⟨w1, hw1⟩ : ∃ W, wa.alloc (.cells #[.string ⟨#[77, 97, 105, 110]⟩, .string ⟨#[79, 98, 106, 101, 99, 116]⟩, .slice (some ⟨w.heap.size, 0, none⟩) 2 2, .slice none 0 0] 82) = W := ⟨_, rfl⟩
  have Bw1 : Below wa.heap.size wa w1 := by rw [← hw1]; exact belowA _ _
  have Zw1 : w1.heap.size = wa.heap.size + 1 := by rw [← hw1]; exact Array.size_push _
  have Kw1 : Blk w1 wa.heap.size 82 #[.string ⟨#[77, 97, 105, 110]⟩, .string ⟨#[79, 98, 106, 101, 99, 116]⟩, .slice (some ⟨w.heap.size, 0, none⟩) 2 2, .slice none 0 0] := by rw [← hw1]; exact Blk.new _ _ _
  have Hw1 := Lib.hid hw1
  clear hw1
  rw [Zwa] at Zw1 Kw1
  have htl := ht.blk.lt
  have B1 : Below w.heap.size w w1 := Bwa.trans (Bw1.mono Bwa.size)
  have HT1 := Lib.hid (ht.below B1)
  have O1 : Only (Zt tp w) w w1 := Only.of_below B1
  obtain ⟨u1, hu1⟩ : ∃ u, w.heap.size + 1 = u := ⟨_, rfl⟩
  obtain ⟨S, hS⟩ : ∃ S : Nat → Prop, S = fun q => q = tp ∨ q = u1 := ⟨_, rfl⟩
  have St : S tp := by rw [hS]; exact Or.inl rfl
  have Su : S u1 := by rw [hS]; exact Or.inr rfl
  have Sl : ∀ q, S q → q < w1.heap.size := fun q hq => by rw [hS] at hq; rcases hq with rfl | rfl <;> omega
  have hSS := Lib.hid hS
  have KF1 : Blk w1 w.heap.size 95 (([[.bool true, .string ⟨#[115]⟩, .string ⟨#[73]⟩], [.bool true, .string ⟨#[111]⟩, .string ⟨#[76, 65, 59]⟩]] : List (List Value)).flatten).toArray := Kwa.of (Bw1.block _ Kwa.lt)
  have RF1 : Hid (RowS fdT w1 (Zs S w1) (some ⟨w.heap.size, 0, none⟩) 2 2 [⟨true, [115], [73]⟩, ⟨true, [111], [76, 65, 59]⟩]) := Lib.hid (rowZ_of_blk (R := fdT) (l := [⟨true, [115], [73]⟩, ⟨true, [111], [76, 65, 59]⟩]) KF1 (fun h => by rw [hS] at h; rcases h with h | h <;> omega) rfl (by decide) (fun i x y hx hy => by
    match i, hx, hy with
    | 0, rfl, rfl => rfl
    | 1, rfl, rfl => rfl))
  have K1 := Lib.hid (hu1 ▸ Kw1)
  have O1h := Lib.hid O1
  have CB := Lib.hid (body_stat ⟨B, w1.heap.size + 1, w1.heap.size + 1, tp, A, n, cap, xs⟩ w1 [109, 97, 105, 110] a HT1.out rfl rfl)
  clear KF1 Kwa Kw1 B1 O1 hS Bwa Bw1
  go_enter Tryz.func13, Tryz.ntmps13
  go_wp2_with fail
  rw [Hwa.out, Hw1.out]
  refine CB.out.mono ?_
  rintro e w2 ⟨C, nc, cc, T, nt, ct, M, nM, cM, lm, rfl, hD, hO⟩
  have HD2 := Lib.hid hD
  have HO12 := Lib.hid hO
  have HT2 := Lib.hid hD.tape
  clear CB hD hO
  have hu1w : u1 < w1.heap.size := Sl _ Su
  have hne : u1 ≠ tp := by omega
  have K2 : Blk w2 u1 82 _ := HO12.out.blk K1.out (fun h => h.elim hne (fun h => by omega))
  have O12 : Only (Zs S w1) w1 w2 := zs_zt HO12.out St
  have MM2 := Lib.hid (wrd_main (S := S) (fun q hq => by
    rw [hSS.out] at hq
    rcases hq with rfl | rfl
    · exact ⟨_, _, HT2.out.blk, by decide⟩
    · exact ⟨_, _, K2, by decide⟩) (fun q hq => by have := Sl q hq; show q < w1.heap.size + 1; omega) HD2.out)
  have RF2 := Lib.hid (RF1.out.fws O12 (fun _ _ h => h))
  have OW2 := Lib.hid (Only.zt O1h.out HO12.out)
  have hs12 := HO12.out.size
  have C7 := Lib.hid (next_v B tp A n cap xs (at1 xs a) 7 7 w2 HT2.out (by omega) (by omega) rfl)
  clear O12 RF1 HO12 HD2
  go_wp2_with fail
  refine C7.out.mono ?_
  rintro e w3 ⟨rfl, ht3, ho3⟩
  obtain ⟨i, hi⟩ : ∃ i, nxV xs 7 (at1 xs a) = i := ⟨_, rfl⟩
  have bi : i < 7 := by rw [← hi]; exact nxV_lt (by omega)
  rw [hi]
  have HVi := Lib.hid hi
  have O23 := Lib.hid (zs_one (S := S) ho3 St)
  have hs23 := ho3.size
  have K3 := ho3.blk K2 hne
  have hcv : IntKind.u8.wrap (2 + (i : Int)) = 2 + (i : Int) := by rw [IntKind.wrap_u8]; omega
  have hop : ((UInt8.ofNat (2 + i)).toNat : Int) = 2 + (i : Int) := by
    have : ∀ m, m < 7 → ((UInt8.ofNat (2 + m)).toNat : Int) = 2 + (m : Int) := by decide +kernel
    exact this i bi
  have HOP := Lib.hid hop
  clear hi C7 hop
  obtain ⟨wt, hwt⟩ : ∃ W, w3.alloc (.cells #[.int .u8 100, .int .u8 108, .int .u8 112] 5) = W := ⟨_, rfl⟩
  have Bwt : Below w3.heap.size w3 wt := by rw [← hwt]; exact belowA _ _
  have Zwt : wt.heap.size = w3.heap.size + 1 := by rw [← hwt]; exact Array.size_push _
  have Kwt : Blk wt w3.heap.size 5 #[.int .u8 100, .int .u8 108, .int .u8 112] := by rw [← hwt]; exact Blk.new _ _ _
  have Hwt := Lib.hid hwt
  clear hwt
  have C3 := Lib.hid (next_v B tp A n cap xs (nxA xs (at1 xs a)) 3 3 wt (ht3.below Bwt) (by omega) (by omega) rfl)
  have K3t := K3.of (Bwt.block _ K3.lt)
  have htn : w3.heap.size ≠ tp := by omega
  have hlt3 := K3.lt
  clear ht3
  go_wp2_with fail
  rw [Hwt.out]
  refine C3.out.mono ?_
  rintro e w4 ⟨rfl, ht4, ho4⟩
  obtain ⟨j, hj⟩ : ∃ j, nxV xs 3 (nxA xs (at1 xs a)) = j := ⟨_, rfl⟩
  have bj : j < 3 := by rw [← hj]; exact nxV_lt (by omega)
  rw [hj]
  have HVj := Lib.hid hj
  have KT4 := ho4.blk Kwt htn
  obtain ⟨q, hq⟩ : ∃ q : Int, ((([100, 108, 112] : List UInt8).getD j 0).toNat : Int) = q := ⟨_, rfl⟩
  have HQ := Lib.hid hq
  have dj : w4.cell? ⟨w3.heap.size, j, none⟩ = some (.int .u8 q) := by
    rw [KT4.cell, ← hq]
    exact u8_of_tab [100, 108, 112] j bj
  have hl4 := KT4.lt
  have hs4 := ho4.size
  have K4 := ho4.blk K3t hne
  have O34 := Lib.hid (zs_one (S := S) ho4 St)
  have HT4 := Lib.hid ht4
  have c43 : w4.cell? ⟨u1, 3, none⟩ = some (.slice none 0 0) := K4.cell 3
  have f43 : w4.frozen? ⟨u1, 3, none⟩ = false := K4.frozen 3
  have hl41 := K4.lt
  clear hj C3 hq ht4
  obtain ⟨wz, hwz⟩ : ∃ W, w4.setCell ⟨u1, 3, none⟩ (.slice (some ⟨w4.heap.size + 1, 0, none⟩) 2 2) = W := ⟨_, rfl⟩
  have Hwz := Lib.hid hwz
  have Oz : Only (· = u1) w4 wz := by rw [← hwz]; exact (Only.refl (· = u1) _).setCell (p := ⟨u1, 3, none⟩) (Or.inl rfl) _
  have Zwz : wz.heap.size = w4.heap.size := by rw [← hwz]; simp
  have Kz := K4.set_ 3 (.slice (some ⟨w4.heap.size + 1, 0, none⟩) 2 2)
  rw [hwz] at Kz
  clear hwz
  obtain ⟨wc, hwc⟩ : ∃ W, wz.alloc (.cells #[.int .u8 21, .int .i64 0, .int .i64 0, .string ⟨#[]⟩, .string ⟨#[]⟩, .string ⟨#[]⟩, .string ⟨#[]⟩, .int .u8 (2 + (i : Int)), .int .i64 0, .int .i64 0, .string ⟨#[]⟩, .string ⟨#[]⟩, .string ⟨#[]⟩, .string ⟨#[]⟩, .int .u8 q, .int .i64 0, .int .i64 0, .string ⟨#[]⟩, .string ⟨#[]⟩, .string ⟨#[]⟩, .string ⟨#[]⟩, .int .u8 172, .int .i64 0, .int .i64 0, .string ⟨#[]⟩, .string ⟨#[]⟩, .string ⟨#[]⟩, .string ⟨#[]⟩] 98) = W := ⟨_, rfl⟩
  have Bwc : Below wz.heap.size wz wc := by rw [← hwc]; exact belowA _ _
  have Zwc : wc.heap.size = wz.heap.size + 1 := by rw [← hwc]; exact Array.size_push _
  have Kwc : Blk wc wz.heap.size 98 #[.int .u8 21, .int .i64 0, .int .i64 0, .string ⟨#[]⟩, .string ⟨#[]⟩, .string ⟨#[]⟩, .string ⟨#[]⟩, .int .u8 (2 + (i : Int)), .int .i64 0, .int .i64 0, .string ⟨#[]⟩, .string ⟨#[]⟩, .string ⟨#[]⟩, .string ⟨#[]⟩, .int .u8 q, .int .i64 0, .int .i64 0, .string ⟨#[]⟩, .string ⟨#[]⟩, .string ⟨#[]⟩, .string ⟨#[]⟩, .int .u8 172, .int .i64 0, .int .i64 0, .string ⟨#[]⟩, .string ⟨#[]⟩, .string ⟨#[]⟩, .string ⟨#[]⟩] := by rw [← hwc]; exact Blk.new _ _ _
  have Hwc := Lib.hid hwc
  clear hwc
  obtain ⟨wm, hwm⟩ : ∃ W, wc.alloc (.cells #[.bool true, .string (strB [109, 97, 105, 110]), .string (strB dII), .int .i64 40, .int .i64 8, .slice C nc cc, .slice T nt ct, .slice M nM cM, .bool true, .string ⟨#[104, 101, 108, 112]⟩, .string ⟨#[40, 73, 41, 73]⟩, .int .i64 4, .int .i64 1, .slice (some ⟨w4.heap.size, 0, none⟩) 4 4, .slice none 0 0, .slice none 0 0] 41) = W := ⟨_, rfl⟩
  have Bwm : Below wc.heap.size wc wm := by rw [← hwm]; exact belowA _ _
  have Zwm : wm.heap.size = wc.heap.size + 1 := by rw [← hwm]; exact Array.size_push _
  have Kwm : Blk wm wc.heap.size 41 #[.bool true, .string (strB [109, 97, 105, 110]), .string (strB dII), .int .i64 40, .int .i64 8, .slice C nc cc, .slice T nt ct, .slice M nM cM, .bool true, .string ⟨#[104, 101, 108, 112]⟩, .string ⟨#[40, 73, 41, 73]⟩, .int .i64 4, .int .i64 1, .slice (some ⟨w4.heap.size, 0, none⟩) 4 4, .slice none 0 0, .slice none 0 0] := by rw [← hwm]; exact Blk.new _ _ _
  have Hwm := Lib.hid hwm
  clear hwm
  obtain ⟨wf, hwf⟩ : ∃ W, wm.alloc (.cells #[.bool false, .string ⟨#[102]⟩, .string ⟨#[73]⟩, .bool false, .string ⟨#[108]⟩, .string ⟨#[74]⟩, .bool false, .string ⟨#[110, 101, 120, 116]⟩, .string ⟨#[76, 65, 59]⟩] 95) = W := ⟨_, rfl⟩
  have Bwf : Below wm.heap.size wm wf := by rw [← hwf]; exact belowA _ _
  have Zwf : wf.heap.size = wm.heap.size + 1 := by rw [← hwf]; exact Array.size_push _
  have Kwf : Blk wf wm.heap.size 95 #[.bool false, .string ⟨#[102]⟩, .string ⟨#[73]⟩, .bool false, .string ⟨#[108]⟩, .string ⟨#[74]⟩, .bool false, .string ⟨#[110, 101, 120, 116]⟩, .string ⟨#[76, 65, 59]⟩] := by rw [← hwf]; exact Blk.new _ _ _
  have Hwf := Lib.hid hwf
  clear hwf
  rw [Zwz] at Zwc Kwc
  rw [Zwc] at Zwm Kwm
  rw [Zwm] at Zwf Kwf
  have KC : Blk wm w4.heap.size 98 (([[.int .u8 21, .int .i64 0, .int .i64 0, .string ⟨#[]⟩, .string ⟨#[]⟩, .string ⟨#[]⟩, .string ⟨#[]⟩], [.int .u8 (2 + (i : Int)), .int .i64 0, .int .i64 0, .string ⟨#[]⟩, .string ⟨#[]⟩, .string ⟨#[]⟩, .string ⟨#[]⟩], [.int .u8 q, .int .i64 0, .int .i64 0, .string ⟨#[]⟩, .string ⟨#[]⟩, .string ⟨#[]⟩, .string ⟨#[]⟩], [.int .u8 172, .int .i64 0, .int .i64 0, .string ⟨#[]⟩, .string ⟨#[]⟩, .string ⟨#[]⟩, .string ⟨#[]⟩]] : List (List Value)).flatten).toArray := Kwc.of (Bwm.block _ Kwc.lt)
  have Sn : ∀ q, S q → q < w2.heap.size := fun q hq => by have := Sl q hq; omega
  have RC := Lib.hid (rowZ_of_blk (R := inT) (S := S) (l := (helpI i j).code) KC (fun h => by have := Sn _ h; omega) rfl (by show (4 : Nat) ≤ maxLen; decide) (fun k x y hx hy => by
    match k, hx, hy with
    | 0, rfl, rfl => rfl
    | 1, rfl, rfl => show _ = _; rw [HOP.out]; rfl
    | 2, rfl, rfl => show _ = _; rw [HQ.out]; rfl
    | 3, rfl, rfl => rfl))
  have O2m : Only (Zs S w2) w2 wm := zs_trans (zs_trans (zs_trans (zs_trans (zs_trans (O23.out) (zs_below Bwt)) (O34.out)) (zs_one Oz Su)) (zs_below Bwc)) (zs_below Bwm)
  have KM : Blk wm (w4.heap.size + 1) 41 (([[.bool true, .string (strB [109, 97, 105, 110]), .string (strB dII), .int .i64 40, .int .i64 8, .slice C nc cc, .slice T nt ct, .slice M nM cM], [.bool true, .string ⟨#[104, 101, 108, 112]⟩, .string ⟨#[40, 73, 41, 73]⟩, .int .i64 4, .int .i64 1, .slice (some ⟨w4.heap.size, 0, none⟩) 4 4, .slice none 0 0, .slice none 0 0]] : List (List Value)).flatten).toArray := Kwm
  have MR := Lib.hid (rowZ_of_blk (R := meF) (S := S) (l := [mainMeth xs a, helpI i j]) KM (fun h => by have := Sn _ h; omega) rfl (by show (2 : Nat) ≤ maxLen; decide) (fun k x y hx hy => by
    match k, hx, hy with
    | 0, rfl, rfl => exact rep_fws MM2.out O2m (fun _ _ h => h)
    | 1, rfl, rfl => exact meF_of (m := helpI i j) RC.out (rowS_nil _ _ _) (rowS_nil _ _ _)))
  have Omf : Only (Zs S wm) wm wf := zs_below Bwf
  have MRf := Lib.hid (MR.out.fws Omf (fun _ _ h => h))
  have RFf := Lib.hid (RF2.out.fws (zs_trans O2m Omf) (fun _ _ h => h))
  have Bzf : Below wz.heap.size wz wf := (Bwc.trans (Bwm.mono Bwc.size)).trans (Bwf.mono (by omega))
  have Kf := Lib.hid (Kz.of (Bzf.block _ Kz.lt))
  have HTf : Hid (TapeAt wf B tp A n cap xs (at2 xs a)) := Lib.hid ((HT4.out.only Oz (fun e => hne e.symm) (fun q e => by have := ht.new; rw [e]; omega)).below Bzf)
  have KF2 := Lib.hid Kwf
  have OWf := Lib.hid (OW2.out.trans ((zs_trans O2m Omf).mono (fun q _ e => e.elim (fun e => by rw [hSS.out] at e; exact e.elim Or.inl (fun e => Or.inr (by omega))) (fun e => Or.inr (by omega)))))
  have CB := Lib.hid (body_obj ⟨B, wf.heap.size + 1, wf.heap.size + 1, tp, A, n, cap, xs⟩ wf [118] (at2 xs a) HTf.out rfl rfl)
  clear Bzf KC KM RC MR Kwc Kwm Kz K4 Kwf Kwt O2m Omf Oz Bwc Bwm Bwf Bwt O23 O34 MM2 RF2 OW2 K2 K3 K3t KT4
  go_wp2_with fail
  rw [Hwz.out, Hwc.out, Hwm.out, Hwf.out]
  refine CB.out.mono ?_
  rintro e w5 ⟨C5, nc5, cc5, T5, nt5, ct5, M5, nM5, cM5, lm5, rfl, hD, hO⟩
  have HT5 : Hid (TapeAt w5 B tp A n cap xs (at3 xs a)) := Lib.hid hD.tape
  replace hO : Only (Zt tp wf) wf w5 := hO
  have Of5 : Only (Zs S wf) wf w5 := zs_zt hO St
  have hs5 := hO.size
  have hS5 : ∀ q, S q → q < wf.heap.size + 1 := fun q hq => by have := Sn q hq; omega
  have MO5 := Lib.hid (wrd_obj (x := ⟨B, wf.heap.size + 1, wf.heap.size + 1, tp, A, n, cap, xs⟩) (S := S) hS5 hD)
  have MR5 := Lib.hid (MRf.out.fws Of5 (fun _ _ h => h))
  have RF5 := Lib.hid (RFf.out.fws Of5 (fun _ _ h => h))
  have K5 := hO.blk Kf.out (fun h => h.elim hne (fun h => by omega))
  have KF5 := hO.blk KF2.out (fun h => h.elim (fun h => by omega) (fun h => by omega))
  have OW5 := Lib.hid (OWf.out.zt hO)
  obtain ⟨v2, hv2⟩ : ∃ v, nxV xs 3 (at2 xs a) = v := ⟨_, rfl⟩
  have HV2 := Lib.hid hv2
  rw [show (⟨B, wf.heap.size + 1, wf.heap.size + 1, tp, A, n, cap, xs⟩ : Wx).xs = xs from rfl, hv2] at MO5
  clear hD hO Of5 CB MRf RFf Kf KF2 OWf HTf hv2
  obtain ⟨wn, hwn⟩ : ∃ W, w5.alloc (.cells #[.bool false, .string (strB [118]), .string (strB dII), .int .i64 8, .int .i64 2, .slice C5 nc5 cc5, .slice none 0 0, .slice none 0 0] 41) = W := ⟨_, rfl⟩
  have Bwn : Below w5.heap.size w5 wn := by rw [← hwn]; exact belowA _ _
  have Zwn : wn.heap.size = w5.heap.size + 1 := by rw [← hwn]; exact Array.size_push _
  have Kwn : Blk wn w5.heap.size 41 #[.bool false, .string (strB [118]), .string (strB dII), .int .i64 8, .int .i64 2, .slice C5 nc5 cc5, .slice none 0 0, .slice none 0 0] := by rw [← hwn]; exact Blk.new _ _ _
  have Hwn := Lib.hid hwn
  clear hwn
  obtain ⟨wu, hwu⟩ : ∃ W, wn.alloc (.cells #[.string ⟨#[65]⟩, .string ⟨#[79, 98, 106, 101, 99, 116]⟩, .slice (some ⟨w4.heap.size + 2, 0, none⟩) 3 3, .slice (some ⟨w5.heap.size, 0, none⟩) 1 1] 82) = W := ⟨_, rfl⟩
  have Bwu : Below wn.heap.size wn wu := by rw [← hwu]; exact belowA _ _
  have Zwu : wu.heap.size = wn.heap.size + 1 := by rw [← hwu]; exact Array.size_push _
  have Kwu : Blk wu wn.heap.size 82 #[.string ⟨#[65]⟩, .string ⟨#[79, 98, 106, 101, 99, 116]⟩, .slice (some ⟨w4.heap.size + 2, 0, none⟩) 3 3, .slice (some ⟨w5.heap.size, 0, none⟩) 1 1] := by rw [← hwu]; exact Blk.new _ _ _
  have Hwu := Lib.hid hwu
  clear hwu
  obtain ⟨wg, hwg⟩ : ∃ W, wu.alloc (.cells #[.bool false, .string ⟨#[103]⟩, .string ⟨#[73]⟩] 95) = W := ⟨_, rfl⟩
  have Bwg : Below wu.heap.size wu wg := by rw [← hwg]; exact belowA _ _
  have Zwg : wg.heap.size = wu.heap.size + 1 := by rw [← hwg]; exact Array.size_push _
  have Kwg : Blk wg wu.heap.size 95 #[.bool false, .string ⟨#[103]⟩, .string ⟨#[73]⟩] := by rw [← hwg]; exact Blk.new _ _ _
  have Hwg := Lib.hid hwg
  clear hwg
  obtain ⟨wv, hwv⟩ : ∃ W, wg.alloc (.cells #[.string ⟨#[66]⟩, .string ⟨#[65]⟩, .slice (some ⟨w5.heap.size + 2, 0, none⟩) 1 1, .slice none 0 0] 82) = W := ⟨_, rfl⟩
  have Bwv : Below wg.heap.size wg wv := by rw [← hwv]; exact belowA _ _
  have Zwv : wv.heap.size = wg.heap.size + 1 := by rw [← hwv]; exact Array.size_push _
  have Kwv : Blk wv wg.heap.size 82 #[.string ⟨#[66]⟩, .string ⟨#[65]⟩, .slice (some ⟨w5.heap.size + 2, 0, none⟩) 1 1, .slice none 0 0] := by rw [← hwv]; exact Blk.new _ _ _
  have Hwv := Lib.hid hwv
  clear hwv
  rw [Zwn] at Zwu Kwu
  rw [Zwu] at Zwg Kwg
  rw [Zwg] at Zwv Kwv
  have Bnv : Below wn.heap.size wn wv := (Bwu.trans (Bwg.mono Bwu.size)).trans (Bwv.mono (by omega))
  have B5v : Below w5.heap.size w5 wv := Bwn.trans (Bnv.mono (by omega))
  obtain ⟨S3, hS3⟩ : ∃ S : Nat → Prop, S = fun q => q = tp ∨ q = u1 ∨ q = w5.heap.size + 3 := ⟨_, rfl⟩
  have HS3 := Lib.hid hS3
  have St3 : S3 tp := by rw [hS3]; exact Or.inl rfl
  have Su3 : S3 (w5.heap.size + 3) := by rw [hS3]; exact Or.inr (Or.inr rfl)
  have hS35 : ∀ q, q < w5.heap.size → S3 q → S q := fun q hq h => by
    rw [hS3] at h
    rw [hSS.out]
    rcases h with h | h | h
    · exact Or.inl h
    · exact Or.inr h
    · omega
  have RFv := Lib.hid (RF5.out.fws (zs_below B5v) hS35)
  have MRv := Lib.hid (MR5.out.fws (zs_below B5v) hS35)
  have KM2 : Blk wv w5.heap.size 41 (([[.bool false, .string (strB [118]), .string (strB dII), .int .i64 8, .int .i64 2, .slice C5 nc5 cc5, .slice none 0 0, .slice none 0 0]] : List (List Value)).flatten).toArray := Kwn.of (Bnv.block _ Kwn.lt)
  have MOv := Lib.hid (rowZ_of_blk (R := meF) (S := S3) (l := [objI v2]) KM2 (fun h => by rw [hS3] at h; rcases h with h | h | h <;> omega) rfl (by show (1 : Nat) ≤ maxLen; decide) (fun k x y hx hy => by
    match k, hx, hy with
    | 0, rfl, rfl => exact rep_fws MO5.out (zs_below B5v) hS35))
  have KF5v : Blk wv (w4.heap.size + 2) 95 (([[.bool false, .string ⟨#[102]⟩, .string ⟨#[73]⟩], [.bool false, .string ⟨#[108]⟩, .string ⟨#[74]⟩], [.bool false, .string ⟨#[110, 101, 120, 116]⟩, .string ⟨#[76, 65, 59]⟩]] : List (List Value)).flatten).toArray := KF5.of (B5v.block _ KF5.lt)
  have RF2v := Lib.hid (rowZ_of_blk (R := fdT) (S := S3) (l := [⟨false, [102], [73]⟩, ⟨false, [108], [74]⟩, ⟨false, [110, 101, 120, 116], [76, 65, 59]⟩]) KF5v (fun h => by rw [hS3] at h; rcases h with h | h | h <;> omega) rfl (by show (3 : Nat) ≤ maxLen; decide) (fun i x y hx hy => by
    match i, hx, hy with
    | 0, rfl, rfl => rfl
    | 1, rfl, rfl => rfl
    | 2, rfl, rfl => rfl))
  have KF3v : Blk wv (w5.heap.size + 2) 95 (([[.bool false, .string ⟨#[103]⟩, .string ⟨#[73]⟩]] : List (List Value)).flatten).toArray := Kwg.of (Bwv.block _ Kwg.lt)
  have RF3v := Lib.hid (rowZ_of_blk (R := fdT) (S := S3) (l := [⟨false, [103], [73]⟩]) KF3v (fun h => by rw [hS3] at h; rcases h with h | h | h <;> omega) rfl (by show (1 : Nat) ≤ maxLen; decide) (fun i x y hx hy => by
    match i, hx, hy with
    | 0, rfl, rfl => rfl))
  have Bgv : Below wu.heap.size wu wv := Bwg.trans (Bwv.mono Bwg.size)
  have K1v := Lib.hid (K5.of (B5v.block _ K5.lt))
  have K2v := Lib.hid (Kwu.of (Bgv.block _ Kwu.lt))
  have K3v := Lib.hid Kwv
  have HTv := Lib.hid (HT5.out.below B5v)
  have OWv := Lib.hid (OW5.out.zt (Only.zt_below B5v))
  have hl1v := K1v.out.lt
  have CK := Lib.hid (next_v B tp A n cap xs (at3 xs a) 3 3 wv HTv.out (by omega) (by omega) rfl)
  clear Bnv B5v Bgv hS3 hS35 KM2 KF5v KF3v Kwn Kwu Kwg Kwv Bwn Bwu Bwg Bwv RF5 MR5 K5 KF5 MO5
  go_wp2_with fail
  rw [Hwn.out, Hwu.out, Hwg.out, Hwv.out]
  refine CK.out.mono ?_
  rintro e w6 ⟨rfl, ht6, ho6⟩
  obtain ⟨k, hk⟩ : ∃ k, nxV xs 3 (at3 xs a) = k := ⟨_, rfl⟩
  have bk : k < 3 := by rw [← hk]; exact nxV_lt (by omega)
  rw [hk]
  have HVk := Lib.hid hk
  have Ov6 : Only (Zs S3 wv) wv w6 := zs_one ho6 St3
  have RF6 := Lib.hid (RFv.out.fws Ov6 (fun _ _ h => h))
  have MR6 := Lib.hid (MRv.out.fws Ov6 (fun _ _ h => h))
  have MO6 := Lib.hid (MOv.out.fws Ov6 (fun _ _ h => h))
  have RF26 := Lib.hid (RF2v.out.fws Ov6 (fun _ _ h => h))
  have RF36 := Lib.hid (RF3v.out.fws Ov6 (fun _ _ h => h))
  have hs6 := ho6.size
  have K16 := Lib.hid (ho6.blk K1v.out hne)
  have K26 := Lib.hid (ho6.blk K2v.out (by omega))
  have K36 := Lib.hid (ho6.blk K3v.out (by omega))
  have OW6 := Lib.hid (OWv.out.zt (ho6.mono (fun q _ e => Or.inl e)))
  have HT6 : Hid (TapeAt w6 B tp A n cap xs (at4 xs a)) := Lib.hid ht6
  clear Ov6 ho6 ht6 hk CK RFv MRv MOv RF2v RF3v K1v K2v K3v OWv
  by_cases h0 : 0 < k
  · have CB := Lib.hid (body_obj ⟨B, w6.heap.size + 1, w6.heap.size + 1, tp, A, n, cap, xs⟩ w6 [118] (at4 xs a) HT6.out rfl rfl)
    have hl36 := K36.out.lt
    go_wp2_with fail
    refine CB.out.mono ?_
    rintro e w7 ⟨C7, nc7, cc7, T7, nt7, ct7, M7, nM7, cM7, lm7, rfl, hD, hO⟩
    replace hO : Only (Zt tp w6) w6 w7 := hO
    have Ov7 : Only (Zs S3 w6) w6 w7 := zs_zt hO St3
    have hs7 := hO.size
    have hS7 : ∀ q, S3 q → q < w6.heap.size + 1 := fun q hq => by rw [HS3.out] at hq; rcases hq with h | h | h <;> omega
    have MO7 := Lib.hid (wrd_obj (x := ⟨B, w6.heap.size + 1, w6.heap.size + 1, tp, A, n, cap, xs⟩) (S := S3) hS7 hD)
    have RF7 := Lib.hid (RF6.out.fws Ov7 (fun _ _ h => h))
    have MR7 := Lib.hid (MR6.out.fws Ov7 (fun _ _ h => h))
    have MP7 := Lib.hid (MO6.out.fws Ov7 (fun _ _ h => h))
    have RF27 := Lib.hid (RF26.out.fws Ov7 (fun _ _ h => h))
    have RF37 := Lib.hid (RF36.out.fws Ov7 (fun _ _ h => h))
    have hl16 := K16.out.lt
    have hl26 := K26.out.lt
    have K17 := Lib.hid (hO.blk K16.out (fun h => h.elim hne (fun h => by omega)))
    have K27 := Lib.hid (hO.blk K26.out (fun h => h.elim (fun h => by omega) (fun h => by omega)))
    have K37 := Lib.hid (hO.blk K36.out (fun h => h.elim (fun h => by omega) (fun h => by omega)))
    have OW7 := Lib.hid (OW6.out.zt hO)
    obtain ⟨v4, hv4⟩ : ∃ v, nxV xs 3 (at4 xs a) = v := ⟨_, rfl⟩
    have HV4 := Lib.hid hv4
    rw [show (⟨B, w6.heap.size + 1, w6.heap.size + 1, tp, A, n, cap, xs⟩ : Wx).xs = xs from rfl, hv4] at MO7
    clear hD hO Ov7 CB RF6 MR6 MO6 RF26 RF36 K16 K26 K36 OW6 HT6 hv4
    have ca0 : w7.cell? ⟨u1, 0, none⟩ = some (.string ⟨#[77, 97, 105, 110]⟩) := (K17.out).cell 0
    have ca1 : w7.cell? ⟨u1, 1, none⟩ = some (.string ⟨#[79, 98, 106, 101, 99, 116]⟩) := (K17.out).cell 1
    have ca2 : w7.cell? ⟨u1, 2, none⟩ = some (.slice (some ⟨w.heap.size, 0, none⟩) 2 2) := (K17.out).cell 2
    have ca3 : w7.cell? ⟨u1, 3, none⟩ = some (.slice (some ⟨w4.heap.size + 1, 0, none⟩) 2 2) := (K17.out).cell 3
    have cb0 : w7.cell? ⟨w5.heap.size + 1, 0, none⟩ = some (.string ⟨#[65]⟩) := (K27.out).cell 0
    have cb1 : w7.cell? ⟨w5.heap.size + 1, 1, none⟩ = some (.string ⟨#[79, 98, 106, 101, 99, 116]⟩) := (K27.out).cell 1
    have cb2 : w7.cell? ⟨w5.heap.size + 1, 2, none⟩ = some (.slice (some ⟨w4.heap.size + 2, 0, none⟩) 3 3) := (K27.out).cell 2
    have cb3 : w7.cell? ⟨w5.heap.size + 1, 3, none⟩ = some (.slice (some ⟨w5.heap.size, 0, none⟩) 1 1) := (K27.out).cell 3
    have cd0 : w7.cell? ⟨w5.heap.size + 3, 0, none⟩ = some (.string ⟨#[66]⟩) := (K37.out).cell 0
    have cd1 : w7.cell? ⟨w5.heap.size + 3, 1, none⟩ = some (.string ⟨#[65]⟩) := (K37.out).cell 1
    have cd2 : w7.cell? ⟨w5.heap.size + 3, 2, none⟩ = some (.slice (some ⟨w5.heap.size + 2, 0, none⟩) 1 1) := (K37.out).cell 2
    have cd3 : w7.cell? ⟨w5.heap.size + 3, 3, none⟩ = some (.slice none 0 0) := (K37.out).cell 3
    have f43 := K37.out.frozen 3
    obtain ⟨wq, hwq⟩ : ∃ W, w7.setCell ⟨w5.heap.size + 3, 3, none⟩ (.slice (some ⟨w7.heap.size, 0, none⟩) 1 1) = W := ⟨_, rfl⟩
    have Hwq := Lib.hid hwq
    have Oq : Only (· = w5.heap.size + 3) w7 wq := by rw [← hwq]; exact (Only.refl (· = w5.heap.size + 3) _).setCell (p := ⟨w5.heap.size + 3, 3, none⟩) (Or.inl rfl) _
    have Zwq : wq.heap.size = w7.heap.size := by rw [← hwq]; simp
    clear hwq
    obtain ⟨wp, hwp⟩ : ∃ W, wq.alloc (.cells #[.bool false, .string (strB [118]), .string (strB dII), .int .i64 8, .int .i64 2, .slice C7 nc7 cc7, .slice none 0 0, .slice none 0 0] 41) = W := ⟨_, rfl⟩
    have Bwp : Below wq.heap.size wq wp := by rw [← hwp]; exact belowA _ _
    have Zwp : wp.heap.size = wq.heap.size + 1 := by rw [← hwp]; exact Array.size_push _
    have Kwp : Blk wp wq.heap.size 41 #[.bool false, .string (strB [118]), .string (strB dII), .int .i64 8, .int .i64 2, .slice C7 nc7 cc7, .slice none 0 0, .slice none 0 0] := by rw [← hwp]; exact Blk.new _ _ _
    have Hwp := Lib.hid hwp
    clear hwp
    obtain ⟨we, hwe⟩ : ∃ W, wp.alloc (.cells #[.string ⟨#[77, 97, 105, 110]⟩, .string ⟨#[79, 98, 106, 101, 99, 116]⟩, .slice (some ⟨w.heap.size, 0, none⟩) 2 2, .slice (some ⟨w4.heap.size + 1, 0, none⟩) 2 2, .string ⟨#[65]⟩, .string ⟨#[79, 98, 106, 101, 99, 116]⟩, .slice (some ⟨w4.heap.size + 2, 0, none⟩) 3 3, .slice (some ⟨w5.heap.size, 0, none⟩) 1 1, .string ⟨#[66]⟩, .string ⟨#[65]⟩, .slice (some ⟨w5.heap.size + 2, 0, none⟩) 1 1, .slice (some ⟨w7.heap.size, 0, none⟩) 1 1, .string ⟨#[79, 111, 112, 115]⟩, .string ⟨#[84, 104, 114, 111, 119, 97, 98, 108, 101]⟩, .slice none 0 0, .slice none 0 0] 82) = W := ⟨_, rfl⟩
    have Bwe : Below wp.heap.size wp we := by rw [← hwe]; exact belowA _ _
    have Zwe : we.heap.size = wp.heap.size + 1 := by rw [← hwe]; exact Array.size_push _
    have Kwe : Blk we wp.heap.size 82 #[.string ⟨#[77, 97, 105, 110]⟩, .string ⟨#[79, 98, 106, 101, 99, 116]⟩, .slice (some ⟨w.heap.size, 0, none⟩) 2 2, .slice (some ⟨w4.heap.size + 1, 0, none⟩) 2 2, .string ⟨#[65]⟩, .string ⟨#[79, 98, 106, 101, 99, 116]⟩, .slice (some ⟨w4.heap.size + 2, 0, none⟩) 3 3, .slice (some ⟨w5.heap.size, 0, none⟩) 1 1, .string ⟨#[66]⟩, .string ⟨#[65]⟩, .slice (some ⟨w5.heap.size + 2, 0, none⟩) 1 1, .slice (some ⟨w7.heap.size, 0, none⟩) 1 1, .string ⟨#[79, 111, 112, 115]⟩, .string ⟨#[84, 104, 114, 111, 119, 97, 98, 108, 101]⟩, .slice none 0 0, .slice none 0 0] := by rw [← hwe]; exact Blk.new _ _ _
    have Hwe := Lib.hid hwe
    clear hwe
    rw [Zwq] at Zwp Kwp
    rw [Zwp] at Zwe Kwe
    have hU : unitsW xs a = [⟨sMain, cObject, [⟨true, [115], [73]⟩, ⟨true, [111], [76, 65, 59]⟩], [mainMeth xs a, helpI i j]⟩, ⟨[65], cObject, [⟨false, [102], [73]⟩, ⟨false, [108], [74]⟩, ⟨false, [110, 101, 120, 116], [76, 65, 59]⟩], [objI v2]⟩, ⟨[66], [65], [⟨false, [103], [73]⟩], [objI v4]⟩, oopsU] := by
      unfold unitsW mainU aU bU
      rw [HVi.out, HVj.out, HV2.out, HVk.out, if_pos h0, HV4.out]
    have KE : Blk we (w7.heap.size + 1) 82 (([[.string ⟨#[77, 97, 105, 110]⟩, .string ⟨#[79, 98, 106, 101, 99, 116]⟩, .slice (some ⟨w.heap.size, 0, none⟩) 2 2, .slice (some ⟨w4.heap.size + 1, 0, none⟩) 2 2], [.string ⟨#[65]⟩, .string ⟨#[79, 98, 106, 101, 99, 116]⟩, .slice (some ⟨w4.heap.size + 2, 0, none⟩) 3 3, .slice (some ⟨w5.heap.size, 0, none⟩) 1 1], [.string ⟨#[66]⟩, .string ⟨#[65]⟩, .slice (some ⟨w5.heap.size + 2, 0, none⟩) 1 1, .slice (some ⟨w7.heap.size, 0, none⟩) 1 1], [.string ⟨#[79, 111, 112, 115]⟩, .string ⟨#[84, 104, 114, 111, 119, 97, 98, 108, 101]⟩, .slice none 0 0, .slice none 0 0]] : List (List Value)).flatten).toArray := Kwe
    have O7p : Only (Zs S3 w7) w7 wp := zs_trans (zs_one Oq Su3) (zs_below Bwp)
    have O7e : Only (Zs S3 w7) w7 we := zs_trans O7p (zs_below Bwe)
    have KP : Blk wp w7.heap.size 41 (([[.bool false, .string (strB [118]), .string (strB dII), .int .i64 8, .int .i64 2, .slice C7 nc7 cc7, .slice none 0 0, .slice none 0 0]] : List (List Value)).flatten).toArray := Kwp
    have MQ := Lib.hid (rowZ_of_blk (R := meF) (S := S3) (l := [objI v4]) KP (fun h => by rw [HS3.out] at h; rcases h with h | h | h <;> omega) rfl (by show (1 : Nat) ≤ maxLen; decide) (fun k x y hx hy => by
      match k, hx, hy with
      | 0, rfl, rfl => exact rep_fws MO7.out O7p (fun _ _ h => h)))
    have RU := Lib.hid (rowZ_of_blk (R := unF) (S := S3) (l := [⟨sMain, cObject, [⟨true, [115], [73]⟩, ⟨true, [111], [76, 65, 59]⟩], [mainMeth xs a, helpI i j]⟩, ⟨[65], cObject, [⟨false, [102], [73]⟩, ⟨false, [108], [74]⟩, ⟨false, [110, 101, 120, 116], [76, 65, 59]⟩], [objI v2]⟩, ⟨[66], [65], [⟨false, [103], [73]⟩], [objI v4]⟩, oopsU]) KE (fun h => by rw [HS3.out] at h; rcases h with h | h | h <;> omega) rfl (by show (4 : Nat) ≤ maxLen; decide) (fun k x y hx hy => by
      match k, hx, hy with
      | 0, rfl, rfl => exact ⟨_, _, _, _, _, _, rfl, RF7.out.fws O7e (fun _ _ h => h), MR7.out.fws O7e (fun _ _ h => h)⟩
      | 1, rfl, rfl => exact ⟨_, _, _, _, _, _, rfl, RF27.out.fws O7e (fun _ _ h => h), MP7.out.fws O7e (fun _ _ h => h)⟩
      | 2, rfl, rfl => exact ⟨_, _, _, _, _, _, rfl, RF37.out.fws O7e (fun _ _ h => h), MQ.out.fws (zs_below Bwe) (fun _ _ h => h)⟩
      | 3, rfl, rfl => exact ⟨_, _, _, _, _, _, rfl, rowS_nil _ _ _, rowS_nil _ _ _⟩))
    have HEND : Hid (RowS unF we Empty (some ⟨w7.heap.size + 1, 0, none⟩) 4 4 (unitsW xs a)) := Lib.hid (by rw [hU]; exact RU.out.mono (fun _ _ h => h.elim))
    have OWe := Lib.hid ((OW7.out.trans (Oq.mono (fun q _ e => Or.inr (by omega)))).zt (Only.zt_below (Bwp.trans (Bwe.mono Bwp.size))))
    have hl17 := K17.out.lt
    have hl27 := K27.out.lt
    have hl37 := K37.out.lt
    clear KE O7p O7e RU MQ KP Kwe Kwp Bwe Bwp Oq hU
    go_wp2
    rw [Hwq.out, Hwp.out, Hwe.out]
    go_ret
    exact ⟨⟨_, _, rfl, HEND.out⟩, OWe.out⟩
  · have h0k : k = 0 := by omega
    subst h0k
    have ca0 : w6.cell? ⟨u1, 0, none⟩ = some (.string ⟨#[77, 97, 105, 110]⟩) := (K16.out).cell 0
    have ca1 : w6.cell? ⟨u1, 1, none⟩ = some (.string ⟨#[79, 98, 106, 101, 99, 116]⟩) := (K16.out).cell 1
    have ca2 : w6.cell? ⟨u1, 2, none⟩ = some (.slice (some ⟨w.heap.size, 0, none⟩) 2 2) := (K16.out).cell 2
    have ca3 : w6.cell? ⟨u1, 3, none⟩ = some (.slice (some ⟨w4.heap.size + 1, 0, none⟩) 2 2) := (K16.out).cell 3
    have cb0 : w6.cell? ⟨w5.heap.size + 1, 0, none⟩ = some (.string ⟨#[65]⟩) := (K26.out).cell 0
    have cb1 : w6.cell? ⟨w5.heap.size + 1, 1, none⟩ = some (.string ⟨#[79, 98, 106, 101, 99, 116]⟩) := (K26.out).cell 1
    have cb2 : w6.cell? ⟨w5.heap.size + 1, 2, none⟩ = some (.slice (some ⟨w4.heap.size + 2, 0, none⟩) 3 3) := (K26.out).cell 2
    have cb3 : w6.cell? ⟨w5.heap.size + 1, 3, none⟩ = some (.slice (some ⟨w5.heap.size, 0, none⟩) 1 1) := (K26.out).cell 3
    have cd0 : w6.cell? ⟨w5.heap.size + 3, 0, none⟩ = some (.string ⟨#[66]⟩) := (K36.out).cell 0
    have cd1 : w6.cell? ⟨w5.heap.size + 3, 1, none⟩ = some (.string ⟨#[65]⟩) := (K36.out).cell 1
    have cd2 : w6.cell? ⟨w5.heap.size + 3, 2, none⟩ = some (.slice (some ⟨w5.heap.size + 2, 0, none⟩) 1 1) := (K36.out).cell 2
    have cd3 : w6.cell? ⟨w5.heap.size + 3, 3, none⟩ = some (.slice none 0 0) := (K36.out).cell 3
    obtain ⟨we, hwe⟩ : ∃ W, w6.alloc (.cells #[.string ⟨#[77, 97, 105, 110]⟩, .string ⟨#[79, 98, 106, 101, 99, 116]⟩, .slice (some ⟨w.heap.size, 0, none⟩) 2 2, .slice (some ⟨w4.heap.size + 1, 0, none⟩) 2 2, .string ⟨#[65]⟩, .string ⟨#[79, 98, 106, 101, 99, 116]⟩, .slice (some ⟨w4.heap.size + 2, 0, none⟩) 3 3, .slice (some ⟨w5.heap.size, 0, none⟩) 1 1, .string ⟨#[66]⟩, .string ⟨#[65]⟩, .slice (some ⟨w5.heap.size + 2, 0, none⟩) 1 1, .slice none 0 0, .string ⟨#[79, 111, 112, 115]⟩, .string ⟨#[84, 104, 114, 111, 119, 97, 98, 108, 101]⟩, .slice none 0 0, .slice none 0 0] 82) = W := ⟨_, rfl⟩
    have Bwe : Below w6.heap.size w6 we := by rw [← hwe]; exact belowA _ _
    have Zwe : we.heap.size = w6.heap.size + 1 := by rw [← hwe]; exact Array.size_push _
    have Kwe : Blk we w6.heap.size 82 #[.string ⟨#[77, 97, 105, 110]⟩, .string ⟨#[79, 98, 106, 101, 99, 116]⟩, .slice (some ⟨w.heap.size, 0, none⟩) 2 2, .slice (some ⟨w4.heap.size + 1, 0, none⟩) 2 2, .string ⟨#[65]⟩, .string ⟨#[79, 98, 106, 101, 99, 116]⟩, .slice (some ⟨w4.heap.size + 2, 0, none⟩) 3 3, .slice (some ⟨w5.heap.size, 0, none⟩) 1 1, .string ⟨#[66]⟩, .string ⟨#[65]⟩, .slice (some ⟨w5.heap.size + 2, 0, none⟩) 1 1, .slice none 0 0, .string ⟨#[79, 111, 112, 115]⟩, .string ⟨#[84, 104, 114, 111, 119, 97, 98, 108, 101]⟩, .slice none 0 0, .slice none 0 0] := by rw [← hwe]; exact Blk.new _ _ _
    have Hwe := Lib.hid hwe
    clear hwe
    have hU : unitsW xs a = [⟨sMain, cObject, [⟨true, [115], [73]⟩, ⟨true, [111], [76, 65, 59]⟩], [mainMeth xs a, helpI i j]⟩, ⟨[65], cObject, [⟨false, [102], [73]⟩, ⟨false, [108], [74]⟩, ⟨false, [110, 101, 120, 116], [76, 65, 59]⟩], [objI v2]⟩, ⟨[66], [65], [⟨false, [103], [73]⟩], []⟩, oopsU] := by
      unfold unitsW mainU aU bU
      rw [HVi.out, HVj.out, HV2.out, HVk.out, if_neg (by omega)]
    have KE : Blk we w6.heap.size 82 (([[.string ⟨#[77, 97, 105, 110]⟩, .string ⟨#[79, 98, 106, 101, 99, 116]⟩, .slice (some ⟨w.heap.size, 0, none⟩) 2 2, .slice (some ⟨w4.heap.size + 1, 0, none⟩) 2 2], [.string ⟨#[65]⟩, .string ⟨#[79, 98, 106, 101, 99, 116]⟩, .slice (some ⟨w4.heap.size + 2, 0, none⟩) 3 3, .slice (some ⟨w5.heap.size, 0, none⟩) 1 1], [.string ⟨#[66]⟩, .string ⟨#[65]⟩, .slice (some ⟨w5.heap.size + 2, 0, none⟩) 1 1, .slice none 0 0], [.string ⟨#[79, 111, 112, 115]⟩, .string ⟨#[84, 104, 114, 111, 119, 97, 98, 108, 101]⟩, .slice none 0 0, .slice none 0 0]] : List (List Value)).flatten).toArray := Kwe
    have O6e : Only (Zs S3 w6) w6 we := zs_below Bwe
    have RU := Lib.hid (rowZ_of_blk (R := unF) (S := S3) (l := [⟨sMain, cObject, [⟨true, [115], [73]⟩, ⟨true, [111], [76, 65, 59]⟩], [mainMeth xs a, helpI i j]⟩, ⟨[65], cObject, [⟨false, [102], [73]⟩, ⟨false, [108], [74]⟩, ⟨false, [110, 101, 120, 116], [76, 65, 59]⟩], [objI v2]⟩, ⟨[66], [65], [⟨false, [103], [73]⟩], []⟩, oopsU]) KE (fun h => by rw [HS3.out] at h; rcases h with h | h | h <;> omega) rfl (by show (4 : Nat) ≤ maxLen; decide) (fun k x y hx hy => by
      match k, hx, hy with
      | 0, rfl, rfl => exact ⟨_, _, _, _, _, _, rfl, RF6.out.fws O6e (fun _ _ h => h), MR6.out.fws O6e (fun _ _ h => h)⟩
      | 1, rfl, rfl => exact ⟨_, _, _, _, _, _, rfl, RF26.out.fws O6e (fun _ _ h => h), MO6.out.fws O6e (fun _ _ h => h)⟩
      | 2, rfl, rfl => exact ⟨_, _, _, _, _, _, rfl, RF36.out.fws O6e (fun _ _ h => h), rowS_nil _ _ _⟩
      | 3, rfl, rfl => exact ⟨_, _, _, _, _, _, rfl, rowS_nil _ _ _, rowS_nil _ _ _⟩))
    have HEND : Hid (RowS unF we Empty (some ⟨w6.heap.size, 0, none⟩) 4 4 (unitsW xs a)) := Lib.hid (by rw [hU]; exact RU.out.mono (fun _ _ h => h.elim))
    have OWe := Lib.hid (OW6.out.zt (Only.zt_below Bwe))
    have hl16 := K16.out.lt
    have hl26 := K26.out.lt
    have hl36 := K36.out.lt
    clear KE O6e RU Kwe Bwe hU
    go_wp2
    rw [Hwe.out]
    go_ret
    exact ⟨⟨_, _, rfl, HEND.out⟩, OWe.out⟩

/-- Of a tape that is made for it. -/
theorem taped_any (B : Nat) (A : Option Addr) (n cap : Nat) (xs : List UInt8) (w : World) (hR : ByteSl w (fun q => B ≤ q) A n cap xs) (hB : B ≤ w.heap.size) (hn : n ≤ 1048576) :
    Calls Tryz.prog 13 #[.pointer (some ⟨w.heap.size, 0, none⟩)] (w.alloc (.cells #[.slice A n cap, .int .i64 0] 32)) fun e w' => (∃ A2 c2, e = .returned (.slice A2 4 c2) ∧ RowS unF w' Empty A2 4 c2 (unitsW xs 0)) ∧ Below w.heap.size w w' := by
  have hb := belowA w (.cells #[.slice A n cap, .int .i64 0] 32)
  have ht : TapeAt (w.alloc (.cells #[.slice A n cap, .int .i64 0] 32)) B w.heap.size A n cap xs 0 := ⟨(by have := Blk.new w 32 #[.slice A n cap, .int .i64 0]; exact this), hR.only (Only.of_below (S := Empty) hb) (fun _ _ h => h.elim), Nat.zero_le _, hB, hn⟩
  refine (units_any B w.heap.size A n cap xs 0 _ ht).mono ?_
  rintro e w' ⟨h1, hO⟩
  refine ⟨h1, hb.trans (hO.below hb.size (fun i hi h => ?_))⟩
  have := hb.size
  rcases h with h | h <;> omega

end Go.Proofs.YtdkkpcbebhgbiaaGreatDoor
