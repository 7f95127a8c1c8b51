/- Words for the walk over a reader's row. -/
import Derived.Test.YtendpbklcgiafaaZaq
import Derived.Deep.LoopGhost
namespace Go.Proofs.Ytendpbklcgiafaa
set_option maxRecDepth 100000
open Go.RowKit

theorem reach_goes (m : Md) (g : Nat) (w : World) : (method 282 m.T (.pointer (some ⟨g, 0, none⟩)) "carpetbag/klass.goesOn").run Try.prog w = .ok (17, .pointer (some ⟨g, 0, none⟩)) w := reach_goesOn m g w
section
variable {α : Type} {c : Cx} {w w' : World} {g b off : Nat} {S S' : Nat → Prop} {N N' : Nat} {s s' : Option (List UInt8)}
theorem Zs_wr (hm : c.m = .wr) (S : Nat → Prop) (b b' : Nat) : ∀ q, Zs c S b q → Zs c S b' q := by
  rintro q (hq | ⟨h1, _⟩)
  · exact .inl hq
  · rw [hm] at h1; cases h1
theorem Zn_wr (hm : c.m = .wr) (S : Nat → Prop) (H b : Nat) : ∀ q, Zn c S H q → Zs c S b q := by
  rintro q (hq | ⟨h1, _⟩)
  · exact .inl hq
  · rw [hm] at h1; cases h1
theorem RowS.mono {R : RepT α} {Z Z' : Nat → Prop} {A : Option Addr} {n cap : Nat} {l : List α} (h : RowS R w Z A n cap l) (hZ : ∀ q, q < w.heap.size → Z' q → Z q) : RowS R w Z' A n cap l := h.next (Only.refl _ _) hZ
/-- Where a writer stands that has written so many of a list's items. -/
structure RowW (c : Cx) (w0 : World) (g : Nat) (S0 : Nat → Prop) (e : Enc α) (N cost : Nat) (s1 : Option (List UInt8)) (l : List α) (k : Nat) (wr : World) : Prop where
  ex : ∃ S s, PassAt c wr g S (N + k * cost) s ∧ (∀ q, S q → S0 q ∨ w0.heap.size ≤ q) ∧ Only S0 w0 wr ∧ Stp false (manyE e k) s1 (l.take k) s (l.take k)
end

theorem rowS_nil {α : Type} (R : RepT α) (w : World) (Z : Nat → Prop) : RowS R w Z none 0 0 [] := ⟨rfl, Nat.le_refl _, by unfold maxLen; omega, fun _ => ⟨rfl, rfl⟩, fun h => absurd h (by omega)⟩
/-- Where a reader's row stands that has grown by so many blanks since w1. -/
structure RowG (c : Cx) (g : Nat) (S1 : Nat → Prop) (N : Nat) (z1 : List UInt8) (b off : Nat) (cells : Unit → List Value) (k : Nat) (te : TypeId) (w1 : World) (j : Nat) (wr : World) : Prop where
  pass : PassAt c wr g S1 (N + 2) (some z1)
  only : Only (· = b) w1 wr
  rest : ∀ o, o ≠ off → wr.cell? ⟨b, o, none⟩ = w1.cell? ⟨b, o, none⟩
  ex : ∃ A cap, Tgt c wr b off [.slice A j cap] ∧ GotR cells k te w1.heap.size wr A j cap (List.replicate j ())

theorem RowG.next {c : Cx} {g : Nat} {S1 : Nat → Prop} {N : Nat} {z1 : List UInt8} {b off : Nat} {cells : Unit → List Value} {k : Nat} {te : TypeId} {w1 wr W5 W6 : World} {j : Nat} {A A' : Option Addr} {cap c' : Nat}
    (h : RowG c g S1 N z1 b off cells k te w1 j wr) (hk : ∀ f, (cells f).length = k) (hrd : c.m.isRd = true) (hb : ¬ S1 b) (hb1 : b < w1.heap.size) (hP1 : PassAt c w1 g S1 (N + 2) (some z1)) (hT : Tgt c wr b off [.slice A j cap]) (hG : GotR cells k te w1.heap.size wr A j cap (List.replicate j ()))
    (h5 : Only Empty wr W5) (hg : W5.grownBy W6 (Value.slice A j cap).ownBlock) (hG6 : GotR cells k te w1.heap.size W6 A' (j + 1) c' (List.replicate j () ++ [()])) :
    RowG c g S1 N z1 b off cells k te w1 (j + 1) (W6.setCell ⟨b, off, none⟩ (.slice A' (j + 1) c')) ∧ (∀ q t cs, Blk W5 q t cs → wr.heap.size ≤ q → Blk W6 q t cs ∧ Blk (W6.setCell ⟨b, off, none⟩ (.slice A' (j + 1) c')) q t cs) ∧
      W6.cell? ⟨b, off, none⟩ = some (.slice A j cap) ∧ W6.frozen? ⟨b, off, none⟩ = false ∧ b < W6.heap.size := by
  have hown : ∀ q, (Value.slice A j cap).ownBlock = some q → w1.heap.size ≤ q ∧ q < wr.heap.size := fun q hq => hG.own.lt q hq
  have hbr : b < wr.heap.size := Nat.lt_of_lt_of_le hb1 h.only.size
  have hO6 : Only (fun q => (Value.slice A j cap).ownBlock = some q) wr W6 := (h5.mono (fun _ _ h => h.elim)).trans (Only.of_grown hg (fun k e _ => e))
  have hT6 : Tgt c W6 b off [.slice A j cap] := hT.only hO6 (fun e => by have := (hown b e).1; omega)
  obtain ⟨hT7, hO7, hr7⟩ := hT6.set1 (u := .slice A' (j + 1) c') hrd
  obtain ⟨hXb, t6, all6, hB6⟩ := hT6.rd hrd
  have hP6 : PassAt c W6 g S1 (N + 2) (some z1) := h.pass.only hO6 (fun i _ e hs => by have := (hown i e).1; have := hP1.lt i hs; omega) (fun i _ e => hP1.new i (hown i e).1)
  have hP7 := hP6.only hO7 (fun i _ e hs => hb (e ▸ hs)) (fun i _ e => e ▸ hXb)
  refine ⟨⟨hP7, ?_, fun o ho => ?_, A', c', hT7, ?_⟩, fun q t cs hq hw => ?_, ?_, hB6.frozen off, hB6.lt⟩
  · exact (h.only.trans' hO6 (fun q hq e => by have := (hown q e).1; omega)).trans hO7
  · rw [hr7 o ho, hO6.cell (p := ⟨b, o, none⟩) hbr (fun e => by have := (hown b e).1; omega)]
    exact h.rest o ho
  · rw [List.replicate_succ']
    exact hG6.only hk hO7 (fun i hi _ e => by have e2 : i = b := e; omega)
  · have hO56 : Only (fun q => (Value.slice A j cap).ownBlock = some q) W5 W6 := Only.of_grown hg (fun k e _ => e)
    have h6 : Blk W6 q t cs := hO56.blk hq (fun e => by have := (hown q e).2; omega)
    exact ⟨h6, hO7.blk h6 (fun e => by have e2 : q = b := e; omega)⟩
  · have := hT6.cell 0 _ rfl
    rwa [Nat.add_zero] at this

/-- Where a reader stands in its row, block by block: so many items are read, the others are blank. -/
structure RowI {α : Type} (c : Cx) (g : Nat) (S1 : Nat → Prop) (N : Nat) (z1 : List UInt8) (b : Nat) (A : Option Addr) (cells : Unit → List Value) (K : Nat) (R : RepT α) (e : Enc α) (cost : Nat) (v0 : α) (w2 : World) (n k : Nat) (wr : World) : Prop where
  ex : ∃ S s done, PassAt c wr g S (N + 2 + k * cost) s ∧ (∀ q, S q → S1 q ∨ w2.heap.size ≤ q) ∧ Only (fun q => S1 q ∨ ∃ o, A = some ⟨q, o, none⟩) w2 wr ∧ Stp true (manyE e k) (some z1) (List.replicate k v0) s done ∧ done.length = k ∧
    (0 < n → ∃ r, A = some ⟨r, 0, none⟩ ∧ r < w2.heap.size ∧ c.X r ∧ (∃ t all, Blk wr r t all) ∧
      (∀ i x, done[i]? = some x → ∃ cs, (∀ j v, cs[j]? = some v → wr.cell? ⟨r, i * K + j, none⟩ = some v) ∧ R.rep wr (Zn c S w2.heap.size) cs x) ∧
      (∀ i, k ≤ i → i < n → ∀ j v, (cells ())[j]? = some v → wr.cell? ⟨r, i * K + j, none⟩ = some v))
theorem RowI.start {α : Type} {c : Cx} {g : Nat} {S1 : Nat → Prop} {N : Nat} {z1 : List UInt8} {b : Nat} {A : Option Addr} {cells : Unit → List Value} {K : Nat} {R : RepT α} {e : Enc α} {cost : Nat} {v0 : α} {w2 : World} {n cap base : Nat} {te : TypeId}
    (hP : PassAt c w2 g S1 (N + 2) (some z1)) (hG : GotR cells K te base w2 A n cap (List.replicate n ())) (hk : ∀ f, (cells f).length = K) (hX : ∀ q, base ≤ q → c.X q) (hrd : c.m.isRd = true) : RowI c g S1 N z1 b A cells K R e cost v0 w2 n 0 w2 := by
  refine ⟨S1, some z1, [], by rw [Nat.zero_mul]; exact hP, fun _ h => .inl h, Only.refl _ _, Stp.many_nil _ _ _, rfl, fun h0 => ?_⟩
  obtain ⟨bb, o, eA, hlt, -, hc⟩ := hG.row.2.2.2 h0
  rcases hG.here with h | ⟨r, cur, h, hr, hB, -⟩
  · rw [h] at eA; cases eA
  · rw [h] at eA
    obtain ⟨rfl, rfl⟩ : bb = r ∧ o = 0 := by cases eA; exact ⟨rfl, rfl⟩
    refine ⟨bb, h, hB.lt, hX bb hr, ⟨te, cur, hB⟩, (fun i x hx => by cases hx), fun i _ hi j v hv => ?_⟩
    have hjK : j < K := by have := (List.getElem?_eq_some_iff.1 hv).1; rw [hk] at this; exact this
    have := hc i () (by rw [List.getElem?_replicate]; rw [if_pos hi]) j hjK
    rw [Nat.zero_add] at this
    rw [this]
    exact hv

theorem RowI.next {α : Type} {c : Cx} {g : Nat} {S1 S S5 : Nat → Prop} {N : Nat} {z1 : List UInt8} {b : Nat} {A : Option Addr} {cells : Unit → List Value} {K : Nat} {R : RepT α} {e : Enc α} {cost : Nat} {v0 x5 : α} {w2 wr w5 : World} {n k r : Nat} {s s5 : Option (List UInt8)} {done : List α} {cs5 : List Value}
    (hrd : c.m.isRd = true) (hK : R.k = K) (hu : Uniq e) (hsub : ∀ q, S q → S1 q ∨ w2.heap.size ≤ q) (hO : Only (fun q => S1 q ∨ ∃ o, A = some ⟨q, o, none⟩) w2 wr) (hS : Stp true (manyE e k) (some z1) (List.replicate k v0) s done) (hdl : done.length = k)
    (eA : A = some ⟨r, 0, none⟩) (hrl : r < w2.heap.size) (hXr : c.X r)
    (hdone : ∀ i x, done[i]? = some x → ∃ cs, (∀ j v, cs[j]? = some v → wr.cell? ⟨r, i * K + j, none⟩ = some v) ∧ R.rep wr (Zn c S w2.heap.size) cs x)
    (hblank : ∀ i, k ≤ i → i < n → ∀ j v, (cells ())[j]? = some v → wr.cell? ⟨r, i * K + j, none⟩ = some v)
    (hD : Done c wr g S r (k * K) R.k w5 S5 (N + 2 + k * cost + cost) s5) (hT : Tgt c w5 r (k * K) cs5) (hR : R.rep w5 (Zn c S5 wr.heap.size) cs5 x5) (hS5 : Stp true e s v0 s5 x5) : RowI c g S1 N z1 b A cells K R e cost v0 w2 n (k + 1) w5 := by
  refine ⟨S5, s5, done ++ [x5], ?_, fun q hq => ?_, ?_, ?_, by rw [List.length_append, hdl]; rfl, fun h0 => ⟨r, eA, hrl, hXr, (hT.rd hrd).2, fun i x hx => ?_, fun i hi hin j v hv => ?_⟩⟩
  · rw [show N + 2 + (k + 1) * cost = N + 2 + k * cost + cost by rw [Nat.succ_mul]; omega]
    exact hD.pass
  · rcases hD.sub q hq with h | h
    · exact hsub q h
    · exact .inr (Nat.le_trans hO.size h)
  · refine hO.trans' hD.only (fun q hq hz => ?_)
    rcases hz with hz | ⟨_, rfl⟩
    · exact .inl ((hsub q hz).resolve_right (by omega))
    · exact .inr ⟨0, eA⟩
  · rw [List.replicate_succ']
    exact Stp.many_snoc hu (by simp) hS hS5
  · by_cases hik : i < k
    · rw [List.getElem?_append_left (by omega)] at hx
      obtain ⟨cs, h1, h2⟩ := hdone i x hx
      refine ⟨cs, fun j v hv => ?_, rep_on h2 hD.only (fun _ => hrl) hD.sub (Nat.le_refl _)⟩
      have hj : j < K := by have := (List.getElem?_eq_some_iff.1 hv).1; rw [R.len h2, hK] at this; exact this
      have hm : (i + 1) * K ≤ k * K := Nat.mul_le_mul_right _ hik
      rw [Nat.succ_mul] at hm
      rw [hD.rest (i * K + j) (.inl (by omega))]
      exact h1 j v hv
    · have hlen := (List.getElem?_eq_some_iff.1 hx).1
      rw [List.length_append, hdl] at hlen
      have hik2 : i = k := by simp at hlen; omega
      subst hik2
      rw [List.getElem?_append_right (by omega), hdl, Nat.sub_self] at hx
      cases hx
      refine ⟨cs5, hT.cell, R.next hR (Only.refl _ _) (fun q _ hz => ?_)⟩
      rcases hz with hz | ⟨h1, h2⟩
      · exact .inl hz
      · exact .inr ⟨h1, Nat.lt_of_lt_of_le h2 hO.size⟩
  · have hm : (k + 1) * K ≤ i * K := Nat.mul_le_mul_right _ hi
    rw [Nat.succ_mul] at hm
    rw [hD.rest (i * K + j) (.inr (by rw [hK]; omega))]
    exact hblank i (by omega) hin j v hv
/-- What was read of a row. -/
theorem RowI.rows {α : Type} {c : Cx} {S : Nat → Prop} {A : Option Addr} {K : Nat} {R : RepT α} {w2 wr : World} {n cap H r : Nat} {done : List α} (hK : R.k = K) (hdl : done.length = n) (hnc : n ≤ cap) (hcm : cap ≤ maxLen) (hA : A = none → n = 0 ∧ cap = 0)
    (h : 0 < n → A = some ⟨r, 0, none⟩ ∧ r < wr.heap.size ∧ ¬ S r ∧ H ≤ r ∧ ∀ i x, done[i]? = some x → ∃ cs, (∀ j v, cs[j]? = some v → wr.cell? ⟨r, i * K + j, none⟩ = some v) ∧ R.rep wr (Zn c S w2.heap.size) cs x) (hH : H ≤ w2.heap.size) : RowS R wr (Zn c S H) A n cap done := by
  refine ⟨hdl, hnc, hcm, hA, fun h0 => ?_⟩
  obtain ⟨eA, hr, hS, hHr, hd⟩ := h h0
  refine ⟨r, 0, eA, hr, fun hz => ?_, fun i x hx => ?_⟩
  · rcases hz with hz | ⟨_, hz⟩
    · exact hS hz
    · omega
  · obtain ⟨cs, h1, h2⟩ := hd i x hx
    refine ⟨cs, fun j v hv => ?_, R.next h2 (Only.refl _ _) (fun q _ hz => ?_)⟩
    · rw [hK, Nat.zero_add]
      exact h1 j v hv
    · rcases hz with hz | ⟨h3, h4⟩
      · exact .inl hz
      · exact .inr ⟨h3, Nat.lt_of_lt_of_le h4 hH⟩

end Go.Proofs.Ytendpbklcgiafaa

/- The walks over klass's first, part, code, of whichever pass. -/
namespace Go.Proofs.Ytendpbklcgiafaa
set_option maxRecDepth 100000
open Go.RowKit

/-- The first place where a text stands. -/
def firstC (C : List Cst) (t : List UInt8) : Option Nat := (List.range C.length).find? (fun k => decide (textF C (k : Int) = some t))
theorem firstC_none {C : List Cst} {t : List UInt8} (h : ∀ j, j < C.length → textF C (j : Int) ≠ some t) : firstC C t = none := by
  unfold firstC
  rw [List.find?_eq_none]
  intro k hk
  rw [List.mem_range] at hk
  simpa using h k hk
theorem firstC_some {C : List Cst} {t : List UInt8} {k : Nat} (hk : k < C.length) (h : textF C (k : Int) = some t) (hlt : ∀ j, j < k → textF C (j : Int) ≠ some t) : firstC C t = some k := by
  unfold firstC
  rw [List.find?_eq_some_iff_append]
  refine ⟨by simpa using h, List.range k, (List.range C.length).drop (k + 1), ?_, fun j hj => ?_⟩
  · have e := (List.take_append_drop k (List.range C.length)).symm
    rw [List.drop_eq_getElem_cons (by simpa using hk)] at e
    rw [List.take_range, Nat.min_eq_left (by omega)] at e
    simpa using e
  · rw [List.mem_range] at hj
    simpa using hlt j hj
theorem firstC_lt {C : List Cst} {t : List UInt8} {k : Nat} (h : firstC C t = some k) : k < C.length := by
  have := List.mem_of_find?_eq_some h
  simpa using this
/-- What first answers. -/
def firstV (r : Option Nat) : Value := .tuple #[.int .i64 ((r.getD 0 : Nat) : Int), .bool r.isSome]

set_option maxHeartbeats 1000000 in
theorem kFirst_any (A : Option Addr) (n cap : Nat) (C : List Cst) (t : List UInt8) (w : World) (hP : PoolSl w A n cap C) (hn : n ≤ 1000000) :
    Calls Try.prog 53 #[.slice A n cap, .string (strB t)] w fun e w' => e = .returned (firstV (firstC C t)) ∧ Below w.heap.size w w' := by
  have CT : Hid (∀ (k : Nat) (W : World), Below w.heap.size w W → Calls Try.prog 49 #[.slice A n cap, .int .i64 (k : Int)] W fun e w' => e = .returned (textV (textF C (k : Int))) ∧ Below W.heap.size W w') := Lib.hid (fun k W hb => text_any A n cap C (k : Int) W (hP.below hb) hn)
  have Hl := Lib.hid hP.1
  clear hP
  go_enter Try.func53, Try.ntmps53
  go_wp2
  go_loopw [11] (fun i wr => ∃ k : Nat, k ≤ n ∧ i = .int .i64 k ∧ Hid (Below w.heap.size w wr) ∧ Hid (∀ j, j < k → textF C (j : Int) ≠ some t)) (fun i _ => n - (intOf i).toNat)
  case atStart => exact ⟨0, Nat.zero_le _, rfl, Lib.hid (Below.refl _ _), Lib.hid (fun j h => absurd h (by omega))⟩
  case round =>
    obtain ⟨k, hk, rfl, HB, HF⟩ := hrel
    by_cases hlt : k < n
    · have C1 := Lib.hid (CT.out k wr HB.out)
      go_wp2_with fail
      refine C1.out.mono ?_
      rintro e w1 ⟨rfl, hb1⟩
      have HB1 := Lib.hid (HB.out.trans (hb1.mono HB.out.size))
      clear hb1 C1
      cases ht : textF C (k : Int) with
      | none =>
        have HF1 : Hid (∀ j, j < k + 1 → textF C (j : Int) ≠ some t) := Lib.hid (fun j hj => by
          by_cases h : j = k
          · subst h; rw [ht]; simp
          · exact HF.out j (by omega))
        clear ht
        rw [show textV none = .tuple #[.string (strB []), .bool false] from rfl]
        go_wp2
        go_roundw
        case rel => exact ⟨k + 1, by omega, by go_num, HB1, HF1⟩
        case measure => simp [intOf]; omega
      | some x =>
        rw [show textV (some x) = .tuple #[.string (strB x), .bool true] from rfl]
        by_cases hx : x = t
        · subst hx
          have HR : Hid (firstC C x = some k) := Lib.hid (firstC_some (by rw [Hl.out]; exact hlt) ht HF.out)
          clear ht
          go_wp2
          go_ret2
          exact ⟨by rw [HR.out]; rfl, HB1.out⟩
        · have HF1 : Hid (∀ j, j < k + 1 → textF C (j : Int) ≠ some t) := Lib.hid (fun j hj => by
            by_cases h : j = k
            · subst h; rw [ht]; simpa using hx
            · exact HF.out j (by omega))
          have hq : ((strB x).toList == (strB t).toList) = false := by
            rw [strB_toList, strB_toList]
            simpa using hx
          clear ht hx
          go_wp2
          go_roundw
          case rel => exact ⟨k + 1, by omega, by go_num, HB1, HF1⟩
          case measure => simp [intOf]; omega
    · have hkn : k = n := by omega
      subst hkn
      have HR : Hid (firstC C t = none) := Lib.hid (firstC_none (by rw [Hl.out]; exact HF.out))
      go_wp2
      go_ret2
      exact ⟨by rw [HR.out]; rfl, HB.out⟩

end Go.Proofs.Ytendpbklcgiafaa

/- The walks over klass's block, of both passes. -/
namespace Go.Proofs.Ytendpbklcgiafaa
set_option maxRecDepth 100000
open Go.RowKit

/-- A closure that goes over a target, whichever pass it is given. -/
structure Steps {α : Type} (c : Cx) (K : Nat) (cap : Array Value) (R : RepT α) (e : Enc α) (cost : Nat) (w : World) (S : Nat → Prop) (b off : Nat) (v : α) : Prop where
  enters : ∀ (args : Array Value) (W : World), (callFunc K args).run Try.prog W = .ok (.enter K args) W
  goes : ∀ (W : World) (g1 : Nat) (S1 : Nat → Prop) (N1 : Nat) (s1 : Option (List UInt8)), PassAt c W g1 S1 N1 s1 → N1 + cost ≤ 16000000 → Only S w W → (∀ q, S1 q → S q ∨ w.heap.size ≤ q) →
    Calls Try.prog K (#[c.m.v g1] ++ cap) W (After c W g1 S1 (N1 + cost) s1 b off R e v)

section
variable {α : Type} {c : Cx} {w : World} {g b off : Nat} {S : Nat → Prop} {N : Nat} {s : Option (List UInt8)} {R : RepT α} {e : Enc α} {cost K : Nat} {cap : Array Value} {cs : List Value} {v : α}

/-- A writer that was just made. -/
theorem fresh_wr (hm : c.m = .wr) (hP : PassAt c w g S N s) : PassAt c (w.alloc (.cells #[.int .i64 0, .slice none 0 0] 57)) w.heap.size (fun q => q = w.heap.size) 0 (some []) := by
  have hB := Blk.new w 57 #[.int .i64 0, .slice none 0 0]
  have hO : Only Empty w (w.alloc (.cells #[.int .i64 0, .slice none 0 0] 57)) := (Only.refl Empty w).alloc _
  refine ⟨fun q hq => hq ▸ hB.lt, fun q hq => hP.new q (Nat.le_of_eq hq.symm), fun q hq => hP.new q (Nat.le_trans hO.size hq), hP.pool.only hO (fun _ _ h => h.elim), hP.small, rfl, ?_⟩
  unfold Stands
  rw [hm]
  exact ⟨0, none, 0, 0, [], hB, World.ownsRow_nil _ _ _ _, Nat.le_refl _, .inl rfl, rfl, fun q => by simp [Value.ownBlock]⟩

set_option maxHeartbeats 4000000 in
theorem kwBlock_any (hm : c.m = .wr) (hP : PassAt c w g S N s) (hN : N + (4 + cost) ≤ 16000000) (hb : ¬ S b) (hT : Tgt c w b off cs) (hR : R.rep w (Zs c S b) cs v) (hS : Steps c K cap R e cost w S b off v) :
    Calls Try.prog 80 #[.pointer (some ⟨g, 0, none⟩), .func (.func K) #[] cap] w (After c w g S (N + (4 + cost)) s b off R (blockE e) v) := by
  have hrd : c.m.isRd = false := by rw [hm]; rfl
  have hF := fresh_wr hm hP
  have hO0 : Only Empty w (w.alloc (.cells #[.int .i64 0, .slice none 0 0] 57)) := (Only.refl Empty w).alloc _
  have C0 := hS.goes _ _ _ 0 (some []) hF (by omega) (hO0.mono (fun _ _ h => h.elim)) (fun q hq => .inr (Nat.le_of_eq hq.symm))
  have hp : c.m.v w.heap.size = .iface 59 (.pointer (some ⟨w.heap.size, 0, none⟩)) := by rw [hm]; rfl
  rw [hp] at C0
  have eK := hS.enters
  have HC0 := Lib.hid C0
  have HP := Lib.hid hP
  have HT := Lib.hid hT
  have HRp := Lib.hid hR
  have Hb := Lib.hid hb
  have HM := Lib.hid hm
  have HR : Hid (c.m.isRd = false) := Lib.hid hrd
  have HO0 := Lib.hid hO0
  clear hS C0 hp hF hO0 hP hT hR hb hm hrd
  go_enter Try.func80, Try.ntmps80
  go_wp2_with fail
  refine HC0.out.mono ?_
  rintro e1 w1 ⟨rfl, S1, s1, cs1, v1, hD1, hT1, hR1, hS1⟩
  have hO1 : Only (fun q => q = w.heap.size) (w.alloc (.cells #[.int .i64 0, .slice none 0 0] 57)) w1 := hD1.only.mono (fun q _ h => (Zs_wr HM.out _ _ b q h).resolve_right (fun h2 => by rw [HR.out] at h2; cases h2.1))
  have hOE : Only Empty w w1 := HO0.out.trans' hO1 (fun q hq e => by omega)
  have hP1 := HP.out.only hOE (fun _ _ h => h.elim) (fun _ _ h => h.elim)
  have hT1' := HT.out.only hOE (fun h => h)
  obtain ⟨e5, B5, k5, cp5, z5, hW5⟩ := hD1.pass.wr_raw HM.out
  rw [HR.out] at hS1
  have Hv : Hid (v1 = v) := Lib.hid hS1.1
  have HS1 := Lib.hid hS1
  have HSub : Hid (∀ q, S1 q → q = w.heap.size ∨ w.heap.size ≤ q) := Lib.hid (fun q hq => (hD1.sub q hq).imp id (fun h => by simp at h; omega))
  have HW5 := Lib.hid hW5
  have HWd : Hid (c.dry → e5 ≠ 8) := Lib.hid (fun ⟨_, _, _, h9⟩ => by rw [HM.out] at h9; cases h9)
  have HOE := Lib.hid hOE
  have HP1 := Lib.hid hP1
  have HT1 := Lib.hid hT1'
  have o0 : w1.cell? ⟨w.heap.size, 0, none⟩ = some (.int .i64 e5) := hW5.blk.cell 0
  have hle5 := hW5.le
  have HQ5 : Hid (w.heap.size < w1.heap.size) := Lib.hid hW5.blk.lt
  clear hD1 hT1 hT1' hR1 hS1 hO1 hOE hP1 hW5 HC0
  go_wp2_with fail
  refine wp_region_held_drew (S := fun W => W.cell? ⟨w.heap.size, 0, none⟩ = some (.int .i64 e5)) (by kernel_rfl) o0 (fun hHeld0 => ?_)
  refine take_yes 0 9 ?_ rfl rfl (by kernel_rfl) (by kernel_rfl) (by kernel_rfl) (fun _ _ _ h => h) (by kernel_rfl) ?_ (by assumption) ?_; rotate_left; (focus (intro w hSw; (try dsimp only at hSw); go_simp; all_goals first | with_reducible rfl)); simp only [Act.put, List.setIfInBounds_toArray, List.set_cons_zero, List.set_cons_succ]
  refine take_yes 1 10 ?_ rfl rfl (by kernel_rfl) (by kernel_rfl) (by kernel_rfl) (fun _ _ _ h => h) (by kernel_rfl) ?_ (by assumption) ?_; rotate_left; (focus (intro w hSw; (try dsimp only at hSw); go_simp; all_goals first | with_reducible rfl)); simp only [Act.put, List.setIfInBounds_toArray, List.set_cons_zero, List.set_cons_succ]
  refine take_yes 2 11 ?_ rfl rfl (by kernel_rfl) (by kernel_rfl) (by kernel_rfl) (fun _ _ _ h => h) (by kernel_rfl) ?_ (by assumption) ?_; rotate_left; (focus (intro w hSw; (try dsimp only at hSw); go_simp; all_goals first | with_reducible rfl)); simp only [Act.put, List.setIfInBounds_toArray, List.set_cons_zero, List.set_cons_succ]
  refine take_yes 3 12 ?_ rfl rfl (by kernel_rfl) (by kernel_rfl) (by kernel_rfl) (fun _ _ _ h => h) (by kernel_rfl) ?_ (by assumption) ?_; rotate_left; (focus (intro w hSw; (try dsimp only at hSw); go_simp; all_goals first | with_reducible rfl)); simp only [Act.put, List.setIfInBounds_toArray, List.set_cons_zero, List.set_cons_succ]
  refine take_yes 4 13 ?_ rfl rfl (by kernel_rfl) (by kernel_rfl) (by kernel_rfl) (fun _ _ _ h => h) (by kernel_rfl) ?_ (by assumption) ?_; rotate_left; (focus (intro w hSw; (try dsimp only at hSw); go_simp; all_goals first | with_reducible rfl)); simp only [Act.put, List.setIfInBounds_toArray, List.set_cons_zero, List.set_cons_succ]
  refine take_yes 5 14 (.int .i64 e5) rfl rfl (by kernel_rfl) (by kernel_rfl) (by kernel_rfl) (fun _ _ _ h => h) (by kernel_rfl) ?_ (by assumption) ?_; (focus (intro w hSw; (try dsimp only at hSw); go_simp; all_goals first | with_reducible rfl)); simp only [Act.put, List.setIfInBounds_toArray, List.set_cons_zero, List.set_cons_succ]
  refine wpAnyH_ready (rs := [6]) (by kernel_rfl) (by simp) ?_
  refine AllReadyH.cons rfl (fun K hK => ?_) AllReadyH.nil
  go_simp
  have hOd : Only Empty w1 w1.drew := (Only.refl Empty w1).drew
  refine (refuse_k (HP1.out.only hOd (fun _ _ h => h.elim) (fun _ _ h => h.elim)) e5 (HW5.out.e08.imp id .inl) HWd.out).mono ?_
  rintro e2 w2 ⟨rfl, hP2, hO2⟩
  have HO2 : Hid (Only S w1 w2) := Lib.hid ((hOd.mono (fun _ _ h => h.elim)).trans hO2)
  have HP2 := Lib.hid hP2
  have hnS : ¬ S w.heap.size := HP.out.fresh (Nat.le_refl _)
  have HnS := Lib.hid hnS
  have p0 : w2.cell? ⟨w.heap.size, 0, none⟩ = some (.int .i64 e5) := (HO2.out.cell (p := ⟨w.heap.size, 0, none⟩) HQ5.out hnS).trans o0
  have p1 : w2.cell? ⟨w.heap.size, 1, none⟩ = some (.slice B5 k5 cp5) := (HO2.out.cell (p := ⟨w.heap.size, 1, none⟩) HQ5.out hnS).trans (HW5.out.blk.cell 1)
  clear hOd hP2 hO2 hnS o0
  go_wp2_with fail
  refine hK.out _ _ (p0) (fun _ => ?_)
  clear hK K
  try simp only [Act.put, List.setIfInBounds_toArray, List.set_cons_zero, List.set_cons_succ]
  refine wpAnyH_done (by kernel_rfl) ?_ _
  -- the box of n
  obtain ⟨s2, hs2⟩ : ∃ s2, s2 = (if e5 = 0 then s else none) := ⟨_, rfl⟩
  rw [← hs2] at HP2
  have HS2 := Lib.hid hs2
  clear hs2
  have hP3 : PassAt c (w2.alloc (.cells #[.int .i64 (k5 : Int)] 3)) g S N s2 := HP2.out.only ((Only.refl Empty w2).alloc _) (fun _ _ h => h.elim) (fun _ _ h => h.elim)
  have C4 := Lib.hid (kwNumber_any HM.out hP3 (k5 : Int) 4 (HP2.out.fresh (Nat.le_refl _)) (Tgt.new HP2.out 3 [.int .i64 (k5 : Int)]) (by omega) (by omega) (by omega))
  have HP3 := Lib.hid hP3
  clear hP3
  go_wp2_with fail
  refine C4.out.mono ?_
  rintro e4 w4 ⟨rfl, ⟨S4, hP4, hs4⟩, hO4⟩
  have HO4 : Hid (Only S w2 w4) := Lib.hid (((Only.refl S w2).alloc _).trans hO4)
  have HP4 := Lib.hid hP4
  have hs4' : ∀ q, S4 q → S q ∨ w2.heap.size ≤ q := fun q hq => (hs4 q hq).imp id (fun h => by simp at h; omega)
  have Hs4 := Lib.hid hs4'
  have q1 : w4.cell? ⟨w.heap.size, 1, none⟩ = some (.slice B5 k5 cp5) := (HO4.out.cell (p := ⟨w.heap.size, 1, none⟩) (Nat.lt_of_lt_of_le HQ5.out HO2.out.size) HnS.out).trans p1
  have n4 : w4.cell? ⟨w2.heap.size, 0, none⟩ = some (.int .i64 (k5 : Int)) := (hO4.cell (p := ⟨w2.heap.size, 0, none⟩) (Blk.new w2 3 #[.int .i64 (k5 : Int)]).lt (HP2.out.fresh (Nat.le_refl _))).trans ((Blk.new w2 3 #[.int .i64 (k5 : Int)]).cell 0)
  have hB5 : ByteSl w1 S B5 k5 cp5 z5 ∧ (B5 = none → k5 = 0 ∧ cp5 = 0) := by
    obtain ⟨A9, c9, e9, h9, h10⟩ := ByteSl.of_own (S := Empty) HW5.out.own (fun _ _ _ h => h)
    cases e9
    refine ⟨⟨h9.1, h9.2.1, h9.2.2.1, fun h0 => ?_⟩, fun hn => ?_⟩
    · obtain ⟨ad, e, hb, -, hc⟩ := h9.2.2.2 h0
      refine ⟨ad, e, hb, fun hs => ?_, hc⟩
      have h1 := HW5.out.pass.lt
      have h2 := (HW5.out.S_iff ad.block).2 (.inr (by rw [e]; rfl))
      have h3 := HSub.out ad.block h2
      have h4 := HP.out.lt ad.block hs
      rcases h3 with h3 | h3
      · omega
      · omega
    · rcases HW5.out.own.2 with ⟨h, _⟩ | ⟨_, _, _, h, _⟩
      · cases h; exact ⟨rfl, rfl⟩
      · rw [hn] at h; cases h
  have HO14 : Hid (Only S w1 w4) := Lib.hid (HO2.out.trans HO4.out)
  have hB4 : ByteSl w4 Empty B5 k5 cp5 z5 := (hB5.1.only HO14.out (fun _ _ h => h)).mono (fun _ _ h => h.elim)
  have hq4 : ¬ S4 w.heap.size := fun h => by
    rcases Hs4.out _ h with h | h
    · exact HnS.out h
    · have := HQ5.out; have := HO2.out.size; omega
  have hT4 : Tgt c w4 w.heap.size 1 [.slice B5 k5 cp5] := ⟨Nat.lt_of_lt_of_le HQ5.out HO14.out.size, fun i v hv => by
    match i, hv with
    | 0, hv => cases hv; exact q1, fun h => by rw [HR.out] at h; cases h⟩
  have C6 := Lib.hid (kwBytes_any HM.out HP4.out B5 k5 cp5 z5 (k5 : Int) hq4 hT4 hB4 hB5.2 (by omega))
  have Hz5 : Hid (z5.length = k5) := Lib.hid hB5.1.1
  clear hP4 hs4 hO4 hs4' hB5 hB4 hq4 hT4 p0 p1 C4
  go_wp2_with fail
  refine C6.out.mono ?_
  rintro e6 w6 ⟨rfl, ⟨S6, hP6, hs6⟩, hO6⟩
  have HP6 := Lib.hid hP6
  have Hs6 := Lib.hid hs6
  have HO6 := Lib.hid hO6
  clear hP6 hs6 hO6 q1 n4 C6
  go_wp2
  go_end0
  have hOw : Only S w w6 := ((HOE.out.mono (fun _ _ h => h.elim)).trans HO14.out).trans' HO6.out (fun q hq h => (Hs4.out q h).resolve_right (by have := HOE.out.size; have := HO2.out.size; omega))
  have hsub : ∀ q, S6 q → S q ∨ w.heap.size ≤ q := fun q hq => by
    rcases Hs6.out q hq with h | h
    · rcases Hs4.out q h with h | h
      · exact .inl h
      · have := HOE.out.size; have := HO2.out.size; exact .inr (by omega)
    · have := HOE.out.size; have := HO14.out.size; exact .inr (by omega)
  have hst : ((s2.map (· ++ putL (bits64 (k5 : Int)) 4)).map (· ++ z5)) = (s.bind fun out => s1.map fun x => out ++ (putL x.length 4 ++ x)) := by
    rw [HW5.out.st, HS2.out]
    by_cases he : e5 = 0
    · rw [if_pos he, if_pos he]
      have hb : bits64 (k5 : Int) = k5 := by unfold bits64; omega
      cases s with
      | none => rfl
      | some out =>
        show some (out ++ putL (bits64 (k5 : Int)) 4 ++ z5) = some (out ++ (putL z5.length 4 ++ z5))
        rw [hb, Hz5.out, List.append_assoc]
    · rw [if_neg he, if_neg he]
      cases s <;> rfl
  have hP6 := HP6.out.more (N' := N + (4 + cost)) (by omega)
  rw [hst] at hP6
  refine ⟨rfl, S6, _, cs, v, Done.own hP6 hsub hOw b off R.k Hb.out HT.out.lt, HT.out.only hOw Hb.out, R.next HRp.out (hOw.mono (fun _ _ h => .inl h)) (fun q hq hz => ?_), ?_⟩
  · rcases hz with hz | ⟨h1, _⟩
    · exact .inl ((hsub q hz).resolve_right (by omega))
    · rw [HR.out] at h1; cases h1
  · rw [HR.out]
    have h := HS1.out
    rw [Hv.out] at h
    exact Stp.block_wr h
end

end Go.Proofs.Ytendpbklcgiafaa

/- The walk over klass's block, of a reader; block of whichever pass. -/
namespace Go.Proofs.Ytendpbklcgiafaa
set_option maxRecDepth 100000
open Go.RowKit

/-- What is left behind a block. -/
def blockS (s1 s2 : Option (List UInt8)) (n : Int) : Option (List UInt8) := match s1, s2 with
  | some b, some r => if ((b.length : Int) - r.length = n) then some r else none
  | _, _ => none
theorem block_rd {α : Type} {e : Enc α} (hs : Short e) (hu : Uniq e) {s s1 s2 : Option (List UInt8)} {n0 n : Int} {v v' : α} (h : NumS true 4 s n0 s1 n) (k : Stp true e s1 v s2 v') : Stp true (blockE e) s v (blockS s1 s2 n) v' := by
  have h0 := Stp.block_rd hs hu h k
  cases s1 <;> cases s2 <;> exact h0

section
variable {α : Type} {c : Cx} {w : World} {g b off : Nat} {S : Nat → Prop} {N : Nat} {s : Option (List UInt8)} {R : RepT α} {e : Enc α} {cost K : Nat} {cap : Array Value} {cs : List Value} {v : α} {A : Option Addr} {n cp : Nat} {bs : List UInt8}

/-- ask, and what it leaves of the pass's other cells. -/
theorem ask_keep (h : PassAt c w g S N s) (ok : Bool) (hd : c.dry → ok = true ∨ s = none) :
    Calls Try.prog 18 #[.pointer (some ⟨g, 0, none⟩), .bool ok] w fun x w' => x = .returned (.tuple #[]) ∧ PassAt c w' g S N (if ok = true then s else none) ∧ Only S w w' ∧ ∀ i, i ≠ 0 → w'.cell? ⟨g, i, none⟩ = w.cell? ⟨g, i, none⟩ := by
  obtain ⟨e, h0, hf, hl, he, _⟩ := h.fault
  cases ok with
  | true =>
    refine (kAsk_true g w).mono ?_
    rintro x w' ⟨rfl, rfl⟩
    exact ⟨rfl, h, Only.refl S w, fun _ _ => rfl⟩
  | false =>
    by_cases hz : e = 0
    · subst hz
      refine (kAsk_yes g w h0 hf hl).mono ?_
      rintro x w' ⟨rfl, rfl⟩
      obtain ⟨h1, h2⟩ := h.setE (he.1 rfl) 8 (.inr (.inl rfl)) (fun k => by
        rcases hd k with k | k
        · cases k
        · have := he.1 rfl
          rw [k] at this
          cases this)
      refine ⟨rfl, h1, h2, fun i hi => ?_⟩
      apply World.cell?_setCell_other
      intro e
      cases e
      exact hi rfl
    · refine (kAsk_no g e w h0 hz).mono ?_
      rintro x w' ⟨rfl, rfl⟩
      have hn : s = none := by
        cases s with
        | none => rfl
        | some b => exact absurd (he.2 rfl) hz
      subst hn
      exact ⟨rfl, h, Only.refl _ _, fun _ _ => rfl⟩

set_option maxHeartbeats 4000000 in
theorem krBlock_any (hm : c.m = .rd A n cp bs) (hP : PassAt c w g S N s) (hN : N + (4 + cost) ≤ 16000000) (hb : ¬ S b) (hT : Tgt c w b off cs) (hu : Uniq e) (hsh : Short e) (hS : Steps c K cap R e cost w S b off v) :
    Calls Try.prog 103 #[.pointer (some ⟨g, 0, none⟩), .func (.func K) #[] cap] w (After c w g S (N + (4 + cost)) s b off R (blockE e) v) := by
  have hrd : c.m.isRd = true := by rw [hm]; rfl
  have hP0 : PassAt c (w.alloc (.cells #[.int .i64 0] 3)) g S N s := hP.only ((Only.refl Empty w).alloc _) (fun _ _ h => h.elim) (fun _ _ h => h.elim)
  have C0 := Lib.hid (krNumber_any hm hP0 0 4 (hP.fresh (Nat.le_refl _)) (Tgt.new hP 3 [.int .i64 0]) (by omega) (by omega))
  have hp : c.m.v g = .iface 63 (.pointer (some ⟨g, 0, none⟩)) := by rw [hm]; rfl
  have HDry : Hid (∀ s1 x1, NumS true 4 s 0 s1 x1 → c.dry → s1 = none) := Lib.hid (fun s1 x1 hn => hP.dry_num (k := 4) (v := 0) (v' := x1) (by omega) (by rw [hrd]; exact hn))
  have eK := hS.enters
  have HS := Lib.hid hS.goes
  have HP := Lib.hid hP
  have HT := Lib.hid hT
  have Hb := Lib.hid hb
  have HM := Lib.hid hm
  have Hp := Lib.hid hp
  have HR : Hid (c.m.isRd = true) := Lib.hid hrd
  clear hS hP0 hP hT hb hm hp hrd
  go_enter Try.func103, Try.ntmps103
  go_wp2_with fail
  refine C0.out.mono ?_
  rintro e1 w1 ⟨rfl, S1, s1, x1, hD1, hT1, hN1⟩
  obtain ⟨hP1, hs1, hO1⟩ := hD1.went (w := w) ((Only.refl Empty w).alloc _) (Nat.le_refl _)
  rw [HR.out] at hN1
  obtain ⟨f1, i1, hB1⟩ := hP1.rd_raw HM.out
  have n1 : w1.cell? ⟨w.heap.size, 0, none⟩ = some (.int .i64 x1) := hT1.cell 0 _ rfl
  have a1 : w1.cell? ⟨g, 2, none⟩ = some (.int .i64 (i1 : Int)) := hB1.blk.cell 2
  have hC := HS.out w1 g S1 N s1 hP1 (by omega) hO1 hs1
  rw [Hp.out] at hC
  have HC := Lib.hid hC
  have HB1 := Lib.hid hB1
  have HO1 := Lib.hid hO1
  have Hs1 := Lib.hid hs1
  have HN1 := Lib.hid hN1
  have Hq1 : Hid (w.heap.size < w1.heap.size ∧ ¬ S1 w.heap.size) := Lib.hid ⟨hT1.lt, fun h => by
    rcases hD1.sub _ h with h | h
    · exact HP.out.fresh (Nat.le_refl _) h
    · simp at h; omega⟩
  clear hD1 hT1 hN1 hP1 hs1 hO1 hB1 hC C0
  go_wp2_with fail
  refine HC.out.mono ?_
  rintro e2 w2 ⟨rfl, S2, s2, cs2, v2, hD2, hT2, hR2, hS2⟩
  rw [HR.out] at hS2
  obtain ⟨f2, i2, hB2⟩ := hD2.pass.rd_raw HM.out
  have hz2 : ¬ Zs c S1 b w.heap.size := fun h => by
    rcases h with h | ⟨_, h⟩
    · exact Hq1.out.2 h
    · have := HT.out.lt; omega
  have n2 : w2.cell? ⟨w.heap.size, 0, none⟩ = some (.int .i64 x1) := (hD2.only.cell (p := ⟨w.heap.size, 0, none⟩) Hq1.out.1 hz2).trans n1
  have a2 : w2.cell? ⟨g, 2, none⟩ = some (.int .i64 (i2 : Int)) := hB2.blk.cell 2
  have hi1 := HB1.out.le
  have hi2 := hB2.le
  have hsm := hB2.small
  have hwd : IntKind.i64.wrap ((i2 : Int) - (i1 : Int)) = (i2 : Int) - (i1 : Int) := by rw [IntKind.wrap_i64]; omega
  have HD2 := Lib.hid hD2
  have HT2 := Lib.hid hT2
  have HR2 := Lib.hid hR2
  have HS2 := Lib.hid hS2
  have HB2 := Lib.hid hB2
  clear hD2 hT2 hR2 hS2 hB2 hz2 n1 a1 HC
  go_wp2_with fail
  refine wp_region_held_drew (S := fun W => W.cell? ⟨g, 2, none⟩ = some (.int .i64 (i2 : Int)) ∧ W.cell? ⟨w.heap.size, 0, none⟩ = some (.int .i64 x1)) (by kernel_rfl) ⟨a2, n2⟩ (fun hHeld0 => ?_)
  refine take_yes 0 16 ?_ rfl rfl (by kernel_rfl) (by kernel_rfl) (by kernel_rfl) (fun _ _ _ h => h) (by kernel_rfl) ?_ (by assumption) ?_; rotate_left; (focus (intro w hSw; (try dsimp only at hSw); go_simp; all_goals first | with_reducible rfl)); simp only [Act.put, List.setIfInBounds_toArray, List.set_cons_zero, List.set_cons_succ]
  refine take_yes 1 17 ?_ rfl rfl (by kernel_rfl) (by kernel_rfl) (by kernel_rfl) (fun _ _ _ h => h) (by kernel_rfl) ?_ (by assumption) ?_; rotate_left; (focus (intro w hSw; (try dsimp only at hSw); go_simp; all_goals first | with_reducible rfl)); simp only [Act.put, List.setIfInBounds_toArray, List.set_cons_zero, List.set_cons_succ]
  refine take_yes 2 18 ?_ rfl rfl (by kernel_rfl) (by kernel_rfl) (by kernel_rfl) (fun _ _ _ h => h) (by kernel_rfl) ?_ (by assumption) ?_; rotate_left; (focus (intro w hSw; (try dsimp only at hSw); go_simp; all_goals first | with_reducible rfl)); simp only [Act.put, List.setIfInBounds_toArray, List.set_cons_zero, List.set_cons_succ]
  refine take_yes 3 19 ?_ rfl rfl (by kernel_rfl) (by kernel_rfl) (by kernel_rfl) (fun _ _ _ h => h) (by kernel_rfl) ?_ (by assumption) ?_; rotate_left; (focus (intro w hSw; (try dsimp only at hSw); go_simp; all_goals first | with_reducible rfl)); simp only [Act.put, List.setIfInBounds_toArray, List.set_cons_zero, List.set_cons_succ]
  refine take_yes 4 20 ?_ rfl rfl (by kernel_rfl) (by kernel_rfl) (by kernel_rfl) (fun _ _ _ h => h) (by kernel_rfl) ?_ (by assumption) ?_; rotate_left; (focus (intro w hSw; (try dsimp only at hSw); go_simp; all_goals first | with_reducible rfl)); simp only [Act.put, List.setIfInBounds_toArray, List.set_cons_zero, List.set_cons_succ]
  refine take_yes 5 21 ?_ rfl rfl (by kernel_rfl) (by kernel_rfl) (by kernel_rfl) (fun _ _ _ h => h) (by kernel_rfl) ?_ (by assumption) ?_; rotate_left; (focus (intro w hSw; (try dsimp only at hSw); go_simp; all_goals first | with_reducible rfl)); simp only [Act.put, List.setIfInBounds_toArray, List.set_cons_zero, List.set_cons_succ]
  refine take_yes 6 22 (.int .i64 (i2 : Int)) rfl rfl (by kernel_rfl) (by kernel_rfl) (by kernel_rfl) (fun _ _ _ h => h) (by kernel_rfl) ?_ (by assumption) ?_; (focus (intro w hSw; (try dsimp only at hSw); go_simp; all_goals first | with_reducible rfl)); simp only [Act.put, List.setIfInBounds_toArray, List.set_cons_zero, List.set_cons_succ]
  refine take_yes 7 23 ?_ rfl rfl (by kernel_rfl) (by kernel_rfl) (by kernel_rfl) (fun _ _ _ h => h) (by kernel_rfl) ?_ (by assumption) ?_; rotate_left; (focus (intro w hSw; (try dsimp only at hSw); go_simp; all_goals first | with_reducible rfl)); simp only [Act.put, List.setIfInBounds_toArray, List.set_cons_zero, List.set_cons_succ]
  refine take_yes 8 24 (.int .i64 ((i2 : Int) - (i1 : Int))) rfl rfl (by kernel_rfl) (by kernel_rfl) (by kernel_rfl) (fun _ _ _ h => h) (by kernel_rfl) ?_ (by assumption) ?_; (focus (intro w hSw; (try dsimp only at hSw); go_simp; all_goals first | with_reducible rfl)); simp only [Act.put, List.setIfInBounds_toArray, List.set_cons_zero, List.set_cons_succ]
  refine take_yes 9 25 (.int .i64 x1) rfl rfl (by kernel_rfl) (by kernel_rfl) (by kernel_rfl) (fun _ _ _ h => h) (by kernel_rfl) ?_ (by assumption) ?_; (focus (intro w hSw; (try dsimp only at hSw); go_simp; all_goals first | with_reducible rfl)); simp only [Act.put, List.setIfInBounds_toArray, List.set_cons_zero, List.set_cons_succ]
  refine take_yes 10 26 (.bool ((i2 : Int) - (i1 : Int) == x1)) rfl rfl (by kernel_rfl) (by kernel_rfl) (by kernel_rfl) (fun _ _ _ h => h) (by kernel_rfl) ?_ (by assumption) ?_; (focus (intro w hSw; (try dsimp only at hSw); go_simp; all_goals first | with_reducible rfl)); simp only [Act.put, List.setIfInBounds_toArray, List.set_cons_zero, List.set_cons_succ]
  refine wpAnyH_ready (rs := [11]) (by kernel_rfl) (by simp) ?_
  refine AllReadyH.cons rfl (fun K hK => ?_) AllReadyH.nil
  go_simp
  have hOd : Only Empty w2 w2.drew := (Only.refl Empty w2).drew
  refine (ask_keep (HD2.out.pass.only hOd (fun _ _ h => h.elim) (fun _ _ h => h.elim)) ((i2 : Int) - (i1 : Int) == x1) (fun hd => .inr (by
    have h1 := HS2.out
    rw [HDry.out _ _ HN1.out hd] at h1
    exact h1))).mono ?_
  rintro e3 w3 ⟨rfl, hP3, hO3, hK3⟩
  have HO3 : Hid (Only S2 w2 w3) := Lib.hid ((hOd.mono (fun _ _ h => h.elim)).trans hO3)
  have HP3 := Lib.hid hP3
  have b2 : w3.cell? ⟨w.heap.size, 0, none⟩ = some (.int .i64 x1) := (HO3.out.cell (p := ⟨w.heap.size, 0, none⟩) (Nat.lt_of_lt_of_le Hq1.out.1 HD2.out.only.size) (fun h => by
    rcases HD2.out.sub _ h with h | h
    · exact Hq1.out.2 h
    · have := Hq1.out.1; have h : w1.heap.size ≤ w.heap.size := h; omega)).trans n2
  have b1 : w3.cell? ⟨g, 2, none⟩ = some (.int .i64 (i2 : Int)) := (hK3 2 (by decide)).trans a2
  clear hOd hP3 hO3 hK3
  go_wp2_with fail
  refine hK.out _ _ (⟨b1, b2⟩) (fun _ => ?_)
  clear hK K
  try simp only [Act.put, List.setIfInBounds_toArray, List.set_cons_zero, List.set_cons_succ]
  refine wpAnyH_done (by kernel_rfl) ?_ _
  go_wp2
  go_end0
  have hb2 : ¬ S2 b := fun h => by
    rcases HD2.out.sub b h with h | h
    · rcases Hs1.out b h with h | h
      · exact Hb.out h
      · have := HT.out.lt; omega
    · have := HT.out.lt; have := HO1.out.size; omega
  have hsub : ∀ q, S2 q → S q ∨ w.heap.size ≤ q := fun q hq => by
    rcases HD2.out.sub q hq with h | h
    · exact Hs1.out q h
    · exact .inr (Nat.le_trans HO1.out.size h)
  have hO12 : Only (Zs c S b) w w2 := (HO1.out.mono (fun _ _ h => .inl h)).trans' HD2.out.only (fun q hq h => by
    rcases h with h | h
    · exact .inl ((Hs1.out q h).resolve_right (by omega))
    · exact .inr h)
  have hO13 : Only (Zs c S b) w w3 := hO12.trans' HO3.out (fun q hq h => .inl ((hsub q h).resolve_right (by omega)))
  have hblt : b < w2.heap.size := Nat.lt_of_lt_of_le HT.out.lt hO12.size
  have hfin : (if ((i2 : Int) - (i1 : Int) == x1) = true then s2 else none) = blockS s1 s2 x1 := by
    have h1 := HB1.out.st
    have h2 := HB2.out.st
    have hl := HB1.out.bytes.1
    by_cases hf1 : f1 = 0
    · rw [if_pos hf1] at h1
      by_cases hf2 : f2 = 0
      · rw [if_pos hf2] at h2
        rw [h1, h2]
        show _ = if (((bs.drop i1).length : Int) - ((bs.drop i2).length : Int) = x1) then some (bs.drop i2) else none
        rw [List.length_drop, List.length_drop, hl]
        have e1 : (((n - i1 : Nat) : Int) - ((n - i2 : Nat) : Int)) = (i2 : Int) - (i1 : Int) := by omega
        rw [e1]
        by_cases hx : (i2 : Int) - (i1 : Int) = x1
        · rw [if_pos hx, if_pos (by simpa using hx)]
        · rw [if_neg hx, if_neg (by simpa using hx)]
      · rw [if_neg hf2] at h2
        rw [h2]
        cases s1 <;> split <;> rfl
    · rw [if_neg hf1] at h1
      have h3 := HS2.out
      rw [h1] at h3
      have h4 : s2 = none := h3
      rw [h1, h4]
      split <;> rfl
  have hP3 := HP3.out.more (N' := N + (4 + cost)) (by omega)
  rw [hfin] at hP3
  refine ⟨rfl, S2, _, cs2, v2, ⟨hP3, hsub, hO13, fun o ho => ?_⟩, HT2.out.only HO3.out hb2, R.next HR2.out (HO3.out.mono (fun _ _ h => .inl h)) (fun q hq hz => ?_), ?_⟩
  · rw [HO3.out.cell (p := ⟨b, o, none⟩) hblt hb2, HD2.out.rest o ho]
    exact HO1.out.cell (p := ⟨b, o, none⟩) HT.out.lt Hb.out
  · rcases hz with hz | ⟨h1, h2⟩
    · exact .inl hz
    · exact .inr ⟨h1, Nat.lt_of_lt_of_le h2 HO1.out.size⟩
  · rw [HR.out]
    exact block_rd hsh hu HN1.out HS2.out

/-- block, of whichever pass. -/
theorem mdBlock_any (hP : PassAt c w g S N s) (hN : N + (4 + cost) ≤ 16000000) (hb : ¬ S b) (hT : Tgt c w b off cs) (hR : R.rep w (Zs c S b) cs v) (hu : Uniq e) (hsh : Short e) (hS : Steps c K cap R e cost w S b off v) :
    Calls Try.prog c.m.fK #[.pointer (some ⟨g, 0, none⟩), .func (.func K) #[] cap] w (After c w g S (N + (4 + cost)) s b off R (blockE e) v) := by
  cases hm : c.m with
  | wr => exact kwBlock_any hm hP hN hb hT hR hS
  | rd A n cp bs => exact krBlock_any hm hP hN hb hT hu hsh hS
end

end Go.Proofs.Ytendpbklcgiafaa

/- The walks over klass's part and code, of whichever pass. -/
namespace Go.Proofs.Ytendpbklcgiafaa
set_option maxRecDepth 100000
open Go.RowKit

section
variable {α : Type} {c : Cx} {w w' : World} {g b off : Nat} {S S' : Nat → Prop} {N : Nat} {s : Option (List UInt8)} {R : RepT α} {e : Enc α} {cost K : Nat} {cap : Array Value} {cs : List Value} {v : α}
theorem Steps.next (h : Steps c K cap R e cost w S b off v) (hO : Only S w w') (hs : ∀ q, S' q → S q ∨ w.heap.size ≤ q) : Steps c K cap R e cost w' S' b off v :=
  ⟨h.enters, fun W g1 S1 N1 s1 hP hN hO1 hs1 => h.goes W g1 S1 N1 s1 hP hN (hO.trans' hO1 (fun q hq hz => (hs q hz).resolve_right (by omega))) (fun q hq => by
    rcases hs1 q hq with h2 | h2
    · exact hs q h2
    · exact .inr (Nat.le_trans hO.size h2))⟩
theorem Stp.never (rd : Bool) {e : Enc α} (he : ∀ v, e v = none) (s : Option (List UInt8)) (v : α) (v' : α) (h : rd = false → v' = v) : Stp rd e s v none v' := by
  cases rd with
  | false =>
    refine ⟨h rfl, ?_⟩
    rw [he]
    cases s <;> rfl
  | true =>
    cases s with
    | none => rfl
    | some b => exact .inr ⟨rfl, fun x r ⟨y, hy, _⟩ => by rw [he] at hy; cases hy⟩
theorem Stp.of_none {rd : Bool} {e : Enc α} {s' : Option (List UInt8)} {v v' : α} (h : Stp rd e none v s' v') : s' = none ∧ (rd = false → v' = v) := by
  cases rd with
  | false => exact ⟨h.2, fun _ => h.1⟩
  | true => exact ⟨h, fun h => by cases h⟩

/-- An attribute of a name that stands in the pool. -/
def partE (C : List Cst) (t : List UInt8) (e : Enc α) : Enc α := match firstC C t with
  | some i => mapE (fun v => ((), v)) (seqE (justE 2 i) (fun _ => blockE e))
  | none => fun _ => none
theorem Uniq.part {e : Enc α} (h : Uniq e) (C : List Cst) (t : List UInt8) : Uniq (partE C t e) := by
  unfold partE
  split
  · exact ((Uniq.just 2 _).seq (fun _ => h.block)).map (fun _ _ h => (Prod.mk.inj h).2)
  · rintro b v r v' r' ⟨x, hx, _⟩
    cases hx

set_option maxHeartbeats 4000000 in
theorem kPart_any (t : List UInt8) (hdry : c.dry → s = none) (hP : PassAt c w g S N s) (hN : N + (6 + cost) ≤ 16000000) (hb : ¬ S b) (hT : Tgt c w b off cs) (hR : R.rep w (Zs c S b) cs v) (hu : Uniq e) (hsh : Short e) (hS : Steps c K cap R e cost w S b off v) :
    Calls Try.prog 44 #[c.cv, c.m.v g, .string (strB t), .func (.func K) #[] cap] w (After c w g S (N + (6 + cost)) s b off R (partE c.C t e) v) := by
  have hlen := hP.len
  have C1 := Lib.hid (kFirst_any c.A c.n c.cap c.C t w (hP.poolAt (Z := Empty) (fun _ _ h => h.elim) (Only.refl _ _)) (by have := hP.small; omega))
  have rA := fun W => reach_ask c.m g W
  have eA : ∀ (args : Array Value) (W : World), (callFunc 18 args).run Try.prog W = .ok (.enter 18 args) W := fun args W => by kernel_rfl
  have rK := fun W => reach_block c.m g W
  have eKb := fun args W => enter_block c.m W args
  have Hdry := Lib.hid hdry
  have HP := Lib.hid hP
  have HT := Lib.hid hT
  have HRp := Lib.hid hR
  have Hb := Lib.hid hb
  have HS := Lib.hid hS
  obtain ⟨at_, hat⟩ : ∃ at_, (firstC c.C t).getD 0 = at_ := ⟨_, rfl⟩
  obtain ⟨ok, hok⟩ : ∃ ok, (firstC c.C t).isSome = ok := ⟨_, rfl⟩
  have hatl : at_ < 1025 := by
    cases hf : firstC c.C t with
    | none => rw [hf] at hat; subst hat; show 0 < 1025; omega
    | some k => rw [hf] at hat; subst hat; have := firstC_lt hf; show k < 1025; omega
  have hC1 := C1.out
  unfold firstV at hC1
  rw [hat, hok] at hC1
  have HC1 := Lib.hid hC1
  have Hat := Lib.hid hat
  have Hok := Lib.hid hok
  obtain ⟨T, hTy⟩ : ∃ T, T = c.m.T := ⟨_, rfl⟩
  obtain ⟨fK, hfK⟩ : ∃ fK, fK = c.m.fK := ⟨_, rfl⟩
  have hp : c.m.v g = .iface T (.pointer (some ⟨g, 0, none⟩)) := by rw [hTy]; rfl
  have hcv : c.cv = .slice c.A c.n c.cap := rfl
  obtain ⟨A, hA⟩ : ∃ A, A = c.A := ⟨_, rfl⟩
  obtain ⟨n, hn⟩ : ∃ n, n = c.n := ⟨_, rfl⟩
  obtain ⟨cp, hcp⟩ : ∃ cp, cp = c.cap := ⟨_, rfl⟩
  rw [hp, hcv]
  rw [← hA, ← hn, ← hcp] at HC1 ⊢
  rw [← hTy] at rA rK
  rw [← hfK] at rK eKb
  have Hp := Lib.hid hp
  have HfK := Lib.hid hfK
  clear C1 hC1 hP hT hR hb hS hdry hTy hfK hp hcv hA hn hcp hat hok
  go_enter Try.func44, Try.ntmps44
  go_wp2_with fail
  refine HC1.out.mono ?_
  rintro e1 w1 ⟨rfl, hb1⟩
  have HO1 : Hid (Only Empty w w1) := Lib.hid (Only.of_below hb1)
  have HP1 := Lib.hid (HP.out.below hb1)
  clear hb1 HC1
  go_wp2_with fail
  refine (ask_any HP1.out ok (fun hd => .inr (Hdry.out hd))).mono ?_
  rintro e2 w2 ⟨rfl, hP2, hO2⟩
  have HP2 := Lib.hid hP2
  have HO2 : Hid (Only S w w2) := Lib.hid ((HO1.out.mono (fun _ _ h => h.elim)).trans hO2)
  have C3 := kAlways_any hP2 (at_ : Int) at_ rfl (by omega) (by omega)
  rw [Hp.out] at C3
  have HC3 := Lib.hid C3
  clear hP2 hO2 C3
  go_wp2_with fail
  refine HC3.out.mono ?_
  rintro e3 w3 ⟨rfl, S3, s3, hP3, hs3, hO3, hS3⟩
  have HO3 : Hid (Only S w w3) := Lib.hid (HO2.out.trans hO3)
  have hs3' : ∀ q, S3 q → S q ∨ w.heap.size ≤ q := fun q hq => (hs3 q hq).imp id (fun h => Nat.le_trans HO2.out.size h)
  have hb3 : ¬ S3 b := fun h => by
    rcases hs3' b h with h | h
    · exact Hb.out h
    · have := HT.out.lt; omega
  have hR3 : R.rep w3 (Zs c S3 b) cs v := R.next HRp.out (HO3.out.mono (fun _ _ h => .inl h)) (Zs.mono hs3')
  have C4 := mdBlock_any hP3 (cost := cost) (by omega) hb3 (HT.out.only HO3.out Hb.out) hR3 hu hsh (HS.out.next HO3.out hs3')
  rw [← HfK.out] at C4
  have HC4 := Lib.hid C4
  have Hs3 := Lib.hid hs3'
  have HS3 := Lib.hid hS3
  clear hP3 hs3 hO3 hS3 hs3' hb3 hR3 C4 HC3
  go_wp2_with fail
  refine HC4.out.mono ?_
  rintro e4 w4 ⟨rfl, S4, s4, cs4, v4, hD4, hT4, hR4, hS4⟩
  have HD4 := Lib.hid hD4
  have HT4 := Lib.hid hT4
  have HR4 := Lib.hid hR4
  have HS4 := Lib.hid hS4
  clear hD4 hT4 hR4 hS4 HC4
  go_wp2
  go_end0
  have hOf : Only (Zs c S b) w w4 := (HO3.out.mono (fun _ _ h => .inl h)).trans' HD4.out.only (Zs.mono Hs3.out)
  refine ⟨rfl, S4, s4, cs4, v4, ⟨HD4.out.pass.more (by omega), fun q hq => ?_, hOf, fun o ho => ?_⟩, HT4.out, R.next HR4.out (Only.refl _ _) (fun q hq hz => ?_), ?_⟩
  · rcases HD4.out.sub q hq with h | h
    · exact Hs3.out q h
    · exact .inr (Nat.le_trans HO3.out.size h)
  · rw [HD4.out.rest o ho]
    exact HO3.out.cell (p := ⟨b, o, none⟩) HT.out.lt Hb.out
  · rcases hz with hz | ⟨h1, h2⟩
    · exact .inl hz
    · exact .inr ⟨h1, Nat.lt_of_lt_of_le h2 HO3.out.size⟩
  · unfold partE
    cases hf : firstC c.C t with
    | none =>
      have hk : ok = false := by rw [← Hok.out, hf]; rfl
      have h3 := HS3.out
      rw [hk, if_neg (by decide)] at h3
      obtain ⟨h3a, _⟩ := h3.of_none
      have h4 := HS4.out
      rw [h3a] at h4
      obtain ⟨h4a, h4b⟩ := h4.of_none
      rw [h4a]
      exact Stp.never _ (fun _ => rfl) _ _ _ h4b
    | some i =>
      have hk : ok = true := by rw [← Hok.out, hf]; rfl
      have hi : at_ = i := by rw [← Hat.out, hf]; rfl
      have h3 := HS3.out
      rw [hk, if_pos rfl, hi] at h3
      exact Stp.map (g := fun v : α => ((), v)) (fun _ _ h => (Prod.mk.inj h).2) (Stp.seq (Uniq.just 2 i) h3 HS4.out)
end

/-! ### code -/
def codeN (x : Int) : Bool := decide (1 ≤ x ∧ x ≤ 4096)
def codeE : Enc (List UInt8) := mapE (fun l => ((l.length : Int), l)) (seqE (kindE codeN 4) (fun n => rawE n.toNat))
theorem fits_code : Fits codeN 4 := ⟨by omega, fun v hv => by
  unfold codeN at hv
  have := of_decide_eq_true hv
  have e : (256 ^ 4 : Nat) = 4294967296 := by decide
  omega⟩
theorem Uniq.code : Uniq codeE := ((Uniq.kind fits_code).seq (fun n => Uniq.raw n.toNat)).map (fun _ _ h => (Prod.mk.inj h).2)

section
variable {c : Cx} {w : World} {g b off : Nat} {S : Nat → Prop} {N : Nat} {s : Option (List UInt8)}
theorem mdBytes_any {r : List UInt8} (hP : PassAt c w g S N (some r)) (A : Option Addr) (n cap : Nat) (l : List UInt8) (k : Nat) (hb : ¬ S b) (hT : Tgt c w b off [.slice A n cap]) (hR : bytesT.rep w (Zs c S b) [.slice A n cap] l) (hk : c.m.isRd = false → k = n) (hbl : c.m.isRd = true → n = 0 ∧ A = none ∧ cap = 0 ∧ l = []) (h1 : 1 ≤ k) (h2 : k ≤ 4096) (hN : N + k ≤ 16000000) :
    Calls Try.prog c.m.fB #[.pointer (some ⟨g, 0, none⟩), .pointer (some ⟨b, off, none⟩), .int .i64 (k : Int)] w (After c w g S (N + k) (some r) b off bytesT (rawE k) l) := by
  obtain ⟨A', n', cap', e, hB, hn⟩ := hR
  cases e
  cases hm : c.m with
  | wr =>
    have hkn := hk (by rw [hm]; rfl)
    subst hkn
    have hrd : c.m.isRd = false := by rw [hm]; rfl
    refine (kwBytes_any hm hP A k cap l (k : Int) hb hT (hB.mono (fun _ _ h => h.elim)) hn hN).mono ?_
    rintro e1 w' ⟨rfl, ⟨S', h3, h4⟩, h5⟩
    refine ⟨rfl, S', _, [.slice A k cap], l, Done.own h3 h4 h5 b off 1 hb hT.lt, hT.only h5 hb, bytesT.next (v := l) ⟨A, k, cap, rfl, hB, hn⟩ (h5.mono (fun _ _ h => .inl h)) (fun q hq hz => ?_), ?_⟩
    · rcases hz with hz | ⟨hz, _⟩
      · exact .inl ((h4 q hz).resolve_right (by omega))
      · rw [hrd] at hz; cases hz
    · rw [hrd]
      refine ⟨rfl, ?_⟩
      unfold rawE
      rw [if_pos hB.1]
      rfl
  | rd A0 n0 cap0 bs =>
    have hrd : c.m.isRd = true := by rw [hm]; rfl
    refine (krBytes_any hm hP (.slice A n cap) k hb hT h1 (by omega)).mono ?_
    rintro e1 w' ⟨rfl, h⟩
    rcases h with ⟨h3, h4, cs, h5, h6⟩ | ⟨h3, h4, h5⟩
    · refine ⟨rfl, S, _, cs, r.take k, ⟨h4.pass.more (by omega), h4.sub, h4.only, h4.rest⟩, h5, ?_, ?_⟩
      · exact h6
      · rw [hrd]
        refine .inl ⟨_, rfl, r.take k, ?_, (List.take_append_drop _ _).symm⟩
        unfold rawE
        rw [if_pos (by rw [List.length_take]; omega)]
    · refine ⟨rfl, S, none, [.slice A n cap], l, ⟨h4.pass.more (by omega), h4.sub, h4.only, h4.rest⟩, h5, ?_, ?_⟩
      · obtain ⟨rfl, rfl, rfl, rfl⟩ := hbl hrd
        exact ⟨none, 0, 0, rfl, ByteSl.nil_ _ _ _ _ (by unfold maxLen; omega), fun _ => ⟨rfl, rfl⟩⟩
      · rw [hrd]
        refine .inr ⟨rfl, fun x r' ⟨y, hy, e⟩ => ?_⟩
        unfold rawE at hy
        split at hy
        · rename_i hl
          cases hy
          rw [e, List.length_append] at h3
          omega
        · cases hy
end

end Go.Proofs.Ytendpbklcgiafaa
