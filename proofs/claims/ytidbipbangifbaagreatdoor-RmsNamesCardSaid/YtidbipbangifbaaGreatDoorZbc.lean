/- The walk over rms.Get. -/
import Derived.Test.YtidbipbangifbaaGreatDoorZbb
namespace Go.Proofs.YtidbipbangifbaaGreatDoor
set_option maxRecDepth 100000
open Go.RowKit

/-- An entry's data, an error. -/
def getQ (suite name : List UInt8) (id : Nat) (M : Al Sv) : List UInt8 × Int :=
  match storedQ suite name M with
  | (some r, _) => (match r.list.find? (fun x => x.1 == id) with | some e => (e.2, 0) | none => ([], 11))
  | (none, er) => ([], er)
theorem storedQ_er {suite name : List UInt8} {M : Al Sv} {er : Int} (h : storedQ suite name M = (none, er)) : er ≠ 0 := by
  unfold storedQ at h
  split at h
  · have := congrArg Prod.snd h
    simp at this
    omega
  · next hn =>
    have := congrArg Prod.snd h
    simp at this
    omega
theorem parseQ_may {bs : List UInt8} {r : RcP} (h : parseQ bs = some r) : mayP r = true := by
  unfold parseQ at h
  split at h
  · next hc =>
    obtain rfl := Option.some.inj h
    exact hc.2.2
  · cases h
theorem parseQ_next {bs : List UInt8} {r : RcP} (h : parseQ bs = some r) : r.next ≤ 4294967295 ∧ r.version ≤ 4294967295 := by
  unfold parseQ at h
  split at h
  · obtain rfl := Option.some.inj h
    exact ⟨recsQ_next _, recsQ_version _⟩
  · cases h
theorem storedQ_may {suite name : List UInt8} {M : Al Sv} {er : Int} {r : RcP} (h : storedQ suite name M = (some r, er)) : mayP r = true ∧ r.next ≤ 4294967295 ∧ r.version ≤ 4294967295 := by
  unfold storedQ at h
  split at h
  · have h := congrArg Prod.fst h
    exact ⟨parseQ_may h, parseQ_next h⟩
  · have := congrArg Prod.fst h
    cases this
theorem mayP_row {r : RcP} {l : List EntM} (h : mayP r = true) (hl : l.map EntM.p = r.list) : RiseE l ∧ l.length ≤ 64 := by
  unfold mayP at h
  rw [Bool.and_eq_true] at h
  have h1 := (of_decide_eq_true h.1).2
  rw [← hl] at h1 h
  exact ⟨(rise_of h.2).2, by simpa using h1⟩
theorem find_here {l : List EntM} {p a : Nat} (hR : RiseE l) (h1 : LoE l p a) (h2 : HiE l p a) :
    (hereE l p a = true → ∃ x, l[a]? = some x ∧ (l.map EntM.p).find? (fun e => e.1 == p) = some x.p) ∧ (hereE l p a = false → (l.map EntM.p).find? (fun e => e.1 == p) = none) := by
  constructor
  · intro h
    unfold hereE at h
    cases hx : l[a]? with
    | none => rw [hx] at h; cases h
    | some x =>
      rw [hx] at h
      have h : (x.id == p) = true := h
      refine ⟨x, rfl, ?_⟩
      rw [List.find?_map]
      have hf : l.find? ((fun e : Ent => e.1 == p) ∘ EntM.p) = some x := by
        rw [List.find?_eq_some_iff_getElem]
        obtain ⟨ha, hxa⟩ := List.getElem?_eq_some_iff.1 hx
        refine ⟨h, a, ha, hxa, fun j hj => ?_⟩
        have := h1 j l[j] hj (List.getElem?_eq_getElem (by omega))
        show (!(l[j].id == p)) = true
        simp
        omega
      rw [hf]
      rfl
  · intro h
    rw [List.find?_map]
    have hf : l.find? ((fun e : Ent => e.1 == p) ∘ EntM.p) = none := by
      rw [List.find?_eq_none]
      intro x hx he
      have he : (x.id == p) = true := he
      have he : x.id = p := by simpa using he
      obtain ⟨q, hq, rfl⟩ := List.mem_iff_getElem.1 hx
      have hg : l[q]? = some l[q] := List.getElem?_eq_getElem hq
      rcases Nat.lt_trichotomy q a with h3 | h3 | h3
      · have := h1 q _ h3 hg; omega
      · subst h3
        unfold hereE at h
        rw [hg] at h
        have h : (l[q].id == p) = false := h
        simp at h
        exact h he
      · have ha : l[a]? = some l[a] := List.getElem?_eq_getElem (by omega)
        have := h2 a _ (Nat.le_refl _) ha
        have := hR a q _ _ h3 ha hg
        omega
    rw [hf]
    rfl

set_option maxHeartbeats 1000000 in
theorem rmGet_any (s mb p c e : Nat) (M : Al Sv) (h : HeadV) (d : Bool) (suite name : List UInt8) (id : Nat) (w : World) (hS : StoreAt w s mb p c e M h d) (hn : ∀ k, (svAt M k).n ≤ 1048576) (hx : ∀ k, (svAt M k).xs.length ≤ 1048576) (h1 : suite.length ≤ 1048576) (h2 : name.length ≤ 1048576) :
    Calls Tryz.prog 22 #[.pointer (some ⟨s, 0, none⟩), .string (strB suite), .string (strB name), .int .u32 (id : Int)] w fun e1 w' => RawOut w.heap.size (getQ suite name id M) e1 w' ∧ Below w.heap.size w w' := by
  have CS := Lib.hid (rmStored_any s mb p c e M h d suite name w hS hn hx h1 h2)
  have hQ : getQ suite name id M = match storedQ suite name M with
    | (some r, _) => (match r.list.find? (fun x => x.1 == id) with | some e => (e.2, 0) | none => ([], 11))
    | (none, er) => ([], er) := rfl
  obtain ⟨o, er, hq⟩ : ∃ o er, storedQ suite name M = (o, er) := ⟨_, _, rfl⟩
  rw [hq] at CS hQ
  obtain ⟨G, hG⟩ : ∃ G, getQ suite name id M = G := ⟨_, rfl⟩
  rw [hG] at hQ ⊢
  cases o with
  | none =>
    have hz := storedQ_er hq
    have hq2 : (er != 0) = true := by simpa using hz
    have HQ : Hid (G = ([], er)) := Lib.hid hQ
    clear hS hn hx hq hQ hG h1 h2 hz
    go_enter Tryz.func22, Tryz.ntmps22
    go_wp2_with fail
    refine CS.out.mono ?_
    rintro e1 w1 ⟨hR, hb1⟩
    obtain rfl : e1 = _ := hR
    have Hb1 := Lib.hid hb1
    clear hb1
    simp only [Rec_]
    go_wp2
    go_ret2
    rw [HQ.out]
    exact ⟨⟨none, 0, rfl, Got.nil_ _ _⟩, Hb1.out.alloc (Hb1.out.size) _⟩
  | some r =>
    obtain ⟨hm, hnx, hvs⟩ := storedQ_may hq
    have HQ : Hid (G = match r.list.find? (fun x => x.1 == id) with | some e => (e.2, 0) | none => ([], 11)) := Lib.hid hQ
    have Hm := Lib.hid hm
    clear hS hn hx hq hQ hG h1 h2 hm
    go_enter Tryz.func22, Tryz.ntmps22
    go_wp2_with fail
    refine CS.out.mono ?_
    rintro e1 w1 ⟨⟨A1, n1, c1_, l, rfl, hG, hl⟩, hb1⟩
    obtain ⟨hri, hlen⟩ := mayP_row Hm.out hl
    have hn1 : n1 ≤ 64 := by have := hG.row.row.1; omega
    have hcc : n1 ≤ c1_ := hG.row.row.2.1
    have hcm := hG.row.row.2.2.1
    unfold maxLen at hcm
    have hal : Below w1.heap.size w1 (w1.alloc (.cells #[.int .u32 (r.next : Int), .int .u32 (r.version : Int), .slice A1 n1 c1_] 31)) := (Below.refl w1.heap.size w1).alloc (Nat.le_refl _) _
    have HG := Lib.hid (hG.below hal)
    have Hb1 := Lib.hid (hb1.trans (hal.mono hb1.size))
    have Hl := Lib.hid hl
    have Hri := Lib.hid hri
    have CF := Lib.hid (rmFind_any A1 n1 c1_ l id _ (HG.out.ents Empty (fun _ _ _ h => h)) (by omega) hri)
    clear hG hl hri hb1 hal
    simp only [Rec_]
    go_wp2_with fail
    refine CF.out.mono ?_
    rintro e2 w2 ⟨⟨a, rfl, hal, hlo, hhi⟩, hb2⟩
    have HG2 := Lib.hid (HG.out.below hb2)
    have Hb2 := Lib.hid (Hb1.out.trans (hb2.mono Hb1.out.size))
    have hbx := (Blk.new w1 31 #[.int .u32 (r.next : Int), .int .u32 (r.version : Int), .slice A1 n1 c1_]).of (hb2.block w1.heap.size (by simp))
    have b2 := hbx.cell 2
    have l0 := hbx.lt
    simp at b2
    have hfd := find_here Hri.out hlo hhi
    clear hb2 hlo hhi hbx
    cases hh : hereE l id a with
    | false =>
      have HE : Hid (G = ([], 11)) := Lib.hid (by rw [HQ.out, ← Hl.out, hfd.2 hh])
      clear hfd hh
      go_wp2
      go_ret2
      rw [HE.out]
      exact ⟨⟨none, 0, rfl, Got.nil_ _ _⟩, Hb2.out⟩
    | true =>
      obtain ⟨x, hx, hxf⟩ := hfd.1 hh
      have HE : Hid (G = (x.xs, 0)) := Lib.hid (by rw [HQ.out, ← Hl.out, hxf]; rfl)
      have han : a < n1 := by
        have := (List.getElem?_eq_some_iff.1 hx).1
        have := HG2.out.row.row.1
        omega
      obtain ⟨bb, ob, y, rfl, hy, hbb, -, -, d0, d1⟩ := ent_at (HG2.out.ents Empty (fun _ _ _ h => h)) han
      rw [hx] at hy
      obtain rfl := Option.some.inj hy
      have HX := Lib.hid ((HG2.out.data x (List.mem_of_getElem? hx)).1)
      have hxl : x.xs.length = x.n := HX.out.bytes.1
      clear hfd hh hx hxf hy
      go_wp2
      go_ret2
      rw [HE.out]
      exact ⟨⟨x.A, x.cap, by rw [hxl]; rfl, by rw [hxl]; exact HX.out⟩, Hb2.out⟩

end Go.Proofs.YtidbipbangifbaaGreatDoor

/- The walk over blob's Live: the room of all keys. -/
namespace Go.Proofs.YtidbipbangifbaaGreatDoor
set_option maxRecDepth 100000
open Go.RowKit Go.Maps Go.Sort

/-- Keys and blobs that records may have. -/
def FairM (M : Al Sv) : Prop := ∀ q ∈ M, q.1.length ≤ 64 ∧ q.2.n ≤ 4096
theorem svAt_fair {M : Al Sv} (h : FairM M) (k : List UInt8) : (svAt M k).n ≤ 4096 := by
  unfold svAt
  cases hf : afind M k with
  | none => exact Nat.zero_le _
  | some f => exact (h _ (afind_mem hf)).2

/-- A key's room. -/
def keyRoom (k : List UInt8) (n : Nat) : Nat := 32 + k.length + n
def liveL (M : Al Sv) : Nat := (M.map fun q => keyRoom q.1 q.2.n).sum

theorem afind_of_mem {α : Type} {M : Al α} (h : M.Pairwise (fun p q => bytesBefore p.1 q.1 = true)) {q : List UInt8 × α} (hq : q ∈ M) : afind M q.1 = some q.2 := by
  induction M with
  | nil => cases hq
  | cons r M ih =>
    rw [List.pairwise_cons] at h
    unfold afind
    rw [List.find?_cons]
    rcases List.mem_cons.1 hq with rfl | hm
    · simp
    · have hb := before_lt _ _ (h.1 q hm)
      have hne : (r.1 == q.1) = false := by
        rw [beq_eq_false_iff_ne]
        intro he
        rw [he] at hb
        exact absurd hb (List.lt_irrefl _)
      rw [hne]
      exact ih h.2 hm
theorem live_keys {M : Al Sv} (h : M.Pairwise (fun p q => bytesBefore p.1 q.1 = true)) : ((M.map (·.1)).map fun k => keyRoom k (svAt M k).n).sum = liveL M := by
  unfold liveL
  rw [List.map_map]
  congr 1
  apply List.map_congr_left
  intro q hq
  show keyRoom q.1 (svAt M q.1).n = _
  rw [svAt_v (afind_of_mem h hq)]
theorem sum_perm {l r : List Nat} (h : l.Perm r) : l.sum = r.sum := h.sum_nat
theorem sum_le_mul (f : List UInt8 → Nat) (m : Nat) : ∀ l : List (List UInt8), (∀ k ∈ l, f k ≤ m) → (l.map f).sum ≤ l.length * m
  | [], _ => by simp
  | k :: l, h => by
    have h1 := sum_le_mul f m l (fun q hq => h q (List.mem_cons_of_mem _ hq))
    have h2 := h k List.mem_cons_self
    rw [List.map_cons, List.sum_cons, List.length_cons, Nat.add_mul]
    omega


end Go.Proofs.YtidbipbangifbaaGreatDoor
