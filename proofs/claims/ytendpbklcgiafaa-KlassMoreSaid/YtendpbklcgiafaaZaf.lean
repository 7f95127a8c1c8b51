/- Constants and pools as plain data; what stands where. Nothing of the program but how a constant lies in memory. -/
import Derived.Test.YtendpbklcgiafaaZac
import Derived.Test.YtendpbklcgiafaaZae
import Derived.Test.YtendpbklcgiafaaZab
namespace Go.Proofs.Ytendpbklcgiafaa
set_option maxRecDepth 100000
open Go.RowKit

/-- A constant. -/
structure Cst where
  tag : Int
  a : Int
  b : Int
  n : Int
  s : List UInt8
  deriving DecidableEq
def zeroC : Cst := ⟨0, 0, 0, 0, []⟩
/-- Its numbers are the machine's; its text isn't very long. -/
structure Cst.ok (c : Cst) : Prop where
  tag : -9223372036854775808 ≤ c.tag ∧ c.tag ≤ 9223372036854775807
  a : -9223372036854775808 ≤ c.a ∧ c.a ≤ 9223372036854775807
  b : -9223372036854775808 ≤ c.b ∧ c.b ≤ 9223372036854775807
  n : -9223372036854775808 ≤ c.n ∧ c.n ≤ 9223372036854775807
  s : c.s.length ≤ 9223372036854775807
theorem zeroC_ok : zeroC.ok := ⟨by decide, by decide, by decide, by decide, by decide⟩

theorem strB_size (xs : List UInt8) : (strB xs).size = xs.length := by simp [strB, ByteArray.size]
/-- How it lies. -/
def Cst.cells (c : Cst) : List Value := [.int .i64 c.tag, .int .i64 c.a, .int .i64 c.b, .int .i64 c.n, .string (strB c.s)]
def Cst.v (c : Cst) : Value := .agg #[.int .i64 c.tag, .int .i64 c.a, .int .i64 c.b, .int .i64 c.n, .string (strB c.s)]
theorem Cst.cells_len (c : Cst) : c.cells.length = 5 := rfl
theorem Cst.cells_one (c : Cst) : ∀ v ∈ c.cells, v.oneCell' = true := fun v hv => by
  simp only [Cst.cells, List.mem_cons, List.not_mem_nil, or_false] at hv
  rcases hv with rfl | rfl | rfl | rfl | rfl <;> rfl
/-- A slice that reads as constants. -/
abbrev PoolSl (w : World) (A : Option Addr) (n cap : Nat) (l : List Cst) : Prop := RowSl Cst.cells 5 w Empty A n cap l
theorem pool_at {w : World} {A : Option Addr} {n cap : Nat} {l : List Cst} (h : PoolSl w A n cap l) {k : Nat} (hk : k < n) :
    ∃ b o c, A = some ⟨b, o, none⟩ ∧ l[k]? = some c ∧ b < w.heap.size ∧ w.cell? ⟨b, o + k * 5, none⟩ = some (.int .i64 c.tag) ∧ w.cell? ⟨b, o + k * 5 + 1, none⟩ = some (.int .i64 c.a) ∧ w.cell? ⟨b, o + k * 5 + 2, none⟩ = some (.int .i64 c.b) ∧ w.cell? ⟨b, o + k * 5 + 3, none⟩ = some (.int .i64 c.n) ∧ w.cell? ⟨b, o + k * 5 + 4, none⟩ = some (.string (strB c.s)) := by
  obtain ⟨b, o, c, hA, hb, _, hc, hcell⟩ := RowSl.at_ h hk
  exact ⟨b, o, c, hA, hc, hb, by simpa [Cst.cells] using hcell 0 (by omega), by simpa [Cst.cells] using hcell 1 (by omega), by simpa [Cst.cells] using hcell 2 (by omega), by simpa [Cst.cells] using hcell 3 (by omega), by simpa [Cst.cells] using hcell 4 (by omega)⟩

/-! ### What stands at a place -/
def atF (l : List Cst) (p : Int) : Option Cst := if 1 ≤ p then l[p.toNat]? else none
def tagAtF (l : List Cst) (p : Int) : Int := match atF l p with
  | some c => c.tag
  | none => 0
def isF (l : List Cst) (p t : Int) : Bool := match atF l p with
  | some c => c.tag == t
  | none => false
def findF (l : List Cst) (p t : Int) : Option Cst := match atF l p with
  | some c => if c.tag = t then some c else none
  | none => none
def textF (l : List Cst) (p : Int) : Option (List UInt8) := (findF l p 1).map (·.s)
def classF (l : List Cst) (p : Int) : Option (List UInt8) := match findF l p 7 with
  | some c => textF l c.a
  | none => none
def namesF (l : List Cst) (p : Int) : Option (List UInt8 × List UInt8) := match findF l p 12 with
  | some c => (match textF l c.a, textF l c.b with
    | some x, some y => some (x, y)
    | _, _ => none)
  | none => none
def memberF (l : List Cst) (p t : Int) : Option (List UInt8 × List UInt8 × List UInt8) := if t ≠ 9 ∧ t ≠ 10 then none else match findF l p t with
  | some c => (match classF l c.a, namesF l c.b with
    | some k, some x => some (k, x.1, x.2)
    | _, _ => none)
  | none => none
theorem atF_no (l : List Cst) (p : Int) (h : ¬ 1 ≤ p ∨ (l.length : Int) ≤ p) : atF l p = none := by
  unfold atF
  by_cases h1 : 1 ≤ p
  · rw [if_pos h1]
    exact List.getElem?_eq_none (by omega)
  · rw [if_neg h1]
theorem atF_yes (l : List Cst) (p : Nat) (h : 1 ≤ p) : atF l (p : Int) = l[p]? := by
  unfold atF
  rw [if_pos (by omega), Int.toNat_natCast]
theorem isF_find (l : List Cst) (p t : Int) : isF l p t = (findF l p t).isSome := by
  unfold isF findF
  cases atF l p with
  | none => rfl
  | some c =>
    simp only
    by_cases h : c.tag = t
    · rw [if_pos h]; simp [h]
    · rw [if_neg h]; simp [h]

end Go.Proofs.Ytendpbklcgiafaa

/- Pools as plain data: forms, which pools may be (the program's and the document's words for it, and that they are one), a pool's bytes. Nothing of the program. -/
namespace Go.Proofs.Ytendpbklcgiafaa
set_option maxRecDepth 100000
open Go.RowKit

structure Frm where
  text : Bool
  num : Int
  a : Int
  b : Int
  deriving DecidableEq
def noFrm : Frm := ⟨false, 0, 0, 0⟩
def formF (t : Int) : Frm :=
  if t = 1 then ⟨true, 0, 0, 0⟩ else if t = 5 then ⟨false, 8, 0, 0⟩ else if t = 3 then ⟨false, 4, 0, 0⟩ else if t = 9 ∨ t = 10 then ⟨false, 0, 7, 12⟩
  else if t = 12 then ⟨false, 0, 1, 1⟩ else if t = 7 ∨ t = 8 then ⟨false, 0, 1, 0⟩ else noFrm
def Frm.v (f : Frm) : Value := .agg #[.bool f.text, .int .i64 f.num, .int .i64 f.a, .int .i64 f.b]
/-- A number's bits. -/
def bits64 (n : Int) : Nat := (n % 18446744073709551616).toNat
theorem u64_le (n : Int) : bits64 n ≤ 18446744073709551615 := by unfold bits64; omega
theorem u64_wrap (n : Int) : IntKind.u64.wrap n = (bits64 n : Int) := by
  rw [IntKind.wrap_u64]
  unfold bits64
  omega
def partF (f : Frm) (c : Cst) : Cst := ⟨c.tag, if f.a = 0 then 0 else c.a, if f.b = 0 then 0 else c.b, if f.num = 0 then 0 else sgn (bits64 c.n) f.num.toNat, if f.text = true then c.s else []⟩
theorem tag_ways (t : Int) : t = 1 ∨ t = 3 ∨ t = 5 ∨ t = 7 ∨ t = 8 ∨ t = 9 ∨ t = 10 ∨ t = 12 ∨ (t ≠ 1 ∧ t ≠ 3 ∧ t ≠ 5 ∧ t ≠ 7 ∧ t ≠ 8 ∧ t ≠ 9 ∧ t ≠ 10 ∧ t ≠ 12) := by omega
theorem formF_no {t : Int} (h : t ≠ 1 ∧ t ≠ 3 ∧ t ≠ 5 ∧ t ≠ 7 ∧ t ≠ 8 ∧ t ≠ 9 ∧ t ≠ 10 ∧ t ≠ 12) : formF t = noFrm := by
  unfold formF
  rw [if_neg h.1, if_neg h.2.2.1, if_neg h.2.1, if_neg (by omega), if_neg (by omega), if_neg (by omega)]

/-- What any bytes tell. -/
noncomputable def decF (s : List UInt8) : Option (List Nat) := Classical.choose (decR_ex s.length s (Nat.le_refl _))
theorem decF_is (s : List UInt8) : DecR s (decF s) := Classical.choose_spec (decR_ex s.length s (Nat.le_refl _))
noncomputable def isTextF (s : List UInt8) : Bool := decide (s.length ≤ 65535) && (decF s).isSome
theorem isTextF_nil : isTextF [] = true := by
  unfold isTextF
  rw [decR_fun (decF_is []) _ DecR.nil |>.symm]
  rfl

/-- May what stands at a place stand there? -/
noncomputable def mayF (l : List Cst) (k : Nat) : Bool := match l[k]? with
  | none => false
  | some c => if k = 0 ∨ (l[k - 1]?.map (·.tag)) = some 5 then decide (c = zeroC)
    else if formF c.tag = noFrm ∨ c ≠ partF (formF c.tag) c then false
    else isTextF c.s && (tagAtF l c.a == (formF c.tag).a) && (tagAtF l c.b == (formF c.tag).b)
def lastTag (l : List Cst) : Int := (l.getLast?.map (·.tag)).getD 0
noncomputable def checkF (l : List Cst) : Bool := decide (1 ≤ l.length ∧ l.length ≤ 1024) && (List.range l.length).all (mayF l) && (lastTag l != 5)

/-- The document's words for it. -/
noncomputable def tailR (l : List Cst) (i : Nat) (c : Cst) : Bool :=
  if c.tag = 0 then decide (i = 0 ∨ (l[i - 1]?.map (·.tag)) = some 5)
  else if c.tag = 1 then isTextF c.s
  else if c.tag = 3 then c.n == wrap32 c.n
  else if c.tag = 5 then decide ((l[i + 1]?.map (·.tag)) = some 0)
  else if c.tag = 7 ∨ c.tag = 8 then isF l c.a 1
  else if c.tag = 12 then isF l c.a 1 && isF l c.b 1
  else if c.tag = 9 ∨ c.tag = 10 then isF l c.a 7 && isF l c.b 12
  else false
def headR (c : Cst) : Bool := decide ((c.tag = 1 ∨ c.s = []) ∧ (c.tag = 3 ∨ c.tag = 5 ∨ c.n = 0) ∧ (c.tag = 9 ∨ c.tag = 10 ∨ c.tag = 12 ∨ c.b = 0) ∧ (c.tag = 9 ∨ c.tag = 10 ∨ c.tag = 12 ∨ c.tag = 7 ∨ c.tag = 8 ∨ c.a = 0))
noncomputable def rightR (l : List Cst) (i : Nat) : Bool := match l[i]? with
  | none => false
  | some c => headR c && tailR l i c
noncomputable def rightF (l : List Cst) : Bool := decide (1 ≤ l.length ∧ l.length ≤ 1024) && decide ((l[0]?.map (·.tag)) = some 0) && (List.range l.length).all (rightR l)

theorem sgn4 (n : Int) (h : -9223372036854775808 ≤ n ∧ n ≤ 9223372036854775807) : sgn (bits64 n) 4 = wrap32 n := by
  unfold sgn bits64 wrap32
  have e1 : (2 ^ (8 * 4) : Nat) = 4294967296 := rfl
  have e2 : (2 ^ (8 * 4 - 1) : Nat) = 2147483648 := rfl
  rw [e1, e2]
  split <;> omega
theorem sgn8 (n : Int) (h : -9223372036854775808 ≤ n ∧ n ≤ 9223372036854775807) : sgn (bits64 n) 8 = n := by
  unfold sgn bits64
  have e1 : (2 ^ (8 * 8) : Nat) = 18446744073709551616 := rfl
  have e2 : (2 ^ (8 * 8 - 1) : Nat) = 9223372036854775808 := rfl
  rw [e1, e2]
  split <;> omega

theorem tagAt_zero (l : List Cst) : tagAtF l 0 = 0 := rfl
theorem tagAt_is (l : List Cst) (p t : Int) (ht : t ≠ 0) : (tagAtF l p == t) = isF l p t := by
  unfold tagAtF isF
  cases atF l p with
  | none => simp; omega
  | some c => rfl

theorem lastTag_at (l : List Cst) (h : 1 ≤ l.length) : l[l.length - 1]?.map (·.tag) = some (lastTag l) := by
  unfold lastTag
  rw [List.getLast?_eq_getElem?]
  have : ∃ c, l[l.length - 1]? = some c := ⟨l[l.length - 1], List.getElem?_eq_getElem (by omega)⟩
  obtain ⟨c, hc⟩ := this
  rw [hc]
  rfl

theorem headR_zero : headR zeroC = true := by unfold headR; exact decide_eq_true (by decide)

/-- Of a place that isn't a long's second one, and has a tag: both tests are one. -/
theorem place_same (l : List Cst) (i : Nat) (c : Cst) (hok : c.ok) (hi : l[i]? = some c) (h0 : i ≠ 0) (hp : (l[i - 1]?.map (·.tag)) ≠ some 5) (h5 : c.tag = 5 → (l[i + 1]?.map (·.tag)) = some 0) :
    mayF l i = rightR l i := by
  unfold mayF rightR
  rw [hi]
  simp only
  rw [if_neg (fun h => h.elim h0 hp)]
  obtain ⟨t, a, b, n, s⟩ := c
  have hn := hok.n
  simp only at hn h5
  rcases tag_ways t with rfl | rfl | rfl | rfl | rfl | rfl | rfl | rfl | h
  · simp [formF, partF, noFrm, headR, tailR]
    by_cases ha : a = 0 <;> by_cases hb : b = 0 <;> by_cases hn : n = 0 <;> simp [ha, hb, hn, tagAt_zero]
  · simp [formF, partF, noFrm, headR, tailR]
    rw [sgn4 n hn]
    by_cases ha : a = 0 <;> by_cases hb : b = 0 <;> by_cases hs : s = [] <;> simp [ha, hb, hs, tagAt_zero, isTextF_nil, Bool.beq_eq_decide_eq]
  · simp [formF, partF, noFrm, headR, tailR, h5]
    rw [sgn8 n hn]
    by_cases ha : a = 0 <;> by_cases hb : b = 0 <;> by_cases hs : s = [] <;> simp [ha, hb, hs, tagAt_zero, isTextF_nil]
  · simp [formF, partF, noFrm, headR, tailR]
    by_cases hb : b = 0 <;> by_cases hn : n = 0 <;> by_cases hs : s = [] <;> simp [hn, hb, hs, tagAt_zero, isTextF_nil, tagAt_is]
  · simp [formF, partF, noFrm, headR, tailR]
    by_cases hb : b = 0 <;> by_cases hn : n = 0 <;> by_cases hs : s = [] <;> simp [hn, hb, hs, tagAt_zero, isTextF_nil, tagAt_is]
  · simp [formF, partF, noFrm, headR, tailR]
    by_cases hn : n = 0 <;> by_cases hs : s = [] <;> simp [hn, hs, tagAt_zero, isTextF_nil, tagAt_is]
  · simp [formF, partF, noFrm, headR, tailR]
    by_cases hn : n = 0 <;> by_cases hs : s = [] <;> simp [hn, hs, tagAt_zero, isTextF_nil, tagAt_is]
  · simp [formF, partF, noFrm, headR, tailR]
    by_cases hn : n = 0 <;> by_cases hs : s = [] <;> simp [hn, hs, tagAt_zero, isTextF_nil, tagAt_is]
  · rw [if_pos (Or.inl (formF_no h))]
    symm
    rw [Bool.and_eq_false_iff]
    right
    unfold tailR
    simp only
    by_cases ht : t = 0
    · rw [if_pos ht]
      exact decide_eq_false (fun h => h.elim h0 hp)
    · rw [if_neg ht, if_neg h.1, if_neg h.2.1, if_neg h.2.2.1, if_neg (by omega), if_neg (by omega), if_neg (by omega)]

theorem headR_tag0 {c : Cst} (h : headR c = true) (ht : c.tag = 0) : c = zeroC := by
  unfold headR at h
  have h := of_decide_eq_true h
  obtain ⟨t, a, b, n, s⟩ := c
  simp only at ht h
  subst ht
  simp at h
  obtain ⟨h1, h2, h3, h4⟩ := h
  subst h1 h2 h3 h4
  rfl

theorem check_right (l : List Cst) (hok : ∀ c ∈ l, c.ok) : checkF l = rightF l := by
  rw [Bool.eq_iff_iff]
  unfold checkF rightF
  simp only [Bool.and_eq_true, decide_eq_true_eq, List.all_eq_true, List.mem_range, bne_iff_ne, ne_eq]
  constructor
  · rintro ⟨⟨hlen, hall⟩, hlast⟩
    have h0 : l[0]?.map (·.tag) = some 0 := by
      have := hall 0 (by omega)
      unfold mayF at this
      obtain ⟨c, hc⟩ : ∃ c, l[0]? = some c := ⟨l[0], List.getElem?_eq_getElem (by omega)⟩
      rw [hc] at this ⊢
      simp at this
      rw [this]
      rfl
    refine ⟨⟨hlen, h0⟩, fun i hi => ?_⟩
    obtain ⟨c, hc⟩ : ∃ c, l[i]? = some c := ⟨l[i], List.getElem?_eq_getElem hi⟩
    have hm := hall i hi
    by_cases hz : i = 0 ∨ (l[i - 1]?.map (·.tag)) = some 5
    · unfold mayF at hm
      rw [hc] at hm
      simp only at hm
      rw [if_pos hz] at hm
      have hcz : c = zeroC := of_decide_eq_true hm
      unfold rightR
      rw [hc, hcz]
      simp only [headR_zero, Bool.true_and]
      unfold tailR
      rw [if_pos (show zeroC.tag = 0 from rfl)]
      exact decide_eq_true hz
    · rw [place_same l i c (hok c (List.mem_of_getElem? hc)) hc (fun h => hz (.inl h)) (fun h => hz (.inr h)) ?_] at hm
      · exact hm
      · intro ht
        by_cases hl : i + 1 < l.length
        · have hm2 := hall (i + 1) hl
          obtain ⟨d, hd⟩ : ∃ d, l[i + 1]? = some d := ⟨l[i + 1], List.getElem?_eq_getElem hl⟩
          unfold mayF at hm2
          rw [hd] at hm2
          simp only [Nat.add_sub_cancel] at hm2
          rw [if_pos (.inr (by rw [hc]; simp [ht]))] at hm2
          rw [hd, of_decide_eq_true hm2]
          rfl
        · exfalso
          apply hlast
          have := lastTag_at l hlen.1
          rw [show l.length - 1 = i by omega, hc] at this
          simp at this
          omega
  · rintro ⟨⟨hlen, h0⟩, hall⟩
    have h5 : ∀ (i : Nat) (c : Cst), l[i]? = some c → c.tag = 5 → (l[i + 1]?.map (·.tag)) = some 0 := by
      intro i c hc ht
      have hi : i < l.length := (List.getElem?_eq_some_iff.mp hc).1
      have := hall i hi
      unfold rightR at this
      rw [hc] at this
      simp only [Bool.and_eq_true] at this
      have h2 := this.2
      unfold tailR at h2
      rw [ht] at h2
      simpa using h2
    refine ⟨⟨hlen, fun i hi => ?_⟩, ?_⟩
    · obtain ⟨c, hc⟩ : ∃ c, l[i]? = some c := ⟨l[i], List.getElem?_eq_getElem hi⟩
      have hr := hall i hi
      by_cases hz : i = 0 ∨ (l[i - 1]?.map (·.tag)) = some 5
      · have ht : c.tag = 0 := by
          rcases hz with rfl | hz
          · rw [hc] at h0; simpa using h0
          · cases hp : l[i - 1]? with
            | none => rw [hp] at hz; simp at hz
            | some d =>
              rw [hp] at hz
              have := h5 (i - 1) d hp (by simpa using hz)
              by_cases hi0 : i = 0
              · subst hi0
                rw [hc] at h0; simpa using h0
              · rw [show i - 1 + 1 = i by omega, hc] at this
                simpa using this
        unfold rightR at hr
        rw [hc] at hr
        simp only [Bool.and_eq_true] at hr
        unfold mayF
        rw [hc]
        simp only
        rw [if_pos hz]
        exact decide_eq_true (headR_tag0 hr.1 ht)
      · rw [place_same l i c (hok c (List.mem_of_getElem? hc)) hc (fun h => hz (.inl h)) (fun h => hz (.inr h)) (h5 i c hc)]
        exact hr
    · intro hl
      have := lastTag_at l hlen.1
      cases hp : l[l.length - 1]? with
      | none => rw [hp] at this; simp at this
      | some d =>
        rw [hp, hl] at this
        have h := h5 _ d hp (by simpa using this)
        rw [show l.length - 1 + 1 = l.length by omega] at h
        simp at h

end Go.Proofs.Ytendpbklcgiafaa
