/- A pool with one text more: it may be, and tells the same. -/
import Derived.Test.YtinkjeifkjfkgaaVn
namespace Go.Proofs.Ytinkjeifkjfkgaa
set_option maxRecDepth 100000
open Go.ChangeShapes Go.WideShapes Go.ChangeAt Go.RowKit Go.Joins

theorem Try.infoConst : (Try.prog.info? 41).map (fun i => (i.zero, i.size, i.bytes)) = some (some zeroC.v, 5, 48) := by kernel_rfl
theorem wpList_append_cst {ops : Array Oper} {rest : List Oper} {q : Oper} {u : Act} {w : World} {S : Nat → Prop} {Q : Exit → Act → World → Prop} (hgd : q.guard = none) (s x : Operand) (hq : q.op = .call { callee := .builtin .append, args := #[s, x], argTypes := #[22, 22] })
    (base : Nat) (B : Option Addr) (m0 c0 : Nat) (zs : List Cst) (hs : u.eval s = .slice B m0 c0) (hown : GotR Cst.cells 5 41 base w B m0 c0 zs) (A : Option Addr) (m c : Nat) (l : List Cst)
    (hx : u.eval x = .slice A m c) (hB : RowSl Cst.cells 5 w S A m c l) (hn : A = none → m = 0 ∧ c = 0) (hm : m0 + m ≤ 16777216) (hbase : base ≤ w.heap.size)
    (h : ∀ A' c' w', GotR Cst.cells 5 41 base w' A' (m0 + m) c' (zs ++ l) → w.grownBy w' (Value.slice B m0 c0).ownBlock → (∀ g, (Value.slice B m0 c0).ownBlock = some g → base ≤ g) → wpList Try.prog ops Q rest (u.put q.dst (.slice A' (m0 + m) c')) w') : wpList Try.prog ops Q (q :: rest) u w :=
  wpList_append_rows Cst.cells_len Cst.cells_one (by decide) 22 41 _ 48 Try.underlying22 Try.infoConst (by simp [zeroC, Cst.v, Value.cells]) (by decide) hgd s x hq base B m0 c0 zs hs hown A m c l hx hB hn hm hbase (fun A' c' w' h1 h2 h3 _ => h A' c' w' h1 h2 h3)
theorem made_consts (w : World) (base : Nat) (h : base ≤ w.heap.size) : GotR Cst.cells 5 41 base (w.alloc (.cells #[] 41)) (some ⟨w.heap.size, 0, none⟩) 0 0 [] := by
  obtain ⟨A, c, e, hG⟩ := GotR.of_own (cells := Cst.cells) (k := 5) (t := 41) (base := base) (l := []) Cst.cells_len (World.ownsRow_made (base := base) (e := 41) (size := 5) w #[] 0 h (by decide) rfl) rfl
  cases e
  exact hG

/-! ### A pool with one text more -/
def moreC : Cst := ⟨1, 0, 0, 0, [109, 111, 114, 101]⟩
theorem moreC_text : isTextF moreC.s = true := by
  have h := decR_enc [109, 111, 114, 101] (by simp)
  have e : encT [109, 111, 114, 101] = [109, 111, 114, 101] := by decide
  rw [e] at h
  unfold isTextF moreC
  simp only
  rw [← decR_fun (decF_is [109, 111, 114, 101]) _ h]
  rfl
theorem atF_snoc (l : List Cst) (x : Cst) (p : Int) (c : Cst) (h : atF l p = some c) : atF (l ++ [x]) p = some c := by
  unfold atF at *
  by_cases h1 : 1 ≤ p
  · rw [if_pos h1] at *
    rw [List.getElem?_append_left (List.getElem?_eq_some_iff.mp h).1]
    exact h
  · rw [if_neg h1] at h
    cases h
theorem atF_lt (l : List Cst) (x : Cst) (p : Int) (h : p < (l.length : Int)) : atF (l ++ [x]) p = atF l p := by
  unfold atF
  by_cases h1 : 1 ≤ p
  · rw [if_pos h1, if_pos h1, List.getElem?_append_left (by omega)]
  · rw [if_neg h1, if_neg h1]
theorem findF_lt (l : List Cst) (x : Cst) (p t : Int) (h : p < (l.length : Int)) : findF (l ++ [x]) p t = findF l p t := by
  unfold findF
  rw [atF_lt l x p h]
theorem textF_lt (l : List Cst) (x : Cst) (p : Int) (h : p < (l.length : Int)) : textF (l ++ [x]) p = textF l p := by
  unfold textF
  rw [findF_lt l x p 1 h]
theorem tagAt_snoc (l : List Cst) (x : Cst) (p t : Int) (ht : t ≠ 0) (h : tagAtF l p = t) : tagAtF (l ++ [x]) p = t := by
  unfold tagAtF at *
  cases hc : atF l p with
  | none => rw [hc] at h; exact absurd h.symm ht
  | some c =>
    rw [atF_snoc l x p c hc]
    rw [hc] at h
    exact h
theorem tagAt_lt (l : List Cst) (p t : Int) (ht : t ≠ 0) (h : tagAtF l p = t) : p < (l.length : Int) := by
  unfold tagAtF at h
  by_cases hp : p < (l.length : Int)
  · exact hp
  · rw [atF_no l p (.inr (by omega))] at h
    exact absurd h.symm ht
theorem may_all {l : List Cst} (h : checkF l = true) : ∀ k, k < l.length → mayF l k = true := fun k hk => by
  unfold checkF at h
  rw [Bool.and_eq_true, Bool.and_eq_true] at h
  exact List.all_eq_true.mp h.1.2 k (List.mem_range.mpr hk)
theorem check_last {l : List Cst} (h : checkF l = true) : lastTag l ≠ 5 := by
  unfold checkF at h
  rw [Bool.and_eq_true] at h
  simpa using h.2
theorem part_zero {c : Cst} (h : c = partF (formF c.tag) c) : ((formF c.tag).a = 0 → c.a = 0) ∧ ((formF c.tag).b = 0 → c.b = 0) := by
  refine ⟨fun h0 => ?_, fun h0 => ?_⟩
  · have := congrArg Cst.a h
    simp only [partF] at this
    rw [if_pos h0] at this
    exact this
  · have := congrArg Cst.b h
    simp only [partF] at this
    rw [if_pos h0] at this
    exact this

theorem may_snoc (l : List Cst) (x : Cst) (k : Nat) (hk : k < l.length) (h : mayF l k = true) : mayF (l ++ [x]) k = true := by
  unfold mayF at *
  have hc : l[k]? = some l[k] := List.getElem?_eq_getElem hk
  generalize l[k] = c at hc
  rw [List.getElem?_append_left hk, List.getElem?_append_left (by omega : k - 1 < l.length)]
  rw [hc] at h ⊢
  simp only at h ⊢
  by_cases hz : k = 0 ∨ (l[k - 1]?.map (·.tag)) = some 5
  · rw [if_pos hz] at h ⊢
    exact h
  · rw [if_neg hz] at h ⊢
    by_cases hf : formF c.tag = noFrm ∨ c ≠ partF (formF c.tag) c
    · rw [if_pos hf] at h
      cases h
    · rw [if_neg hf] at h ⊢
      rw [Bool.and_eq_true, Bool.and_eq_true] at h
      obtain ⟨⟨h1, h2⟩, h3⟩ := h
      have hp : c = partF (formF c.tag) c := Decidable.not_not.mp (fun h => hf (.inr h))
      obtain ⟨hza, hzb⟩ := part_zero hp
      rw [h1, Bool.true_and, Bool.and_eq_true]
      refine ⟨?_, ?_⟩
      · by_cases h0 : (formF c.tag).a = 0
        · rw [hza h0, tagAt_zero, h0]
          rfl
        · rw [beq_iff_eq] at h2 ⊢
          exact tagAt_snoc l x _ _ h0 h2
      · by_cases h0 : (formF c.tag).b = 0
        · rw [hzb h0, tagAt_zero, h0]
          rfl
        · rw [beq_iff_eq] at h3 ⊢
          exact tagAt_snoc l x _ _ h0 h3

theorem check_more (l : List Cst) (h : checkF l = true) (hl : l.length + 1 ≤ 1024) : checkF (l ++ [moreC]) = true := by
  have hlen : 1 ≤ l.length := by
    unfold checkF at h
    rw [Bool.and_eq_true, Bool.and_eq_true] at h
    exact (of_decide_eq_true h.1.1).1
  have hall := may_all h
  have hlast := check_last h
  unfold checkF
  rw [Bool.and_eq_true, Bool.and_eq_true]
  refine ⟨⟨decide_eq_true (by simp; omega), List.all_eq_true.mpr fun k hk => ?_⟩, ?_⟩
  · rw [List.mem_range, List.length_append, List.length_singleton] at hk
    by_cases hk2 : k < l.length
    · exact may_snoc l moreC k hk2 (hall k hk2)
    · obtain rfl : k = l.length := by omega
      unfold mayF
      rw [List.getElem?_append_right (Nat.le_refl _), Nat.sub_self, List.getElem?_append_left (by omega : l.length - 1 < l.length), lastTag_at l hlen]
      simp only [List.getElem?_cons_zero]
      rw [if_neg (by rintro (h1 | h1); omega; exact hlast (by simpa using h1))]
      rw [if_neg (by decide), moreC_text]
      rfl
  · unfold lastTag
    rw [List.getLast?_append]
    simp [moreC]

theorem class_more (l : List Cst) (x : Cst) (p : Int) (h : checkF l = true) (hp : p < (l.length : Int)) : classF (l ++ [x]) p = classF l p := by
  unfold classF
  rw [findF_lt l x p 7 hp]
  cases hf : findF l p 7 with
  | none => rfl
  | some c =>
    simp only
    apply textF_lt
    unfold findF at hf
    cases hc : atF l p with
    | none => rw [hc] at hf; cases hf
    | some d =>
      rw [hc] at hf
      simp only at hf
      by_cases ht : d.tag = 7
      · rw [if_pos ht] at hf
        cases hf
        have h1 : 1 ≤ p := by
          unfold atF at hc
          by_cases h1 : 1 ≤ p
          · exact h1
          · rw [if_neg h1] at hc
            cases hc
        obtain ⟨k, rfl⟩ := Int.eq_ofNat_of_zero_le (show 0 ≤ p by omega)
        have hk : l[k]? = some c := by rw [← atF_yes l k (by omega)]; exact hc
        have hm := may_all h k (by omega)
        unfold mayF at hm
        rw [hk] at hm
        simp only at hm
        by_cases hz : k = 0 ∨ (l[k - 1]?.map (·.tag)) = some 5
        · rw [if_pos hz] at hm
          rw [of_decide_eq_true hm] at ht
          cases ht
        · rw [if_neg hz] at hm
          by_cases hff : formF c.tag = noFrm ∨ c ≠ partF (formF c.tag) c
          · rw [if_pos hff] at hm
            cases hm
          · rw [if_neg hff, Bool.and_eq_true, Bool.and_eq_true, beq_iff_eq] at hm
            have h2 := hm.1.2
            rw [ht] at h2
            exact tagAt_lt l c.a 1 (by decide) h2
      · rw [if_neg ht] at hf
        cases hf

end Go.Proofs.Ytinkjeifkjfkgaa
