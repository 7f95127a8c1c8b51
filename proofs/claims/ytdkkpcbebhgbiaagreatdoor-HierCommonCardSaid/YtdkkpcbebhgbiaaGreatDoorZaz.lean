/- What classes have in common, in a world whose classes go together. Nothing of the program. -/
import Derived.Test.YtdkkpcbebhgbiaaGreatDoorZay
import Derived.Test.YtdkkpcbebhgbiaaGreatDoorZaw
import Derived.Test.YtdkkpcbebhgbiaaGreatDoorZas
import Derived.Test.YtdkkpcbebhgbiaaGreatDoorZar
import Derived.Test.YtdkkpcbebhgbiaaGreatDoorZal
namespace Go.Proofs.YtdkkpcbebhgbiaaGreatDoor
set_option maxRecDepth 100000

section
variable {w : List UnD}
/-- The names of a class's line. -/
abbrev lnN (w : List UnD) (c : Bs) : List Bs := namesL w w.length c
theorem there_ends (hG : Good w) {c : Bs} {u : UnD} (h : findU w c = some u) : ∃ k, endsIn w (k + 1) c ∧ lnN w c = (lineU w (k + 1) c).map (·.name) := by
  obtain ⟨h1, h2⟩ := findU_name h
  obtain ⟨k, hk, he⟩ := hG.ends u h2
  rw [h1] at he
  cases k with
  | zero => rw [show findU w c = none from he] at h; cases h
  | succ k => exact ⟨k, he, by show (lineU w w.length c).map (·.name) = _; rw [(line_ends he _ hk).1]⟩
theorem lnN_none {c : Bs} (h : findU w c = none) : lnN w c = [] := by show (lineU w w.length c).map (·.name) = []; rw [line_none h]; rfl
theorem lnN_there {c x : Bs} (h : x ∈ lnN w c) : (findU w c).isSome := by
  cases hf : findU w c with
  | none => rw [lnN_none hf] at h; cases h
  | some u => rfl
/-- What stands in a line is there, and its line is the rest. -/
theorem lnN_rest (hG : Good w) {c x : Bs} (h : x ∈ lnN w c) : ∃ pre, lnN w c = pre ++ lnN w x ∧ (findU w x).isSome := by
  cases hf : findU w c with
  | none => rw [lnN_none hf] at h; cases h
  | some u =>
    obtain ⟨k, he, hl⟩ := there_ends hG hf
    rw [hl] at h
    obtain ⟨v, hv, rfl⟩ := List.mem_map.1 h
    obtain ⟨pre, j, hj, he2, hp, _⟩ := line_at he hv
    have hv2 := (line_mem hv).2
    obtain ⟨k2, he3, hl2⟩ := there_ends hG hv2
    have := ends_uniq he2 he3
    subst this
    refine ⟨pre.map (·.name), ?_, by rw [hv2]; rfl⟩
    rw [hl, hp, List.map_append, hl2]
theorem lnN_self (hG : Good w) {c : Bs} {u : UnD} (h : findU w c = some u) : ∃ r, lnN w c = c :: r := by
  obtain ⟨k, he, hl⟩ := there_ends hG h
  rw [hl, line_some h]
  exact ⟨_, by rw [List.map_cons, (findU_name h).1]⟩
theorem lnN_trans (hG : Good w) {a b c : Bs} (h1 : b ∈ lnN w a) (h2 : c ∈ lnN w b) : c ∈ lnN w a := by
  obtain ⟨pre, h, _⟩ := lnN_rest hG h1
  rw [h]
  exact List.mem_append_right _ h2
theorem lnN_anti (hG : Good w) {a b : Bs} (h1 : b ∈ lnN w a) (h2 : a ∈ lnN w b) : a = b := by
  obtain ⟨p, hp, hb⟩ := lnN_rest hG h1
  obtain ⟨q, hq, ha⟩ := lnN_rest hG h2
  have hl : (lnN w a).length = p.length + (lnN w b).length := by rw [hp, List.length_append]
  have hl2 : (lnN w b).length = q.length + (lnN w a).length := by rw [hq, List.length_append]
  have hp0 : p = [] := List.eq_nil_of_length_eq_zero (by omega)
  rw [hp0, List.nil_append] at hp
  obtain ⟨u, hu⟩ := Option.isSome_iff_exists.1 ha
  obtain ⟨v, hv⟩ := Option.isSome_iff_exists.1 hb
  obtain ⟨r, hr⟩ := lnN_self hG hu
  obtain ⟨t, ht⟩ := lnN_self hG hv
  rw [hr, ht] at hp
  exact (List.cons.inj hp).1
/-- Every line that isn't empty ends with Object. -/
theorem lnN_object (hG : Good w) {c : Bs} {u : UnD} (h : findU w c = some u) : cObject ∈ lnN w c := by
  obtain ⟨k, he, hl⟩ := there_ends hG h
  obtain ⟨v, h1, h2, h3⟩ := ends_last he
  rw [hl]
  exact List.mem_map.2 ⟨v, List.mem_of_getLast? h1, hG.last v h2 h3⟩
theorem isB_iff {a b : Bs} : isB w a b = true ↔ b ∈ lnN w a := by unfold isB; exact List.contains_iff_mem
/-- The first one of a's line that b is, too. -/
theorem common_spec (hG : Good w) {a b : Bs} {u v : UnD} (ha : findU w a = some u) (hb : findU w b = some v) : commonB w a b ∈ lnN w a ∧ commonB w a b ∈ lnN w b ∧ ∀ c, c ∈ lnN w a → c ∈ lnN w b → c ∈ lnN w (commonB w a b) := by
  have key : ∀ l : List Bs, (∃ x ∈ l, x ∈ lnN w b) → ∃ pre r, l = pre ++ commonF w b l :: r ∧ commonF w b l ∈ lnN w b ∧ ∀ y ∈ pre, y ∉ lnN w b := by
    intro l
    induction l with
    | nil => rintro ⟨x, hx, _⟩; cases hx
    | cons x l ih =>
      intro h
      by_cases hx : x ∈ lnN w b
      · have e : commonF w b (x :: l) = x := by unfold commonF; rw [if_pos (isB_iff.2 hx)]
        exact ⟨[], l, by rw [e]; rfl, by rw [e]; exact hx, fun y hy => by cases hy⟩
      · have e : commonF w b (x :: l) = commonF w b l := by
          show (if isB w b x then x else commonF w b l) = _
          rw [if_neg (fun h => hx (isB_iff.1 h))]
        obtain ⟨pre, r, h1, h2, h3⟩ := ih (by
          obtain ⟨y, hy, hyb⟩ := h
          rcases List.mem_cons.1 hy with rfl | hy
          · exact absurd hyb hx
          · exact ⟨y, hy, hyb⟩)
        refine ⟨x :: pre, r, by rw [e, List.cons_append, ← h1], by rw [e]; exact h2, fun y hy => ?_⟩
        rcases List.mem_cons.1 hy with rfl | hy
        · exact hx
        · exact h3 y hy
  obtain ⟨pre, r, h1, h2, h3⟩ := key (lnN w a) ⟨cObject, lnN_object hG ha, lnN_object hG hb⟩
  have hm : commonB w a b ∈ lnN w a := by
    show commonF w b (lnN w a) ∈ lnN w a
    rw [h1]
    exact List.mem_append_right _ (by rw [← h1]; exact List.mem_cons_self)
  refine ⟨hm, h2, fun c hc hcb => ?_⟩
  obtain ⟨p2, hp2, hs⟩ := lnN_rest hG hm
  obtain ⟨t, ht⟩ := Option.isSome_iff_exists.1 hs
  rw [hp2] at hc
  rcases List.mem_append.1 hc with h | h
  · exfalso
    -- p2 and pre: both end where the first one stands
    obtain ⟨q, hq⟩ := lnN_self hG ht
    have hn : (lnN w a).Nodup := by
      obtain ⟨k, he, hl⟩ := there_ends hG ha
      rw [hl]
      exact line_nodup he
    have e1 : pre ++ commonB w a b :: r = p2 ++ commonB w a b :: q := by
      have : lnN w a = p2 ++ commonB w a b :: q := by rw [hp2, hq]
      rw [← this]; exact h1.symm
    have hnp : commonB w a b ∉ pre := fun hx => h3 _ hx h2
    have hnp2 : commonB w a b ∉ p2 := by
      rw [hp2, hq] at hn
      intro hx
      exact (List.nodup_append.1 hn).2.2 _ hx _ List.mem_cons_self rfl
    have : pre = p2 := by
      have g : ∀ (x y r q : List Bs) (m : Bs), m ∉ x → m ∉ y → x ++ m :: r = y ++ m :: q → x = y := by
        intro x
        induction x with
        | nil =>
          intro y r q m _ hy h
          cases y with
          | nil => rfl
          | cons z y => simp at h; exact absurd h.1 (fun e => hy (by rw [e]; exact List.mem_cons_self))
        | cons z x ih =>
          intro y r q m hx hy h
          cases y with
          | nil => simp at h; exact absurd h.1.symm (fun e => hx (by rw [e]; exact List.mem_cons_self))
          | cons z2 y =>
            simp only [List.cons_append, List.cons.injEq] at h
            rw [h.1, ih y r q m (fun hm => hx (List.mem_cons_of_mem _ hm)) (fun hm => hy (List.mem_cons_of_mem _ hm)) h.2]
      exact g pre p2 r q _ hnp hnp2 e1
    exact h3 c (by rw [this]; exact h) hcb
  · exact h
theorem common_no {a b : Bs} (h : findU w a = none ∨ findU w b = none) : commonB w a b = [] := by
  rcases h with h | h
  · show commonF w b (lnN w a) = []
    rw [lnN_none h]
    rfl
  · exact commonF_none (fun x _ => by
      cases hx : isB w b x with
      | false => rfl
      | true => have := isB_iff.1 hx; rw [lnN_none h] at this; cases this)
theorem common_ne (hG : Good w) {a b : Bs} {u v : UnD} (ha : findU w a = some u) (hb : findU w b = some v) : commonB w a b ≠ [] := fun e => by
  obtain ⟨h1, _⟩ := common_spec hG ha hb
  rw [e] at h1
  obtain ⟨_, _, h⟩ := lnN_rest hG h1
  rw [hG.blank] at h
  cases h
theorem common_symm (hG : Good w) {a b : Bs} {u v : UnD} (ha : findU w a = some u) (hb : findU w b = some v) : commonB w b a = commonB w a b := by
  obtain ⟨h1, h2, h3⟩ := common_spec hG ha hb
  obtain ⟨g1, g2, g3⟩ := common_spec hG hb ha
  exact lnN_anti hG (g3 _ h2 h1) (h3 _ g2 g1)
end

end Go.Proofs.YtdkkpcbebhgbiaaGreatDoor

/- Goes is an order, in a world whose classes go together. Nothing of the program. -/
namespace Go.Proofs.YtdkkpcbebhgbiaaGreatDoor
set_option maxRecDepth 100000

theorem classOf_shape {x c : Bs} (h : classOfF x = some c) : x = objL c := by
  cases x with
  | nil => cases h
  | cons y t =>
    have h' : (if y = 76 ∧ t.getLast? = some 59 then some t.dropLast else none) = some c := h
    by_cases hc : y = 76 ∧ t.getLast? = some 59
    · rw [if_pos hc] at h'
      obtain ⟨rfl, hl⟩ := hc
      have e := Option.some.inj h'
      have hne : t ≠ [] := by rintro rfl; cases hl
      rw [List.getLast?_eq_some_getLast hne] at hl
      have h2 := List.dropLast_concat_getLast hne
      rw [Option.some.inj hl, e] at h2
      show 76 :: t = 76 :: (c ++ [59])
      rw [h2]
    · rw [if_neg hc] at h'
      cases h'
theorem classOf_obj (c : Bs) : classOfF (objL c) = some c := classOf_made c
theorem obj_inj {a b : Bs} (h : objL a = objL b) : a = b := by
  have := classOf_obj a
  rw [h, classOf_obj] at this
  exact (Option.some.inj this).symm
theorem obj_no91 (c : Bs) : hdB 91 (objL c) = false := rfl
theorem obj_ref (c : Bs) : refB (objL c) = true := rfl
theorem obj_notN (c : Bs) : (objL c == [78]) = false := by
  have : objL c ≠ [78] := fun h => by
    have := (List.cons.inj (show (76 : UInt8) :: (c ++ [59]) = 78 :: [] from h)).1
    revert this; decide
  simpa using this
theorem items_same : ∀ a : Bs, (itemsF a a).1 = (itemsF a a).2
  | [] => rfl
  | x :: a => by
    by_cases h : x = 91 ∧ hdB 91 (x :: a) = true ∧ refB a = true
    · obtain ⟨rfl, h1, h2⟩ := h
      rw [itemsF_yes (a := 91 :: a) (b := 91 :: a) rfl rfl h2]
      exact items_same a
    · have : itemsF (x :: a) (x :: a) = (x :: a, x :: a) := by unfold itemsF; rw [if_neg h]
      rw [this]
def goesG (L : List UnD) (a b : Bs) : Bool := goesQ L (itemsF a b).1 (itemsF a b).2
theorem goesG_same (L : List UnD) (a : Bs) : goesG L a a = true := by
  unfold goesG goesQ
  rw [items_same]
  simp
theorem goesG_yes {L : List UnD} {a b : Bs} (h1 : hdB 91 a = true) (h2 : hdB 91 b = true) (h3 : refB a.tail = true) : goesG L a b = goesG L a.tail b.tail := by
  unfold goesG
  rw [itemsF_yes h1 h2 h3]
theorem goesG_no {L : List UnD} {a b : Bs} (h : ¬ (hdB 91 a = true ∧ hdB 91 b = true ∧ refB a.tail = true)) : goesG L a b = goesQ L a b := by
  unfold goesG
  rw [itemsF_no h]
theorem goesQ_iff {L : List UnD} {x y : Bs} : goesQ L x y = true ↔ x = y ∨ (x = [78] ∧ refB y = true) ∨ (hdB 91 x = true ∧ y = objL cObject) ∨ ∃ c d, x = objL c ∧ y = objL d ∧ isB L c d = true := by
  unfold goesQ
  simp only [Bool.or_eq_true, Bool.and_eq_true, beq_iff_eq, or_assoc]
  have : ofB L x y = true ↔ ∃ c d, x = objL c ∧ y = objL d ∧ isB L c d = true := by
    constructor
    · intro h
      unfold ofB at h
      cases hx : classOfF x with
      | none => rw [hx] at h; cases h
      | some c =>
        cases hy : classOfF y with
        | none => rw [hx, hy] at h; cases h
        | some d => rw [hx, hy] at h; exact ⟨c, d, classOf_shape hx, classOf_shape hy, h⟩
    · rintro ⟨c, d, rfl, rfl, h⟩
      unfold ofB
      rw [classOf_obj, classOf_obj]
      exact h
  rw [this]
theorem hd_ref {a : Bs} (h : hdB 91 a = true) : refB a = true := by unfold refB; rw [h]; simp
theorem hd_cons {a : Bs} (h : hdB 91 a = true) : a = 91 :: a.tail := by
  cases a with
  | nil => cases h
  | cons x t =>
    have : x = 91 := by simpa [hdB] using h
    rw [this]; rfl
theorem ref_notN {a : Bs} (h : refB a = true) : a ≠ [78] := by rintro rfl; revert h; decide
theorem object_line {w : List UnD} (hG : Good w) (hobj : findU w cObject = some ⟨cObject, [], [], []⟩) {d : Bs} (h : isB w cObject d = true) : d = cObject := by
  have h1 := isB_iff.1 h
  obtain ⟨k, he, hl⟩ := there_ends hG hobj
  rw [hl, line_some hobj, line_none (by exact hG.blank)] at h1
  simpa using h1

/-- What goes for a reference's type is one, or N; what a reference's type goes for is one. -/
theorem goes_ref {w : List UnD} {a b : Bs} (ha : refB a = true) (h : goesG w a b = true) : refB b = true := by
  by_cases hc : hdB 91 a = true ∧ hdB 91 b = true ∧ refB a.tail = true
  · exact hd_ref hc.2.1
  · rw [goesG_no hc] at h
    rcases goesQ_iff.1 h with rfl | ⟨rfl, h1⟩ | ⟨_, rfl⟩ | ⟨c, d, _, rfl, _⟩
    · exact ha
    · exact h1
    · exact obj_ref _
    · exact obj_ref _
theorem goes_trans {w : List UnD} (hG : Good w) (hobj : findU w cObject = some ⟨cObject, [], [], []⟩) : ∀ (n : Nat) (a b c : Bs), a.length ≤ n → goesG w a b = true → goesG w b c = true → goesG w a c = true := by
  intro n
  induction n with
  | zero =>
    intro a b c hl h1 h2
    obtain rfl : a = [] := List.eq_nil_of_length_eq_zero (by omega)
    rw [goesG_no (by rintro ⟨h, _⟩; cases h)] at h1
    rcases goesQ_iff.1 h1 with rfl | ⟨h, _⟩ | ⟨h, _⟩ | ⟨c, d, h, _⟩
    · exact h2
    · cases h
    · cases h
    · cases h
  | succ n ih =>
    intro a b c hl h1 h2
    by_cases hab : hdB 91 a = true ∧ hdB 91 b = true ∧ refB a.tail = true
    · obtain ⟨ha, hb, hr⟩ := hab
      rw [goesG_yes ha hb hr] at h1
      have hbr := goes_ref hr h1
      by_cases hc : hdB 91 c = true
      · rw [goesG_yes hb hc hbr] at h2
        rw [goesG_yes ha hc hr]
        refine ih _ _ _ ?_ h1 h2
        rw [List.length_tail]
        omega
      · rw [goesG_no (fun h => hc h.2.1)] at h2
        rw [goesG_no (fun h => hc h.2.1)]
        rcases goesQ_iff.1 h2 with rfl | ⟨rfl, _⟩ | ⟨_, rfl⟩ | ⟨x, y, rfl, _, _⟩
        · exact absurd hb hc
        · cases hb
        · exact goesQ_iff.2 (Or.inr (Or.inr (Or.inl ⟨ha, rfl⟩)))
        · rw [obj_no91] at hb; cases hb
    · rw [goesG_no hab] at h1
      rcases goesQ_iff.1 h1 with rfl | ⟨rfl, hr⟩ | ⟨ha, rfl⟩ | ⟨x, y, rfl, rfl, h⟩
      · exact h2
      · rw [goesG_no (by rintro ⟨h, _⟩; cases h)]
        exact goesQ_iff.2 (Or.inr (Or.inl ⟨rfl, goes_ref hr h2⟩))
      · rw [goesG_no (by rintro ⟨h, _⟩; rw [obj_no91] at h; cases h)] at h2
        have hco : c = objL cObject := by
          rcases goesQ_iff.1 h2 with h | ⟨h, _⟩ | ⟨h, _⟩ | ⟨x, y, hx, rfl, h⟩
          · exact h.symm
          · have := obj_notN cObject; rw [h] at this; cases this
          · rw [obj_no91] at h; cases h
          · have := obj_inj hx
            subst this
            rw [object_line hG hobj h]
        subst hco
        rw [goesG_no (by rintro ⟨_, h, _⟩; rw [obj_no91] at h; cases h)]
        exact goesQ_iff.2 (Or.inr (Or.inr (Or.inl ⟨ha, rfl⟩)))
      · rw [goesG_no (by rintro ⟨h, _⟩; rw [obj_no91] at h; cases h)] at h2
        rw [goesG_no (by rintro ⟨h, _⟩; rw [obj_no91] at h; cases h)]
        rcases goesQ_iff.1 h2 with rfl | ⟨h3, _⟩ | ⟨h3, _⟩ | ⟨x2, y2, hx, rfl, h3⟩
        · exact goesQ_iff.2 (Or.inr (Or.inr (Or.inr ⟨x, y, rfl, rfl, h⟩)))
        · have := obj_notN y; rw [h3] at this; cases this
        · rw [obj_no91] at h3; cases h3
        · have := obj_inj hx
          subst this
          exact goesQ_iff.2 (Or.inr (Or.inr (Or.inr ⟨x, y2, rfl, rfl, isB_iff.2 (lnN_trans hG (isB_iff.1 h) (isB_iff.1 h3))⟩)))
/-- Goes is an order. -/
theorem goesP_order {w : List UnD} (hG : Good w) (hobj : findU w cObject = some ⟨cObject, [], [], []⟩) (a b c : Bs) : (goesP w a b = true → goesP w a a = true ∧ goesP w b b = true) ∧ (goesP w a b = true → goesP w b c = true → goesP w a c = true) := by
  have e : ∀ x y, goesP w x y = (thereU w x && thereU w y && goesG w x y) := fun _ _ => rfl
  simp only [e, Bool.and_eq_true]
  refine ⟨fun h => ⟨⟨⟨h.1.1, h.1.1⟩, goesG_same w a⟩, ⟨⟨h.1.2, h.1.2⟩, goesG_same w b⟩⟩, fun h1 h2 => ⟨⟨h1.1.1, h2.1.2⟩, goes_trans hG hobj _ a b c (Nat.le_refl _) h1.2 h2.2⟩⟩

end Go.Proofs.YtdkkpcbebhgbiaaGreatDoor

/- The walk over HierCommon; printed by gen/gen_xa.py. -/
namespace Go.Proofs.YtdkkpcbebhgbiaaGreatDoor
set_option maxRecDepth 100000
open Go.RowKit

set_option maxHeartbeats 8000000 in
theorem hierCommon_calls (A : Option Addr) (n cap : Nat) (xs : List UInt8) (a b c : Bs) (w : World) (hR : ByteSl w (fun q => w.heap.size ≤ q) A n cap xs) (ha : a.length ≤ M47) (hb : b.length ≤ M47) (hc : c.length ≤ M47) :
    Calls Tryz.prog 4 #[.slice A n cap, .string (strB a), .string (strB b), .string (strB c)] w fun e w' => e = .returned (.bool true) ∧ Below w.heap.size w w' := by
  unfold M47 at ha hb hc
  have hz0 : (strB a).size = a.length := strB_size _
  have hz1 : (strB b).size = b.length := strB_size _
  have hz2 : (strB c).size = c.length := strB_size _
  obtain ⟨x0, hx0⟩ : ∃ y, a.length = y := ⟨_, rfl⟩
  obtain ⟨x1, hx1⟩ : ∃ y, b.length = y := ⟨_, rfl⟩
  obtain ⟨x2, hx2⟩ : ∃ y, c.length = y := ⟨_, rfl⟩
  rw [hx0] at hz0 ha
  rw [hx1] at hz1 hb
  rw [hx2] at hz2 hc
  have HX := Lib.hid (And.intro hx0 (And.intro hx1 hx2))
  have HR := Lib.hid hR
  have C1 := Lib.hid (fixed16_any w)
  clear hx0 hx1 hx2 hR
  go_enter Tryz.func4, Tryz.ntmps4
  go_wp2_with fail
  refine C1.out.mono ?_
  rintro e w1 ⟨rfl, hbe⟩
  have HB1 := Lib.hid hbe
  clear hbe C1
  by_cases h200 : 200 < n
  · go_wp2
    go_ret
    exact ⟨rfl, HB1.out⟩
  by_cases h300 : 300 < x0 + x1 + x2
  · go_wp2
    go_ret
    exact ⟨rfl, HB1.out⟩
  have CT := Lib.hid (taped_any w.heap.size A n cap xs w1 (HR.out.only (Only.of_below (S := Empty) HB1.out) (fun _ _ h => h.elim)) HB1.out.size (by omega))
  obtain ⟨wt, hwt⟩ : ∃ W, w1.alloc (.cells #[.slice A n cap, .int .i64 0] 32) = W := ⟨_, rfl⟩
  rw [hwt] at CT
  have HWT := Lib.hid hwt
  have HBT : Hid (Below w.heap.size w wt) := Lib.hid (by rw [← hwt]; exact HB1.out.alloc HB1.out.size _)
  clear hwt
  go_wp2_with fail
  rw [HWT.out]
  refine CT.out.mono ?_
  rintro e w2 ⟨⟨A2, c2, rfl, hR2⟩, hb2⟩
  have HB2 : Hid (Below w.heap.size w w2) := Lib.hid (HB1.out.trans (hb2.mono HB1.out.size))
  have HR2 := Lib.hid hR2
  clear hb2 hR2 CT
  have C3 := Lib.hid (new_any w2 (unitsW xs 0) A2 4 c2 (HR2.out.weak (R' := unW) rfl (fun cs x h => unW_of h)) (by decide) (made_small xs 0))
  go_wp2_with fail
  refine C3.out.mono ?_
  rintro e w3 ⟨hyes, _, hb3⟩
  obtain ⟨p, rfl, hW⟩ := hyes (made_ok xs 0)
  have HB3 := Lib.hid (HB2.out.trans (hb3.mono HB2.out.size))
  have HG : Hid (Good (builtL ++ unitsW xs 0)) := Lib.hid (made_good xs 0)
  have HOB : Hid (findU (builtL ++ unitsW xs 0) cObject = some ⟨cObject, [], [], []⟩) := Lib.hid (findU_built HG.out.nodup (b := ⟨cObject, [], [], []⟩) (by simp [builtL]))
  have HW := Lib.hid hW
  clear hyes hb3 C3 hW HR2
  have HNM : Hid (∀ u ∈ builtL ++ unitsW xs 0, u.name.length ≤ 1000000) := Lib.hid (made_names xs 0)
  obtain ⟨L, hL⟩ : ∃ L, builtL ++ unitsW xs 0 = L := ⟨_, rfl⟩
  rw [hL] at HG HOB HW HNM
  clear hL
  have hl0 : a.length ≤ 1000000 := by rw [HX.out.1]; omega
  have hl1 : b.length ≤ 1000000 := by rw [HX.out.2.1]; omega
  have hl2 : c.length ≤ 1000000 := by rw [HX.out.2.2]; omega
  have HS3 : Hid (Below w3.heap.size w3 w3) := Lib.hid (Below.refl _ _)
  have CHA := Lib.hid (fun W (h : Below w3.heap.size w3 W) => has_any p L a W (HW.out.below h) hl0)
  have CHB := Lib.hid (fun W (h : Below w3.heap.size w3 W) => has_any p L b W (HW.out.below h) hl1)
  have CAB := Lib.hid (fun W (h : Below w3.heap.size w3 W) => common_any p L a b W (HW.out.below h) hl0 hl1)
  cases hfa : findU L a with
  | none =>
    have hm : commonB L a b = [] := common_no (Or.inl hfa)
    rw [hm, show strB [] = (⟨#[]⟩ : ByteArray) from rfl] at CAB
    rw [show (findU L a).isSome = false by rw [hfa]; rfl] at CHA
    clear hl0 hl1 hl2 hm
    go_wp2_with fail
    refine (CAB.out _ HS3.out).mono ?_
    rintro e w4 ⟨rfl, hb⟩
    have HS4 := Lib.hid (HS3.out.trans (hb.mono HS3.out.size))
    clear hb
    go_wp2_with fail
    refine (CHA.out _ HS4.out).mono ?_
    rintro e w5 ⟨rfl, hb⟩
    have HS5 := Lib.hid (HS4.out.trans (hb.mono HS4.out.size))
    clear hb
    go_wp2
    go_ret
    exact ⟨rfl, HB3.out.trans (HS5.out.mono HB3.out.size)⟩
  | some ua =>
    cases hfb : findU L b with
    | none =>
      have hm : commonB L a b = [] := common_no (Or.inr hfb)
      rw [hm, show strB [] = (⟨#[]⟩ : ByteArray) from rfl] at CAB
      rw [show (findU L a).isSome = true by rw [hfa]; rfl] at CHA
      rw [show (findU L b).isSome = false by rw [hfb]; rfl] at CHB
      clear hl0 hl1 hl2 hm
      go_wp2_with fail
      refine (CAB.out _ HS3.out).mono ?_
      rintro e w4 ⟨rfl, hb⟩
      have HS4 := Lib.hid (HS3.out.trans (hb.mono HS3.out.size))
      clear hb
      go_wp2_with fail
      refine (CHA.out _ HS4.out).mono ?_
      rintro e w5 ⟨rfl, hb⟩
      have HS5 := Lib.hid (HS4.out.trans (hb.mono HS4.out.size))
      clear hb
      go_wp2_with fail
      refine (CHB.out _ HS5.out).mono ?_
      rintro e w6 ⟨rfl, hb⟩
      have HS6 := Lib.hid (HS5.out.trans (hb.mono HS5.out.size))
      clear hb
      go_wp2
      go_ret
      exact ⟨rfl, HB3.out.trans (HS6.out.mono HB3.out.size)⟩
    | some ub =>
      have hne := common_ne HG.out hfa hfb
      obtain ⟨hs1, hs2, hs3⟩ := common_spec HG.out hfa hfb
      have hsy := common_symm HG.out hfa hfb
      have CBA := Lib.hid (fun W (h : Below w3.heap.size w3 W) => common_any p L b a W (HW.out.below h) hl1 hl0)
      rw [hsy] at CBA
      obtain ⟨m, hm⟩ : ∃ m, commonB L a b = m := ⟨_, rfl⟩
      rw [hm] at CAB CBA hne hs1 hs2 hs3
      have hlm : m.length ≤ 1000000 := by
        obtain ⟨pre, _, hsm⟩ := lnN_rest HG.out hs1
        obtain ⟨u, hu⟩ := Option.isSome_iff_exists.1 hsm
        obtain ⟨e1, e2⟩ := findU_name hu
        rw [← e1]
        exact HNM.out u e2
      rw [show (findU L a).isSome = true by rw [hfa]; rfl] at CHA
      rw [show (findU L b).isSome = true by rw [hfb]; rfl] at CHB
      have CAM := Lib.hid (fun W (h : Below w3.heap.size w3 W) => is_any p L a m W (HW.out.below h) hl0)
      have CBM := Lib.hid (fun W (h : Below w3.heap.size w3 W) => is_any p L b m W (HW.out.below h) hl1)
      have CAC := Lib.hid (fun W (h : Below w3.heap.size w3 W) => is_any p L a c W (HW.out.below h) hl0)
      have CBC := Lib.hid (fun W (h : Below w3.heap.size w3 W) => is_any p L b c W (HW.out.below h) hl1)
      have CMC := Lib.hid (fun W (h : Below w3.heap.size w3 W) => is_any p L m c W (HW.out.below h) hlm)
      rw [isB_iff.2 hs1] at CAM
      rw [isB_iff.2 hs2] at CBM
      have HS3c : Hid (isB L a c = true → isB L b c = true → isB L m c = true) := Lib.hid (fun h1 h2 => isB_iff.2 (hs3 c (isB_iff.1 h1) (isB_iff.1 h2)))
      have q1 : ¬ (strB m).toList = [] := by rw [strB_toList]; exact hne
      have q2 : ((strB m).toList == []) = false := by simpa using q1
      clear hs1 hs2 hs3 hsy hne hm hlm hl0 hl1 hl2
      go_wp2_with fail
      refine (CAB.out _ HS3.out).mono ?_
      rintro e w4 ⟨rfl, hb⟩
      have HS4 := Lib.hid (HS3.out.trans (hb.mono HS3.out.size))
      clear hb
      go_wp2_with fail
      refine (CHA.out _ HS4.out).mono ?_
      rintro e w5 ⟨rfl, hb⟩
      have HS5 := Lib.hid (HS4.out.trans (hb.mono HS4.out.size))
      clear hb
      go_wp2_with fail
      refine (CHB.out _ HS5.out).mono ?_
      rintro e w6 ⟨rfl, hb⟩
      have HS6 := Lib.hid (HS5.out.trans (hb.mono HS5.out.size))
      clear hb
      go_wp2_with fail
      refine (CAM.out _ HS6.out).mono ?_
      rintro e w7 ⟨rfl, hb⟩
      have HS7 := Lib.hid (HS6.out.trans (hb.mono HS6.out.size))
      clear hb
      go_wp2_with fail
      refine (CBM.out _ HS7.out).mono ?_
      rintro e w8 ⟨rfl, hb⟩
      have HS8 := Lib.hid (HS7.out.trans (hb.mono HS7.out.size))
      clear hb
      go_wp2_with fail
      refine (CBA.out _ HS8.out).mono ?_
      rintro e w9 ⟨rfl, hb⟩
      have HS9 := Lib.hid (HS8.out.trans (hb.mono HS8.out.size))
      clear hb
      cases hac : isB L a c with
      | false =>
        rw [hac] at CAC
        go_wp2_with fail
        refine (CAC.out _ HS9.out).mono ?_
        rintro e w10 ⟨rfl, hb⟩
        have HS10 := Lib.hid (HS9.out.trans (hb.mono HS9.out.size))
        clear hb
        go_wp2
        go_ret
        exact ⟨rfl, HB3.out.trans (HS10.out.mono HB3.out.size)⟩
      | true =>
        rw [hac] at CAC
        go_wp2_with fail
        refine (CAC.out _ HS9.out).mono ?_
        rintro e w10 ⟨rfl, hb⟩
        have HS10 := Lib.hid (HS9.out.trans (hb.mono HS9.out.size))
        clear hb
        cases hbc : isB L b c with
        | false =>
          rw [hbc] at CBC
          go_wp2_with fail
          refine (CBC.out _ HS10.out).mono ?_
          rintro e w11 ⟨rfl, hb⟩
          have HS11 := Lib.hid (HS10.out.trans (hb.mono HS10.out.size))
          clear hb
          go_wp2
          go_ret
          exact ⟨rfl, HB3.out.trans (HS11.out.mono HB3.out.size)⟩
        | true =>
          have hmc := HS3c.out hac hbc
          rw [hbc] at CBC
          rw [hmc] at CMC
          go_wp2_with fail
          refine (CBC.out _ HS10.out).mono ?_
          rintro e w11 ⟨rfl, hb⟩
          have HS11 := Lib.hid (HS10.out.trans (hb.mono HS10.out.size))
          clear hb
          go_wp2_with fail
          refine (CMC.out _ HS11.out).mono ?_
          rintro e w12 ⟨rfl, hb⟩
          have HS12 := Lib.hid (HS11.out.trans (hb.mono HS11.out.size))
          clear hb
          go_wp2
          go_ret
          exact ⟨rfl, HB3.out.trans (HS12.out.mono HB3.out.size)⟩

end Go.Proofs.YtdkkpcbebhgbiaaGreatDoor
