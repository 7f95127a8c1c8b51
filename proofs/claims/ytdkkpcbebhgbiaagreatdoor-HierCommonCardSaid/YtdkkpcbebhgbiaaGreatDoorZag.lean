/- Each of the writer's steps keeps a code in shape. Nothing of the program. -/
import Derived.Test.YtdkkpcbebhgbiaaGreatDoorZad
import Derived.Test.YtdkkpcbebhgbiaaGreatDoorZaa
namespace Go.Proofs.YtdkkpcbebhgbiaaGreatDoor
set_option maxRecDepth 100000
open Ws

def PresW (F : Ws → Ws) : Prop := ∀ s, Stp9 s (F s)
/-- Operations that go on just to the next one, whatever their numbers are. -/
def quietB (o : UInt8) : Bool := !(formN o.toNat == 0) && !(formN o.toNat == 2) && !(formN o.toNat == 8) && !(formN o.toNat == 7) && !endsB o
theorem quiet_plain {x : InD} (h : quietB x.op = true) : plainI x := by
  unfold quietB at h
  simp only [Bool.and_eq_true, Bool.not_eq_true', beq_eq_false_iff_ne, ne_eq] at h
  obtain ⟨⟨⟨⟨h0, h2⟩, h8⟩, h7⟩, he⟩ := h
  refine ⟨?_, ?_, he⟩
  · unfold rightB
    simp [h0, h2, h8]
  · unfold branchB
    simpa using h7
theorem quiet_getD {l : List UInt8} (h : (0 :: l).all quietB = true) (k : Nat) : quietB (l.getD k 0) = true := by
  rw [List.getD_eq_getElem?_getD]
  cases hk : l[k]? with
  | none => exact List.all_eq_true.1 h 0 List.mem_cons_self
  | some o => exact List.all_eq_true.1 h o (List.mem_cons_of_mem _ (List.mem_of_getElem? hk))
/-- Loads, stores of one place, within the locals. -/
theorem local_plain {x : InD} (hf : formN x.op.toNat = 2 ∨ formN x.op.toNat = 8) (hl : longB x.op = false) (he : endsB x.op = false) (h0 : 0 ≤ x.n) (h8 : x.n < 8) : plainI x := by
  refine ⟨?_, ?_, he⟩
  · unfold rightB inI
    rw [if_neg (by rcases hf with h | h <;> rw [h] <;> decide), if_pos hf, hl]
    simp [h0, h8]
  · unfold branchB
    rcases hf with h | h <;> rw [h] <;> decide
theorem stp_quiet {s t : Ws} (h : Stp9 s t) {x : InD} (hx : quietB x.op = true) : Stp9 s (t.push x) := h.trans (Stp9.push t (quiet_plain hx))
theorem stp_q {s t : Ws} (h : Stp9 s t) (o : UInt8) (ho : quietB o = true) {n m : Int} {c nm d tx : Bs} : Stp9 s (t.push ⟨o, n, m, c, nm, d, tx⟩) := h.trans (Stp9.push t (quiet_plain ho))
def locB (o : UInt8) : Bool := (formN o.toNat == 2 || formN o.toNat == 8) && !longB o && !endsB o
theorem stp_local {s t : Ws} (h : Stp9 s t) (o : UInt8) (ho : locB o = true) {n m : Int} (h0 : 0 ≤ n) (h8 : n < 8) : Stp9 s (t.push ⟨o, n, m, [], [], [], []⟩) := by
  unfold locB at ho
  simp only [Bool.and_eq_true, Bool.or_eq_true, beq_iff_eq, Bool.not_eq_true'] at ho
  exact h.trans (Stp9.push t (local_plain ho.1.1 ho.1.2 ho.2 h0 h8))
theorem stp_long {s t : Ws} (h : Stp9 s t) {o : UInt8} (ho : o = 22 ∨ o = 55) : Stp9 s (t.op o 3) := h.trans (Stp9.push t (by rcases ho with rfl | rfl <;> exact ⟨by decide +kernel, by decide +kernel, by decide +kernel⟩))
theorem num_quiet (n : Int) : quietB (numI n).op = true := by
  unfold numI
  split
  · rename_i h
    have hall : ∀ j, j ≤ 8 → quietB (UInt8.ofNat j) = true := by decide +kernel
    exact hall _ (by omega)
  split
  · exact (by decide +kernel : quietB 16 = true)
  split
  · exact (by decide +kernel : quietB 17 = true)
  · exact (by decide +kernel : quietB 18 = true)
theorem pres_leaf (xs : Bs) (k : Nat) : PresW (leafI xs k) := fun s => by
  have hn := Stp9.nx xs s
  unfold leafI
  split
  · have := nxV_lt (xs := xs) (k := 3) (a := s.at_) (by decide)
    exact stp_local hn 21 (by decide +kernel) (by omega) (by omega)
  · split
    · exact stp_quiet hn (num_quiet _)
    · exact stp_q (Stp9.refl s) 178 (by decide +kernel)
theorem stp_25 {s t : Ws} (h : Stp9 s t) {n : Int} (h0 : 0 ≤ n) (h8 : n < 8) : Stp9 s (t.op 25 n) := stp_local h 25 (by decide +kernel) h0 h8
theorem stp_58 {s t : Ws} (h : Stp9 s t) {n : Int} (h0 : 0 ≤ n) (h8 : n < 8) : Stp9 s (t.op 58 n) := stp_local h 58 (by decide +kernel) h0 h8
theorem stp_54 {s t : Ws} (h : Stp9 s t) {n : Int} (h0 : 0 ≤ n) (h8 : n < 8) : Stp9 s (t.op 54 n) := stp_local h 54 (by decide +kernel) h0 h8
theorem stp_21 {s t : Ws} (h : Stp9 s t) {n : Int} (h0 : 0 ≤ n) (h8 : n < 8) : Stp9 s (t.op 21 n) := stp_local h 21 (by decide +kernel) h0 h8
theorem stp_op {s t : Ws} (h : Stp9 s t) {o : UInt8} {n : Int} (ho : quietB o = true) : Stp9 s (t.op o n) := stp_q h o ho
theorem stp_name {s t : Ws} (h : Stp9 s t) {o : UInt8} {c n d : Bs} (ho : quietB o = true) : Stp9 s (t.name o c n d) := stp_q h o ho
theorem pres_stepI (xs : Bs) (deep : Bool) {I L : Ws → Ws} (hI : PresW I) (hL : PresW L) : PresW (stepI xs deep I L) := fun s => by
  have h2 : Stp9 s (s.paid.nx xs) := (Stp9.paid s).trans (Stp9.nx xs _)
  have ho := stp_25 h2 (n := 6) (by decide) (by decide)
  have ho5 := stp_25 h2 (n := 5) (by decide) (by decide)
  unfold stepI
  simp only
  generalize (if (!deep || decide (s.paid.bud ≤ 0)) = true then nxV xs 16 s.at_ % 4 else nxV xs 16 s.at_) = k
  split
  · exact h2.trans (pres_leaf xs _ _)
  split
  · exact stp_op (((h2.trans (hI _)).trans (hI _)).trans (Stp9.nx xs _)) (quiet_getD (by decide +kernel) _)
  split
  · exact stp_op (h2.trans (hL _)) (by decide +kernel)
  split
  · exact stp_op (ho.trans (hI _)) (by decide +kernel)
  split
  · exact stp_name ho5 (by decide +kernel)
  split
  · exact stp_name (ho5.trans (hI _)) (by decide +kernel)
  split
  · exact stp_name (h2.trans (hI _)) (by decide +kernel)
  split
  · have := nxV_lt (xs := xs) (k := 2) (a := (s.paid.nx xs).at_) (by decide)
    exact stp_op (stp_25 (h2.trans (Stp9.nx xs _)) (by omega) (by omega)) (by decide +kernel)
  split
  · exact stp_q ho5 193 (by decide +kernel)
  · exact stp_op ((h2.trans (hL _)).trans (hL _)) (by decide +kernel)
theorem pres_stepL (xs : Bs) (deep : Bool) {I L : Ws → Ws} (hI : PresW I) (hL : PresW L) : PresW (stepL xs deep I L) := fun s => by
  have h2 := Stp9.nx xs s
  unfold stepL
  simp only
  split
  · exact stp_op (((h2.trans (hL _)).trans (hL _)).trans (Stp9.nx xs _)) (quiet_getD (by decide +kernel) _)
  split
  · exact stp_op (((h2.trans (hL _)).trans (hI _)).trans (Stp9.nx xs _)) (quiet_getD (by decide +kernel) _)
  split
  · exact stp_long h2 (Or.inl rfl)
  split
  · exact stp_q (h2.trans (Stp9.nx xs _)) 20 (by decide +kernel)
  · exact stp_op (h2.trans (hI _)) (by decide +kernel)
theorem pres_id : PresW id := fun s => Stp9.refl s
theorem pres_il (xs : Bs) : ∀ d, PresW (intW xs d) ∧ PresW (longW xs d)
  | 0 => ⟨pres_stepI xs false pres_id pres_id, pres_stepL xs false (pres_stepI xs false pres_id pres_id) pres_id⟩
  | d + 1 => ⟨pres_stepI xs true (pres_il xs d).1 (pres_il xs d).2, pres_stepL xs true (pres_il xs d).1 (pres_il xs d).2⟩
theorem pres_obj (xs : Bs) : PresW (objW xs) := fun s => by
  have h2 := Stp9.nx xs s
  unfold objW
  simp only
  split
  · exact stp_op h2 (by decide +kernel)
  split
  · exact stp_q h2 187 (by decide +kernel)
  split
  · exact stp_q (stp_25 h2 (by decide) (by decide)) 192 (by decide +kernel)
  · exact stp_q h2 187 (by decide +kernel)
theorem pres_rec (xs : Bs) : PresW (recW xs) := fun s => by
  have h2 := Stp9.nx xs s
  have hI := (pres_il xs 1).1
  unfold recW
  simp only
  split
  · exact stp_54 (stp_name (stp_25 h2 (by decide) (by decide)) (by decide +kernel)) (by decide) (by decide)
  split
  · exact stp_58 (stp_name (h2.trans (hI _)) (by decide +kernel)) (by decide) (by decide)
  split
  · exact stp_name (stp_25 (h2.trans (hI _)) (by decide) (by decide)) (by decide +kernel)
  · exact stp_54 (stp_name h2 (by decide +kernel)) (by decide) (by decide)
theorem pres_times {F : Ws → Ws} (h : PresW F) : ∀ n, PresW (timesW F n)
  | 0, s => Stp9.refl s
  | n + 1, s => (h s).trans (pres_times h n (F s))
theorem pres_some (xs : Bs) {F : Ws → Ws} (h : PresW F) : PresW (someW xs F) := fun s => (Stp9.nx xs s).trans (pres_times h _ _)

/-! ### Branches that are told later -/
def brAt (s : Ws) (k : Nat) : Prop := ∃ x, s.code[k]? = some x ∧ branchB x.op = true
theorem brAt.pre {s t : Ws} {k : Nat} (h : brAt s k) (p : ∃ r, t.code = s.code ++ r) : brAt t k := by
  obtain ⟨x, hx, hb⟩ := h
  obtain ⟨r, hr⟩ := p
  exact ⟨x, by rw [hr, List.getElem?_append_left (len_i hx)]; exact hx, hb⟩
theorem brAt.label {s : Ws} {k : Nat} (h : brAt s k) (st : List Bs) : brAt (s.label st) k := h.pre (label_pre s st)
theorem brAt.aim {s : Ws} {k j : Nat} {n : Int} (h : brAt s k) : brAt (s.aim j n) k := by
  obtain ⟨x, hx, hb⟩ := h
  refine ⟨if j = k then { x with n := n } else x, ?_, ?_⟩
  · simp only [Ws.aim, List.getElem?_modify, hx]
    by_cases e : j = k <;> simp [e]
  · split <;> exact hb
theorem brAt.new (s : Ws) {x : InD} (hb : branchB x.op = true) : brAt (s.push x) s.code.length := ⟨x, by simp [Ws.push], hb⟩
theorem brAt.one {s : Ws} {k : Nat} (h : brAt s k) : ∀ x : InD, s.code[k]? = some x → branchB x.op = true := fun x hx => by
  obtain ⟨y, hy, hb⟩ := h
  rw [hx] at hy
  cases hy
  exact hb
theorem if_branch (k : Nat) : branchB (ifOps.getD k 0) = true ∨ 6 ≤ k := by
  rcases Nat.lt_or_ge k 6 with h | h
  · have hall : ∀ j, j < 6 → branchB (ifOps.getD j 0) = true := by decide +kernel
    exact Or.inl (hall k h)
  · exact Or.inr h
theorem right_branch {x : InD} (h : branchB x.op = true) : rightB x 8 = true := by
  have hf : formN x.op.toNat = 7 := by simpa [branchB] using h
  unfold rightB
  simp [hf]
/-- What was there stays. -/
def Ext (s t : Ws) : Prop := (∃ r, t.code = s.code ++ r) ∧ ∀ n, hasM s n → hasM t n
theorem Stp9.ext {s t : Ws} (h : Stp9 s t) : Ext s t := ⟨h.pre, h.maps⟩
theorem Ext.trans {a b c : Ws} (h : Ext a b) (k : Ext b c) : Ext a c := by
  obtain ⟨⟨r, hr⟩, h1⟩ := h
  obtain ⟨⟨q, hq⟩, k1⟩ := k
  exact ⟨⟨r ++ q, by rw [hq, hr, List.append_assoc]⟩, fun n h => k1 n (h1 n h)⟩
theorem Ext.push (s : Ws) (x : InD) : Ext s (s.push x) := ⟨⟨[x], rfl⟩, fun _ h => h⟩
theorem Ext.aim {s t : Ws} (h : Ext s t) {k : Nat} (n : Int) (hk : s.code.length ≤ k) : Ext s (t.aim k n) := ⟨aim_pre h.1 hk, h.2⟩
theorem Ext.len {s t : Ws} (h : Ext s t) : s.code.length ≤ t.code.length := by
  obtain ⟨⟨r, hr⟩, _⟩ := h
  rw [hr]; simp

theorem pres_choice (xs : Bs) {F : Ws → Ws} (h : PresW F) : PresW (choiceW xs F) := fun s => by
  have hS := pres_some xs h
  unfold choiceW
  simp only
  have hv := nxV_lt (xs := xs) (k := 6) (a := (intW xs 1 s).at_) (by decide)
  have hb : branchB (ifOps.getD (nxV xs 6 (intW xs 1 s).at_) 0) = true := by
    rcases if_branch (nxV xs 6 (intW xs 1 s).at_) with h1 | h1
    · exact h1
    · omega
  have he : endsB (ifOps.getD (nxV xs 6 (intW xs 1 s).at_) 0) = false := by
    have hall : ∀ j, j < 6 → endsB (ifOps.getD j 0) = false := by decide +kernel
    exact hall _ hv
  generalize ifOps.getD (nxV xs 6 (intW xs 1 s).at_) 0 = o at hb he
  have e1 := (pres_il xs 1).1 s
  generalize intW xs 1 s = s1 at e1 ⊢
  obtain ⟨s2, h2⟩ : ∃ s2, (s1.nx xs).op o 0 = s2 := ⟨_, rfl⟩
  have e12 : Ext s1 s2 := by rw [← h2]; exact (Stp9.nx xs s1).ext.trans (Ext.push _ _)
  have b2 : brAt s2 s1.code.length := by rw [← h2]; exact brAt.new (s1.nx xs) hb
  rw [h2]
  have e23 := hS s2
  generalize someW xs F s2 = s3 at e23 ⊢
  obtain ⟨s4, h4⟩ : ∃ s4, s3.op 167 0 = s4 := ⟨_, rfl⟩
  have e34 : Ext s3 s4 := by rw [← h4]; exact Ext.push _ _
  have b4 : brAt s4 s3.code.length := by rw [← h4]; exact brAt.new s3 (by decide +kernel)
  have l12 : s1.code.length < s2.code.length := by rw [← h2]; simp [Ws.op, Ws.push, Ws.nx]
  rw [h4]
  have l23 := e23.ext.len
  have hm4 := has_label s4 []
  have e4 := (Stp9.label s4 [] (Nat.zero_le 1)).ext
  obtain ⟨s5, h5⟩ : ∃ s5, (s4.label []).aim s1.code.length (s4.code.length : Int) = s5 := ⟨_, rfl⟩
  have b5 : brAt s5 s3.code.length := by rw [← h5]; exact (b4.label []).aim
  have e15 : Ext s1 s5 := by rw [← h5]; exact (((e12.trans e23.ext).trans e34).trans e4).aim _ (Nat.le_refl _)
  rw [h5]
  have e56 := hS s5
  generalize someW xs F s5 = s6 at e56 ⊢
  have e6 := (Stp9.label s6 [] (Nat.zero_le 1)).ext
  have e16 : Ext s ((s6.label []).aim s3.code.length (s6.code.length : Int)) := ((e1.ext.trans (e15.trans e56.ext)).trans e6).aim _ (by have := e1.ext.len; omega)
  refine ⟨e16.1, e16.2, fun Q hq => ?_⟩
  have i1 := e1.inv Q hq
  have i2 : InvW (fun i => Q i ∨ i = s1.code.length) false s2 := by
    rw [← h2]
    exact ((Stp9.nx xs s1).inv Q i1).push (fun i h => Or.inl h) (right_branch hb) (fun _ => Or.inl (Or.inr rfl)) (fun h => by rw [he] at h; cases h)
  have i3 := e23.inv _ i2
  have i4 : InvW (fun i => (Q i ∨ i = s1.code.length) ∨ i = s3.code.length) true s4 := by
    rw [← h4]
    exact i3.push (fun i h => Or.inl h) (right_branch (by decide +kernel)) (fun _ => Or.inl (Or.inr rfl)) (fun _ => rfl)
  have b24 : brAt s4 s1.code.length := (b2.pre e23.pre).pre e34.1
  have i5 : InvW (fun i => Q i ∨ i = s3.code.length) false s5 := by
    rw [← h5]
    exact (i4.label [] (Nat.zero_le 1)).aim hm4 (b24.label []).one (fun i h1 h2 => h1.elim (fun h => h.elim Or.inl (fun h => absurd h h2)) Or.inr)
  have i6 := e56.inv _ i5
  exact (i6.label [] (Nat.zero_le 1)).aim (has_label s6 []) ((b5.pre e56.pre).label []).one (fun i h1 h2 => h1.elim (fun h => h) (fun h => absurd h h2))
theorem pres_loop (xs : Bs) {F : Ws → Ws} (h : PresW F) : PresW (loopW xs F) := fun s => by
  have hS := pres_some xs h
  unfold loopW
  simp only
  have e1 : Stp9 s (((s.nx xs).push (numI (nxV xs 5 s.at_ : Int))).op 54 2) := stp_54 (stp_quiet (Stp9.nx xs s) (num_quiet _)) (by decide) (by decide)
  generalize ((s.nx xs).push (numI (nxV xs 5 s.at_ : Int))).op 54 2 = s1 at e1 ⊢
  have hm1 := has_label s1 []
  have e12 : Stp9 s1 ((s1.label []).op 21 2) := stp_21 (Stp9.label s1 [] (Nat.zero_le 1)) (by decide) (by decide)
  have m2 : hasM ((s1.label []).op 21 2) (s1.code.length : Int) := hm1
  generalize (s1.label []).op 21 2 = s2 at e12 m2 ⊢
  obtain ⟨s3, h3⟩ : ∃ s3, s2.op 158 0 = s3 := ⟨_, rfl⟩
  have e23 : Ext s2 s3 := by rw [← h3]; exact Ext.push _ _
  have b3 : brAt s3 s2.code.length := by rw [← h3]; exact brAt.new s2 (by decide +kernel)
  rw [h3]
  have e34 : Stp9 s3 ((someW xs F s3).push ⟨132, 2, -1, [], [], [], []⟩) := stp_local (hS s3) 132 (by decide +kernel) (by decide) (by decide)
  generalize (someW xs F s3).push ⟨132, 2, -1, [], [], [], []⟩ = sx at e34 ⊢
  obtain ⟨s4, h4⟩ : ∃ s4, sx.op 167 (s1.code.length : Int) = s4 := ⟨_, rfl⟩
  have ex4 : Ext sx s4 := by rw [← h4]; exact Ext.push _ _
  rw [h4]
  have e4 := (Stp9.label s4 [] (Nat.zero_le 1)).ext
  have l12 := e12.ext.len
  have eL : Ext s ((s4.label []).aim s2.code.length (s4.code.length : Int)) := ((((e1.ext.trans e12.ext).trans e23).trans (e34.ext.trans ex4)).trans e4).aim _ (by have := e1.ext.len; omega)
  refine ⟨eL.1, eL.2, fun Q hq => ?_⟩
  have i2 := e12.inv Q (e1.inv Q hq)
  have i3 : InvW (fun i => Q i ∨ i = s2.code.length) false s3 := by
    rw [← h3]
    exact i2.push (fun i h => Or.inl h) (right_branch (by decide +kernel)) (fun _ => Or.inl (Or.inr rfl)) (fun h => by revert h; decide +kernel)
  have ix := e34.inv _ i3
  have i4 : InvW (fun i => Q i ∨ i = s2.code.length) true s4 := by
    rw [← h4]
    exact ix.push (fun i h => h) (right_branch (show branchB 167 = true by decide +kernel)) (fun _ => Or.inr (e34.maps _ (e23.2 _ m2))) (fun _ => rfl)
  have b4 : brAt s4 s2.code.length := (b3.pre e34.pre).pre ex4.1
  exact (i4.label [] (Nat.zero_le 1)).aim (has_label s4 []) (b4.label []).one (fun i h1 h2 => h1.elim (fun h => h) (fun h => absurd h h2))
theorem InvW.trapped {Q : Nat → Prop} {e : Bool} {s : Ws} (h : InvW Q e s) {t : TrD} (h0 : 0 ≤ t.a) (h1 : t.a < t.b) (h2 : t.b ≤ (s.code.length : Int)) (h3 : hasM s t.c) (h4 : t.cls ∈ trapN) : InvW Q e (s.trapped t) :=
  ⟨h.right, h.br, h.ends, h.ris, h.bd, fun y hy => by
    rcases List.mem_append.1 hy with h5 | h5
    · exact h.trap y h5
    · rw [List.mem_singleton.1 h5]; exact ⟨h0, h1, h2, h3, h4⟩⟩
theorem trapN_mem (k : Nat) : trapN.getD k [] ∈ trapN := by
  rw [List.getD_eq_getElem?_getD]
  cases hk : trapN[k]? with
  | none => exact List.mem_cons_self
  | some o => exact List.mem_of_getElem? hk
theorem pres_guard (xs : Bs) {F : Ws → Ws} (h : PresW F) : PresW (guardW xs F) := fun s => by
  have hS := pres_some xs h
  have e1 := hS s
  unfold guardW
  simp only
  generalize someW xs F s = s1 at e1 ⊢
  have l1 := e1.ext.len
  by_cases ht : nxV xs 3 s1.at_ = 1
  · simp only [if_pos ht]
    have ea : Stp9 s1 ((s1.nx xs).push ⟨187, 0, 0, [79, 111, 112, 115], [], [], []⟩) := stp_q (Stp9.nx xs s1) 187 (by decide +kernel)
    have la := len_push (s1.nx xs) ⟨187, 0, 0, [79, 111, 112, 115], [], [], []⟩
    rw [len_nx] at la
    generalize (s1.nx xs).push ⟨187, 0, 0, [79, 111, 112, 115], [], [], []⟩ = sa at ea la ⊢
    obtain ⟨s2, h2⟩ : ∃ s2, sa.op 191 0 = s2 := ⟨_, rfl⟩
    have ea2 : Ext sa s2 := by rw [← h2]; exact Ext.push _ _
    rw [h2]
    generalize (76 :: ((if trapN.getD (nxV xs 5 s2.at_) [] = [] then [84, 104, 114, 111, 119, 97, 98, 108, 101] else trapN.getD (nxV xs 5 s2.at_) []) ++ [59]) : Bs) = cl
    obtain ⟨s4, h4⟩ : ∃ s4, ((s2.nx xs).label [cl]) = s4 := ⟨_, rfl⟩
    have hm : hasM s4 (s2.code.length : Int) := by rw [← h4]; exact has_label (s2.nx xs) [cl]
    have e24 : Ext s2 s4 := by rw [← h4]; exact (Stp9.nx xs s2).ext.trans (Stp9.label _ [cl] (Nat.le_refl 1)).ext
    rw [h4]
    have e45 : Stp9 s4 (someW xs F (s4.op 87 0)) := (stp_op (Stp9.refl s4) (by decide +kernel)).trans (hS _)
    generalize someW xs F (s4.op 87 0) = s5 at e45 ⊢
    have e5 := Stp9.label s5 [] (Nat.zero_le 1)
    have eA : Ext s (s5.label []) := (((e1.ext.trans ea.ext).trans ea2).trans e24).trans (e45.ext.trans e5.ext)
    refine ⟨eA.1, eA.2, fun Q hq => ?_⟩
    have ia := ea.inv Q (e1.inv Q hq)
    have i2 : InvW Q true s2 := by
      rw [← h2]
      exact ia.push (fun i h => h) (by decide +kernel) (fun h => by rw [show branchB (⟨191, 0, 0, [], [], [], []⟩ : InD).op = false by decide +kernel] at h; cases h) (fun _ => rfl)
    have i4 : InvW Q false s4 := by
      rw [← h4]
      exact (show InvW Q true (s2.nx xs) from ⟨i2.right, i2.br, i2.ends, i2.ris, i2.bd, i2.trap⟩).label [cl] (Nat.le_refl 1)
    have i6 := e5.inv Q (e45.inv Q i4)
    refine i6.trapped (by simp) ?_ ?_ (e5.maps _ (e45.maps _ hm)) (trapN_mem _)
    · have := ea2.len
      show (s.code.length : Int) < (s2.code.length : Int)
      omega
    · have := e24.len; have := e45.ext.len; have := e5.ext.len
      show (s2.code.length : Int) ≤ ((s5.label []).code.length : Int)
      omega
  · simp only [if_neg ht]
    have ea : Stp9 s1 ((s1.nx xs).op 0 0) := stp_op (Stp9.nx xs s1) (by decide +kernel)
    have la := len_op (s1.nx xs) 0 0
    rw [len_nx] at la
    generalize (s1.nx xs).op 0 0 = s2 at ea la ⊢
    obtain ⟨s3, h3⟩ : ∃ s3, s2.op 167 0 = s3 := ⟨_, rfl⟩
    have e23 : Ext s2 s3 := by rw [← h3]; exact Ext.push _ _
    have b3 : brAt s3 s2.code.length := by rw [← h3]; exact brAt.new s2 (by decide +kernel)
    rw [h3]
    generalize (76 :: ((if trapN.getD (nxV xs 5 s3.at_) [] = [] then [84, 104, 114, 111, 119, 97, 98, 108, 101] else trapN.getD (nxV xs 5 s3.at_) []) ++ [59]) : Bs) = cl
    obtain ⟨s4, h4⟩ : ∃ s4, ((s3.nx xs).label [cl]) = s4 := ⟨_, rfl⟩
    have hm : hasM s4 (s3.code.length : Int) := by rw [← h4]; exact has_label (s3.nx xs) [cl]
    have e34 : Ext s3 s4 := by rw [← h4]; exact (Stp9.nx xs s3).ext.trans (Stp9.label _ [cl] (Nat.le_refl 1)).ext
    rw [h4]
    have e45 : Stp9 s4 (someW xs F (s4.op 87 0)) := (stp_op (Stp9.refl s4) (by decide +kernel)).trans (hS _)
    generalize someW xs F (s4.op 87 0) = s5 at e45 ⊢
    have e5 := Stp9.label s5 [] (Nat.zero_le 1)
    have l2 := ea.ext.len
    have e26 : Ext s2 (s5.label []) := (e23.trans e34).trans (e45.ext.trans e5.ext)
    have eA : Ext s ((s5.label []).aim s2.code.length (s5.code.length : Int)) := (((e1.ext.trans ea.ext).trans e26)).aim _ (by omega)
    refine ⟨eA.1, eA.2, fun Q hq => ?_⟩
    have i2 := ea.inv Q (e1.inv Q hq)
    have i3 : InvW (fun i => Q i ∨ i = s2.code.length) true s3 := by
      rw [← h3]
      exact i2.push (fun i h => Or.inl h) (right_branch (by decide +kernel)) (fun _ => Or.inl (Or.inr rfl)) (fun _ => rfl)
    have i4 : InvW (fun i => Q i ∨ i = s2.code.length) false s4 := by
      rw [← h4]
      exact (show InvW _ true (s3.nx xs) from ⟨i3.right, i3.br, i3.ends, i3.ris, i3.bd, i3.trap⟩).label [cl] (Nat.le_refl 1)
    have i6 := e5.inv _ (e45.inv _ i4)
    have b6 : brAt (s5.label []) s2.code.length := ((b3.pre e34.1).pre e45.pre).label []
    have i7 : InvW Q false ((s5.label []).aim s2.code.length (s5.code.length : Int)) := i6.aim (has_label s5 []) b6.one (fun i h1 h2 => h1.elim (fun h => h) (fun h => absurd h h2))
    refine i7.trapped (by simp) ?_ ?_ (e5.maps _ (e45.maps _ hm)) (trapN_mem _)
    · show (s.code.length : Int) < (s2.code.length : Int)
      omega
    · have := e26.len
      show (s2.code.length : Int) ≤ (((s5.label []).aim s2.code.length (s5.code.length : Int)).code.length : Int)
      rw [len_aim]
      omega
theorem ite_stp {p : Prop} [Decidable p] {s a b : Ws} (ha : Stp9 s a) (hb : Stp9 s b) : Stp9 s (if p then a else b) := by
  by_cases h : p
  · rw [if_pos h]; exact ha
  · rw [if_neg h]; exact hb
theorem pres_stepS (xs : Bs) (nested : Bool) {F : Ws → Ws} (h : PresW F) : PresW (stepS xs nested F) := fun s => by
  have h2 : Stp9 s (s.paid.nx xs) := (Stp9.paid s).trans (Stp9.nx xs _)
  have hI1 := (pres_il xs 1).1
  have hI2 := (pres_il xs 2).1
  have hL2 := (pres_il xs 2).2
  rw [stepS_eq]
  generalize s.paid.bud = b
  generalize nxV xs 16 s.at_ = k
  generalize s.paid.nx xs = s2 at *
  have g2 := nxV_lt (xs := xs) (k := 2) (a := (intW xs 2 s2).at_) (by decide)
  have g1 := nxV_lt (xs := xs) (k := 2) (a := (intW xs 1 s2).at_) (by decide)
  have g3 := nxV_lt (xs := xs) (k := 3) (a := s2.at_) (by decide)
  unfold stepQ
  refine ite_stp ?_ ?_
  · exact stp_54 ((h2.trans (hI2 _)).trans (Stp9.nx xs _)) (by omega) (by omega)
  refine ite_stp ?_ ?_
  · exact stp_name (h2.trans (hI2 _)) (by decide +kernel)
  refine ite_stp ?_ ?_
  · exact stp_long (h2.trans (hL2 _)) (Or.inr rfl)
  refine ite_stp ?_ ?_
  · exact stp_58 (h2.trans (pres_obj xs _)) (by decide) (by decide)
  refine ite_stp ?_ ?_
  · exact stp_name ((stp_25 h2 (by decide) (by decide)).trans (hI1 _)) (by decide +kernel)
  refine ite_stp ?_ ?_
  · exact stp_name (h2.trans (hI1 _)) (by decide +kernel)
  refine ite_stp ?_ ?_
  · exact stp_58 (stp_op ((h2.trans (hI1 _)).trans (Stp9.nx xs _)) (by decide +kernel)) (by omega) (by omega)
  refine ite_stp ?_ ?_
  · exact stp_op (((stp_25 h2 (by decide) (by decide)).trans (hI1 _)).trans (hI1 _)) (by decide +kernel)
  refine ite_stp ?_ ?_
  · exact h2.trans (pres_choice xs h _)
  refine ite_stp ?_ ?_
  · exact h2.trans (pres_loop xs h _)
  refine ite_stp ?_ ?_
  · exact h2.trans (pres_guard xs h _)
  refine ite_stp ?_ ?_
  · exact h2.trans (pres_rec xs _)
  refine ite_stp ?_ ?_
  · exact stp_58 (stp_q h2 18 (by decide +kernel)) (by decide) (by decide)
  refine ite_stp ?_ ?_
  · exact stp_name (stp_25 h2 (by decide) (by decide)) (by decide +kernel)
  · exact stp_local ((h2.trans (Stp9.nx xs _)).trans (Stp9.nx xs _)) 132 (by decide +kernel) (by omega) (by omega)
theorem pres_stm (xs : Bs) : ∀ e, PresW (stmW xs e)
  | 0 => pres_stepS xs false pres_id
  | e + 1 => pres_stepS xs true (pres_stm xs e)

end Go.Proofs.YtdkkpcbebhgbiaaGreatDoor

/- The classes that carpetbagmake makes, as plain data; their methods are in shape. Nothing of the program. -/
namespace Go.Proofs.YtdkkpcbebhgbiaaGreatDoor
set_option maxRecDepth 100000
open Ws

def sHelp : Bs := [104, 101, 108, 112]
def dII : Bs := [40, 73, 41, 73]
def helpI (i j : Nat) : MeD := ⟨true, sHelp, dII, 4, 1, [⟨21, 0, 0, [], [], [], []⟩, ⟨UInt8.ofNat (2 + i), 0, 0, [], [], [], []⟩, ⟨([100, 108, 112] : List UInt8).getD j 0, 0, 0, [], [], [], []⟩, ⟨172, 0, 0, [], [], [], []⟩], [], []⟩
def objI (j : Nat) : MeD := ⟨false, [118], dII, 8, 2, [⟨21, 1, 0, [], [], [], []⟩, ⟨6, 0, 0, [], [], [], []⟩, ⟨96, 0, 0, [], [], [], []⟩, ⟨25, 0, 0, [], [], [], []⟩, ⟨180, 0, 0, [65], [102], [73], []⟩, ⟨bodyOps.getD j 0, 0, 0, [], [], [], []⟩, ⟨172, 0, 0, [], [], [], []⟩], [], []⟩
section
variable (xs : Bs)
/-- Behind main's body; behind help's two numbers; behind A's. -/
def at1 (a : Nat) : Nat := (bodyW xs 6 a).at_
def at2 (a : Nat) : Nat := nxA xs (nxA xs (at1 xs a))
def at3 (a : Nat) : Nat := nxA xs (at2 xs a)
def at4 (a : Nat) : Nat := nxA xs (at3 xs a)
def mainU (a : Nat) : UnD := ⟨sMain, cObject, [⟨true, [115], [73]⟩, ⟨true, [111], [76, 65, 59]⟩], [mainMeth xs a, helpI (nxV xs 7 (at1 xs a)) (nxV xs 3 (nxA xs (at1 xs a)))]⟩
def aU (a : Nat) : UnD := ⟨[65], cObject, [⟨false, [102], [73]⟩, ⟨false, [108], [74]⟩, ⟨false, [110, 101, 120, 116], [76, 65, 59]⟩], [objI (nxV xs 3 (at2 xs a))]⟩
def bU (a : Nat) : UnD := ⟨[66], [65], [⟨false, [103], [73]⟩], if 0 < nxV xs 3 (at3 xs a) then [objI (nxV xs 3 (at4 xs a))] else []⟩
def oopsU : UnD := ⟨[79, 111, 112, 115], cThrowable, [], []⟩
def unitsW (a : Nat) : List UnD := [mainU xs a, aU xs a, bU xs a, oopsU]
/-- Where the tape stands behind them. -/
def unitsA (a : Nat) : Nat := if 0 < nxV xs 3 (at3 xs a) then nxA xs (at4 xs a) else at4 xs a
end
theorem objMeth_eq (xs : Bs) (a : Nat) : objMeth xs a = objI (nxV xs 3 a) := rfl
theorem objBody_at (xs : Bs) (a : Nat) : (objBodyW xs a).at_ = nxA xs a := rfl

/-! ### In shape -/
theorem help_shape : ∀ i, i < 7 → ∀ j, j < 3 → checkF (helpI i j) = 0 := by decide +kernel
theorem obj_shape : ∀ j, j < 3 → checkF (objI j) = 0 := by decide +kernel
theorem inv_start (a : Nat) : InvW (fun _ => False) false (startW a) :=
  ⟨fun x h => absurd h (by simp [startW]), fun i x h => absurd h (by simp [startW]), fun i x h => absurd h (by simp [startW]), List.Pairwise.nil, fun m h => absurd h (by simp [startW]), fun t h => absurd h (by simp [startW])⟩
theorem stp_begin (xs : Bs) (a : Nat) : Stp9 (startW a) (beginW xs a) := by
  have g0 := Stp9.refl (startW a)
  have g1 := stp_54 (stp_quiet (g0.trans (Stp9.nx xs _)) (num_quiet (nxV xs 4 (startW a).at_ : Int))) (n := 1) (by decide) (by decide)
  have g2 := stp_54 (stp_quiet (g1.trans (Stp9.nx xs _)) (num_quiet (nxV xs 4 ((((startW a).nx xs).push (numI (nxV xs 4 (startW a).at_ : Int))).op 54 1).at_ : Int))) (n := 2) (by decide) (by decide)
  have g3 := stp_58 (stp_q (stp_long (stp_op g2 (o := 10) (n := 0) (by decide +kernel)) (o := 55) (Or.inr rfl)) 187 (by decide +kernel) (n := 0) (m := 0) (c := [65]) (nm := []) (d := []) (tx := [])) (n := 5) (by decide) (by decide)
  unfold beginW
  simp only
  generalize ((((((((((startW a).nx xs).push (numI (nxV xs 4 (startW a).at_ : Int))).op 54 1).nx xs).push (numI (nxV xs 4 ((((startW a).nx xs).push (numI (nxV xs 4 (startW a).at_ : Int))).op 54 1).at_ : Int))).op 54 2).op 10 0).op 55 3).push ⟨187, 0, 0, [65], [], [], []⟩).op 58 5 = s3 at g3 ⊢
  exact stp_58 (stp_op (stp_58 (stp_op (stp_quiet (g3.trans (Stp9.nx xs _)) (num_quiet _)) (by decide +kernel)) (by decide) (by decide)) (by decide +kernel)) (by decide) (by decide)
/-- A state in shape whose code then ends is a code in shape. -/
theorem shape_of {s : Ws} (h : InvW (fun _ => False) false s) {o : UInt8} (ho : endsB o = true) (hr : rightB ⟨o, 0, 0, [], [], [], []⟩ 8 = true) (hb : branchB o = false) (st : Bool) (nm : Bs) : checkF ⟨st, nm, dII, 40, 8, (s.op o 0).code, (s.op o 0).traps, (s.op o 0).maps⟩ = 0 := by
  have h2 : InvW (fun _ => False) true (s.op o 0) := h.push (fun _ h => h) hr (fun h1 => by rw [show branchB (⟨o, 0, 0, [], [], [], []⟩ : InD).op = branchB o from rfl, hb] at h1; cases h1) (fun _ => rfl)
  have hbd : ∀ m ∈ (s.op o 0).maps, 0 ≤ m.at_ ∧ m.at_ < ((s.op o 0).code.length : Int) := fun m hm => by
    have := (h.bd m hm).1
    rw [len_op]
    omega
  have hlen : (s.op o 0).code.length = s.code.length + 1 := len_op _ _ _
  have hM : ∀ n, hasM (s.op o 0) n → 0 ≤ n ∧ n < ((s.op o 0).code.length : Int) := fun n ⟨m, hm, e⟩ => e ▸ hbd m hm
  have hany : ∀ n, hasM (s.op o 0) n → (s.op o 0).maps.any (fun x => x.at_ == n) = true := fun n ⟨m, hm, e⟩ => List.any_eq_true.2 ⟨m, hm, by simp [e]⟩
  have hlast : (s.op o 0).code.getLast? = some ⟨o, 0, 0, [], [], [], []⟩ := by simp [Ws.op, Ws.push]
  generalize s.op o 0 = t at h2 hbd hlen hM hany hlast
  have f1 : formedB ⟨st, nm, dII, 40, 8, t.code, t.traps, t.maps⟩ = true := by
    unfold formedB
    have q1 : (methodF dII).isSome = true := by decide +kernel
    have q2 : endB t.code = true := by unfold endB; rw [hlast]; exact ho
    have q3 : t.code.all (fun x => rightB x 8) = true := List.all_eq_true.2 h2.right
    simp only [q1, q2, q3, Bool.and_true, Bool.true_and]
    decide
  have f2 : placedB ⟨st, nm, dII, 40, 8, t.code, t.traps, t.maps⟩ = true := by
    unfold placedB
    have q1 : t.code.any (astrayB t.code.length) = false := by
      rw [List.any_eq_false]
      intro x hx
      obtain ⟨i, hi⟩ := List.mem_iff_getElem?.1 hx
      unfold astrayB
      cases hbx : branchB x.op with
      | false => simp
      | true =>
        rcases h2.br i x hi hbx with h3 | h3
        · cases h3
        · have := inPl_iff.2 (hM _ h3)
          simp [this]
    have q2 : t.traps.any (wrongB t.code.length) = false := by
      rw [List.any_eq_false]
      intro y hy
      obtain ⟨a1, a2, a3, a4, a5⟩ := h2.trap y hy
      have := inPl_iff.2 (hM _ a4)
      unfold wrongB
      simp [this]
      omega
    have q3 : ∀ (l : List MpD) (last : Int), l.Pairwise (fun a b => a.at_ < b.at_) → (∀ m ∈ l, last < m.at_ ∧ m.at_ < (t.code.length : Int)) → risingB t.code.length last l = true := by
      intro l
      induction l with
      | nil => intro last _ _; rfl
      | cons y r ih =>
        intro last hp hm
        have h3 := hm y List.mem_cons_self
        have h4 := ih y.at_ (List.pairwise_cons.1 hp).2 (fun m hm' => ⟨(List.pairwise_cons.1 hp).1 m hm', (hm m (List.mem_cons_of_mem _ hm')).2⟩)
        unfold risingB
        rw [h4]
        simp
        omega
    have q4 := q3 t.maps (-1) h2.ris (fun m hm => ⟨by have := (hbd m hm).1; omega, (hbd m hm).2⟩)
    simp only [q1, q2, q4]
    rfl
  have f3 : mappedB ⟨st, nm, dII, 40, 8, t.code, t.traps, t.maps⟩ = true := by
    unfold mappedB
    have q1 : ∀ (l : List InD) (i : Nat), (∀ (j : Nat) (x : InD), l[j]? = some x → t.code[i + j]? = some x) → lacksB ⟨st, nm, dII, 40, 8, t.code, t.traps, t.maps⟩ i l = false := by
      intro l
      induction l with
      | nil => intro i _; rfl
      | cons y r ih =>
        intro i hl
        have h3 := ih (i + 1) (fun j x hj => by
          have := hl (j + 1) x (by simpa using hj)
          rwa [show i + 1 + j = i + (j + 1) by omega])
        have h4 : t.code[i]? = some y := by simpa using hl 0 y rfl
        unfold lacksB
        rw [h3, Bool.or_false]
        unfold lackB hasB
        have g1 : branchB y.op = true → t.maps.any (fun x => x.at_ == y.n) = true := fun hb2 => by
          rcases h2.br i y h4 hb2 with h5 | h5
          · cases h5
          · exact hany _ h5
        have g2 : endsB y.op = true → ((i : Int) + 1 == (t.code.length : Int)) = true ∨ t.maps.any (fun x => x.at_ == (i : Int) + 1) = true := fun he2 => by
          rcases h2.ends i y h4 he2 with h5 | h5
          · exact Or.inr (hany _ h5)
          · refine Or.inl ?_
            have := h5.2
            simp
            omega
        cases hbx : branchB y.op <;> cases hex : endsB y.op
        · rfl
        · rcases g2 hex with h5 | h5 <;> simp [h5]
        · simp [g1 hbx]
        · rcases g2 hex with h5 | h5 <;> simp [g1 hbx, h5]
    have q2 : t.traps.any (bareB ⟨st, nm, dII, 40, 8, t.code, t.traps, t.maps⟩) = false := by
      rw [List.any_eq_false]
      intro y hy
      have := hany _ (h2.trap y hy).2.2.2.1
      unfold bareB hasB
      simp only [this, Bool.or_true]
      decide
    rw [q1 t.code 0 (fun j x hj => by simpa using hj), q2]
    rfl
  unfold checkF
  rw [f1, f2, f3]
  rfl
/-- What a made body's code ends in: before its last instruction it is in shape. -/
theorem body_inv (xs : Bs) (most a : Nat) : InvW (fun _ => False) false (intW xs 1 (timesW (stmW xs 3) (1 + nxV xs most (beginW xs a).at_) ((beginW xs a).nx xs))) :=
  ((((stp_begin xs a).trans (Stp9.nx xs _)).trans (pres_times (pres_stm xs 3) _ _)).trans ((pres_il xs 1).1 _)).inv _ (inv_start a)
theorem main_shape (xs : Bs) (a : Nat) : checkF (mainMeth xs a) = 0 := shape_of (body_inv xs 6 a) (o := 172) (by decide +kernel) (by decide +kernel) (by decide +kernel) true [109, 97, 105, 110]
theorem body_traps (xs : Bs) (most a : Nat) : ∀ t ∈ (bodyW xs most a).traps, t.cls ∈ trapN := fun t ht => ((body_inv xs most a).trap t ht).2.2.2.2
theorem made_shape (xs : Bs) (a : Nat) : ∀ u ∈ unitsW xs a, ∀ m ∈ u.meths, checkF m = 0 := by
  intro u hu m hm
  simp only [unitsW, List.mem_cons, List.not_mem_nil, or_false] at hu
  rcases hu with rfl | rfl | rfl | rfl
  · simp only [mainU, List.mem_cons, List.not_mem_nil, or_false] at hm
    rcases hm with rfl | rfl
    · exact main_shape xs a
    · exact help_shape _ (nxV_lt (by decide)) _ (nxV_lt (by decide))
  · simp only [aU, List.mem_cons, List.not_mem_nil, or_false] at hm
    subst hm
    exact obj_shape _ (nxV_lt (by decide))
  · unfold bU at hm
    simp only at hm
    split at hm
    · simp only [List.mem_cons, List.not_mem_nil, or_false] at hm
      subst hm
      exact obj_shape _ (nxV_lt (by decide))
    · cases hm
  · cases hm
theorem body_maps (xs : Bs) (most a : Nat) : ∀ m ∈ (bodyW xs most a).maps, m.locals.length ≤ 7 ∧ m.stack.length ≤ 1 := fun m hm => ((body_inv xs most a).bd m hm).2

/-! ### They go together -/
theorem trap_there (w : List UnD) (h : trapN.all (fun c => c.isEmpty || (findU w c).isSome) = true) {l : List TrD} (hl : ∀ t ∈ l, t.cls ∈ trapN) : l.all (fun t => t.cls.isEmpty || (findU w t.cls).isSome) = true :=
  List.all_eq_true.2 (fun t ht => List.all_eq_true.1 h _ (hl t ht))
/-- Such classes, whatever codes they have. -/
def genU (c1 : List InD) (t1 : List TrD) (m1 : List MpD) (c2 c3 : List InD) (bm : List MeD) : List UnD :=
  [⟨sMain, cObject, [⟨true, [115], [73]⟩, ⟨true, [111], [76, 65, 59]⟩], [⟨true, [109, 97, 105, 110], dII, 40, 8, c1, t1, m1⟩, ⟨true, sHelp, dII, 4, 1, c2, [], []⟩]⟩,
   ⟨[65], cObject, [⟨false, [102], [73]⟩, ⟨false, [108], [74]⟩, ⟨false, [110, 101, 120, 116], [76, 65, 59]⟩], [⟨false, [118], dII, 8, 2, c3, [], []⟩]⟩,
   ⟨[66], [65], [⟨false, [103], [73]⟩], bm⟩, oopsU]
theorem gen_ok (c1 : List InD) (t1 : List TrD) (m1 : List MpD) (c2 c3 : List InD) (bm : List MeD) (ht : ∀ t ∈ t1, t.cls ∈ trapN) (hb : bm = [] ∨ ∃ c4, bm = [⟨false, [118], dII, 8, 2, c4, [], []⟩]) : okP (genU c1 t1 m1 c2 c3 bm) = true := by
  have htr : t1.all (fun t => t.cls.isEmpty || (findU (builtL ++ genU c1 t1 m1 c2 c3 bm) t.cls).isSome) = true := trap_there _ (by kernel_rfl) ht
  have n0 : (builtL ++ genU c1 t1 m1 c2 c3 bm).map (·.name) = (builtL ++ genU [] [] [] [] [] []).map (·.name) := by kernel_rfl
  have n1 : decide (((builtL ++ genU c1 t1 m1 c2 c3 bm).map (·.name)).Nodup) = true := by
    rw [n0]
    decide +kernel
  have k1 : mayBeP (builtL ++ genU c1 t1 m1 c2 c3 bm) ⟨sMain, cObject, [⟨true, [115], [73]⟩, ⟨true, [111], [76, 65, 59]⟩], [⟨true, [109, 97, 105, 110], dII, 40, 8, c1, t1, m1⟩, ⟨true, sHelp, dII, 4, 1, c2, [], []⟩]⟩ = true := by
    unfold mayBeP methP trapsP
    simp only [List.all_cons, List.all_nil, Bool.and_true, Bool.and_eq_true]
    exact ⟨⟨⟨⟨⟨by kernel_rfl, by kernel_rfl⟩, by kernel_rfl⟩, by kernel_rfl⟩, ⟨by kernel_rfl, by kernel_rfl⟩⟩, ⟨⟨⟨by kernel_rfl, by kernel_rfl⟩, htr⟩, by kernel_rfl⟩, ⟨by kernel_rfl, by kernel_rfl⟩, by kernel_rfl⟩
  have k2 : mayBeP (builtL ++ genU c1 t1 m1 c2 c3 bm) ⟨[65], cObject, [⟨false, [102], [73]⟩, ⟨false, [108], [74]⟩, ⟨false, [110, 101, 120, 116], [76, 65, 59]⟩], [⟨false, [118], dII, 8, 2, c3, [], []⟩]⟩ = true := by kernel_rfl
  have k4 : mayBeP (builtL ++ genU c1 t1 m1 c2 c3 bm) oopsU = true := by kernel_rfl
  have k3 : mayBeP (builtL ++ genU c1 t1 m1 c2 c3 bm) ⟨[66], [65], [⟨false, [103], [73]⟩], bm⟩ = true := by
    rcases hb with rfl | ⟨c4, rfl⟩
    · kernel_rfl
    · kernel_rfl
  unfold okP
  rw [n1]
  simp only [Bool.and_eq_true, List.all_eq_true]
  refine ⟨by kernel_rfl, trivial, fun u hu => ?_⟩
  simp only [genU, List.mem_cons, List.not_mem_nil, or_false] at hu
  rcases hu with rfl | rfl | rfl | rfl
  · exact k1
  · exact k2
  · exact k3
  · exact k4
theorem made_ok (xs : Bs) (a : Nat) : okP (unitsW xs a) = true :=
  gen_ok (bodyW xs 6 a).code (bodyW xs 6 a).traps (bodyW xs 6 a).maps _ _ _ (body_traps xs 6 a) (by
    unfold objI
    split
    · exact Or.inr ⟨_, rfl⟩
    · exact Or.inl rfl)

/-! ### How great they are -/
theorem begin_sz (xs : Bs) (a : Nat) : (beginW xs a).sz 20 := by
  have h0 : (startW a).sz 0 := ⟨by simp [startW], by simp [startW], by simp [startW]⟩
  have h2 := sz_op 54 2 (sz_push (numI (nxV xs 4 ((((startW a).nx xs).push (numI (nxV xs 4 (startW a).at_ : Int))).op 54 1).at_ : Int)) (sz_nx xs (sz_op 54 1 (sz_push (numI (nxV xs 4 (startW a).at_ : Int)) (sz_nx xs h0)))))
  have h3 := sz_op 58 5 (sz_push ⟨187, 0, 0, [65], [], [], []⟩ (sz_op 55 3 (sz_op 10 0 h2)))
  unfold beginW
  simp only
  generalize ((((((((((startW a).nx xs).push (numI (nxV xs 4 (startW a).at_ : Int))).op 54 1).nx xs).push (numI (nxV xs 4 ((((startW a).nx xs).push (numI (nxV xs 4 (startW a).at_ : Int))).op 54 1).at_ : Int))).op 54 2).op 10 0).op 55 3).push ⟨187, 0, 0, [65], [], [], []⟩).op 58 5 = s3 at h3 ⊢
  exact (sz_op _ _ (sz_op _ _ (sz_op _ _ (sz_op _ _ (sz_push _ (sz_nx xs h3)))))).more (by decide)
theorem body_sz (xs : Bs) (a : Nat) : (bodyW xs 6 a).sz 70000 := by
  have h1 : ((beginW xs a).nx xs).sz 20 := sz_nx xs (begin_sz xs a)
  have hv := nxV_lt (xs := xs) (k := 6) (a := (beginW xs a).at_) (by decide)
  have h2 := adds_times' (adds_stm xs).2.2.2 (1 + nxV xs 6 (beginW xs a).at_) _ _ h1
  exact (sz_op _ _ ((adds_il1 xs).1 _ _ h2)).more (by have := Nat.mul_le_mul_right 10360 (show 1 + nxV xs 6 (beginW xs a).at_ ≤ 6 by omega); omega)
theorem made_sizes (xs : Bs) (a : Nat) : ∀ u ∈ unitsW xs a, u.name.length ≤ 64 ∧ u.super.length ≤ 64 ∧ u.fields.length ≤ 3 ∧ u.meths.length ≤ 2 ∧ (∀ f ∈ u.fields, f.name.length ≤ 64 ∧ f.desc.length ≤ 64) ∧ ∀ m ∈ u.meths, m.name.length ≤ 64 ∧ m.desc.length ≤ 64 ∧ m.code.length ≤ 70000 ∧ m.maps.length ≤ 70000 ∧ m.traps.length ≤ 70000 ∧ ∀ t ∈ m.traps, t.cls.length ≤ 64 := by
  have ho : ∀ j, (objI j).name.length ≤ 64 ∧ (objI j).desc.length ≤ 64 ∧ (objI j).code.length ≤ 70000 ∧ (objI j).maps.length ≤ 70000 ∧ (objI j).traps.length ≤ 70000 ∧ ∀ t ∈ (objI j).traps, t.cls.length ≤ 64 := fun j => ⟨by simp [objI, dII], by simp [objI, dII], by simp [objI, dII], by simp [objI, dII], by simp [objI, dII], fun t h => absurd h (by simp [objI])⟩
  have hh : ∀ i j, (helpI i j).name.length ≤ 64 ∧ (helpI i j).desc.length ≤ 64 ∧ (helpI i j).code.length ≤ 70000 ∧ (helpI i j).maps.length ≤ 70000 ∧ (helpI i j).traps.length ≤ 70000 ∧ ∀ t ∈ (helpI i j).traps, t.cls.length ≤ 64 := fun i j => ⟨by simp [helpI, dII, sHelp], by simp [helpI, dII, sHelp], by simp [helpI, dII, sHelp], by simp [helpI, dII, sHelp], by simp [helpI, dII, sHelp], fun t h => absurd h (by simp [helpI])⟩
  have hm : (mainMeth xs a).name.length ≤ 64 ∧ (mainMeth xs a).desc.length ≤ 64 ∧ (mainMeth xs a).code.length ≤ 70000 ∧ (mainMeth xs a).maps.length ≤ 70000 ∧ (mainMeth xs a).traps.length ≤ 70000 ∧ ∀ t ∈ (mainMeth xs a).traps, t.cls.length ≤ 64 :=
    ⟨by show 4 ≤ 64; decide, by show 4 ≤ 64; decide, (body_sz xs a).1, (body_sz xs a).2.2, (body_sz xs a).2.1, fun t ht => by
      have h1 := body_traps xs 6 a t ht
      have h2 : trapN.all (fun c => decide (c.length ≤ 64)) = true := by decide +kernel
      exact of_decide_eq_true (List.all_eq_true.1 h2 _ h1)⟩
  intro u hu
  simp only [unitsW, List.mem_cons, List.not_mem_nil, or_false] at hu
  rcases hu with rfl | rfl | rfl | rfl
  · refine ⟨by simp [mainU, sMain], by simp [mainU, cObject], by simp [mainU], by simp [mainU], by simp [mainU], fun m h => ?_⟩
    simp only [mainU, List.mem_cons, List.not_mem_nil, or_false] at h
    rcases h with rfl | rfl
    · exact hm
    · exact hh _ _
  · refine ⟨by simp [aU], by simp [aU, cObject], by simp [aU], by simp [aU], by simp [aU], fun m h => ?_⟩
    simp only [aU, List.mem_cons, List.not_mem_nil, or_false] at h
    subst h
    exact ho _
  · refine ⟨by simp [bU], by simp [bU], by simp [bU], ?_, by simp [bU], fun m h => ?_⟩
    · unfold bU
      simp only
      split <;> simp
    · unfold bU at h
      simp only at h
      split at h
      · simp only [List.mem_cons, List.not_mem_nil, or_false] at h
        subst h
        exact ho _
      · cases h
  · exact ⟨by simp [oopsU], by simp [oopsU, cThrowable], by simp [oopsU], by simp [oopsU], fun f h => absurd h (by simp [oopsU]), fun m h => absurd h (by simp [oopsU])⟩

end Go.Proofs.YtdkkpcbebhgbiaaGreatDoor
