/- A commit's records; the walks over blob.records and a commit's lay. -/
import Derived.Test.YtnhfmcijadficaaGreatDoorZap
import Derived.Test.YtnhfmcijadficaaGreatDoorZan
namespace Go.Proofs.YtnhfmcijadficaaGreatDoor
set_option maxRecDepth 100000
open Go.RowKit

def Ch.rc (f : Ch) (t : Nat) : Rc := ⟨f.rk, t, f.s, f.rA, f.rN, f.rC, 0, f.rB⟩
def endRc (n t : Nat) : Rc := ⟨3, t, ⟨#[]⟩, none, 0, 0, n, []⟩
/-- The records of changes, and the one that makes them count. -/
def recsL (l : List Ch) (t : Nat) : List Rc := l.map (Ch.rc · t) ++ [endRc l.length t]
theorem recsL_len (l : List Ch) (t : Nat) : (recsL l t).length = l.length + 1 := by simp [recsL]

theorem Tryz.infoRec : (Tryz.prog.info? 161).map (fun i => (i.zero, i.size, i.bytes)) = some (some (.agg #[.int .i64 0, .int .u32 0, .string ⟨#[]⟩, .slice none 0 0, .int .i64 0]), 5, 64) := by kernel_rfl

/-- append of records onto a row of the call's own. -/
theorem wpList_append_recs {ops : Array Oper} {rest : List Oper} {q : Oper} {u : Act} {w : World} {S : Nat → Prop} {Q : Exit → Act → World → Prop} (hgd : q.guard = none) (s x : Operand) (hq : q.op = .call { callee := .builtin .append, args := #[s, x], argTypes := #[201, 201] })
    (base : Nat) (B : Option Addr) (m0 c0 : Nat) (zs : List Rc) (hs : u.eval s = .slice B m0 c0) (hown : GotR Rc.cells 5 161 base w B m0 c0 zs) (A : Option Addr) (m c : Nat) (l : List Rc)
    (hx : u.eval x = .slice A m c) (hB : RowSl Rc.cells 5 w S A m c l) (hn : A = none → m = 0 ∧ c = 0) (hm : m0 + m ≤ 16777216) (hbase : base ≤ w.heap.size)
    (h : ∀ A' c' w', GotR Rc.cells 5 161 base w' A' (m0 + m) c' (zs ++ l) → w.grownBy w' (Value.slice B m0 c0).ownBlock → (∀ g, (Value.slice B m0 c0).ownBlock = some g → base ≤ g) → wpList Tryz.prog ops Q rest (u.put q.dst (.slice A' (m0 + m) c')) w') : wpList Tryz.prog ops Q (q :: rest) u w :=
  wpList_append_rows Rc.cells_len Rc.one (by decide) 201 161 _ 64 Tryz.underlying201 Tryz.infoRec (by simp [Value.cells]) (by decide) hgd s x hq base B m0 c0 zs hs hown A m c l hx hB hn hm hbase (fun A' c' w' h1 h2 h3 _ => h A' c' w' h1 h2 h3)

theorem rec_lit (r : Rc) (w : World) : RowSl Rc.cells 5 (w.alloc (.cells #[.int .i64 (r.k : Int), .int .u32 (r.t : Int), .string r.s, .slice r.A r.n r.cap, .int .i64 (r.c : Int)] 161)) Empty (some ⟨w.heap.size, 0, none⟩) 1 1 [r] :=
  RowSl.lit Rc.cells_len w Empty 161 [r] 1 [.int .i64 (r.k : Int), .int .u32 (r.t : Int), .string r.s, .slice r.A r.n r.cap, .int .i64 (r.c : Int)] (by simp [Rc.cells]) rfl (by decide) (fun h => h)

set_option maxHeartbeats 4000000 in
theorem records_any (A : Option Addr) (n cap : Nat) (l : List Ch) (t : Nat) (w : World) (hC : Chs w Empty A n cap l) (hn : n ≤ 1024) :
    Calls Tryz.prog 130 #[.slice A n cap, .int .u32 (t : Int)] w fun e w' => (∃ A' cap', e = .returned (.slice A' (n + 1) cap') ∧ GotR Rc.cells 5 161 w.heap.size w' A' (n + 1) cap' (recsL l t)) ∧ Below w.heap.size w w' := by
  have HC := Lib.hid hC
  have hcap : n ≤ cap := hC.2.1
  have hcap2 : cap ≤ 9223372036854775807 := by have := hC.2.2.1; unfold maxLen at this; omega
  clear hC
  go_enter Tryz.func130, Tryz.ntmps130
  go_wp2_with fail
  go_loopw [5, 10] (fun r v wr => ∃ (i : Nat) (B : Option Addr) (c0 : Nat), i ≤ n ∧ v = .int .i64 (i : Int) ∧ r = .slice B i c0 ∧ Hid (GotR Rc.cells 5 161 w.heap.size wr B i c0 ((l.take i).map (Ch.rc · t))) ∧ Hid (Below w.heap.size w wr)) (fun _ v _ => n - (intOf v).toNat)
  case atStart => exact ⟨0, none, 0, Nat.zero_le _, rfl, rfl, Lib.hid (GotR.nil_ _ _ _ _ _), Lib.hid (Below.refl _ _)⟩
  case round =>
    obtain ⟨i, B, c0, hi, rfl, rfl, HG, HB⟩ := hrel
    by_cases hlt : i < n
    · obtain ⟨b, o, f, rfl, hb, -, hf, hc⟩ := (HC.out.only (Only.of_below (S := Empty) HB.out) (fun _ _ h => h)).at_ hlt
      have htake := take_snoc l i f hf
      have Hrec := Lib.hid (chRec_any f (t : Int))
      have c0' := hc 0 (by omega)
      have c1' := hc 1 (by omega)
      have c2' := hc 2 (by omega)
      simp [Ch.cells] at c0' c1' c2'
      have Ht := Lib.hid htake
      clear hc hf htake
      go_wp2_with fail
      refine (Hrec.out _).mono ?_
      unfold recV
      rintro e2 w2 ⟨rfl, hb2⟩
      have hb2' := (Below.refl wr.heap.size wr).alloc (Nat.le_refl _) (.cells #[.bool f.del, .string f.s, .slice f.A f.n f.cap] 37)
      have hb2'' := hb2'.trans (hb2.mono hb2'.size)
      have Hb2 := Lib.hid (HB.out.trans (hb2''.mono HB.out.size))
      have HG2 := Lib.hid (HG.out.below Rc.cells_len hb2'')
      clear hb2 hb2' hb2''
      have hrl := rec_lit (f.rc t) w2
      unfold Ch.rc at hrl
      simp only at hrl
      have Hrl := Lib.hid hrl
      clear hrl
      go_wp2_with (at_builtin; refine wpList_append_recs rfl _ _ rfl w.heap.size B i c0 ((l.take i).map (Ch.rc · t)) rfl (HG2.out.alloc Rc.cells_len _) _ 1 1 _ rfl Hrl.out (fun h => by cases h) (by omega) (by have := Hb2.out.size; simp; omega) ?_; intro A3 c3 w3 hg3 hgr3 hr3)
      have Hb3 := Lib.hid (below_gotR (Hb2.out.alloc Hb2.out.size (.cells #[.int .i64 (f.rk : Int), .int .u32 (t : Int), .string f.s, .slice f.rA f.rN f.rC, .int .i64 0] 161)) (by have := Hb2.out.size; simp; omega) hgr3 hr3 (Nat.le_refl _))
      have HG3 := Lib.hid hg3
      clear hg3 hgr3 hr3
      go_roundw
      case rel => exact ⟨i + 1, A3, c3, by omega, by simp, rfl, by rw [Ht.out, List.map_append, List.map_cons, List.map_nil]; exact HG3, Hb3⟩
      case measure => simp [intOf]; omega
    · have hin : i = n := by omega
      subst hin
      have ht : l.take i = l := List.take_of_length_le (by have := HC.out.1; omega)
      rw [ht] at HG
      have hrl := rec_lit (endRc i t) wr
      unfold endRc at hrl
      simp only at hrl
      have Hrl := Lib.hid hrl
      have Hl : Hid (l.length = i) := Lib.hid HC.out.1
      clear hrl
      go_wp2_with (at_builtin; refine wpList_append_recs rfl _ _ rfl w.heap.size B i c0 (l.map (Ch.rc · t)) rfl (HG.out.alloc Rc.cells_len _) _ 1 1 _ rfl Hrl.out (fun h => by cases h) (by omega) (by have := HB.out.size; simp; omega) ?_; intro A3 c3 w3 hg3 hgr3 hr3)
      have Hb3 := Lib.hid (below_gotR (HB.out.alloc HB.out.size (.cells #[.int .i64 3, .int .u32 (t : Int), .string ⟨#[]⟩, .slice none 0 0, .int .i64 (i : Int)] 161)) (by have := HB.out.size; simp; omega) hgr3 hr3 (Nat.le_refl _))
      go_ret
      refine ⟨⟨A3, c3, rfl, ?_⟩, Hb3.out⟩
      unfold recsL endRc
      rw [Hl.out]
      exact hg3

end Go.Proofs.YtnhfmcijadficaaGreatDoor

/- Rows of a call's own that stand side by side: what grows one leaves the others. -/
namespace Go.Proofs.YtnhfmcijadficaaGreatDoor
set_option maxRecDepth 100000
open Go.RowKit

section
variable {w w' : World} {base base' n n' size size' : Nat} {e e' : TypeId} {v v' : Value} {xs xs' : List Value}

theorem own_ne (h : w.ownsRow base e size v n xs) (h' : w.ownsRow base' e' size' v' n' xs') (hne : e ≠ e') : v.ownBlock = none ∨ v.ownBlock ≠ v'.ownBlock := by
  rcases h.2 with ⟨rfl, _⟩ | ⟨g, cap, cur, rfl, _, hh, _⟩
  · exact Or.inl rfl
  · rcases h'.2 with ⟨rfl, _⟩ | ⟨g', cap', cur', rfl, _, hh', _⟩
    · exact Or.inr (by simp [Value.ownBlock])
    · refine Or.inr fun he => ?_
      simp [Value.ownBlock] at he
      subst he
      rw [hh] at hh'
      simp only [Option.some.injEq, Obj.cells.injEq] at hh'
      exact hne hh'.2.1

theorem blk_ne {g : Nat} {t : TypeId} {cs : Array Value} (h : w.ownsRow base e size v n xs) (hb : Blk w g t cs) (hne : e ≠ t) : ¬ v.ownBlock = some g := by
  intro he
  rcases h.2 with ⟨rfl, _⟩ | ⟨g', cap, cur, rfl, _, hh, _⟩
  · cases he
  · simp [Value.ownBlock] at he
    subst he
    exact hne ((Blk.ne_ (w := w) (g := g') (t := e) (t' := t) hh hb · rfl) |> fun k => Classical.byContradiction fun hk => k hk)

/-- A block of another type stays while a row grows. -/
theorem Blk.row {g : Nat} {t : TypeId} {cs : Array Value} (hb : Blk w g t cs) (h : w.ownsRow base e size v n xs) (hne : e ≠ t) (hg : w.grownBy w' v.ownBlock) : Blk w' g t cs :=
  hb.of (hg.block g hb.lt (fun he => blk_ne h hb hne he.symm))

/-- A block of five cells, cell by cell. -/
theorem Blk.five {g : Nat} {t : TypeId} {a b c d u : Value} (h : Blk w g t #[a, b, c, d, u]) :
    w.cell? ⟨g, 0, none⟩ = some a ∧ w.cell? ⟨g, 1, none⟩ = some b ∧ w.cell? ⟨g, 2, none⟩ = some c ∧ w.cell? ⟨g, 3, none⟩ = some d ∧ w.cell? ⟨g, 4, none⟩ = some u :=
  ⟨h.cell 0, h.cell 1, h.cell 2, h.cell 3, h.cell 4⟩

/-- Bytes of the call's own stay while a row of another type grows. -/
theorem Got.row {A : Option Addr} {m cap : Nat} {zs : List UInt8} (h : Got base w A m cap zs) (ho : w.ownsRow base' e size v n xs) (hne : 5 ≠ e) (hg : w.grownBy w' v.ownBlock) : Got base w' A m cap zs := by
  have h1 := h.own.kept hg (own_ne h.own ho hne)
  obtain ⟨A', cap', he, h2⟩ := Got.of_own h1
  cases he
  exact h2
end

/-- append of bytes onto bytes of the call's own: the new value is a slice, too. -/
theorem wpList_append_got {ops : Array Oper} {rest : List Oper} {o : Oper} {a : Act} {w : World} {Q : Exit → Act → World → Prop} (hgd : o.guard = none) (s x : Operand)
    (hq : o.op = .call { callee := .builtin .append, args := #[s, x], argTypes := #[22, 22] })
    (base : Nat) (A : Option Addr) (n cap : Nat) (zs : List UInt8) (hs : a.eval s = .slice A n cap) (hG : Got base w A n cap zs) (B : Option Addr) (m c : Nat) (ys : List UInt8) (hx : a.eval x = .slice B m c)
    (hB : ByteSl w Empty B m c ys) (hBn : B = none → m = 0 ∧ c = 0) (hm : n + m ≤ 16777216) (hbase : base ≤ w.heap.size)
    (h : ∀ A' c' w', Got base w' A' (n + m) c' (zs ++ ys) → w.grownBy w' (Value.slice A n cap).ownBlock → (∀ q, (Value.slice A n cap).ownBlock = some q → base ≤ q) → wpList Tryz.prog ops Q rest (a.put o.dst (.slice A' (n + m) c')) w') : wpList Tryz.prog ops Q (o :: rest) a w := by
  refine wpList_append_bytes hgd s x hq base _ hs n zs hG.own B m c ys Empty hx hB hBn hm hbase ?_
  intro v' w' h1 h2 _
  obtain ⟨A', c', rfl, hG'⟩ := Got.of_own h1
  exact h A' c' w' hG' h2 (fun q hq => (hG.own.lt q hq).1)

/-- A row that was just made, with no bytes. -/
theorem got_made (w : World) (base : Nat) (h : base ≤ w.heap.size) : Got base (w.alloc (.cells #[] 5)) (some ⟨w.heap.size, 0, none⟩) 0 0 [] :=
  ⟨own_made w base h, ByteSl.nil_ _ _ _ _ (by simp [maxLen]), fun h => by cases h⟩

theorem below_got {B : Nat} {a w w' : World} {A : Option Addr} {n cap base : Nat} (h : Below B a w) (hB : B ≤ w.heap.size) (g : w.grownBy w' (Value.slice A n cap).ownBlock) (hr : ∀ q, (Value.slice A n cap).ownBlock = some q → base ≤ q) (hb : B ≤ base) : Below B a w' :=
  below_grown h hB g (fun q hq => Nat.le_trans hb (hr q hq))

end Go.Proofs.YtnhfmcijadficaaGreatDoor

/- The walk over a commit's lay: all its records, one behind the other. -/
namespace Go.Proofs.YtnhfmcijadficaaGreatDoor
set_option maxRecDepth 100000
open Go.RowKit

/-- A change that may be a record. -/
def Ch.may (f : Ch) : Bool := mayB (f.rk : Int) 1 (f.s.size : Int) (f.rN : Int) 0
theorem Ch.may_rc (f : Ch) (t : Nat) (h : f.may = true) (ht : t ≠ 0) : mayB (f.rk : Int) (t : Int) (f.s.size : Int) (f.rN : Int) 0 = true := by
  unfold Ch.may at h
  rw [mayB_iff] at h ⊢
  omega
theorem Ch.may_fair (f : Ch) (h : f.may = true) : f.s.size ≤ 64 ∧ f.rN ≤ 4096 := by
  unfold Ch.may at h
  rw [mayB_iff] at h
  omega
theorem fair_of {l : List Ch} (h : ∀ f ∈ l, f.may = true) : Fair l := fun f hf => f.may_fair (h f hf)
theorem Ch.rAt {w : World} {S : Nat → Prop} (f : Ch) (h : ByteSl w S f.A f.n f.cap f.blob ∧ (f.A = none → f.n = 0 ∧ f.cap = 0)) : ByteSl w S f.rA f.rN f.rC f.rB ∧ (f.rA = none → f.rN = 0 ∧ f.rC = 0) := by
  unfold Ch.rA Ch.rN Ch.rC Ch.rB
  split
  · exact ⟨ByteSl.nil_ _ _ _ _ (by simp [maxLen]), fun _ => ⟨rfl, rfl⟩⟩
  · exact h

/-- All bytes of a commit. -/
def commitB (l : List Ch) (t : Nat) : List UInt8 := (recsL l t).flatMap Rc.bytes
theorem flat_len : ∀ (l : List Rc), (∀ r ∈ l, r.blob.length = r.n) → (l.flatMap Rc.bytes).length = (l.map Rc.sz).sum
  | [], _ => rfl
  | r :: l, h => by
    rw [List.flatMap_cons, List.length_append, r.bytes_len (h r List.mem_cons_self), flat_len l (fun q hq => h q (List.mem_cons_of_mem _ hq)), List.map_cons, List.sum_cons]
theorem recsL_sum (l : List Ch) (t : Nat) : ((recsL l t).map Rc.sz).sum = roomL l := by
  unfold recsL roomL
  rw [List.map_append, List.sum_append, List.map_map]
  have h1 : (Rc.sz ∘ fun x : Ch => x.rc t) = Ch.sz := rfl
  have h2 : (List.map Rc.sz [endRc l.length t]).sum = 16 := rfl
  rw [h1, h2]
  omega
theorem sum_take_le (l : List Rc) (i : Nat) (r : Rc) (h : l[i]? = some r) : ((l.take i).map Rc.sz).sum + r.sz ≤ (l.map Rc.sz).sum := by
  have h1 := take_snoc l i r h
  have h2 : ((l.take (i + 1)).map Rc.sz).sum ≤ (l.map Rc.sz).sum := by
    have e : l.map Rc.sz = (l.take (i + 1)).map Rc.sz ++ (l.drop (i + 1)).map Rc.sz := by rw [← List.map_append, List.take_append_drop]
    rw [e, List.sum_append]
    omega
  rw [h1, List.map_append, List.sum_append, List.map_cons, List.map_nil, List.sum_cons, List.sum_nil, Nat.add_zero] at h2
  exact h2

theorem recsL_ok {w : World} {S : Nat → Prop} {A : Option Addr} {n cap : Nat} {l : List Ch} (h : Chs w S A n cap l) (hm : ∀ f ∈ l, f.may = true) (hn : n ≤ 16) (t : Nat) (h1 : t ≠ 0) (h2 : t ≤ 4294967295) : ∀ r ∈ recsL l t, r.Ok ∧ r.At w S := by
  intro r hr
  rcases List.mem_append.1 hr with hr | hr
  · obtain ⟨f, hf, rfl⟩ := List.mem_map.1 hr
    have h3 := f.rAt (h.2.2.2.2 f hf)
    exact ⟨⟨f.may_rc t (hm f hf) h1, h2, h3.1.1⟩, h3⟩
  · simp at hr
    subst hr
    refine ⟨⟨?_, h2, rfl⟩, ByteSl.nil_ _ _ _ _ (by show 0 ≤ _; omega), fun _ => ⟨rfl, rfl⟩⟩
    rw [mayB_iff]
    refine ⟨?_, Or.inr (Or.inr ⟨rfl, rfl, rfl, ?_, ?_⟩)⟩
    · show (t : Int) ≠ 0
      omega
    · show (0 : Int) ≤ (l.length : Int)
      omega
    · show (l.length : Int) ≤ 16
      have := h.1
      omega
theorem Rc.At.only {w w' : World} {S T : Nat → Prop} {r : Rc} (h : r.At w S) (k : Only T w w') (hT : ∀ i, i < w.heap.size → T i → S i) : r.At w' S := ⟨h.1.only k hT, h.2⟩

set_option maxHeartbeats 1000000 in
theorem cLay_any (p c e Z L k m o : Nat) (t : Nat) (A : Option Addr) (n cap : Nat) (l : List Ch) (ss : List (Nat × List UInt8)) (xs : List UInt8) (w : World) (hs : FS w p c e Z L ss) (hk : ss[k]? = some (m, xs))
    (hC : Chs w (Three p c e) A n cap l) (hm : ∀ f ∈ l, f.may = true) (hn : n ≤ 16) (ht1 : t ≠ 0) (ht2 : t ≤ 4294967295) (ho : o + roomL l ≤ Z) (hb : Blank xs o (roomL l)) :
    Calls Tryz.prog 91 #[.agg #[.pointer (some ⟨p, 0, none⟩), .int .i64 ((k * Z + o : Nat) : Int), .int .u32 (t : Int), .slice A n cap]] w fun e1 w' => e1 = .returned (.int .i64 0) ∧ FS w' p c e Z L (ss.set k (m, splice xs o (commitB l t))) ∧ Only (Three p c e) w w' := by
  have hxl := hs.len hk
  have hbz := hs.bz
  have hkz := kz_lt (Z := Z) hk
  have hok := recsL_ok hC hm hn t ht1 ht2
  have Hok := Lib.hid hok
  have hsum := recsL_sum l t
  have hrl := recsL_len l t
  rw [hC.1] at hrl
  have HC := Lib.hid (hC.mono (T := Empty) (fun _ _ h => h.elim))
  have HS := Lib.hid hs
  have HK := Lib.hid hk
  obtain ⟨R, hR⟩ : ∃ R, R = recsL l t := ⟨_, rfl⟩
  have hcb : commitB l t = R.flatMap Rc.bytes := by rw [hR]; rfl
  rw [hcb]
  rw [← hR] at hsum hrl Hok
  have hRr := Lib.hid (records_any A n cap l t)
  rw [← hR] at hRr
  obtain ⟨M, hM⟩ : ∃ M, M = roomL l := ⟨_, rfl⟩
  rw [← hM] at hsum ho hb
  have Hb := Lib.hid hb
  obtain ⟨T, hT⟩ : ∃ T, T = k * Z + o := ⟨_, rfl⟩
  have HT := Lib.hid hT
  have hTb : T + M ≤ 4194304 := by omega
  rw [← hT]
  have h3 : ∀ W, Only (Three p c e) w W → ∀ q, w.heap.size ≤ q → ¬ Three p c e q := fun W _ q hq => hs.three q hq
  have h0 : w.heap.size ≠ p := by
    intro h
    exact hs.three w.heap.size (Nat.le_refl _) (Or.inl h)
  have h1b : ¬ Three p c e w.heap.size := hs.three w.heap.size (Nat.le_refl _)
  have Hbl := Lib.hid (Blk.new w 165 #[.pointer (some ⟨p, 0, none⟩), .int .i64 (T : Int), .int .u32 (t : Int), .slice A n cap])
  have H3 := Lib.hid h3
  clear hs hk hC hm hok hR hcb hb hT hM hkz hxl h3 h0
  go_enter Tryz.func91, Tryz.ntmps91
  go_wp2_with fail
  have hb0 := (Below.refl w.heap.size w).alloc (Nat.le_refl _) (.cells #[.pointer (some ⟨p, 0, none⟩), .int .i64 (T : Int), .int .u32 (t : Int), .slice A n cap] 165)
  refine (hRr.out _ (HC.out.below hb0) (by omega)).mono ?_
  rintro e1 w1 ⟨⟨A1, cap1, rfl, hG1⟩, hb1⟩
  have hb01 := hb0.trans (hb1.mono hb0.size)
  have HO1 := Lib.hid (Only.of_below (S := Three p c e) hb01)
  have Hbl1 := Lib.hid (Hbl.out.of (hb1.block w.heap.size (by simp)))
  have HG1 := Lib.hid (hG1.out (S := Three p c e) (fun i h1 _ => H3.out w1 HO1.out i (by simp at h1; omega)))
  have HS1 := Lib.hid (HS.out.below hb01)
  have HN := hG1.isNil
  have hnn : A1 ≠ none := fun h => by have := (HN h).1; omega
  have hc1 := hG1.row.2.1
  have hc2 : cap1 ≤ 9223372036854775807 := by have := hG1.row.2.2.1; unfold maxLen at this; omega
  have HK1 : Hid (ss.set k (m, splice xs o []) = ss) := Lib.hid (by
    rw [splice_nil _ _ (by have := HS.out.len HK.out; omega)]
    have hlt := lt_at HK.out
    apply List.ext_getElem?
    intro j
    by_cases h : k = j
    · subst h
      rw [set_at HK.out, HK.out]
    · rw [set_far _ h])
  clear hG1 hb1 hb0 hb01 HN
  go_wp2_with fail
  go_loopw [3, 14] (fun a v wr => ∃ (i q : Nat), i ≤ n + 1 ∧ v = .int .i64 (i : Int) ∧ a = .int .i64 (q : Int) ∧ Hid (q = T + ((R.take i).map Rc.sz).sum) ∧ Hid (FS wr p c e Z L (ss.set k (m, splice xs o ((R.take i).flatMap Rc.bytes)))) ∧ Hid (Only (Three p c e) w wr) ∧ Hid (Only (Three p c e) w1 wr)) (fun _ v _ => n + 1 - (intOf v).toNat)
  case atStart =>
    refine ⟨0, T, Nat.zero_le _, rfl, rfl, Lib.hid rfl, Lib.hid ?_, HO1, Lib.hid (Only.refl _ _)⟩
    rw [List.take_zero, List.flatMap_nil, HK1.out]
    exact HS1.out
  case round =>
    obtain ⟨i, aq, hi, rfl, rfl, Haq, HS2, HO2, HO12⟩ := hrel
    by_cases hlt : i < n + 1
    · obtain ⟨b, oo, r, rfl, hb, -, hr, hcl⟩ := (HG1.out.only HO12.out (fun _ _ h => h)).at_ hlt
      obtain ⟨q, hq⟩ : ∃ q, q = ((R.take i).map Rc.sz).sum := ⟨_, rfl⟩
      have haq : aq = T + q := by rw [Haq.out, hq]
      have hrok := Hok.out r (List.mem_of_getElem? hr)
      have htk := take_snoc R i r hr
      have hle := sum_take_le R i r hr
      rw [← hq, hsum] at hle
      have hfl := flat_len (R.take i) (fun f hf => (Hok.out f (List.mem_of_mem_take hf)).1.len)
      rw [← hq] at hfl
      have hxl := HS.out.len HK.out
      have hbl2 : Blank (splice xs o ((R.take i).flatMap Rc.bytes)) (o + q) (M - q) := by
        have h := Hb.out.behind ((R.take i).flatMap Rc.bytes) (by omega) (by omega)
        rw [hfl] at h
        exact h
      have htwo := splice_two xs ((R.take i).flatMap Rc.bytes) r.bytes o (by rw [r.bytes_len hrok.1.len, hfl]; omega)
      rw [hfl] at htwo
      have hfm : (R.take (i + 1)).flatMap Rc.bytes = (R.take i).flatMap Rc.bytes ++ r.bytes := by rw [htk, List.flatMap_append]; simp
      have hsm : ((R.take (i + 1)).map Rc.sz).sum = q + r.sz := by rw [htk, List.map_append, List.sum_append, ← hq]; simp
      have hfair : r.s.size ≤ 64 ∧ r.n ≤ 4096 := by
        have := hrok.1.may
        rw [mayB_iff] at this
        omega
      have hrsz : r.sz = r.s.size + r.n + 16 := rfl
      have c0 := hcl 0 (by omega)
      have c1 := hcl 1 (by omega)
      have c2 := hcl 2 (by omega)
      have c3 := hcl 3 (by omega)
      have c4 := hcl 4 (by omega)
      simp [Rc.cells] at c0 c1 c2 c3 c4
      have hlw := HO1.out.size
      have hlw2 : w.heap.size < wr.heap.size := (HO12.out.blk Hbl1.out h1b).lt
      have k0 : wr.cell? ⟨w.heap.size, 0, none⟩ = some (.pointer (some ⟨p, 0, none⟩)) := (HO12.out.blk Hbl1.out h1b).cell 0
      have Hlay := Lib.hid (fun (W : World) (hW : Below wr.heap.size wr W) => layRecord_any p c e Z L k m (o + q) r _ _ W (HS2.out.below hW) (set_at HK.out _) hrok.1 (hrok.2.only (HO2.out.trans (Only.of_below hW)) (fun _ _ h => h)) (by omega) (hbl2.less (by omega)))
      rw [set_set_, htwo, ← hfm, show k * Z + (o + q) = aq by rw [haq, HT.out]; omega] at Hlay
      have Hsm := Lib.hid hsm
      have haqb : aq ≤ 4194304 := by omega
      have HaQ := Lib.hid haq
      clear hcl hr hrok htk hle hfl hxl hbl2 htwo hfm hsm hq haq
      unfold Rc.v at Hlay
      have h3r : ¬ Three p c e wr.heap.size := H3.out wr HO2.out _ HO2.out.size
      go_wp2_with fail
      refine (Hlay.out _ ((Below.refl _ _).alloc (Nat.le_refl _) _)).mono ?_
      rintro e2 w2 ⟨rfl, hs2, ho2⟩
      have hb5 := Blk.new wr 161 #[.int .i64 (r.k : Int), .int .u32 (r.t : Int), .string r.s, .slice r.A r.n r.cap, .int .i64 (r.c : Int)]
      have hoa := ((Only.refl (Three p c e) wr).alloc (.cells #[.int .i64 (r.k : Int), .int .u32 (r.t : Int), .string r.s, .slice r.A r.n r.cap, .int .i64 (r.c : Int)] 161)).trans ho2
      obtain ⟨g0, g1, g2, g3, g4⟩ := (ho2.blk hb5 h3r).five
      have HS3 := Lib.hid hs2
      have HO3 := Lib.hid (HO2.out.trans hoa)
      have HO13 := Lib.hid (HO12.out.trans hoa)
      clear hs2 ho2 hoa hb5 c0 c1 c2 c3 c4 k0 Hlay
      go_wp2_with fail
      refine (rcSize_any (r.k : Int) (r.t : Int) (r.c : Int) r.s r.A r.n r.cap _ (by omega) (by omega)).mono ?_
      rintro e3 w3 ⟨rfl, hb3⟩
      have HS4 := Lib.hid (HS3.out.below hb3)
      have HO4 := Lib.hid (HO3.out.trans (Only.of_below (S := Three p c e) hb3))
      have HO14 := Lib.hid (HO13.out.trans (Only.of_below (S := Three p c e) hb3))
      clear hb3
      go_wp2_with fail
      go_roundw
      case rel => exact ⟨i + 1, aq + (r.s.size + r.n + 16), by omega, by simp, by congr 1, Lib.hid (by rw [Hsm.out, hrsz, HaQ.out]; omega), HS4, HO4, HO14⟩
      case measure => simp [intOf]; omega
    · have hin : i = n + 1 := by omega
      subst hin
      have ht : R.take (n + 1) = R := List.take_of_length_le (by omega)
      rw [ht] at HS2
      go_wp2_with fail
      go_ret
      exact ⟨rfl, HS2.out, HO2.out⟩

end Go.Proofs.YtnhfmcijadficaaGreatDoor
