/- The walk over rms.reader's records. -/
import Derived.Test.YtidbipbangifbaaGreatDoorZav
import Derived.Test.YtidbipbangifbaaGreatDoorZat
import Derived.Test.YtidbipbangifbaaGreatDoorZax
namespace Go.Proofs.YtidbipbangifbaaGreatDoor
set_option maxRecDepth 100000
open Go.RowKit

theorem Tryz.infoEntry : (Tryz.prog.info? 91).map (fun i => (i.zero, i.size, i.bytes)) = some (some (.agg #[.int .u32 0, .slice none 0 0]), 2, 32) := by kernel_rfl
/-- The loop over entries: at most k rounds. -/
def recL : Nat → RdQ → List Ent → List Ent × RdQ
  | 0, s, l => (l, s)
  | k + 1, s, l => if s.short then (l, s) else recL k (entQ s).2 (l ++ [(entQ s).1])
def recsQ (s : RdQ) : RcP × RdQ :=
  let a := numQ s 4
  let v := numQ a.2 4
  let c := numQ v.2 2
  let p := recL c.1 c.2 []
  (⟨a.1, v.1, p.1⟩, p.2)
/-- Entries that a call has made. -/
structure GotEs (base : Nat) (w : World) (A : Option Addr) (n cap : Nat) (l : List EntM) : Prop where
  row : GotR EntM.cells 2 91 base w A n cap l
  data : ∀ e ∈ l, Got base w e.A e.n e.cap e.xs ∧ e.id ≤ 4294967295
section
variable {base n cap : Nat} {w w' : World} {A : Option Addr} {l : List EntM}
theorem GotEs.nil_ (base : Nat) (w : World) : GotEs base w none 0 0 [] := ⟨GotR.nil_ _ _ _ _ _, fun e he => by simp at he⟩
theorem GotEs.only {S : Nat → Prop} (h : GotEs base w A n cap l) (k : Only S w w') (hS : ∀ q, base ≤ q → q < w.heap.size → ¬ S q) : GotEs base w' A n cap l :=
  ⟨h.row.only EntM.cells_len k hS, fun e he => ⟨(h.data e he).1.only_ k hS, (h.data e he).2⟩⟩
theorem GotEs.below (h : GotEs base w A n cap l) (k : Below w.heap.size w w') : GotEs base w' A n cap l := h.only (Only.of_below (S := Empty) k) (fun _ _ _ h => h)
theorem GotEs.ents (h : GotEs base w A n cap l) (S : Nat → Prop) (hS : ∀ i, base ≤ i → i < w.heap.size → ¬ S i) : EntsAt w Empty A n cap l :=
  ⟨h.row.row, fun e he => ⟨(h.data e he).1.bytes, (h.data e he).1.isNil, (h.data e he).2⟩⟩
theorem GotEs.lower {base' : Nat} (h : GotEs base w A n cap l) (hb : base' ≤ base) : GotEs base' w A n cap l := ⟨h.row.lower hb, fun e he => ⟨(h.data e he).1.lower hb, (h.data e he).2⟩⟩
/-- One more entry: the row grows. -/
theorem GotEs.grow {A' : Option Addr} {n' c' : Nat} {e : EntM} (h : GotEs base w A n cap l) (he : Got base w e.A e.n e.cap e.xs ∧ e.id ≤ 4294967295) (hg : w.grownBy w' (Value.slice A n cap).ownBlock) (hr : GotR EntM.cells 2 91 base w' A' n' c' (l ++ [e])) : GotEs base w' A' n' c' (l ++ [e]) :=
  ⟨hr, fun x hx => by
    rcases List.mem_append.1 hx with hx | hx
    · exact ⟨(h.data x hx).1.row h.row.own (by decide) hg, (h.data x hx).2⟩
    · simp at hx
      subst hx
      exact ⟨he.1.row h.row.own (by decide) hg, he.2⟩⟩
end
theorem ent_lit (e : EntM) (W : World) : RowSl EntM.cells 2 (W.alloc (.cells #[.int .u32 (e.id : Int), .slice e.A e.n e.cap] 91)) Empty (some ⟨W.heap.size, 0, none⟩) 1 1 [e] :=
  RowSl.lit EntM.cells_len W Empty 91 [e] 1 [.int .u32 (e.id : Int), .slice e.A e.n e.cap] (by simp [EntM.cells]) rfl (by unfold maxLen; omega) (fun h => h)

/-- What records answers. -/
def RecsOut (b g : Nat) (w : World) (P : RcP × RdQ) (e : Ending) (w' : World) : Prop :=
  (∃ A n cap l, e = .returned (Rec_ P.1.next P.1.version A n cap) ∧ GotEs w.heap.size w' A n cap l ∧ l.map EntM.p = P.1.list) ∧ RdM b w' g P.2 ∧ Only (· = g) w w'

/-- The loop in memory. -/
structure RecSt (b g : Nat) (w wr : World) (nx vs : Nat) (B : Option Addr) (m c : Nat) (l : List EntM) (s : RdQ) : Prop where
  box : Blk wr (w.heap.size + 1) 31 #[.int .u32 (nx : Int), .int .u32 (vs : Int), .slice B m c]
  res : Blk wr w.heap.size 31 #[.int .u32 0, .int .u32 0, .slice none 0 0]
  ents : GotEs (w.heap.size + 2) wr B m c l
  rd : RdM b wr g s
  only : Only (· = g) w wr
theorem RdM.cells {b g : Nat} {w : World} {s : RdQ} (h : RdM b w g s) : w.cell? ⟨g, 1, none⟩ = some (.bool s.short) ∧ w.frozen? ⟨g, 1, none⟩ = false ∧ g < w.heap.size := by
  obtain ⟨A, n, cap, hb, _⟩ := h
  exact ⟨hb.cell 1, hb.frozen 1, hb.lt⟩
section
variable {b g nx vs m c : Nat} {w wr : World} {B : Option Addr} {l : List EntM} {s : RdQ}
theorem RecSt.next (h : RecSt b g w wr nx vs B m c l s) (hgb : g < b) (hbw : b ≤ w.heap.size) {w2 : World} {t : RdQ} (hR : RdM b w2 g t) (hO : Only (· = g) wr w2) : RecSt b g w w2 nx vs B m c l t :=
  ⟨hO.blk h.box (fun e => by have e : w.heap.size + 1 = g := e; omega), hO.blk h.res (fun e => by have e : w.heap.size = g := e; omega), h.ents.only hO (fun q hq _ e => by have e : q = g := e; omega), hR, h.only.trans hO⟩
theorem RecSt.drew (h : RecSt b g w wr nx vs B m c l s) (hgb : g < b) : RecSt b g w wr.drew nx vs B m c l s :=
  have k : Only Empty wr wr.drew := (Only.refl Empty wr).drew
  ⟨k.blk h.box (fun h => h), k.blk h.res (fun h => h), h.ents.only k (fun _ _ _ h => h), h.rd.only hgb k (fun _ _ h => h.elim), h.only.trans' k (fun _ _ h => h.elim)⟩
/-- append of an entry that was just made, as an equation; what is then stored. -/
theorem RecSt.run (h : RecSt b g w wr nx vs B m c l s) (hgb : g < b) (hbw : b ≤ w.heap.size) (x : EntM) (hx : Got (w.heap.size + 2) wr x.A x.n x.cap x.xs ∧ x.id ≤ 4294967295) (hm : m ≤ 65535) :
    ∃ B' c' w2, (Builtin.append_ #[29, 29] 29 #[.slice B m c, .slice (some ⟨wr.heap.size, 0, none⟩) 1 1]).run Tryz.prog (wr.alloc (.cells #[.int .u32 (x.id : Int), .slice x.A x.n x.cap] 91)) = .ok (.slice B' (m + 1) c') w2 ∧
      RecSt b g w (w2.setCell ⟨w.heap.size + 1, 2, none⟩ (.slice B' (m + 1) c')) nx vs B' (m + 1) c' (l ++ [x]) s ∧ w2.cell? ⟨w.heap.size + 1, 2, none⟩ = some (.slice B m c) ∧ w2.frozen? ⟨w.heap.size + 1, 2, none⟩ = false ∧ w.heap.size + 1 < w2.heap.size ∧ m + 1 ≤ c' ∧ c' ≤ 9223372036854775807 := by
  have hal := (Below.refl wr.heap.size wr).alloc (Nat.le_refl _) (.cells #[.int .u32 (x.id : Int), .slice x.A x.n x.cap] 91)
  have hE1 := h.ents.below hal
  have hlt := h.box.lt
  have hrow : RowSl EntM.cells 2 _ _ _ _ _ _ := ent_lit x wr
  obtain ⟨A', c', w2, hr, hG, hgr, hro⟩ := run_append_rows EntM.cells_len EntM.cells_one (by decide) 29 91 _ 32 Tryz.underlying29 Tryz.infoEntry (by simp [Value.cells]) (by decide) 29 (w.heap.size + 2) B m c l hE1.row _ 1 1 [x] hrow (by omega) (by simp; omega)
  have hO : Only (fun q => (Value.slice B m c).ownBlock = some q) (wr.alloc (.cells #[.int .u32 (x.id : Int), .slice x.A x.n x.cap] 91)) w2 := Only.of_grown hgr (fun k e _ => e)
  have hb2 : Blk w2 (w.heap.size + 1) 31 #[.int .u32 (nx : Int), .int .u32 (vs : Int), .slice B m c] := hO.blk (h.box.alloc _) (fun e => by have := hro _ e; omega)
  have hs2 : Blk w2 w.heap.size 31 #[.int .u32 0, .int .u32 0, .slice none 0 0] := hO.blk (h.res.alloc _) (fun e => by have := hro _ e; omega)
  have hset : Only (· = w.heap.size + 1) w2 (w2.setCell ⟨w.heap.size + 1, 2, none⟩ (.slice A' (m + 1) c')) := (Only.refl (· = w.heap.size + 1) w2).setCell (p := ⟨w.heap.size + 1, 2, none⟩) (Or.inl rfl) _
  have hall : Only (fun q => w.heap.size + 1 ≤ q) wr (w2.setCell ⟨w.heap.size + 1, 2, none⟩ (.slice A' (m + 1) c')) :=
    (((Only.of_below (S := fun q => w.heap.size + 1 ≤ q) hal).trans (hO.mono (fun q _ e => by have := hro _ e; show w.heap.size + 1 ≤ q; omega))).trans (hset.mono (fun q _ e => by have e : q = w.heap.size + 1 := e; show w.heap.size + 1 ≤ q; omega)))
  have hc1 : m + 1 ≤ c' := hG.row.2.1
  have hc2 : c' ≤ 9223372036854775807 := by have := hG.row.2.2.1; unfold maxLen at this; exact this
  have hx2 : Got (w.heap.size + 2) (wr.alloc (.cells #[.int .u32 (x.id : Int), .slice x.A x.n x.cap] 91)) x.A x.n x.cap x.xs := hx.1.only_ (Only.of_below (S := Empty) hal) (fun _ _ _ h => h)
  refine ⟨A', c', w2, hr, ⟨?_, ?_, ?_, ?_, ?_⟩, hb2.cell 2, hb2.frozen 2, hb2.lt, hc1, hc2⟩
  · have k := hb2.set_ 2 (.slice A' (m + 1) c')
    simpa using k
  · exact hset.blk hs2 (fun e => by have e : w.heap.size = w.heap.size + 1 := e; omega)
  · exact (hE1.grow ⟨hx2, hx.2⟩ hgr hG).only hset (fun q hq _ e => by have e : q = w.heap.size + 1 := e; omega)
  · exact h.rd.only hgb hall (fun i _ hi => by have hi : w.heap.size + 1 ≤ i := hi; omega)
  · exact h.only.trans' hall (fun i hi hs => by have hs : w.heap.size + 1 ≤ i := hs; omega)
/-- What is stored at the end. -/
theorem RecSt.end_ (h : RecSt b g w wr nx vs B m c l s) (hgb : g < b) (hbw : b ≤ w.heap.size) :
    RecsOut b g w (⟨nx, vs, l.map EntM.p⟩, s) (.returned (Rec_ nx vs B m c)) (((wr.setCell ⟨w.heap.size, 0, none⟩ (.int .u32 (nx : Int))).setCell ⟨w.heap.size, 1, none⟩ (.int .u32 (vs : Int))).setCell ⟨w.heap.size, 2, none⟩ (.slice B m c)) := by
  have hO : Only (· = w.heap.size) wr (((wr.setCell ⟨w.heap.size, 0, none⟩ (.int .u32 (nx : Int))).setCell ⟨w.heap.size, 1, none⟩ (.int .u32 (vs : Int))).setCell ⟨w.heap.size, 2, none⟩ (.slice B m c)) := (((Only.refl (· = w.heap.size) wr).setCell (p := ⟨w.heap.size, 0, none⟩) (Or.inl rfl) _).setCell (p := ⟨w.heap.size, 1, none⟩) (Or.inl rfl) _).setCell (p := ⟨w.heap.size, 2, none⟩) (Or.inl rfl) _
  exact ⟨⟨B, m, c, l, rfl, (h.ents.only hO (fun q hq _ e => by have e : q = w.heap.size := e; omega)).lower (by omega), rfl⟩, h.rd.only hgb hO (fun i _ hi => by have hi : i = w.heap.size := hi; omega), h.only.trans' hO (fun i hi hs => by have hs : i = w.heap.size := hs; omega)⟩
end

set_option maxHeartbeats 2000000 in
theorem rmRecords_any (b g : Nat) (s : RdQ) (w : World) (hR : RdM b w g s) (hgb : g < b) (hbw : b ≤ w.heap.size) :
    Calls Tryz.prog 89 #[.pointer (some ⟨g, 0, none⟩)] w fun e w' => RecsOut b g w (recsQ s) e w' := by
  have hgl : g < w.heap.size := by omega
  obtain ⟨nx, s1, h1⟩ : ∃ i s1, numQ s 4 = (i, s1) := ⟨_, _, rfl⟩
  obtain ⟨vs, s2, h2⟩ : ∃ n s2, numQ s1 4 = (n, s2) := ⟨_, _, rfl⟩
  obtain ⟨ct, s3, h3⟩ : ∃ d s3, numQ s2 2 = (d, s3) := ⟨_, _, rfl⟩
  obtain ⟨l0, s4, hP⟩ : ∃ l0 s4, recL ct s3 [] = (l0, s4) := ⟨_, _, rfl⟩
  have hE : recsQ s = (⟨nx, vs, l0⟩, s4) := by unfold recsQ; rw [h1]; simp only; rw [h2]; simp only; rw [h3]; simp only; rw [hP]
  rw [hE]
  have hn : nx < 4294967296 := by have := numQ_lt s 4; rw [h1] at this; exact this
  have hv : vs < 4294967296 := by have := numQ_lt s1 4; rw [h2] at this; exact this
  have hc : ct < 65536 := by have := numQ_lt s2 2; rw [h3] at this; exact this
  have hn2 : nx ≤ 4294967295 := by omega
  have hv2 : vs ≤ 4294967295 := by omega
  have hc2 : ct ≤ 65535 := by omega
  have hnw : IntKind.u32.wrap (nx : Int) = (nx : Int) := by rw [IntKind.wrap_u32]; omega
  have hvw : IntKind.u32.wrap (vs : Int) = (vs : Int) := by rw [IntKind.wrap_u32]; omega
  have C1 : Hid (∀ W, RdM b W g s → Calls Tryz.prog 116 #[.pointer (some ⟨g, 0, none⟩), .int .i64 4] W fun e w' => e = .returned (.int .u64 (nx : Int)) ∧ RdM b w' g s1 ∧ Only (· = g) W w') := Lib.hid (fun W h => by have := rmNumber_any b g 4 s W h (by omega) (by omega); rw [h1] at this; exact this)
  have C2 : Hid (∀ W, RdM b W g s1 → Calls Tryz.prog 116 #[.pointer (some ⟨g, 0, none⟩), .int .i64 4] W fun e w' => e = .returned (.int .u64 (vs : Int)) ∧ RdM b w' g s2 ∧ Only (· = g) W w') := Lib.hid (fun W h => by have := rmNumber_any b g 4 s1 W h (by omega) (by omega); rw [h2] at this; exact this)
  have C3 : Hid (∀ W, RdM b W g s2 → Calls Tryz.prog 116 #[.pointer (some ⟨g, 0, none⟩), .int .i64 2] W fun e w' => e = .returned (.int .u64 (ct : Int)) ∧ RdM b w' g s3 ∧ Only (· = g) W w') := Lib.hid (fun W h => by have := rmNumber_any b g 2 s2 W h (by omega) (by omega); rw [h3] at this; exact this)
  have CE : Hid (∀ W t, RdM b W g t → b ≤ W.heap.size → Calls Tryz.prog 117 #[.pointer (some ⟨g, 0, none⟩)] W fun e w' => (∃ v, e = .returned v ∧ GotE W.heap.size w' v (entQ t).1) ∧ RdM b w' g (entQ t).2 ∧ Only (· = g) W w') := Lib.hid (fun W t h hb => rmEntry_any b g t W h hgb hb)
  have hal : Below w.heap.size w ((w.alloc (.cells #[.int .u32 0, .int .u32 0, .slice none 0 0] 31)).alloc (.cells #[.int .u32 0, .int .u32 0, .slice none 0 0] 31)) := ((Below.refl w.heap.size w).alloc (Nat.le_refl _) _).alloc (by simp) _
  have HR0 := Lib.hid (hR.below hgb hal)
  have HP := Lib.hid hP
  have Hal := Lib.hid hal
  clear hR h1 h2 h3 hP hE hal hn hv hc
  go_enter Tryz.func89, Tryz.ntmps89
  go_wp2_with fail
  refine (C1.out _ HR0.out).mono ?_
  rintro e1 w1 ⟨rfl, hR1, hO1⟩
  have HR1 := Lib.hid hR1
  have HO1 : Hid (Only (· = g) w w1) := Lib.hid ((Only.of_below Hal.out).trans hO1)
  have hbx : Blk w1 (w.heap.size + 1) 31 #[.int .u32 0, .int .u32 0, .slice none 0 0] := hO1.blk (by
    have h := Blk.new (w.alloc (.cells #[.int .u32 0, .int .u32 0, .slice none 0 0] 31)) 31 #[.int .u32 0, .int .u32 0, .slice none 0 0]
    rwa [show (w.alloc (.cells #[.int .u32 0, .int .u32 0, .slice none 0 0] 31)).heap.size = w.heap.size + 1 by simp] at h) (fun h => by have h : w.heap.size + 1 = g := h; omega)
  have hrs : Blk w1 w.heap.size 31 #[.int .u32 0, .int .u32 0, .slice none 0 0] := hO1.blk ((Blk.new w 31 _).alloc _) (fun h => by have h : w.heap.size = g := h; omega)
  have c0 := hbx.cell 0
  have f0 := hbx.frozen 0
  have hlt := hbx.lt
  simp at c0
  have hO1a : Only (· = w.heap.size + 1) w1 (w1.setCell ⟨w.heap.size + 1, 0, none⟩ (.int .u32 (nx : Int))) := (Only.refl (· = w.heap.size + 1) w1).setCell (p := ⟨w.heap.size + 1, 0, none⟩) (Or.inl rfl) _
  have HR1a := Lib.hid (hR1.only hgb hO1a (fun i _ hi => by have hi : i = w.heap.size + 1 := hi; omega))
  have HO1a : Hid (Only (· = g) w (w1.setCell ⟨w.heap.size + 1, 0, none⟩ (.int .u32 (nx : Int)))) := Lib.hid (HO1.out.trans' hO1a (fun i hi hs => by have hs : i = w.heap.size + 1 := hs; omega))
  have HB1 : Hid (Blk (w1.setCell ⟨w.heap.size + 1, 0, none⟩ (.int .u32 (nx : Int))) (w.heap.size + 1) 31 #[.int .u32 (nx : Int), .int .u32 0, .slice none 0 0]) := Lib.hid (by have k := hbx.set_ 0 (.int .u32 (nx : Int)); simpa using k)
  have HS1 := Lib.hid (hO1a.blk hrs (fun e => by have e : w.heap.size = w.heap.size + 1 := e; omega))
  clear hR1 hO1 hbx hrs hO1a
  go_wp2_with fail
  refine (C2.out _ HR1a.out).mono ?_
  rintro e2 w2 ⟨rfl, hR2, hO2⟩
  have HO2 : Hid (Only (· = g) w w2) := Lib.hid (HO1a.out.trans hO2)
  have hbx := hO2.blk HB1.out (fun h => by have h : w.heap.size + 1 = g := h; omega)
  have HS2 := Lib.hid (hO2.blk HS1.out (fun h => by have h : w.heap.size = g := h; omega))
  clear c0 f0 hlt
  have c1 := hbx.cell 1
  have f1 := hbx.frozen 1
  have hlt := hbx.lt
  simp at c1
  have hO2a : Only (· = w.heap.size + 1) w2 (w2.setCell ⟨w.heap.size + 1, 1, none⟩ (.int .u32 (vs : Int))) := (Only.refl (· = w.heap.size + 1) w2).setCell (p := ⟨w.heap.size + 1, 1, none⟩) (Or.inl rfl) _
  have HR2a := Lib.hid (hR2.only hgb hO2a (fun i _ hi => by have hi : i = w.heap.size + 1 := hi; omega))
  have HO2a : Hid (Only (· = g) w (w2.setCell ⟨w.heap.size + 1, 1, none⟩ (.int .u32 (vs : Int)))) := Lib.hid (HO2.out.trans' hO2a (fun i hi hs => by have hs : i = w.heap.size + 1 := hs; omega))
  have HB2 : Hid (Blk (w2.setCell ⟨w.heap.size + 1, 1, none⟩ (.int .u32 (vs : Int))) (w.heap.size + 1) 31 #[.int .u32 (nx : Int), .int .u32 (vs : Int), .slice none 0 0]) := Lib.hid (by have k := hbx.set_ 1 (.int .u32 (vs : Int)); simpa using k)
  have HS2a := Lib.hid (hO2a.blk HS2.out (fun e => by have e : w.heap.size = w.heap.size + 1 := e; omega))
  clear hR2 hO2 hbx hO2a
  go_wp2_with fail
  refine (C3.out _ HR2a.out).mono ?_
  rintro e3 w3 ⟨rfl, hR3, hO3⟩
  have HSt : Hid (RecSt b g w w3 nx vs none 0 0 [] s3) := Lib.hid ⟨hO3.blk HB2.out (fun h => by have h : w.heap.size + 1 = g := h; omega), hO3.blk HS2a.out (fun h => by have h : w.heap.size = g := h; omega), GotEs.nil_ _ _, hR3, HO2a.out.trans hO3⟩
  clear hR3 hO3 c1 f1 hlt HR0 HR1 HR1a HR2a HO1 HO1a HO2 HO2a HB1 HB2 HS1 HS2 HS2a Hal C1 C2 C3
  go_wp2_with fail
  go_loopw [14] (fun i wr => ∃ (j k : Nat) (B : Option Addr) (m c : Nat) (l : List EntM) (t : RdQ), i = .int .u64 (j : Int) ∧ j + k = ct ∧ m = j ∧ Hid (RecSt b g w wr nx vs B m c l t) ∧ Hid (recL k t (l.map EntM.p) = (l0, s4))) (fun i _ => match i with | .int _ j => ct - j.toNat | _ => 0)
  case atStart => exact ⟨0, ct, none, 0, 0, [], s3, rfl, by omega, rfl, HSt, Lib.hid (by simpa using HP.out)⟩
  case round =>
    obtain ⟨j, k, B, m, c, l, t, rfl, hjk, rfl, HS, HQ⟩ := hrel
    have c1 := HS.out.rd.cells.1
    have hbl := HS.out.box.lt
    have hb0 : wr.cell? ⟨w.heap.size + 1, 0, none⟩ = some (.int .u32 (nx : Int)) := HS.out.box.cell 0
    have hb1 : wr.cell? ⟨w.heap.size + 1, 1, none⟩ = some (.int .u32 (vs : Int)) := HS.out.box.cell 1
    have hb2 : wr.cell? ⟨w.heap.size + 1, 2, none⟩ = some (.slice B m c) := HS.out.box.cell 2
    have hr0 : wr.cell? ⟨w.heap.size, 0, none⟩ = some (.int .u32 0) := HS.out.res.cell 0
    have hr1 : wr.cell? ⟨w.heap.size, 1, none⟩ = some (.int .u32 0) := HS.out.res.cell 1
    have hr2 : wr.cell? ⟨w.heap.size, 2, none⟩ = some (.slice none 0 0) := HS.out.res.cell 2
    have g0 := HS.out.res.frozen 0
    have g1 := HS.out.res.frozen 1
    have g2 := HS.out.res.frozen 2
    by_cases hlt : m < ct
    · have hd : decide (m < ct) = true := decide_eq_true hlt
      obtain ⟨k', rfl⟩ : ∃ k', k = k' + 1 := ⟨k - 1, by omega⟩
      cases hsh : t.short with
      | true =>
        rw [hsh] at c1
        have HE : Hid (l.map EntM.p = l0 ∧ t = s4) := Lib.hid (by have h := HQ.out; unfold recL at h; rw [if_pos hsh] at h; exact ⟨congrArg Prod.fst h, congrArg Prod.snd h⟩)
        go_wp2
        refine bodyPost_ret (v := Rec_ nx vs B m c) (by simp [results, Tryz.results89, go_sem, hr0, hr1, hr2, Rec_]) rfl ?_
        have h := HS.out.end_ hgb hbw
        rw [← HE.out.1, ← HE.out.2]
        exact h
      | false =>
        rw [hsh] at c1
        have HQ2 : Hid (recL k' (entQ t).2 (l.map EntM.p ++ [(entQ t).1]) = (l0, s4)) := Lib.hid (by have h := HQ.out; unfold recL at h; rw [if_neg (by rw [hsh]; decide)] at h; exact h)
        have HSd := Lib.hid (HS.out.drew hgb)
        have hbW : b ≤ wr.drew.heap.size := by have := HSd.out.box.lt; omega
        have hW2 : w.heap.size + 2 ≤ wr.drew.heap.size := by have := HSd.out.box.lt; omega
        have hm5 : m ≤ 65535 := by omega
        clear hr0 hr1 hr2 g0 g1 g2
        go_wp2_with fail
        refine wp_region_held_drew (S := fun _ => True) (by kernel_rfl) trivial (fun hHeld0 => ?_)
        refine take_yes 0 20 ?_ rfl rfl (by kernel_rfl) (by kernel_rfl) (by kernel_rfl) (fun _ _ _ h => h) (by kernel_rfl) ?_ (by assumption) ?_; rotate_left; (focus (intro w hSw; (try dsimp only at hSw); go_simp; all_goals first | with_reducible rfl)); simp only [Act.put, List.setIfInBounds_toArray, List.set_cons_zero, List.set_cons_succ]
        refine take_yes 2 22 ?_ rfl rfl (by kernel_rfl) (by kernel_rfl) (by kernel_rfl) (fun _ _ _ h => h) (by kernel_rfl) ?_ (by assumption) ?_; rotate_left; (focus (intro w hSw; (try dsimp only at hSw); go_simp; all_goals first | with_reducible rfl)); simp only [Act.put, List.setIfInBounds_toArray, List.set_cons_zero, List.set_cons_succ]
        refine wpAnyH_ready (rs := [1, 3]) (by kernel_rfl) (by simp) ?_
        refine AllReadyH.cons rfl (fun K hK => ?_) (AllReadyH.cons rfl (fun K hK => ?_) AllReadyH.nil)
        · go_simp
          refine hK.out _ _ (trivial) (fun _ => ?_)
          clear hK K
          try simp only [Act.put, List.setIfInBounds_toArray, List.set_cons_zero, List.set_cons_succ]
          refine wpAnyH_ready (rs := [3]) (by kernel_rfl) (by simp) ?_
          refine AllReadyH.cons rfl (fun K hK => ?_) AllReadyH.nil
          go_simp
          go_at_call 117; (with_reducible refine (CE.out _ _ HSd.out.rd hbW).mono ?_); rintro e1 w1 ⟨⟨v, rfl, x, rfl, hxp, hxG, hxi⟩, hR1, hO1⟩
          simp only [EntM.v]
          have HS1 := Lib.hid (HSd.out.next hgb hbw hR1 hO1)
          have HX : Hid (Got (w.heap.size + 2) w1 x.A x.n x.cap x.xs ∧ x.id ≤ 4294967295) := Lib.hid ⟨hxG.lower hW2, hxi⟩
          have Hxp := Lib.hid hxp
          have hc10 : w1.cell? ⟨w.heap.size + 1, 2, none⟩ = some (.slice B m c) := HS1.out.box.cell 2
          have hl10 := HS1.out.box.lt
          clear hR1 hO1 hxG hxp
          go_wp2_with fail
          refine hK.out _ _ (trivial) (fun _ => ?_)
          clear hK K
          try simp only [Act.put, List.setIfInBounds_toArray, List.set_cons_zero, List.set_cons_succ]
          refine wpAnyH_ready (rs := [4]) (by kernel_rfl) (by simp) ?_
          refine AllReadyH.cons rfl (fun K hK => ?_) AllReadyH.nil
          go_simp
          refine hK.out _ _ (trivial) (fun _ => ?_)
          clear hK K
          try simp only [Act.put, List.setIfInBounds_toArray, List.set_cons_zero, List.set_cons_succ]
          refine wpAnyH_ready (rs := [5]) (by kernel_rfl) (by simp) ?_
          refine AllReadyH.cons rfl (fun K hK => ?_) AllReadyH.nil
          obtain ⟨B', c', w2, hrun, hS2, hg0, hgf, hgl2, hcl, hcm⟩ := HS1.out.run hgb hbw x HX.out hm5
          have HS2 := Lib.hid hS2
          clear hS2
          refine step_append_eq (ts := 29) rfl (.tmp 21) (.tmp 24) rfl rfl rfl rfl hrun ?_
          refine hK.out _ _ (trivial) (fun _ => ?_)
          clear hK K
          try simp only [Act.put, List.setIfInBounds_toArray, List.set_cons_zero, List.set_cons_succ]
          refine take_yes 6 26 ?_ rfl rfl (by kernel_rfl) (by kernel_rfl) (by kernel_rfl) (fun _ _ _ h => h) (by kernel_rfl) ?_ (by assumption) ?_; rotate_left; (focus (intro w hSw; (try dsimp only at hSw); go_simp; all_goals first | with_reducible rfl)); simp only [Act.put, List.setIfInBounds_toArray, List.set_cons_zero, List.set_cons_succ]
          refine wpAnyH_ready (rs := [7]) (by kernel_rfl) (by simp) ?_
          refine AllReadyH.cons rfl (fun K hK => ?_) AllReadyH.nil
          go_simp
          refine hK.out _ _ (trivial) (fun _ => ?_)
          clear hK K
          try simp only [Act.put, List.setIfInBounds_toArray, List.set_cons_zero, List.set_cons_succ]
          refine wpAnyH_done (by kernel_rfl) ?_ _
          go_wp2
          exact ⟨⟨m + 1, k', B', m + 1, c', l ++ [x], (entQ t).2, rfl, by omega, rfl, HS2, Lib.hid (by rw [List.map_append, List.map_cons, List.map_nil, Hxp.out]; exact HQ2.out)⟩, by show ct - (m + 1) < ct - m; omega⟩
        · go_simp
          go_at_call 117; (with_reducible refine (CE.out _ _ HSd.out.rd hbW).mono ?_); rintro e1 w1 ⟨⟨v, rfl, x, rfl, hxp, hxG, hxi⟩, hR1, hO1⟩
          simp only [EntM.v]
          have HS1 := Lib.hid (HSd.out.next hgb hbw hR1 hO1)
          have HX : Hid (Got (w.heap.size + 2) w1 x.A x.n x.cap x.xs ∧ x.id ≤ 4294967295) := Lib.hid ⟨hxG.lower hW2, hxi⟩
          have Hxp := Lib.hid hxp
          have hc10 : w1.cell? ⟨w.heap.size + 1, 2, none⟩ = some (.slice B m c) := HS1.out.box.cell 2
          have hl10 := HS1.out.box.lt
          clear hR1 hO1 hxG hxp
          go_wp2_with fail
          refine hK.out _ _ (trivial) (fun _ => ?_)
          clear hK K
          try simp only [Act.put, List.setIfInBounds_toArray, List.set_cons_zero, List.set_cons_succ]
          refine wpAnyH_ready (rs := [1, 4]) (by kernel_rfl) (by simp) ?_
          refine AllReadyH.cons rfl (fun K hK => ?_) (AllReadyH.cons rfl (fun K hK => ?_) AllReadyH.nil)
          · go_simp
            refine hK.out _ _ (trivial) (fun _ => ?_)
            clear hK K
            try simp only [Act.put, List.setIfInBounds_toArray, List.set_cons_zero, List.set_cons_succ]
            refine wpAnyH_ready (rs := [4]) (by kernel_rfl) (by simp) ?_
            refine AllReadyH.cons rfl (fun K hK => ?_) AllReadyH.nil
            go_simp
            refine hK.out _ _ (trivial) (fun _ => ?_)
            clear hK K
            try simp only [Act.put, List.setIfInBounds_toArray, List.set_cons_zero, List.set_cons_succ]
            refine wpAnyH_ready (rs := [5]) (by kernel_rfl) (by simp) ?_
            refine AllReadyH.cons rfl (fun K hK => ?_) AllReadyH.nil
            obtain ⟨B', c', w2, hrun, hS2, hg0, hgf, hgl2, hcl, hcm⟩ := HS1.out.run hgb hbw x HX.out hm5
            have HS2 := Lib.hid hS2
            clear hS2
            refine step_append_eq (ts := 29) rfl (.tmp 21) (.tmp 24) rfl rfl rfl rfl hrun ?_
            refine hK.out _ _ (trivial) (fun _ => ?_)
            clear hK K
            try simp only [Act.put, List.setIfInBounds_toArray, List.set_cons_zero, List.set_cons_succ]
            refine take_yes 6 26 ?_ rfl rfl (by kernel_rfl) (by kernel_rfl) (by kernel_rfl) (fun _ _ _ h => h) (by kernel_rfl) ?_ (by assumption) ?_; rotate_left; (focus (intro w hSw; (try dsimp only at hSw); go_simp; all_goals first | with_reducible rfl)); simp only [Act.put, List.setIfInBounds_toArray, List.set_cons_zero, List.set_cons_succ]
            refine wpAnyH_ready (rs := [7]) (by kernel_rfl) (by simp) ?_
            refine AllReadyH.cons rfl (fun K hK => ?_) AllReadyH.nil
            go_simp
            refine hK.out _ _ (trivial) (fun _ => ?_)
            clear hK K
            try simp only [Act.put, List.setIfInBounds_toArray, List.set_cons_zero, List.set_cons_succ]
            refine wpAnyH_done (by kernel_rfl) ?_ _
            go_wp2
            exact ⟨⟨m + 1, k', B', m + 1, c', l ++ [x], (entQ t).2, rfl, by omega, rfl, HS2, Lib.hid (by rw [List.map_append, List.map_cons, List.map_nil, Hxp.out]; exact HQ2.out)⟩, by show ct - (m + 1) < ct - m; omega⟩
          · go_simp
            refine hK.out _ _ (trivial) (fun _ => ?_)
            clear hK K
            try simp only [Act.put, List.setIfInBounds_toArray, List.set_cons_zero, List.set_cons_succ]
            refine wpAnyH_ready (rs := [1]) (by kernel_rfl) (by simp) ?_
            refine AllReadyH.cons rfl (fun K hK => ?_) AllReadyH.nil
            go_simp
            refine hK.out _ _ (trivial) (fun _ => ?_)
            clear hK K
            try simp only [Act.put, List.setIfInBounds_toArray, List.set_cons_zero, List.set_cons_succ]
            refine wpAnyH_ready (rs := [5]) (by kernel_rfl) (by simp) ?_
            refine AllReadyH.cons rfl (fun K hK => ?_) AllReadyH.nil
            obtain ⟨B', c', w2, hrun, hS2, hg0, hgf, hgl2, hcl, hcm⟩ := HS1.out.run hgb hbw x HX.out hm5
            have HS2 := Lib.hid hS2
            clear hS2
            refine step_append_eq (ts := 29) rfl (.tmp 21) (.tmp 24) rfl rfl rfl rfl hrun ?_
            refine hK.out _ _ (trivial) (fun _ => ?_)
            clear hK K
            try simp only [Act.put, List.setIfInBounds_toArray, List.set_cons_zero, List.set_cons_succ]
            refine take_yes 6 26 ?_ rfl rfl (by kernel_rfl) (by kernel_rfl) (by kernel_rfl) (fun _ _ _ h => h) (by kernel_rfl) ?_ (by assumption) ?_; rotate_left; (focus (intro w hSw; (try dsimp only at hSw); go_simp; all_goals first | with_reducible rfl)); simp only [Act.put, List.setIfInBounds_toArray, List.set_cons_zero, List.set_cons_succ]
            refine wpAnyH_ready (rs := [7]) (by kernel_rfl) (by simp) ?_
            refine AllReadyH.cons rfl (fun K hK => ?_) AllReadyH.nil
            go_simp
            refine hK.out _ _ (trivial) (fun _ => ?_)
            clear hK K
            try simp only [Act.put, List.setIfInBounds_toArray, List.set_cons_zero, List.set_cons_succ]
            refine wpAnyH_done (by kernel_rfl) ?_ _
            go_wp2
            exact ⟨⟨m + 1, k', B', m + 1, c', l ++ [x], (entQ t).2, rfl, by omega, rfl, HS2, Lib.hid (by rw [List.map_append, List.map_cons, List.map_nil, Hxp.out]; exact HQ2.out)⟩, by show ct - (m + 1) < ct - m; omega⟩
    · have hd : decide (m < ct) = false := decide_eq_false hlt
      obtain rfl : k = 0 := by omega
      have HE : Hid (l.map EntM.p = l0 ∧ t = s4) := Lib.hid (by have h := HQ.out; unfold recL at h; exact ⟨congrArg Prod.fst h, congrArg Prod.snd h⟩)
      go_wp2
      refine bodyPost_ret (v := Rec_ nx vs B m c) (by simp [results, Tryz.results89, go_sem, hr0, hr1, hr2, Rec_]) rfl ?_
      have h := HS.out.end_ hgb hbw
      rw [← HE.out.1, ← HE.out.2]
      exact h

end Go.Proofs.YtidbipbangifbaaGreatDoor

/- The walk over rms.Parse. -/
namespace Go.Proofs.YtidbipbangifbaaGreatDoor
set_option maxRecDepth 100000
open Go.RowKit

/-- Parse, of any bytes. -/
def parseQ (bs : List UInt8) : Option RcP := if (recsQ ⟨bs, false⟩).2.short = false ∧ (recsQ ⟨bs, false⟩).2.rest = [] ∧ mayP (recsQ ⟨bs, false⟩).1 = true then some (recsQ ⟨bs, false⟩).1 else none
/-- A record store and an error, as an answer. -/
def RecOut (base : Nat) (o : Option RcP) (er : Int) (e : Ending) (w' : World) : Prop :=
  match o with
  | some r => ∃ A n c l, e = .returned (.tuple #[Rec_ r.next r.version A n c, .int .i64 0]) ∧ GotEs base w' A n c l ∧ l.map EntM.p = r.list
  | none => e = .returned (.tuple #[Rec_ 0 0 none 0 0, .int .i64 er])
theorem recsQ_next (s : RdQ) : (recsQ s).1.next ≤ 4294967295 := by
  have h : (numQ s 4).1 < 256 ^ 4 := numQ_lt s 4
  have h : (numQ s 4).1 < 4294967296 := h
  show (numQ s 4).1 ≤ _
  omega
theorem recsQ_version (s : RdQ) : (recsQ s).1.version ≤ 4294967295 := by
  have h : (numQ (numQ s 4).2 4).1 < 256 ^ 4 := numQ_lt _ 4
  have h : (numQ (numQ s 4).2 4).1 < 4294967296 := h
  show (numQ (numQ s 4).2 4).1 ≤ _
  omega

set_option maxHeartbeats 2000000 in
theorem rmParse_any (A : Option Addr) (n cap : Nat) (bs : List UInt8) (w : World) (hB : ByteSl w Empty A n cap bs) (hn : n ≤ 1048576) (hA : A = none → n = 0 ∧ cap = 0) :
    Calls Tryz.prog 54 #[.slice A n cap] w fun e w' => RecOut w.heap.size (parseQ bs) 8 e w' ∧ Below w.heap.size w w' := by
  have hal : Below w.heap.size w ((w.alloc (.cells #[.int .u32 0, .int .u32 0, .slice none 0 0] 31)).alloc (.cells #[.slice A n cap, .bool false] 159)) := ((Below.refl w.heap.size w).alloc (Nat.le_refl _) _).alloc (by simp) _
  have hR : RdM (w.heap.size + 2) ((w.alloc (.cells #[.int .u32 0, .int .u32 0, .slice none 0 0] 31)).alloc (.cells #[.slice A n cap, .bool false] 159)) (w.heap.size + 1) ⟨bs, false⟩ := by
    refine ⟨A, n, cap, ?_, ?_, hn, hA⟩
    · have h := Blk.new (w.alloc (.cells #[.int .u32 0, .int .u32 0, .slice none 0 0] 31)) 159 #[.slice A n cap, .bool false]
      rwa [show (w.alloc (.cells #[.int .u32 0, .int .u32 0, .slice none 0 0] 31)).heap.size = w.heap.size + 1 by simp] at h
    · refine ⟨hB.1, hB.2.1, hB.2.2.1, fun h0 => ?_⟩
      obtain ⟨ad, e, hb, _, hc⟩ := hB.2.2.2 h0
      exact ⟨ad, e, by simp; omega, by omega, fun j x hx => ((Only.of_below (S := Empty) hal).cell (p := ad.add j) (by rw [addr_add_block]; exact hb) (fun h => h)).trans (hc j x hx)⟩
  have CR := Lib.hid (rmRecords_any (w.heap.size + 2) (w.heap.size + 1) ⟨bs, false⟩ _ hR (by omega) (by simp))
  have hP : parseQ bs = if (recsQ ⟨bs, false⟩).2.short = false ∧ (recsQ ⟨bs, false⟩).2.rest = [] ∧ mayP (recsQ ⟨bs, false⟩).1 = true then some (recsQ ⟨bs, false⟩).1 else none := rfl
  have hnx := recsQ_next ⟨bs, false⟩
  have hvs := recsQ_version ⟨bs, false⟩
  obtain ⟨r, s, hq⟩ : ∃ r s, recsQ ⟨bs, false⟩ = (r, s) := ⟨_, _, rfl⟩
  rw [hq] at CR hP hnx hvs
  simp only at hP hnx hvs
  have HP := Lib.hid hP
  have Hal := Lib.hid hal
  clear hR hP hq hB hal
  go_enter Tryz.func54, Tryz.ntmps54
  go_wp2_with fail
  refine CR.out.mono ?_
  rintro e1 w1 ⟨⟨A1, n1, c1_, l, rfl, hG, hl⟩, hR1, hO1⟩
  have HG := Lib.hid hG
  have HO1 : Hid (Below w.heap.size w w1) := Lib.hid (Hal.out.trans (hO1.below (by simp; omega) (fun k hk e => by have e : k = w.heap.size + 1 := e; omega)))
  have hres : Blk w1 w.heap.size 31 #[.int .u32 0, .int .u32 0, .slice none 0 0] := hO1.blk ((Blk.new w 31 _).alloc _) (fun h => by have h : w.heap.size = w.heap.size + 1 := h; omega)
  obtain ⟨AR, nR, cR, hbR, hBR, hnR, hAR⟩ := hR1
  have hlR : s.rest.length = nR := hBR.1
  have hcR := hBR.2.1
  have hmR := hBR.2.2.1
  unfold maxLen at hmR
  have c0 := hbR.cell 0
  have c1 := hbR.cell 1
  have hltR := hbR.lt
  simp at c0 c1
  have hO2 : Below w1.heap.size w1 (w1.alloc (.cells #[.int .u32 (r.next : Int), .int .u32 (r.version : Int), .slice A1 n1 c1_] 31)) := (Below.refl w1.heap.size w1).alloc (Nat.le_refl _) _
  have HG2 := Lib.hid (hG.below hO2)
  have HRs := Lib.hid (hres.alloc (.cells #[.int .u32 (r.next : Int), .int .u32 (r.version : Int), .slice A1 n1 c1_] 31))
  have r0 := hres.cell 0
  have r1 := hres.cell 1
  have r2 := hres.cell 2
  have g0 := hres.frozen 0
  have g1 := hres.frozen 1
  have g2 := hres.frozen 2
  have hltS := hres.lt
  simp at r0 r1 r2
  have HO2 : Hid (Below w.heap.size w (w1.alloc (.cells #[.int .u32 (r.next : Int), .int .u32 (r.version : Int), .slice A1 n1 c1_] 31))) := Lib.hid (HO1.out.trans (hO2.mono HO1.out.size))
  have CM := Lib.hid (rmMayBe_any r.next r.version A1 n1 c1_ l _ hnx (HG2.out.ents Empty (fun _ _ _ h => h)))
  have Hl := Lib.hid hl
  have hmp : mayP ⟨r.next, r.version, l.map EntM.p⟩ = mayP r := by rw [Hl.out]
  rw [hmp] at CM
  clear hG hl hbR hBR hO1 hO2 hmp hres
  simp only [Rec_]
  by_cases hsh : s.short = true
  · rw [hsh] at c1
    have HE : Hid (parseQ bs = none) := Lib.hid (by rw [HP.out, if_neg (by rw [hsh]; simp)])
    go_wp2
    refine bodyPost_ret (v := .tuple #[Rec_ 0 0 none 0 0, .int .i64 8]) (by simp [results, Tryz.results54, go_sem, r0, r1, r2, Rec_, hltS, Nat.ne_of_lt hltS]) rfl ?_
    rw [HE.out]
    exact ⟨rfl, (((HO1.out.setCell (Nat.le_refl _) _).setCell (Nat.le_refl _) _).setCell (Nat.le_refl _) _).alloc (by simp; omega) _⟩
  have hsh : s.short = false := by simpa using hsh
  rw [hsh] at c1
  by_cases hrs : s.rest = []
  case neg =>
    have HE : Hid (parseQ bs = none) := Lib.hid (by rw [HP.out, if_neg (fun h => hrs h.2.1)])
    have hpos : 0 < nR := by have := List.length_pos_iff.2 hrs; omega
    have hd : decide (0 < nR) = true := decide_eq_true hpos
    go_wp2
    refine bodyPost_ret (v := .tuple #[Rec_ 0 0 none 0 0, .int .i64 8]) (by simp [results, Tryz.results54, go_sem, r0, r1, r2, Rec_, hltS, Nat.ne_of_lt hltS]) rfl ?_
    rw [HE.out]
    exact ⟨rfl, (((HO1.out.setCell (Nat.le_refl _) _).setCell (Nat.le_refl _) _).setCell (Nat.le_refl _) _).alloc (by simp; omega) _⟩
  case pos =>
    rw [hrs] at hlR
    obtain rfl : nR = 0 := by simpa using hlR.symm
    cases hm : mayP r with
    | false =>
      rw [hm] at CM
      have HE : Hid (parseQ bs = none) := Lib.hid (by rw [HP.out, if_neg (by rw [hm]; simp)])
      go_wp2_with fail
      with_reducible refine CM.out.mono ?_
      rintro e2 w2 ⟨rfl, hb2⟩
      have HB2 := Lib.hid (HO2.out.trans (hb2.mono HO2.out.size))
      have hr2 := HRs.out.of (hb2.block w.heap.size HRs.out.lt)
      have HG3 := Lib.hid (HG2.out.below hb2)
      clear r0 r1 r2 g0 g1 g2 hltS
      have r0 := hr2.cell 0
      have r1 := hr2.cell 1
      have r2 := hr2.cell 2
      have g0 := hr2.frozen 0
      have g1 := hr2.frozen 1
      have g2 := hr2.frozen 2
      have hltS := hr2.lt
      simp at r0 r1 r2
      go_wp2
      refine bodyPost_ret (v := .tuple #[Rec_ 0 0 none 0 0, .int .i64 8]) (by simp [results, Tryz.results54, go_sem, r0, r1, r2, Rec_, hltS, Nat.ne_of_lt hltS]) rfl ?_
      rw [HE.out]
      exact ⟨rfl, HB2.out.setCell (Nat.le_refl _) _ |>.setCell (Nat.le_refl _) _ |>.setCell (Nat.le_refl _) _⟩
    | true =>
      rw [hm] at CM
      have HE : Hid (parseQ bs = some r) := Lib.hid (by rw [HP.out, if_pos ⟨hsh, hrs, hm⟩])
      go_wp2_with fail
      with_reducible refine CM.out.mono ?_
      rintro e2 w2 ⟨rfl, hb2⟩
      have HB2 := Lib.hid (HO2.out.trans (hb2.mono HO2.out.size))
      have hr2 := HRs.out.of (hb2.block w.heap.size HRs.out.lt)
      have HG3 := Lib.hid (HG2.out.below hb2)
      clear r0 r1 r2 g0 g1 g2 hltS
      have r0 := hr2.cell 0
      have r1 := hr2.cell 1
      have r2 := hr2.cell 2
      have g0 := hr2.frozen 0
      have g1 := hr2.frozen 1
      have g2 := hr2.frozen 2
      have hltS := hr2.lt
      simp at r0 r1 r2
      have hO4 : Only (· = w.heap.size) w2 (((w2.setCell ⟨w.heap.size, 0, none⟩ (.int .u32 (r.next : Int))).setCell ⟨w.heap.size, 1, none⟩ (.int .u32 (r.version : Int))).setCell ⟨w.heap.size, 2, none⟩ (.slice A1 n1 c1_)) := (((Only.refl (· = w.heap.size) w2).setCell (p := ⟨w.heap.size, 0, none⟩) (Or.inl rfl) _).setCell (p := ⟨w.heap.size, 1, none⟩) (Or.inl rfl) _).setCell (p := ⟨w.heap.size, 2, none⟩) (Or.inl rfl) _
      have HO4 := Lib.hid hO4
      clear hO4
      have l0 : w1.heap.size < w2.heap.size := by have := hb2.size; simp at this; omega
      have hbx := (Blk.new w1 31 #[.int .u32 (r.next : Int), .int .u32 (r.version : Int), .slice A1 n1 c1_]).of (hb2.block w1.heap.size (by simp))
      have b0 := hbx.cell 0
      have b1 := hbx.cell 1
      have b2 := hbx.cell 2
      have hne : w.heap.size ≠ w1.heap.size := by have := HO1.out.size; have := HRs.out.lt; simp at *; omega
      go_wp2
      refine bodyPost_ret (v := .tuple #[Rec_ r.next r.version A1 n1 c1_, .int .i64 0]) (by simp [results, Tryz.results54, go_sem, r0, r1, r2, Rec_, hltS, Nat.ne_of_lt hltS]) rfl ?_
      rw [HE.out]
      refine ⟨⟨A1, n1, c1_, l, rfl, ?_, Hl.out⟩, HB2.out.setCell (Nat.le_refl _) _ |>.setCell (Nat.le_refl _) _ |>.setCell (Nat.le_refl _) _⟩
      exact (HG3.out.only HO4.out (fun q hq _ e => by have e : q = w.heap.size := e; simp at hq; omega)).lower (by simp; omega)

end Go.Proofs.YtidbipbangifbaaGreatDoor
