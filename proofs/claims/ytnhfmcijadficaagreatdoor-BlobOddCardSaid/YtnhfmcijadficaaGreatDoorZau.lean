/- The walk over a commit's lay: all its records, one behind the other. -/
import Derived.Test.YtnhfmcijadficaaGreatDoorZat
import Derived.Test.YtnhfmcijadficaaGreatDoorZao
import Derived.Shelf.Abstract
import Derived.Maps.Own
import Derived.Maps.OwnSet
import Derived.Maps.Ext
import Derived.Maps.RangeWalk
import Derived.Sort.KeysCollected
namespace Go.Proofs.YtnhfmcijadficaaGreatDoor
set_option maxRecDepth 100000
open Go.RowKit

/-- A change that may be a record. -/
def Ch.may (f : Ch) : Bool := mayB (f.rk : Int) 1 (f.s.size : Int) (f.rN : Int) 0
theorem Ch.may_rc (f : Ch) (t : Nat) (h : f.may = true) (ht : t ≠ 0) : mayB (f.rk : Int) (t : Int) (f.s.size : Int) (f.rN : Int) 0 = true := by
  unfold Ch.may at h
  rw [mayB_iff] at h ⊢
  omega
theorem Ch.may_fair (f : Ch) (h : f.may = true) : f.s.size ≤ 64 ∧ f.rN ≤ 4096 := by
  unfold Ch.may at h
  rw [mayB_iff] at h
  omega
theorem fair_of {l : List Ch} (h : ∀ f ∈ l, f.may = true) : Fair l := fun f hf => f.may_fair (h f hf)
theorem Ch.rAt {w : World} {S : Nat → Prop} (f : Ch) (h : ByteSl w S f.A f.n f.cap f.blob ∧ (f.A = none → f.n = 0 ∧ f.cap = 0)) : ByteSl w S f.rA f.rN f.rC f.rB ∧ (f.rA = none → f.rN = 0 ∧ f.rC = 0) := by
  unfold Ch.rA Ch.rN Ch.rC Ch.rB
  split
  · exact ⟨ByteSl.nil_ _ _ _ _ (by simp [maxLen]), fun _ => ⟨rfl, rfl⟩⟩
  · exact h

/-- All bytes of a commit. -/
def commitB (l : List Ch) (t : Nat) : List UInt8 := (recsL l t).flatMap Rc.bytes
theorem flat_len : ∀ (l : List Rc), (∀ r ∈ l, r.blob.length = r.n) → (l.flatMap Rc.bytes).length = (l.map Rc.sz).sum
  | [], _ => rfl
  | r :: l, h => by
    rw [List.flatMap_cons, List.length_append, r.bytes_len (h r List.mem_cons_self), flat_len l (fun q hq => h q (List.mem_cons_of_mem _ hq)), List.map_cons, List.sum_cons]
theorem recsL_sum (l : List Ch) (t : Nat) : ((recsL l t).map Rc.sz).sum = roomL l := by
  unfold recsL roomL
  rw [List.map_append, List.sum_append, List.map_map]
  have h1 : (Rc.sz ∘ fun x : Ch => x.rc t) = Ch.sz := rfl
  have h2 : (List.map Rc.sz [endRc l.length t]).sum = 16 := rfl
  rw [h1, h2]
  omega
theorem sum_take_le (l : List Rc) (i : Nat) (r : Rc) (h : l[i]? = some r) : ((l.take i).map Rc.sz).sum + r.sz ≤ (l.map Rc.sz).sum := by
  have h1 := take_snoc l i r h
  have h2 : ((l.take (i + 1)).map Rc.sz).sum ≤ (l.map Rc.sz).sum := by
    have e : l.map Rc.sz = (l.take (i + 1)).map Rc.sz ++ (l.drop (i + 1)).map Rc.sz := by rw [← List.map_append, List.take_append_drop]
    rw [e, List.sum_append]
    omega
  rw [h1, List.map_append, List.sum_append, List.map_cons, List.map_nil, List.sum_cons, List.sum_nil, Nat.add_zero] at h2
  exact h2

theorem recsL_ok {w : World} {S : Nat → Prop} {A : Option Addr} {n cap : Nat} {l : List Ch} (h : Chs w S A n cap l) (hm : ∀ f ∈ l, f.may = true) (hn : n ≤ 16) (t : Nat) (h1 : t ≠ 0) (h2 : t ≤ 4294967295) : ∀ r ∈ recsL l t, r.Ok ∧ r.At w S := by
  intro r hr
  rcases List.mem_append.1 hr with hr | hr
  · obtain ⟨f, hf, rfl⟩ := List.mem_map.1 hr
    have h3 := f.rAt (h.2.2.2.2 f hf)
    exact ⟨⟨f.may_rc t (hm f hf) h1, h2, h3.1.1⟩, h3⟩
  · simp at hr
    subst hr
    refine ⟨⟨?_, h2, rfl⟩, ByteSl.nil_ _ _ _ _ (by show 0 ≤ _; omega), fun _ => ⟨rfl, rfl⟩⟩
    rw [mayB_iff]
    refine ⟨?_, Or.inr (Or.inr ⟨rfl, rfl, rfl, ?_, ?_⟩)⟩
    · show (t : Int) ≠ 0
      omega
    · show (0 : Int) ≤ (l.length : Int)
      omega
    · show (l.length : Int) ≤ 16
      have := h.1
      omega
theorem Rc.At.only {w w' : World} {S T : Nat → Prop} {r : Rc} (h : r.At w S) (k : Only T w w') (hT : ∀ i, i < w.heap.size → T i → S i) : r.At w' S := ⟨h.1.only k hT, h.2⟩

set_option maxHeartbeats 1000000 in
theorem cLay_any (p c e Z L k m o : Nat) (t : Nat) (A : Option Addr) (n cap : Nat) (l : List Ch) (ss : List (Nat × List UInt8)) (xs : List UInt8) (w : World) (hs : FS w p c e Z L ss) (hk : ss[k]? = some (m, xs))
    (hC : Chs w (Three p c e) A n cap l) (hm : ∀ f ∈ l, f.may = true) (hn : n ≤ 16) (ht1 : t ≠ 0) (ht2 : t ≤ 4294967295) (ho : o + roomL l ≤ Z) (hb : Blank xs o (roomL l)) :
    Calls Tryz.prog 91 #[.agg #[.pointer (some ⟨p, 0, none⟩), .int .i64 ((k * Z + o : Nat) : Int), .int .u32 (t : Int), .slice A n cap]] w fun e1 w' => e1 = .returned (.int .i64 0) ∧ FS w' p c e Z L (ss.set k (m, splice xs o (commitB l t))) ∧ Only (Three p c e) w w' := by
  have hxl := hs.len hk
  have hbz := hs.bz
  have hkz := kz_lt (Z := Z) hk
  have hok := recsL_ok hC hm hn t ht1 ht2
  have Hok := Lib.hid hok
  have hsum := recsL_sum l t
  have hrl := recsL_len l t
  rw [hC.1] at hrl
  have HC := Lib.hid (hC.mono (T := Empty) (fun _ _ h => h.elim))
  have HS := Lib.hid hs
  have HK := Lib.hid hk
  obtain ⟨R, hR⟩ : ∃ R, R = recsL l t := ⟨_, rfl⟩
  have hcb : commitB l t = R.flatMap Rc.bytes := by rw [hR]; rfl
  rw [hcb]
  rw [← hR] at hsum hrl Hok
  have hRr := Lib.hid (records_any A n cap l t)
  rw [← hR] at hRr
  obtain ⟨M, hM⟩ : ∃ M, M = roomL l := ⟨_, rfl⟩
  rw [← hM] at hsum ho hb
  have Hb := Lib.hid hb
  obtain ⟨T, hT⟩ : ∃ T, T = k * Z + o := ⟨_, rfl⟩
  have HT := Lib.hid hT
  have hTb : T + M ≤ 4194304 := by omega
  rw [← hT]
  have h3 : ∀ W, Only (Three p c e) w W → ∀ q, w.heap.size ≤ q → ¬ Three p c e q := fun W _ q hq => hs.three q hq
  have h0 : w.heap.size ≠ p := by
    intro h
    exact hs.three w.heap.size (Nat.le_refl _) (Or.inl h)
  have h1b : ¬ Three p c e w.heap.size := hs.three w.heap.size (Nat.le_refl _)
  have Hbl := Lib.hid (Blk.new w 165 #[.pointer (some ⟨p, 0, none⟩), .int .i64 (T : Int), .int .u32 (t : Int), .slice A n cap])
  have H3 := Lib.hid h3
  clear hs hk hC hm hok hR hcb hb hT hM hkz hxl h3 h0
  go_enter Tryz.func91, Tryz.ntmps91
  go_wp2_with fail
  have hb0 := (Below.refl w.heap.size w).alloc (Nat.le_refl _) (.cells #[.pointer (some ⟨p, 0, none⟩), .int .i64 (T : Int), .int .u32 (t : Int), .slice A n cap] 165)
  refine (hRr.out _ (HC.out.below hb0) (by omega)).mono ?_
  rintro e1 w1 ⟨⟨A1, cap1, rfl, hG1⟩, hb1⟩
  have hb01 := hb0.trans (hb1.mono hb0.size)
  have HO1 := Lib.hid (Only.of_below (S := Three p c e) hb01)
  have Hbl1 := Lib.hid (Hbl.out.of (hb1.block w.heap.size (by simp)))
  have HG1 := Lib.hid (hG1.out (S := Three p c e) (fun i h1 _ => H3.out w1 HO1.out i (by simp at h1; omega)))
  have HS1 := Lib.hid (HS.out.below hb01)
  have HN := hG1.isNil
  have hnn : A1 ≠ none := fun h => by have := (HN h).1; omega
  have hc1 := hG1.row.2.1
  have hc2 : cap1 ≤ 9223372036854775807 := by have := hG1.row.2.2.1; unfold maxLen at this; omega
  have HK1 : Hid (ss.set k (m, splice xs o []) = ss) := Lib.hid (by
    rw [splice_nil _ _ (by have := HS.out.len HK.out; omega)]
    have hlt := lt_at HK.out
    apply List.ext_getElem?
    intro j
    by_cases h : k = j
    · subst h
      rw [set_at HK.out, HK.out]
    · rw [set_far _ h])
  clear hG1 hb1 hb0 hb01 HN
  go_wp2_with fail
  go_loopw [3, 14] (fun a v wr => ∃ (i q : Nat), i ≤ n + 1 ∧ v = .int .i64 (i : Int) ∧ a = .int .i64 (q : Int) ∧ Hid (q = T + ((R.take i).map Rc.sz).sum) ∧ Hid (FS wr p c e Z L (ss.set k (m, splice xs o ((R.take i).flatMap Rc.bytes)))) ∧ Hid (Only (Three p c e) w wr) ∧ Hid (Only (Three p c e) w1 wr)) (fun _ v _ => n + 1 - (intOf v).toNat)
  case atStart =>
    refine ⟨0, T, Nat.zero_le _, rfl, rfl, Lib.hid rfl, Lib.hid ?_, HO1, Lib.hid (Only.refl _ _)⟩
    rw [List.take_zero, List.flatMap_nil, HK1.out]
    exact HS1.out
  case round =>
    obtain ⟨i, aq, hi, rfl, rfl, Haq, HS2, HO2, HO12⟩ := hrel
    by_cases hlt : i < n + 1
    · obtain ⟨b, oo, r, rfl, hb, -, hr, hcl⟩ := (HG1.out.only HO12.out (fun _ _ h => h)).at_ hlt
      obtain ⟨q, hq⟩ : ∃ q, q = ((R.take i).map Rc.sz).sum := ⟨_, rfl⟩
      have haq : aq = T + q := by rw [Haq.out, hq]
      have hrok := Hok.out r (List.mem_of_getElem? hr)
      have htk := take_snoc R i r hr
      have hle := sum_take_le R i r hr
      rw [← hq, hsum] at hle
      have hfl := flat_len (R.take i) (fun f hf => (Hok.out f (List.mem_of_mem_take hf)).1.len)
      rw [← hq] at hfl
      have hxl := HS.out.len HK.out
      have hbl2 : Blank (splice xs o ((R.take i).flatMap Rc.bytes)) (o + q) (M - q) := by
        have h := Hb.out.behind ((R.take i).flatMap Rc.bytes) (by omega) (by omega)
        rw [hfl] at h
        exact h
      have htwo := splice_two xs ((R.take i).flatMap Rc.bytes) r.bytes o (by rw [r.bytes_len hrok.1.len, hfl]; omega)
      rw [hfl] at htwo
      have hfm : (R.take (i + 1)).flatMap Rc.bytes = (R.take i).flatMap Rc.bytes ++ r.bytes := by rw [htk, List.flatMap_append]; simp
      have hsm : ((R.take (i + 1)).map Rc.sz).sum = q + r.sz := by rw [htk, List.map_append, List.sum_append, ← hq]; simp
      have hfair : r.s.size ≤ 64 ∧ r.n ≤ 4096 := by
        have := hrok.1.may
        rw [mayB_iff] at this
        omega
      have hrsz : r.sz = r.s.size + r.n + 16 := rfl
      have c0 := hcl 0 (by omega)
      have c1 := hcl 1 (by omega)
      have c2 := hcl 2 (by omega)
      have c3 := hcl 3 (by omega)
      have c4 := hcl 4 (by omega)
      simp [Rc.cells] at c0 c1 c2 c3 c4
      have hlw := HO1.out.size
      have hlw2 : w.heap.size < wr.heap.size := (HO12.out.blk Hbl1.out h1b).lt
      have k0 : wr.cell? ⟨w.heap.size, 0, none⟩ = some (.pointer (some ⟨p, 0, none⟩)) := (HO12.out.blk Hbl1.out h1b).cell 0
      have Hlay := Lib.hid (fun (W : World) (hW : Below wr.heap.size wr W) => layRecord_any p c e Z L k m (o + q) r _ _ W (HS2.out.below hW) (set_at HK.out _) hrok.1 (hrok.2.only (HO2.out.trans (Only.of_below hW)) (fun _ _ h => h)) (by omega) (hbl2.less (by omega)))
      rw [set_set_, htwo, ← hfm, show k * Z + (o + q) = aq by rw [haq, HT.out]; omega] at Hlay
      have Hsm := Lib.hid hsm
      have haqb : aq ≤ 4194304 := by omega
      have HaQ := Lib.hid haq
      clear hcl hr hrok htk hle hfl hxl hbl2 htwo hfm hsm hq haq
      unfold Rc.v at Hlay
      have h3r : ¬ Three p c e wr.heap.size := H3.out wr HO2.out _ HO2.out.size
      go_wp2_with fail
      refine (Hlay.out _ ((Below.refl _ _).alloc (Nat.le_refl _) _)).mono ?_
      rintro e2 w2 ⟨rfl, hs2, ho2⟩
      have hb5 := Blk.new wr 161 #[.int .i64 (r.k : Int), .int .u32 (r.t : Int), .string r.s, .slice r.A r.n r.cap, .int .i64 (r.c : Int)]
      have hoa := ((Only.refl (Three p c e) wr).alloc (.cells #[.int .i64 (r.k : Int), .int .u32 (r.t : Int), .string r.s, .slice r.A r.n r.cap, .int .i64 (r.c : Int)] 161)).trans ho2
      obtain ⟨g0, g1, g2, g3, g4⟩ := (ho2.blk hb5 h3r).five
      have HS3 := Lib.hid hs2
      have HO3 := Lib.hid (HO2.out.trans hoa)
      have HO13 := Lib.hid (HO12.out.trans hoa)
      clear hs2 ho2 hoa hb5 c0 c1 c2 c3 c4 k0 Hlay
      go_wp2_with fail
      refine (rcSize_any (r.k : Int) (r.t : Int) (r.c : Int) r.s r.A r.n r.cap _ (by omega) (by omega)).mono ?_
      rintro e3 w3 ⟨rfl, hb3⟩
      have HS4 := Lib.hid (HS3.out.below hb3)
      have HO4 := Lib.hid (HO3.out.trans (Only.of_below (S := Three p c e) hb3))
      have HO14 := Lib.hid (HO13.out.trans (Only.of_below (S := Three p c e) hb3))
      clear hb3
      go_wp2_with fail
      go_roundw
      case rel => exact ⟨i + 1, aq + (r.s.size + r.n + 16), by omega, by simp, by congr 1, Lib.hid (by rw [Hsm.out, hrsz, HaQ.out]; omega), HS4, HO4, HO14⟩
      case measure => simp [intOf]; omega
    · have hin : i = n + 1 := by omega
      subst hin
      have ht : R.take (n + 1) = R := List.take_of_length_le (by omega)
      rw [ht] at HS2
      go_wp2_with fail
      go_ret
      exact ⟨rfl, HS2.out, HO2.out⟩

end Go.Proofs.YtnhfmcijadficaaGreatDoor

/- Steps as plain data: what each asks, what it does to a flash; the walks over a step's methods and over blob.do. -/
namespace Go.Proofs.YtnhfmcijadficaaGreatDoor
set_option maxRecDepth 100000
open Go.RowKit

inductive Stp where
  | open_ (i s : Nat)
  | void (i : Nat)
  | erase (i : Nat)
  | lay (k o t : Nat) (A : Option Addr) (n cap : Nat) (l : List Ch)

namespace Stp
/-- How a step lies in memory: a method value. -/
def v (p Z : Nat) : Stp → Value
  | open_ i s => .func (.func 162) #[.agg #[.pointer (some ⟨p, 0, none⟩), .int .i64 (i : Int), .int .u32 (s : Int)]] #[]
  | void i => .func (.func 79) #[.agg #[.pointer (some ⟨p, 0, none⟩), .int .i64 (i : Int), .int .u32 0]] #[]
  | erase i => .func (.func 80) #[.agg #[.pointer (some ⟨p, 0, none⟩), .int .i64 (i : Int), .int .u32 0]] #[]
  | lay k o t A n cap _ => .func (.func 91) #[.agg #[.pointer (some ⟨p, 0, none⟩), .int .i64 ((k * Z + o : Nat) : Int), .int .u32 (t : Int), .slice A n cap]] #[]
def cells (p Z : Nat) (s : Stp) : List Value := [s.v p Z]
/-- What lies in memory beside it. -/
def At (w : World) (S : Nat → Prop) : Stp → Prop
  | lay _ _ _ A n cap l => Chs w S A n cap l
  | _ => True
/-- What a step asks of the sectors. -/
def Ok (Z L : Nat) (ss : List (Nat × List UInt8)) : Stp → Prop
  | open_ i s => ∃ m xs, ss[i]? = some (m, xs) ∧ stU xs = false ∧ (¬ xs.count 255 = xs.length → m < L) ∧ s ≤ 4294967295
  | void i => ∃ m xs, ss[i]? = some (m, xs)
  | erase i => ∃ m xs, ss[i]? = some (m, xs) ∧ m < L
  | lay k o t _ n _ l => ∃ m xs, ss[k]? = some (m, xs) ∧ (∀ f ∈ l, f.may = true) ∧ n ≤ 16 ∧ t ≠ 0 ∧ t ≤ 4294967295 ∧ o + roomL l ≤ Z ∧ Blank xs o (roomL l)
/-- What a step does to the sectors. -/
def at_ (ss : List (Nat × List UInt8)) (i : Nat) : Nat × List UInt8 := ss[i]?.getD (0, [])
def run (Z : Nat) (ss : List (Nat × List UInt8)) : Stp → List (Nat × List UInt8)
  | open_ i s => ss.set i (if (at_ ss i).2.count 255 = (at_ ss i).2.length then (at_ ss i).1 else (at_ ss i).1 + 1, openB Z s)
  | void i => ss.set i ((at_ ss i).1, splice (at_ ss i).2 9 [0])
  | erase i => ss.set i ((at_ ss i).1 + 1, List.replicate Z 255)
  | lay k o t _ _ _ l => ss.set k ((at_ ss k).1, splice (at_ ss k).2 o (commitB l t))
def runs (Z : Nat) (ss : List (Nat × List UInt8)) (l : List Stp) : List (Nat × List UInt8) := l.foldl (run Z) ss
/-- Each step's ask is met when its turn comes. -/
def Oks (Z L : Nat) : List (Nat × List UInt8) → List Stp → Prop
  | _, [] => True
  | ss, s :: l => s.Ok Z L ss ∧ Oks Z L (s.run Z ss) l
theorem at_eq {ss : List (Nat × List UInt8)} {i m : Nat} {xs : List UInt8} (h : ss[i]? = some (m, xs)) : at_ ss i = (m, xs) := by unfold at_; rw [h]; rfl
theorem Oks.at_ {Z L : Nat} : ∀ {l : List Stp} {ss : List (Nat × List UInt8)} {i : Nat} {s : Stp}, Oks Z L ss l → l[i]? = some s → s.Ok Z L (runs Z ss (l.take i))
  | [], _, _, _, _, h => by simp at h
  | s :: l, ss, 0, q, h, hq => by
    simp at hq
    subst hq
    exact h.1
  | s :: l, ss, i + 1, q, h, hq => by
    simp at hq
    have h2 := Oks.at_ (i := i) h.2 hq
    exact h2
theorem runs_snoc (Z : Nat) (ss : List (Nat × List UInt8)) (l : List Stp) (s : Stp) : runs Z ss (l ++ [s]) = s.run Z (runs Z ss l) := by simp [runs, List.foldl_append]
theorem runs_app (Z : Nat) (ss : List (Nat × List UInt8)) (l r : List Stp) : runs Z ss (l ++ r) = runs Z (runs Z ss l) r := by simp [runs, List.foldl_append]
theorem Oks.app {Z L : Nat} : ∀ {l r : List Stp} {ss : List (Nat × List UInt8)}, Oks Z L ss l → Oks Z L (runs Z ss l) r → Oks Z L ss (l ++ r)
  | [], _, _, _, h => h
  | s :: l, r, ss, h, h2 => ⟨h.1, Oks.app h.2 h2⟩
theorem run_len (Z : Nat) (ss : List (Nat × List UInt8)) (s : Stp) : (s.run Z ss).length = ss.length := by cases s <;> simp [run]
theorem runs_len (Z : Nat) : ∀ (l : List Stp) (ss : List (Nat × List UInt8)), (runs Z ss l).length = ss.length
  | [], _ => rfl
  | s :: l, ss => (runs_len Z l (s.run Z ss)).trans (run_len Z ss s)
theorem At.only {w w' : World} {S T : Nat → Prop} {s : Stp} (h : s.At w S) (k : Only T w w') (hT : ∀ i, i < w.heap.size → T i → S i) : s.At w' S := by
  cases s <;> first | trivial | exact Chs.only h k hT
end Stp

section
variable {p c e Z L : Nat} {ss : List (Nat × List UInt8)}
/-- How a step ends. -/
def StepOk (p c e Z L : Nat) (ss : List (Nat × List UInt8)) (w w' : World) (e1 : Ending) : Prop := e1 = .returned (.int .i64 0) ∧ FS w' p c e Z L ss ∧ Only (Three p c e) w w'

set_option maxHeartbeats 1000000 in
theorem tOpen_any (i s m : Nat) (xs : List UInt8) (w : World) (hs : FS w p c e Z L ss) (hk : ss[i]? = some (m, xs)) (hM : Mark w) (hp0 : ¬ Three p c e 0) (hu : stU xs = false) (hml : ¬ xs.count 255 = xs.length → m < L) (hs32 : s ≤ 4294967295) :
    Calls Tryz.prog 162 #[.agg #[.pointer (some ⟨p, 0, none⟩), .int .i64 (i : Int), .int .u32 (s : Int)]] w fun e1 w' => StepOk p c e Z L (ss.set i (if xs.count 255 = xs.length then m else m + 1, openB Z s)) w w' e1 := by
  have hb0 := (Below.refl w.heap.size w).alloc (Nat.le_refl _) (.cells #[.pointer (some ⟨p, 0, none⟩), .int .i64 (i : Int), .int .u32 (s : Int)] 152)
  have H := Lib.hid (open_fs p c e Z L i m s ss xs _ (hs.below hb0) hk (hM.below hb0) hp0 hu hml hs32)
  have Hb := Lib.hid hb0
  obtain ⟨S2, hS2⟩ : ∃ S2, S2 = ss.set i (if xs.count 255 = xs.length then m else m + 1, openB Z s) := ⟨_, rfl⟩
  rw [← hS2] at H ⊢
  clear hs hk hM hp0 hu hml hs32 hb0 hS2
  go_enter Tryz.func162, Tryz.ntmps162
  go_wp2_with fail
  refine H.out.mono ?_
  rintro e1 w1 ⟨rfl, hs1, ho1⟩
  have HE := Lib.hid (And.intro hs1 ((Only.of_below (S := Three p c e) Hb.out).trans ho1))
  clear hs1 ho1
  go_wp2
  go_ret
  exact ⟨rfl, HE.out⟩

set_option maxHeartbeats 1000000 in
theorem tVoid_any (i m : Nat) (xs : List UInt8) (w : World) (hs : FS w p c e Z L ss) (hk : ss[i]? = some (m, xs)) :
    Calls Tryz.prog 79 #[.agg #[.pointer (some ⟨p, 0, none⟩), .int .i64 (i : Int), .int .u32 0]] w fun e1 w' => StepOk p c e Z L (ss.set i (m, splice xs 9 [0])) w w' e1 := by
  have hb0 := (Below.refl w.heap.size w).alloc (Nat.le_refl _) (.cells #[.pointer (some ⟨p, 0, none⟩), .int .i64 (i : Int), .int .u32 0] 152)
  have H := Lib.hid (void_fs p c e Z L i m ss xs _ (hs.below hb0) hk)
  have Hb := Lib.hid hb0
  clear hs hk hb0
  go_enter Tryz.func79, Tryz.ntmps79
  go_wp2_with fail
  refine H.out.mono ?_
  rintro e1 w1 ⟨rfl, hs1, ho1⟩
  have HE := Lib.hid (And.intro hs1 ((Only.of_below (S := Three p c e) Hb.out).trans ho1))
  clear hs1 ho1
  go_wp2
  go_ret
  exact ⟨rfl, HE.out⟩

set_option maxHeartbeats 1000000 in
theorem tErase_any (i m : Nat) (xs : List UInt8) (w : World) (hs : FS w p c e Z L ss) (hk : ss[i]? = some (m, xs)) (hml : m < L) :
    Calls Tryz.prog 80 #[.agg #[.pointer (some ⟨p, 0, none⟩), .int .i64 (i : Int), .int .u32 0]] w fun e1 w' => StepOk p c e Z L (ss.set i (m + 1, List.replicate Z 255)) w w' e1 := by
  have hb0 := (Below.refl w.heap.size w).alloc (Nat.le_refl _) (.cells #[.pointer (some ⟨p, 0, none⟩), .int .i64 (i : Int), .int .u32 0] 152)
  have H := Lib.hid (erase_fs p c e Z L i m ss xs _ (hs.below hb0) hk hml)
  have Hb := Lib.hid hb0
  clear hs hk hb0 hml
  go_enter Tryz.func80, Tryz.ntmps80
  go_wp2_with fail
  refine H.out.mono ?_
  rintro e1 w1 ⟨rfl, hs1, ho1⟩
  have HE := Lib.hid (And.intro hs1 ((Only.of_below (S := Three p c e) Hb.out).trans ho1))
  clear hs1 ho1
  go_wp2
  go_ret
  exact ⟨rfl, HE.out⟩

set_option maxHeartbeats 2000000 in
theorem do_any (A : Option Addr) (n cap : Nat) (l : List Stp) (w : World) (hs : FS w p c e Z L ss) (hR : RowSl (Stp.cells p Z) 1 w (Three p c e) A n cap l) (hA : ∀ s ∈ l, s.At w (Three p c e)) (hO : Stp.Oks Z L ss l) (hM : Mark w) (hp0 : ¬ Three p c e 0) :
    Calls Tryz.prog 41 #[.slice A n cap] w fun e1 w' => StepOk p c e Z L (Stp.runs Z ss l) w w' e1 := by
  have HS := Lib.hid hs
  have HR := Lib.hid hR
  have HA := Lib.hid hA
  have HO := Lib.hid hO
  have HM := Lib.hid hM
  have HP := Lib.hid hp0
  have hcap : n ≤ cap := hR.2.1
  have hcap2 : cap ≤ 9223372036854775807 := by have := hR.2.2.1; unfold maxLen at this; omega
  clear hs hR hA hO hM hp0
  go_enter Tryz.func41, Tryz.ntmps41
  go_wp2_with fail
  go_loopw [7] (fun v wr => ∃ i : Nat, i ≤ n ∧ v = .int .i64 (i : Int) ∧ Hid (FS wr p c e Z L (Stp.runs Z ss (l.take i))) ∧ Hid (Only (Three p c e) w wr)) (fun v _ => n - (intOf v).toNat)
  case atStart => exact ⟨0, Nat.zero_le _, rfl, HS, Lib.hid (Only.refl _ _)⟩
  case round =>
    obtain ⟨i, hi, rfl, HS1, HO1⟩ := hrel
    by_cases hlt : i < n
    · obtain ⟨b, o, s, rfl, hb, -, hf, hc⟩ := (HR.out.only HO1.out (fun _ _ h => h)).at_ hlt
      have hok := HO.out.at_ hf
      have hat := (HA.out s (List.mem_of_getElem? hf)).only HO1.out (fun _ _ h => h)
      have hM1 := HM.out.only HO1.out HP.out
      have htk : Stp.runs Z ss (l.take (i + 1)) = s.run Z (Stp.runs Z ss (l.take i)) := by rw [take_snoc l i s hf, Stp.runs_snoc]
      have c0 := hc 0 (by omega)
      have hcall : Hid (∃ g bound, s.v p Z = .func (.func g) bound #[] ∧ (callFunc g bound).run Tryz.prog wr = .ok (.enter g bound) wr ∧ Calls Tryz.prog g bound wr (fun e1 w' => StepOk p c e Z L (Stp.runs Z ss (l.take (i + 1))) wr w' e1)) := Lib.hid (by
        rw [htk]
        cases s with
        | open_ j q =>
          obtain ⟨m, xs, h1, h2, h3, h4⟩ := hok
          refine ⟨_, _, rfl, ?_⟩
          simp only [Stp.run, Stp.at_eq h1]
          refine ⟨enters_of Tryz.func162 (by kernel_rfl) rfl _ _, ?_⟩
          exact tOpen_any j q m xs wr HS1.out h1 hM1 HP.out h2 h3 h4
        | void j =>
          obtain ⟨m, xs, h1⟩ := hok
          refine ⟨_, _, rfl, ?_⟩
          simp only [Stp.run, Stp.at_eq h1]
          refine ⟨enters_of Tryz.func79 (by kernel_rfl) rfl _ _, ?_⟩
          exact tVoid_any j m xs wr HS1.out h1
        | erase j =>
          obtain ⟨m, xs, h1, h2⟩ := hok
          refine ⟨_, _, rfl, ?_⟩
          simp only [Stp.run, Stp.at_eq h1]
          refine ⟨enters_of Tryz.func80 (by kernel_rfl) rfl _ _, ?_⟩
          exact tErase_any j m xs wr HS1.out h1 h2
        | lay k o t A n cap lc =>
          obtain ⟨m, xs, h1, h2, h3, h4, h5, h6, h7⟩ := hok
          refine ⟨_, _, rfl, ?_⟩
          simp only [Stp.run, Stp.at_eq h1]
          refine ⟨enters_of Tryz.func91 (by kernel_rfl) rfl _ _, ?_⟩
          exact cLay_any p c e Z L k m o t A n cap lc _ xs wr HS1.out h1 hat h2 h3 h4 h5 h6 h7)
      simp only [Stp.cells, List.getElem?_cons_zero] at c0
      rw [Nat.mul_one, Nat.add_zero] at c0
      obtain ⟨g, bound, hv, -⟩ := id hcall.out
      rw [hv] at c0
      have hgo : Hid ((callFunc g bound).run Tryz.prog wr = .ok (.enter g bound) wr ∧ Calls Tryz.prog g bound wr (fun e1 w' => StepOk p c e Z L (Stp.runs Z ss (l.take (i + 1))) wr w' e1)) := Lib.hid (by
        obtain ⟨g', b', h1, h2⟩ := hcall.out
        rw [hv] at h1
        cases h1
        exact h2)
      clear hc hf hok hat hM1 htk hv hcall
      go_wp2_with fail
      rw [hgo.out.1, Oper.upon_enter]
      refine hgo.out.2.mono ?_
      rintro e1 w2 ⟨rfl, hs2, ho2⟩
      have HS2 := Lib.hid hs2
      have HO2 := Lib.hid (HO1.out.trans ho2)
      clear hs2 ho2
      go_wp2_with fail
      go_roundw
      case rel => exact ⟨i + 1, by omega, by simp, HS2, HO2⟩
      case measure => simp [intOf]; omega
    · have hin : i = n := by omega
      subst hin
      have ht : l.take i = l := List.take_of_length_le (by have := HR.out.1; omega)
      rw [ht] at HS1
      go_wp2_with fail
      go_ret
      exact ⟨rfl, HS1.out, HO1.out⟩
end

end Go.Proofs.YtnhfmcijadficaaGreatDoor

/- A store's map: blobs and their sectors by keys, as plain data; the map's operations. -/
namespace Go.Proofs.YtnhfmcijadficaaGreatDoor
set_option maxRecDepth 100000
open Go.RowKit Go.Maps

/-! ### Rows of keys and what stands under them, in the order of keys -/
section
variable {α β : Type}
abbrev Al (α : Type) := List (List UInt8 × α)
def ains (p : List UInt8 × α) : Al α → Al α
  | [] => [p]
  | q :: r => if bytesBefore p.1 q.1 then p :: q :: r else q :: ains p r
def adel (M : Al α) (k : List UInt8) : Al α := M.filter fun p => !(p.1 == k)
def aput (M : Al α) (k : List UInt8) (v : α) : Al α := ains (k, v) (adel M k)
def afind (M : Al α) (k : List UInt8) : Option α := (M.find? fun p => p.1 == k).map (·.2)
def amap (f : α → β) (M : Al α) : Al β := M.map fun p => (p.1, f p.2)

theorem ains_map (f : α → β) (k : List UInt8) (v : α) : ∀ M : Al α, amap f (ains (k, v) M) = ains (k, f v) (amap f M)
  | [] => rfl
  | q :: r => by
    unfold amap ains
    simp only [List.map_cons]
    split
    · rfl
    · rw [List.map_cons]
      congr 1
      exact ains_map f k v r
theorem adel_map (f : α → β) (M : Al α) (k : List UInt8) : amap f (adel M k) = adel (amap f M) k := by
  unfold amap adel
  rw [List.filter_map]
  rfl
theorem aput_map (f : α → β) (M : Al α) (k : List UInt8) (v : α) : amap f (aput M k v) = aput (amap f M) k (f v) := by
  unfold aput
  rw [ains_map, adel_map]
theorem afind_map (f : α → β) (M : Al α) (k : List UInt8) : afind (amap f M) k = (afind M k).map f := by
  unfold afind amap
  rw [List.find?_map, Option.map_map, Option.map_map]
  rfl
theorem ains_mem (p q : List UInt8 × α) : ∀ M : Al α, q ∈ ains p M ↔ q = p ∨ q ∈ M
  | [] => by simp [ains]
  | r :: M => by
    unfold ains
    split
    · simp
    · rw [List.mem_cons, ains_mem p q M, List.mem_cons]
      constructor
      · rintro (h | h | h)
        · exact Or.inr (Or.inl h)
        · exact Or.inl h
        · exact Or.inr (Or.inr h)
      · rintro (h | h | h)
        · exact Or.inr (Or.inl h)
        · exact Or.inl h
        · exact Or.inr (Or.inr h)
theorem adel_mem (M : Al α) (k : List UInt8) (q : List UInt8 × α) : q ∈ adel M k ↔ q ∈ M ∧ q.1 ≠ k := by simp [adel]
theorem aput_mem (M : Al α) (k : List UInt8) (v : α) (q : List UInt8 × α) : q ∈ aput M k v ↔ q = (k, v) ∨ (q ∈ M ∧ q.1 ≠ k) := by
  unfold aput
  rw [ains_mem, adel_mem]
theorem afind_mem {M : Al α} {k : List UInt8} {v : α} (h : afind M k = some v) : (k, v) ∈ M := by
  unfold afind at h
  rw [Option.map_eq_some_iff] at h
  obtain ⟨p, hp, rfl⟩ := h
  have h1 := List.mem_of_find?_eq_some hp
  have h2 := List.find?_some hp
  simp at h2
  rw [← h2]
  exact h1
end

/-! ### A stand in a map -/
/-- A blob as it lies in memory (its row, if there is one), the sector it stands in, and what it reads as. -/
structure Sv where
  sec : Int
  g : Option Nat
  n : Nat
  cap : Nat
  xs : List UInt8
def adr (g : Option Nat) : Option Addr := g.map fun b => ⟨b, 0, none⟩
def Sv.v (f : Sv) : Value := .agg #[.int .i64 f.sec, .slice (adr f.g) f.n f.cap]
def optD : Option Nat → DataW Unit
  | none => .nil
  | some b => .lit (.int .i64 (b : Int))
def stD (a : Int) (g : Option Nat) (n cap : Nat) : DataW Unit := .agg [.lit (.int .i64 a), optD g, .lit (.int .i64 (n : Int)), .lit (.int .i64 (cap : Int))]
def Sv.d (f : Sv) : DataW Unit := stD f.sec f.g f.n f.cap
def standElem : Value → Option (DataW Unit × List MemPlace)
  | .agg ⟨[.int .i64 a, .slice none n cap]⟩ => some (stD a none n cap, [])
  | .agg ⟨[.int .i64 a, .slice (some ⟨b, 0, none⟩) n cap]⟩ => some (stD a (some b) n cap, [])
  | _ => none
theorem standElem_mk (f : Sv) : standElem f.v = some (f.d, []) := by
  obtain ⟨a, g, n, cap, xs⟩ := f
  cases g <;> rfl
theorem stD_inj {a a' : Int} {g g' : Option Nat} {n n' cap cap' : Nat} (h : stD a g n cap = stD a' g' n' cap') : a = a' ∧ g = g' ∧ n = n' ∧ cap = cap' := by
  unfold stD at h
  simp only [DataW.agg.injEq, List.cons.injEq, DataW.lit.injEq, Lit.int.injEq, true_and, and_true] at h
  obtain ⟨h1, h2, h3, h4⟩ := h
  refine ⟨h1, ?_, by omega, by omega⟩
  cases g <;> cases g' <;> simp [optD] at h2 ⊢
  omega
theorem standElem_inv {v : Value} {f : Sv} {ps : List MemPlace} (h : standElem v = some (f.d, ps)) : v = f.v := by
  unfold standElem at h
  split at h
  · simp only [Option.some.injEq, Prod.mk.injEq] at h
    obtain ⟨h1, h2, h3, h4⟩ := stD_inj h.1
    unfold Sv.v
    rw [← h1, ← h2, ← h3, ← h4]
    rfl
  · simp only [Option.some.injEq, Prod.mk.injEq] at h
    obtain ⟨h1, h2, h3, h4⟩ := stD_inj h.1
    unfold Sv.v
    rw [← h1, ← h2, ← h3, ← h4]
    rfl
  · cases h
theorem standElem_some {v : Value} {y : DataW Unit × List MemPlace} (h : standElem v = some y) : ∃ f : Sv, v = f.v ∧ y = (f.d, []) := by
  unfold standElem at h
  split at h
  · rename_i a n cap
    cases h
    exact ⟨⟨a, none, n, cap, []⟩, rfl, rfl⟩
  · rename_i a b n cap
    cases h
    exact ⟨⟨a, some b, n, cap, []⟩, rfl, rfl⟩
  · cases h

/-- The datum of a store's map. -/
def smD (M : Al Sv) : DataW Unit := .map (M.map fun p => (.string p.1, p.2.d))
theorem insert_sm (k : List UInt8) (f : Sv) : ∀ M : Al Sv, DataW.insert (.string k, f.d) (M.map fun p => ((.string p.1 : Lit), p.2.d)) = (ains (k, f) M).map fun p => ((.string p.1 : Lit), p.2.d)
  | [] => rfl
  | q :: r => by
    unfold ains
    rw [List.map_cons]
    unfold DataW.insert
    by_cases hb : bytesBefore k q.1 = true
    · have hb2 : (Lit.string k).before (Lit.string q.1) = true := hb
      rw [if_pos hb2, if_pos hb]
      rfl
    · have hb2 : ¬ (Lit.string k).before (Lit.string q.1) = true := hb
      rw [if_neg hb2, if_neg hb, List.map_cons, insert_sm k f r]
theorem filter_sm (k : List UInt8) (M : Al Sv) : (M.map fun p => ((.string p.1 : Lit), p.2.d)).filter (fun p => !p.1.sameKey (.string k)) = (adel M k).map fun p => ((.string p.1 : Lit), p.2.d) := by
  unfold adel
  rw [List.filter_map]
  rfl
theorem put_sm (M : Al Sv) (k : List UInt8) (f : Sv) : (smD M).put (.string k) f.d = smD (aput M k f) := by
  unfold smD aput
  rw [← insert_sm, ← filter_sm]
  rfl
theorem del_sm (M : Al Sv) (k : List UInt8) : (smD M).del (.string k) = smD (adel M k) := by
  unfold smD
  rw [← filter_sm]
  rfl
theorem atKey_sm (M : Al Sv) (k : List UInt8) (z : DataW Unit) : (smD M).atKey (.string k) z = match afind M k with | some f => f.d | none => z := by
  unfold smD DataW.atKey afind
  simp only
  rw [List.find?_map]
  have e : ((fun p : Lit × DataW Unit => p.1.sameKey (.string k)) ∘ fun p : List UInt8 × Sv => ((.string p.1 : Lit), p.2.d)) = fun p => p.1 == k := rfl
  rw [e]
  cases M.find? (fun p => p.1 == k) <;> rfl
theorem has_sm (M : Al Sv) (k : List UInt8) : Maps.has (smD M) (.string k) = (afind M k).isSome := by
  unfold smD afind
  rw [Maps.has_eq, List.any_map]
  have e : ((fun p : Lit × DataW Unit => p.1.sameKey (.string k)) ∘ fun p : List UInt8 × Sv => ((.string p.1 : Lit), p.2.d)) = fun p => p.1 == k := rfl
  rw [e, Option.isSome_map]
  induction M with
  | nil => rfl
  | cons q r ih =>
    rw [List.any_cons, List.find?_cons]
    cases q.1 == k
    · exact ih
    · rfl
theorem strKeys_sm (M : Al Sv) : strKeys (smD M) = M.map (·.1) := by
  show (M.map fun p => ((.string p.1 : Lit), p.2.d)).map (fun p => strOf p.1) = _
  rw [List.map_map]
  rfl

theorem Tryz.standKeyed : Keyed Tryz.prog 9 := string_keyed Tryz.underlying9
def Sv.zero : Sv := ⟨0, none, 0, 0, []⟩
theorem Tryz.standZero (w : World) : (zeroValue 134).run Tryz.prog w = .ok Sv.zero.v w := by kernel_rfl

/-- Block b is a map of stands. -/
def StM (w : World) (b n : Nat) (M : Al Sv) : Prop := w.ownsMap Tryz.prog 9 standElem b n (smD M)

section
variable {w w' : World} {b n : Nat} {M : Al Sv}
theorem StM.made (w : World) : StM (w.alloc (.map #[] 0)) w.heap.size 0 [] := World.ownsMap_made _ _ _ _
theorem StM.lt (h : StM w b n M) : b < w.heap.size := World.ownsMap.lt h
theorem StM.only {S : Nat → Prop} (h : StM w b n M) (k : Only S w w') (hS : ¬ S b) : StM w' b n M := by
  obtain ⟨es, clock, hb, F, hs, hD⟩ := h
  exact ⟨es, clock, (k.block b (Array.getElem?_eq_some_iff.1 hb).1 hS).trans hb, F, hs, hD⟩
theorem StM.below (h : StM w b n M) (k : Below w.heap.size w w') : StM w' b n M := h.only (Only.of_below (S := Empty) k) (fun h => h)
theorem StM.alloc (h : StM w b n M) (o : Obj) : StM (w.alloc o) b n M := World.ownsMap.alloc h o
/-- The map's bound is how many keys it has. -/
theorem StM.tight (h : StM w b n M) : StM w b M.length M := by
  obtain ⟨es, clock, hb, F, hs, hD⟩ := h
  refine ⟨es, clock, hb, F, ?_, hD⟩
  have h1 : Maps.size (smD M) = M.length := by unfold smD; rw [Maps.size_eq, List.length_map]
  rw [hD, Maps.size_eq, length_sorted] at h1
  simp at h1
  omega
theorem StM.mono (h : StM w b n M) {m : Nat} (hm : n ≤ m) : StM w b m M := World.ownsMap.mono h hm
theorem StM.sorted (h : StM w b n M) : M.Pairwise (fun p q => bytesBefore p.1 q.1 = true) := by
  obtain ⟨es, he, hs, _⟩ := World.ownsMap.canon h Tryz.standKeyed
  unfold smD at he
  cases he
  rw [List.pairwise_map] at hs
  exact hs
theorem StM.blk_ne (h : StM w b n M) {g : Nat} {t : TypeId} {cs : Array Value} (hb : Blk w g t cs) : b ≠ g := by
  rintro rfl
  obtain ⟨es, clock, hb2, _⟩ := h
  have : some (Obj.cells cs t (0, 0)) = some (Obj.map es clock) := by
    rw [← show w.heap[b]? = some (.cells cs t (0, 0)) from hb, hb2]
  cases this

/-- What a look-up at a key answers. -/
def svAt (M : Al Sv) (k : List UInt8) : Sv := (afind M k).getD Sv.zero
theorem svAt_d (M : Al Sv) (k : List UInt8) : (smD M).atKey (.string k) Sv.zero.d = (svAt M k).d := by
  rw [atKey_sm]
  unfold svAt
  cases afind M k <;> rfl
theorem svAt_v {M : Al Sv} {k : List UInt8} {f : Sv} (h : afind M k = some f) : svAt M k = f := by unfold svAt; rw [h]; rfl

theorem StM.look (h : StM w b n M) (s : ByteArray) (hs : s.size ≤ maxLen) : (Instr.lookup 102 (.map (some b)) (.string s) false).run Tryz.prog w = .ok (svAt M s.data.toList).v w := by
  obtain ⟨v, ps, hrun, hv⟩ := World.ownsMap.lookup h Tryz.standKeyed Tryz.underlying102 (Tryz.standZero w) (standElem_mk Sv.zero) (Go.WideMaps.keyOf_string_mk Tryz.underlying9 hs)
  rw [svAt_d] at hv
  rw [hrun, standElem_inv hv]

theorem wpList_st_look_ok {ops : Array Oper} {rest : List Oper} {o : Oper} {a : Act} {Q : Exit → Act → World → Prop} (hg : o.guard = none) (m x : Operand) (hop : o.op = Op.lookup 102 m x true)
    (hm : a.eval m = .map (some b)) (hM : StM w b n M) (s : ByteArray) (hs : s.size ≤ maxLen) (hx : a.eval x = .string s)
    (hK : wpList Tryz.prog ops Q rest (a.put o.dst (.tuple #[(svAt M s.data.toList).v, .bool (afind M s.data.toList).isSome])) w) : wpList Tryz.prog ops Q (o :: rest) a w := by
  refine wpList_lookup_own_ok w hg m x 102 hop 9 134 Tryz.standKeyed Tryz.underlying102 standElem (Tryz.standZero w) Sv.zero.d [] (standElem_mk Sv.zero) b n (smD M) hm hM _ _ hx (Go.WideMaps.keyOf_string_mk Tryz.underlying9 hs) ?_
  intro v ps hv
  rw [svAt_d] at hv
  rw [standElem_inv hv, has_sm]
  exact hK

theorem wpList_st_put {ops : Array Oper} {rest : List Oper} {o : Oper} {a : Act} {Q : Exit → Act → World → Prop} (hg : o.guard = none) (m x v : Operand) (hop : o.op = Op.mapUpdate 102 m x v)
    (hm : a.eval m = .map (some b)) (hM : StM w b n M) (hn : n < maxLen) (s : ByteArray) (hs : s.size ≤ maxLen) (f : Sv) (hx : a.eval x = .string s) (hv : a.eval v = f.v)
    (hK : ∀ w', StM w' b (n + 1) (aput M s.data.toList f) → Only (· = b) w w' → wpList Tryz.prog ops Q rest (a.put o.dst undef) w') : wpList Tryz.prog ops Q (o :: rest) a w := by
  refine wpList_mapUpdate_own w hg m x v 102 hop 9 134 Tryz.standKeyed Tryz.underlying102 standElem b n (smD M) hm hM hn _ _ _ hx hv (Go.WideMaps.keyOf_string_mk Tryz.underlying9 hs) f.d [] (standElem_mk f) ?_
  intro w' h1 h2
  rw [put_sm] at h1
  exact hK w' h1 (Only.of_grown h2 (fun k e _ => by cases e; rfl))

theorem wpList_st_del {ops : Array Oper} {rest : List Oper} {o : Oper} {a : Act} {Q : Exit → Act → World → Prop} (hg : o.guard = none) (m x : Operand) (hop : o.op = Op.call { callee := Callee.builtin Builtin.delete, args := #[m, x], argTypes := #[102, 9] })
    (hm : a.eval m = .map (some b)) (hM : StM w b n M) (s : ByteArray) (hs : s.size ≤ maxLen) (hx : a.eval x = .string s)
    (hK : ∀ w', StM w' b n (adel M s.data.toList) → Only (· = b) w w' → wpList Tryz.prog ops Q rest (a.put o.dst (.tuple #[])) w') : wpList Tryz.prog ops Q (o :: rest) a w := by
  refine wpList_delete_own w hg m x 102 9 hop 134 Tryz.standKeyed Tryz.underlying102 standElem b n (smD M) hm hM _ _ hx (Go.WideMaps.keyOf_string_mk Tryz.underlying9 hs) ?_
  intro w' h1 h2
  rw [del_sm] at h1
  exact hK w' h1 (Only.of_grown h2.grown (fun k e _ => by cases e; rfl))
end

end Go.Proofs.YtnhfmcijadficaaGreatDoor
