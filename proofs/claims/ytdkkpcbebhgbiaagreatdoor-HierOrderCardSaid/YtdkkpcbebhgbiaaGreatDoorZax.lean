/- The walk over hier.worldOf. -/
import Derived.Test.YtdkkpcbebhgbiaaGreatDoorZaw
import Derived.StillTailTactics
namespace Go.Proofs.YtdkkpcbebhgbiaaGreatDoor
set_option maxRecDepth 100000
open Go.RowKit
open Go.Maps (Keyed)

/-- A map that a list of pairs has made, the last ones of a key counting. -/
abbrev MapL {κ ν : Type} [DecidableEq κ] (P : Program) (k : TypeId) (kv : κ → Value) (vv : ν → Value) (w : World) (b : Nat) (L : List (κ × ν)) : Prop := MapK P k kv vv w b (cntA (L.map (·.1))) (lastA L)
theorem MapL.made {κ ν : Type} [DecidableEq κ] (w : World) (P : Program) (k : TypeId) (kv : κ → Value) (vv : ν → Value) : MapL P k kv vv (w.alloc (.map #[] 0)) w.heap.size ([] : List (κ × ν)) := MapK.made w P k kv vv
theorem MapL.put {κ ν : Type} [DecidableEq κ] {P : Program} {k : TypeId} {kv : κ → Value} {vv : ν → Value} {w : World} {b : Nat} {L : List (κ × ν)} {t e : TypeId} (h : MapL P k kv vv w b L) (K : Keyed P k) (ht : P.underlying t = some (.map k e)) (hinj : ∀ a b, kv a = kv b → a = b) (hroom : L.length < maxLen) {q : κ} {kl : Lit} (hkey : keyOf P k (kv q) = some kl) (v : ν) :
    ∃ w', (Instr.mapUpdate t (.map (some b)) (kv q) (vv v)).run P w = .ok () w' ∧ MapL P k kv vv w' b (L ++ [(q, v)]) ∧ Only (· = b) w w' := by
  have hc := cntA_le (L.map (·.1))
  rw [List.length_map] at hc
  obtain ⟨w', h1, h2, h3⟩ := MapK.store h K ht hinj (by omega) hkey v
  refine ⟨w', h1, ?_, h3⟩
  have e1 : cntA ((L ++ [(q, v)]).map (·.1)) = if (lastA L q).isSome then cntA (L.map (·.1)) else cntA (L.map (·.1)) + 1 := by
    rw [List.map_append, List.map_singleton, cntA_snoc]
    by_cases hq : q ∈ L.map (·.1)
    · rw [if_pos hq, if_pos ((lastA_isSome L q).2 hq)]
    · rw [if_neg hq, if_neg (fun h => hq ((lastA_isSome L q).1 h))]
  show MapK P k kv vv w' b (cntA ((L ++ [(q, v)]).map (·.1))) (lastA (L ++ [(q, v)]))
  rw [e1]
  exact h2.ext (fun x => (lastA_snoc L q v x).symm)
theorem MapL.only {κ ν : Type} [DecidableEq κ] {P : Program} {k : TypeId} {kv : κ → Value} {vv : ν → Value} {w w' : World} {b : Nat} {L : List (κ × ν)} {S : Nat → Prop} (h : MapL P k kv vv w b L) (q : Only S w w') (hS : ¬ S b) : MapL P k kv vv w' b L := MapK.only h q hS

abbrev Cls1 := List (Bs × Bs)
abbrev Mem1 := List (Key3 × (Bs × Bool))
def clsP (l : List UnD) : Cls1 := l.map fun u => (u.name, u.super)
def fldPs (c : Bs) (l : List FdD) : Mem1 := l.map fun f => ((c, f.name, f.desc), (c, f.static))
def mthPs (c : Bs) (l : List MeD) : Mem1 := l.map fun f => ((c, f.name, f.desc), (c, f.static))
def fldP (l : List UnD) : Mem1 := l.flatMap fun u => fldPs u.name u.fields
def mthP (l : List UnD) : Mem1 := l.flatMap fun u => mthPs u.name u.meths
/-- A world in the making: its maps, in blocks B, B + 1, B + 2. -/
structure WM (B : Nat) (w : World) (L1 : Cls1) (L2 L3 : Mem1) : Prop where
  blk : Blk w (B + 1 + 1 + 1) 144 #[.map (some B), .map (some (B + 1)), .map (some (B + 1 + 1))]
  m1 : MapL Tryz.prog 9 strKV clsV w B L1
  m2 : MapL Tryz.prog 153 memKV memV w (B + 1) L2
  m3 : MapL Tryz.prog 153 memKV memV w (B + 1 + 1) L3
theorem WM.only {B : Nat} {w w' : World} {L1 : Cls1} {L2 L3 : Mem1} {S : Nat → Prop} (h : WM B w L1 L2 L3) (q : Only S w w') (hS : ∀ i, S i → B + 4 ≤ i) : WM B w' L1 L2 L3 :=
  ⟨q.blk h.blk (fun h => by have := hS _ h; omega), h.m1.only q (fun h => by have := hS _ h; omega), h.m2.only q (fun h => by have := hS _ h; omega), h.m3.only q (fun h => by have := hS _ h; omega)⟩
theorem WM.below {B : Nat} {w w' : World} {L1 : Cls1} {L2 L3 : Mem1} (h : WM B w L1 L2 L3) (q : Below w.heap.size w w') : WM B w' L1 L2 L3 := h.only (Only.of_below (S := Empty) q) (fun _ h => h.elim)

/-- Where worldOf stands at a round's head. -/
def RelW (l : List UnD) (n : Nat) (w : World) (i : Value) (wr : World) : Prop := ∃ k : Nat, k ≤ n ∧ i = .int .i64 (k : Int) ∧ WM w.heap.size wr (clsP (l.take k)) (fldP (l.take k)) (mthP (l.take k)) ∧ Below w.heap.size w wr ∧ w.heap.size + 4 ≤ wr.heap.size
/-- Where its loop over a unit's fields stands. -/
def RelWF (l : List UnD) (x : UnD) (k : Nat) (w : World) (g : Nat) (cs : Array Value) (n : Nat) (i : Value) (wr : World) : Prop := ∃ j : Nat, j ≤ n ∧ i = .int .i64 (j : Int) ∧ WM w.heap.size wr (clsP (l.take (k + 1))) (fldP (l.take k) ++ fldPs x.name (x.fields.take j)) (mthP (l.take k)) ∧ Blk wr g 82 cs ∧ Below w.heap.size w wr
def RelWM (l : List UnD) (x : UnD) (k : Nat) (w : World) (g : Nat) (cs : Array Value) (n : Nat) (i : Value) (wr : World) : Prop := ∃ j : Nat, j ≤ n ∧ i = .int .i64 (j : Int) ∧ WM w.heap.size wr (clsP (l.take (k + 1))) (fldP (l.take (k + 1))) (mthP (l.take k) ++ mthPs x.name (x.meths.take j)) ∧ Blk wr g 82 cs ∧ Below w.heap.size w wr
theorem cls_snoc {l : List UnD} {k : Nat} {x : UnD} (h : l[k]? = some x) : clsP (l.take (k + 1)) = clsP (l.take k) ++ [(x.name, x.super)] := take_map_snoc _ h
theorem fldP_snoc {l : List UnD} {k : Nat} {x : UnD} (h : l[k]? = some x) : fldP (l.take (k + 1)) = fldP (l.take k) ++ fldPs x.name x.fields := by unfold fldP; rw [List.take_add_one, h]; simp
theorem mthP_snoc {l : List UnD} {k : Nat} {x : UnD} (h : l[k]? = some x) : mthP (l.take (k + 1)) = mthP (l.take k) ++ mthPs x.name x.meths := by unfold mthP; rw [List.take_add_one, h]; simp
theorem fldP_le {l : List UnD} (h : ∀ x ∈ l, x.fields.length ≤ 1000) : (fldP l).length ≤ l.length * 1000 := by
  induction l with
  | nil => exact Nat.le_refl _
  | cons u r ih =>
    have h1 := h u List.mem_cons_self
    have h2 := ih (fun x hx => h x (List.mem_cons_of_mem _ hx))
    unfold fldP at h2 ⊢
    rw [List.flatMap_cons, List.length_append, List.length_cons]
    simp only [fldPs, List.length_map] at h2 ⊢
    omega
theorem mthP_le {l : List UnD} (h : ∀ x ∈ l, x.meths.length ≤ 1000) : (mthP l).length ≤ l.length * 1000 := by
  induction l with
  | nil => exact Nat.le_refl _
  | cons u r ih =>
    have h1 := h u List.mem_cons_self
    have h2 := ih (fun x hx => h x (List.mem_cons_of_mem _ hx))
    unfold mthP at h2 ⊢
    rw [List.flatMap_cons, List.length_append, List.length_cons]
    simp only [mthPs, List.length_map] at h2 ⊢
    omega
set_option maxHeartbeats 4000000 in
theorem worldOf_any (w : World) (l : List UnD) (A : Option Addr) (n cap : Nat) (hR : RowS unW w Empty A n cap l) (hn : n ≤ 1000) (hsm : ∀ x ∈ l, SmallUn x) :
    Calls Tryz.prog 51 #[.slice A n cap] w fun e w' => e = .returned (.pointer (some ⟨w.heap.size + 1 + 1 + 1, 0, none⟩)) ∧ WM w.heap.size w' (clsP l) (fldP l) (mthP l) ∧ Below w.heap.size w w' := by
  have hmm := @run_makeMap Tryz.prog
  have hnc := hR.2.1
  have hcm := hR.2.2.1
  unfold maxLen at hcm
  have HL := Lib.hid hR.1
  have HR := Lib.hid hR
  have HS := Lib.hid hsm
  have HF1 : Hid (∀ k, k ≤ n → (fldP (l.take k)).length ≤ 1000 * 1000) := Lib.hid (fun k hk => by
    have := fldP_le (l := l.take k) (fun x hx => (hsm x (List.mem_of_mem_take hx)).fields)
    rw [List.length_take] at this
    omega)
  have HM1 : Hid (∀ k, k ≤ n → (mthP (l.take k)).length ≤ 1000 * 1000) := Lib.hid (fun k hk => by
    have := mthP_le (l := l.take k) (fun x hx => (hsm x (List.mem_of_mem_take hx)).meths)
    rw [List.length_take] at this
    omega)
  clear hR hsm
  have HRel : Hid (RelW l n w (.int .i64 0) ((((w.alloc (.map #[] 0)).alloc (.map #[] 0)).alloc (.map #[] 0)).alloc (.cells #[.map (some w.heap.size), .map (some (w.heap.size + 1)), .map (some (w.heap.size + 1 + 1))] 144))) := Lib.hid (by
    have e1 : (w.alloc (.map #[] 0)).heap.size = w.heap.size + 1 := by simp
    have e2 : ((w.alloc (.map #[] 0)).alloc (.map #[] 0)).heap.size = w.heap.size + 1 + 1 := by simp
    have e3 : (((w.alloc (.map #[] 0)).alloc (.map #[] 0)).alloc (.map #[] 0)).heap.size = w.heap.size + 1 + 1 + 1 := by simp
    refine ⟨0, Nat.zero_le _, rfl, ⟨?_, ?_, ?_, ?_⟩, ?_, by simp⟩
    · have := Blk.new (((w.alloc (.map #[] 0)).alloc (.map #[] 0)).alloc (.map #[] 0)) 144 #[.map (some w.heap.size), .map (some (w.heap.size + 1)), .map (some (w.heap.size + 1 + 1))]
      rw [e3] at this
      exact this
    · exact (((MapL.made w _ _ _ _).below ((Below.refl _ _).alloc (Nat.le_refl _) _)).below ((Below.refl _ _).alloc (Nat.le_refl _) _)).below ((Below.refl _ _).alloc (Nat.le_refl _) _)
    · have := MapL.made (κ := Key3) (ν := Bs × Bool) (w.alloc (.map #[] 0)) Tryz.prog 153 memKV memV
      rw [e1] at this
      exact (MapK.below this ((Below.refl _ _).alloc (Nat.le_refl _) _)).below ((Below.refl _ _).alloc (Nat.le_refl _) _)
    · have := MapL.made (κ := Key3) (ν := Bs × Bool) ((w.alloc (.map #[] 0)).alloc (.map #[] 0)) Tryz.prog 153 memKV memV
      rw [e2] at this
      exact MapK.below this ((Below.refl _ _).alloc (Nat.le_refl _) _)
    · exact ((((Below.refl _ w).alloc (Nat.le_refl _) _).alloc (by simp) _).alloc (by simp <;> omega) _).alloc (by simp <;> omega) _)
  go_enter Tryz.func51, Tryz.ntmps51
  go_wp2
  clear hmm
  go_loopw [17] (fun i wr => RelW l n w i wr) (fun i _ => n - (intOf i).toNat)
  case atStart => exact HRel.out
  case round =>
    clear HRel
    obtain ⟨k, hk, rfl, hM, hBw, hlt0⟩ := hrel
    by_cases hlt : k < n
    · obtain ⟨b, o, x, cs, rfl, hb, _, hx, hcl, hcs, hr⟩ := HR.out.at_ hlt
      obtain ⟨Af, nf, cf, Am, nm, cm, rfl, hF, hMe⟩ := hr
      change ∀ j v, [Value.string (strB x.name), .string (strB x.super), .slice Af nf cf, .slice Am nm cm][j]? = some v → w.cell? ⟨b, o + k * 4 + j, none⟩ = some v at hcs
      have d0 : wr.cell? ⟨b, o + k * 4, none⟩ = some (.string (strB x.name)) := (hBw.cell (p := ⟨b, o + k * 4, none⟩) hb).trans (by have := hcs 0 _ rfl; simpa using this)
      have d1 : wr.cell? ⟨b, o + k * 4 + 1, none⟩ = some (.string (strB x.super)) := (hBw.cell (p := ⟨b, o + k * 4 + 1, none⟩) hb).trans (by have := hcs 1 _ rfl; simpa using this)
      have d2 : wr.cell? ⟨b, o + k * 4 + 2, none⟩ = some (.slice Af nf cf) := (hBw.cell (p := ⟨b, o + k * 4 + 2, none⟩) hb).trans (by have := hcs 2 _ rfl; simpa using this)
      have d3 : wr.cell? ⟨b, o + k * 4 + 3, none⟩ = some (.slice Am nm cm) := (hBw.cell (p := ⟨b, o + k * 4 + 3, none⟩) hb).trans (by have := hcs 3 _ rfl; simpa using this)
      have HSX := Lib.hid (HS.out x (List.mem_of_getElem? hx))
      have HX := Lib.hid hx
      have HF := Lib.hid hF
      have HME := Lib.hid hMe
      have hnf : nf ≤ 1000 := by rw [← hF.1]; exact HSX.out.fields
      have hnm : nm ≤ 1000 := by rw [← hMe.1]; exact HSX.out.meths
      have hncf := hF.2.1
      have hcmf := hF.2.2.1
      have hncm := hMe.2.1
      have hcmm := hMe.2.2.1
      unfold maxLen at hcmf hcmm
      clear hcs hx hcl hF hMe
      obtain ⟨kl, hkl⟩ := (⟨_, str_key x.name HSX.out.name⟩ : ∃ kl, keyOf Tryz.prog 9 (strKV x.name) = some kl)
      go_wp2
      obtain ⟨W1, hW1⟩ : ∃ W1, (wr.alloc (.cells #[.string (strB x.name), .string (strB x.super), .slice Af nf cf, .slice Am nm cm] 82)) = W1 := ⟨_, rfl⟩
      obtain ⟨g, hgw⟩ : ∃ g, wr.heap.size = g := ⟨_, rfl⟩
      have hb1 : Below wr.heap.size wr W1 := by rw [← hW1]; exact (Below.refl _ _).alloc (Nat.le_refl _) _
      have kg : Blk W1 g 82 #[.string (strB x.name), .string (strB x.super), .slice Af nf cf, .slice Am nm cm] := by rw [← hW1, ← hgw]; exact Blk.new _ _ _
      rw [hW1]
      rw [hgw] at hlt0 hb1
      rw [hgw]
      have hBw1 : Below w.heap.size w W1 := hBw.trans (hb1.mono (by omega))
      have hM1 := hM.below (by rw [hgw]; exact hb1)
      clear hW1 hgw hM hb1 hBw
      have c0 : W1.cell? ⟨w.heap.size + 1 + 1 + 1, 0, none⟩ = some (.map (some w.heap.size)) := hM1.blk.cell 0
      have g0 : W1.cell? ⟨g, 0, none⟩ = some (.string (strB x.name)) := kg.cell 0
      have g1 : W1.cell? ⟨g, 1, none⟩ = some (.string (strB x.super)) := kg.cell 1
      go_still_tail 9, (by kernel_rfl)
      have hlen : (clsP (l.take k)).length < maxLen := by unfold clsP maxLen; rw [List.length_map, List.length_take]; omega
      obtain ⟨W2, hrun, hm2, ho2⟩ := (show MapL Tryz.prog 9 strKV clsV W1.drew w.heap.size (clsP (l.take k)) from hM1.m1.of rfl).put Tryz.strKeyed Tryz.underlying141 strKV_inj hlen hkl x.super
      simp only [strKV, clsV] at hrun
      have hoA : Only (· = w.heap.size) W1 W2 := ((Only.refl _ _).drew).trans ho2
      have kg2 : Blk W2 g 82 #[.string (strB x.name), .string (strB x.super), .slice Af nf cf, .slice Am nm cm] := hoA.blk kg (by omega)
      have hM2 : WM w.heap.size W2 (clsP (l.take (k + 1))) (fldP (l.take k)) (mthP (l.take k)) := by
        rw [cls_snoc HX.out]
        exact ⟨hoA.blk hM1.blk (by omega), hm2, hM1.m2.only hoA (by omega), hM1.m3.only hoA (by omega)⟩
      have hBw2 : Below w.heap.size w W2 := hBw1.trans (hoA.below hBw1.size (fun j hj e => by omega))
      clear hlen hkl hm2 ho2 hoA c0 g0 g1 kg hM1 hBw1
      have g2 : W2.cell? ⟨g, 2, none⟩ = some (.slice Af nf cf) := kg2.cell 2
      go_wp2
      have HRel2 : Hid (RelWF l x k w g #[.string (strB x.name), .string (strB x.super), .slice Af nf cf, .slice Am nm cm] nf (.int .i64 0) W2) := Lib.hid ⟨0, Nat.zero_le _, rfl, by simpa [fldPs] using hM2, kg2, hBw2⟩
      clear hrun g2 hM2 kg2 hBw2
      obtain ⟨wo, rfl⟩ : ∃ wo : World, wo = wr := ⟨_, rfl⟩
      go_loopw [33] (fun i wr => RelWF l x k w g #[.string (strB x.name), .string (strB x.super), .slice Af nf cf, .slice Am nm cm] nf i wr) (fun i _ => nf - (intOf i).toNat)
      case atStart => exact HRel2.out
      case round =>
        clear HRel2
        obtain ⟨j, hj, rfl, hM, kg, hBw⟩ := hrel
        by_cases hjl : j < nf
        · obtain ⟨fb, fo, f, fcs, rfl, hfb, _, hfx, hfcl, hcs, hr⟩ := HF.out.at_ hjl
          obtain rfl := (show fcs = [.bool f.static, .string (strB f.name), .string (strB f.desc)] from hr)
          change ∀ j' v, [.bool f.static, .string (strB f.name), .string (strB f.desc)][j']? = some v → w.cell? ⟨fb, fo + j * 3 + j', none⟩ = some v at hcs
          have d0 : wr.cell? ⟨fb, fo + j * 3, none⟩ = some (.bool f.static) := (hBw.cell (p := ⟨fb, fo + j * 3, none⟩) hfb).trans (by have := hcs 0 _ rfl; simpa using this)
          have d1 : wr.cell? ⟨fb, fo + j * 3 + 1, none⟩ = some (.string (strB f.name)) := (hBw.cell (p := ⟨fb, fo + j * 3 + 1, none⟩) hfb).trans (by have := hcs 1 _ rfl; simpa using this)
          have d2 : wr.cell? ⟨fb, fo + j * 3 + 2, none⟩ = some (.string (strB f.desc)) := (hBw.cell (p := ⟨fb, fo + j * 3 + 2, none⟩) hfb).trans (by have := hcs 2 _ rfl; simpa using this)
          have HFX := Lib.hid hfx
          have hsz := HSX.out.fld f (List.mem_of_getElem? hfx)
          obtain ⟨kl, hkl⟩ := mem_key (x.name, f.name, f.desc) HSX.out.name hsz.1 hsz.2
          clear hcs hfcl hfx hsz
          go_wp2
          obtain ⟨W1, hW1⟩ : ∃ W1, (wr.alloc (.cells #[.bool f.static, .string (strB f.name), .string (strB f.desc)] 95)) = W1 := ⟨_, rfl⟩
          obtain ⟨gf, hgw⟩ : ∃ gf, wr.heap.size = gf := ⟨_, rfl⟩
          have hgl := kg.lt
          have hb1 : Below wr.heap.size wr W1 := by rw [← hW1]; exact (Below.refl _ _).alloc (Nat.le_refl _) _
          have kf : Blk W1 gf 95 #[.bool f.static, .string (strB f.name), .string (strB f.desc)] := by rw [← hW1, ← hgw]; exact Blk.new _ _ _
          have kg1 := kg.of (hb1.block g hgl)
          rw [hW1]
          have hszr := hBw.size
          rw [hgw] at hb1 hgl hszr
          rw [hgw]
          have hBw1 : Below w.heap.size w W1 := hBw.trans (hb1.mono hszr)
          have hM1 := hM.below (by rw [hgw]; exact hb1)
          clear hW1 hgw hM hb1 hBw kg
          have c0 : W1.cell? ⟨w.heap.size + 1 + 1 + 1, 1, none⟩ = some (.map (some (w.heap.size + 1))) := hM1.blk.cell 1
          have g0 : W1.cell? ⟨g, 0, none⟩ = some (.string (strB x.name)) := kg1.cell 0
          have f0 : W1.cell? ⟨gf, 0, none⟩ = some (.bool f.static) := kf.cell 0
          have f1 : W1.cell? ⟨gf, 1, none⟩ = some (.string (strB f.name)) := kf.cell 1
          have f2 : W1.cell? ⟨gf, 2, none⟩ = some (.string (strB f.desc)) := kf.cell 2
          go_still_tail 16, (by kernel_rfl)
          have hlen : (fldP (l.take k) ++ fldPs x.name (x.fields.take j)).length < maxLen := by
            have h1 := HF1.out k (by omega)
            have h2 : (fldPs x.name (x.fields.take j)).length ≤ j := by unfold fldPs; rw [List.length_map, List.length_take]; omega
            rw [List.length_append]
            unfold maxLen
            omega
          obtain ⟨W2, hrun, hm2, ho2⟩ := (show MapL Tryz.prog 153 memKV memV W1.drew (w.heap.size + 1) (fldP (l.take k) ++ fldPs x.name (x.fields.take j)) from hM1.m2.of rfl).put Tryz.memKeyed Tryz.underlying142 memKV_inj hlen hkl (x.name, f.static)
          simp only [memKV, memV] at hrun
          have hoA : Only (· = w.heap.size + 1) W1 W2 := ((Only.refl _ _).drew).trans ho2
          have kg2 : Blk W2 g 82 #[.string (strB x.name), .string (strB x.super), .slice (some ⟨fb, fo, none⟩) nf cf, .slice Am nm cm] := hoA.blk kg1 (by omega)
          have hM2 : WM w.heap.size W2 (clsP (l.take (k + 1))) (fldP (l.take k) ++ fldPs x.name (x.fields.take (j + 1))) (mthP (l.take k)) := by
            have : fldP (l.take k) ++ fldPs x.name (x.fields.take (j + 1)) = (fldP (l.take k) ++ fldPs x.name (x.fields.take j)) ++ [((x.name, f.name, f.desc), (x.name, f.static))] := by rw [List.append_assoc]; congr 1; exact take_map_snoc _ HFX.out
            exact ⟨hoA.blk hM1.blk (by omega), hM1.m1.only hoA (by omega), by rw [this]; exact hm2, hM1.m3.only hoA (by omega)⟩
          have hBw2 : Below w.heap.size w W2 := hBw1.trans (hoA.below hBw1.size (fun j hj e => by omega))
          clear hlen hkl hm2 ho2 hoA c0 g0 f0 f1 f2 kg1 kf hM1 hBw1
          have HRel2 : Hid (RelWF l x k w g #[.string (strB x.name), .string (strB x.super), .slice (some ⟨fb, fo, none⟩) nf cf, .slice Am nm cm] nf (.int .i64 ((j : Int) + 1)) W2) := Lib.hid ⟨j + 1, hjl, by simp, hM2, kg2, hBw2⟩
          clear hM2 kg2 hBw2
          go_wp2
          go_roundw
          case rel => exact HRel2.out
          case measure => simp [intOf]; omega
        · have hM3 : WM w.heap.size wr (clsP (l.take (k + 1))) (fldP (l.take (k + 1))) (mthP (l.take k)) := by
            rw [fldP_snoc HX.out]
            rw [show x.fields.take j = x.fields from List.take_of_length_le (by rw [HF.out.1]; omega)] at hM
            exact hM
          clear hM
          have g3 : wr.cell? ⟨g, 3, none⟩ = some (.slice Am nm cm) := kg.cell 3
          go_wp2
          have HRel3 : Hid (RelWM l x k w g #[.string (strB x.name), .string (strB x.super), .slice Af nf cf, .slice Am nm cm] nm (.int .i64 0) wr) := Lib.hid ⟨0, Nat.zero_le _, rfl, by simpa [mthPs] using hM3, kg, hBw⟩
          clear g3 hM3 kg hBw
          obtain ⟨wo2, rfl⟩ : ∃ wo2 : World, wo2 = wr := ⟨_, rfl⟩
          go_loopw [57] (fun i wr => RelWM l x k w g #[.string (strB x.name), .string (strB x.super), .slice Af nf cf, .slice Am nm cm] nm i wr) (fun i _ => nm - (intOf i).toNat)
          case atStart => exact HRel3.out
          case round =>
            clear HRel3
            obtain ⟨j, hj, rfl, hM, kg, hBw⟩ := hrel
            by_cases hjl : j < nm
            · obtain ⟨fb, fo, f, fcs, rfl, hfb, _, hfx, hfcl, hcs, hr⟩ := HME.out.at_ hjl
              obtain ⟨Ac, nc, cc, At, nt, ct, Ap, np, cp, rfl, _⟩ := hr
              change ∀ j' v, [.bool f.static, .string (strB f.name), .string (strB f.desc), .int .i64 f.stack, .int .i64 f.locals, .slice Ac nc cc, .slice At nt ct, .slice Ap np cp][j']? = some v → w.cell? ⟨fb, fo + j * 8 + j', none⟩ = some v at hcs
              have d0 : wr.cell? ⟨fb, fo + j * 8, none⟩ = some (.bool f.static) := (hBw.cell (p := ⟨fb, fo + j * 8, none⟩) hfb).trans (by have := hcs 0 _ rfl; simpa using this)
              have d1 : wr.cell? ⟨fb, fo + j * 8 + 1, none⟩ = some (.string (strB f.name)) := (hBw.cell (p := ⟨fb, fo + j * 8 + 1, none⟩) hfb).trans (by have := hcs 1 _ rfl; simpa using this)
              have d2 : wr.cell? ⟨fb, fo + j * 8 + 2, none⟩ = some (.string (strB f.desc)) := (hBw.cell (p := ⟨fb, fo + j * 8 + 2, none⟩) hfb).trans (by have := hcs 2 _ rfl; simpa using this)
              have d3 : wr.cell? ⟨fb, fo + j * 8 + 3, none⟩ = some (.int .i64 f.stack) := (hBw.cell (p := ⟨fb, fo + j * 8 + 3, none⟩) hfb).trans (by have := hcs 3 _ rfl; simpa using this)
              have d4 : wr.cell? ⟨fb, fo + j * 8 + 4, none⟩ = some (.int .i64 f.locals) := (hBw.cell (p := ⟨fb, fo + j * 8 + 4, none⟩) hfb).trans (by have := hcs 4 _ rfl; simpa using this)
              have d5 : wr.cell? ⟨fb, fo + j * 8 + 5, none⟩ = some (.slice Ac nc cc) := (hBw.cell (p := ⟨fb, fo + j * 8 + 5, none⟩) hfb).trans (by have := hcs 5 _ rfl; simpa using this)
              have d6 : wr.cell? ⟨fb, fo + j * 8 + 6, none⟩ = some (.slice At nt ct) := (hBw.cell (p := ⟨fb, fo + j * 8 + 6, none⟩) hfb).trans (by have := hcs 6 _ rfl; simpa using this)
              have d7 : wr.cell? ⟨fb, fo + j * 8 + 7, none⟩ = some (.slice Ap np cp) := (hBw.cell (p := ⟨fb, fo + j * 8 + 7, none⟩) hfb).trans (by have := hcs 7 _ rfl; simpa using this)
              have HFX := Lib.hid hfx
              have hsz := HSX.out.mth f (List.mem_of_getElem? hfx)
              obtain ⟨kl, hkl⟩ := mem_key (x.name, f.name, f.desc) HSX.out.name hsz.1 hsz.2
              clear hcs hfcl hfx hsz
              go_wp2
              obtain ⟨W1, hW1⟩ : ∃ W1, (wr.alloc (.cells #[.bool f.static, .string (strB f.name), .string (strB f.desc), .int .i64 f.stack, .int .i64 f.locals, .slice Ac nc cc, .slice At nt ct, .slice Ap np cp] 41)) = W1 := ⟨_, rfl⟩
              obtain ⟨gf, hgw⟩ : ∃ gf, wr.heap.size = gf := ⟨_, rfl⟩
              have hgl := kg.lt
              have hb1 : Below wr.heap.size wr W1 := by rw [← hW1]; exact (Below.refl _ _).alloc (Nat.le_refl _) _
              have kf : Blk W1 gf 41 #[.bool f.static, .string (strB f.name), .string (strB f.desc), .int .i64 f.stack, .int .i64 f.locals, .slice Ac nc cc, .slice At nt ct, .slice Ap np cp] := by rw [← hW1, ← hgw]; exact Blk.new _ _ _
              have kg1 := kg.of (hb1.block g hgl)
              rw [hW1]
              have hszr := hBw.size
              rw [hgw] at hb1 hgl hszr
              rw [hgw]
              have hBw1 : Below w.heap.size w W1 := hBw.trans (hb1.mono hszr)
              have hM1 := hM.below (by rw [hgw]; exact hb1)
              clear hW1 hgw hM hb1 hBw kg
              have c0 : W1.cell? ⟨w.heap.size + 1 + 1 + 1, 2, none⟩ = some (.map (some (w.heap.size + 1 + 1))) := hM1.blk.cell 2
              have g0 : W1.cell? ⟨g, 0, none⟩ = some (.string (strB x.name)) := kg1.cell 0
              have f0 : W1.cell? ⟨gf, 0, none⟩ = some (.bool f.static) := kf.cell 0
              have f1 : W1.cell? ⟨gf, 1, none⟩ = some (.string (strB f.name)) := kf.cell 1
              have f2 : W1.cell? ⟨gf, 2, none⟩ = some (.string (strB f.desc)) := kf.cell 2
              go_still_tail 16, (by kernel_rfl)
              have hlen : (mthP (l.take k) ++ mthPs x.name (x.meths.take j)).length < maxLen := by
                have h1 := HM1.out k (by omega)
                have h2 : (mthPs x.name (x.meths.take j)).length ≤ j := by unfold mthPs; rw [List.length_map, List.length_take]; omega
                rw [List.length_append]
                unfold maxLen
                omega
              obtain ⟨W2, hrun, hm2, ho2⟩ := (show MapL Tryz.prog 153 memKV memV W1.drew (w.heap.size + 1 + 1) (mthP (l.take k) ++ mthPs x.name (x.meths.take j)) from hM1.m3.of rfl).put Tryz.memKeyed Tryz.underlying142 memKV_inj hlen hkl (x.name, f.static)
              simp only [memKV, memV] at hrun
              have hoA : Only (· = w.heap.size + 1 + 1) W1 W2 := ((Only.refl _ _).drew).trans ho2
              have kg2 : Blk W2 g 82 #[.string (strB x.name), .string (strB x.super), .slice Af nf cf, .slice (some ⟨fb, fo, none⟩) nm cm] := hoA.blk kg1 (by omega)
              have hM2 : WM w.heap.size W2 (clsP (l.take (k + 1))) (fldP (l.take (k + 1))) (mthP (l.take k) ++ mthPs x.name (x.meths.take (j + 1))) := by
                have : mthP (l.take k) ++ mthPs x.name (x.meths.take (j + 1)) = (mthP (l.take k) ++ mthPs x.name (x.meths.take j)) ++ [((x.name, f.name, f.desc), (x.name, f.static))] := by rw [List.append_assoc]; congr 1; exact take_map_snoc _ HFX.out
                exact ⟨hoA.blk hM1.blk (by omega), hM1.m1.only hoA (by omega), hM1.m2.only hoA (by omega), by rw [this]; exact hm2⟩
              have hBw2 : Below w.heap.size w W2 := hBw1.trans (hoA.below hBw1.size (fun j hj e => by omega))
              clear hlen hkl hm2 ho2 hoA c0 g0 f0 f1 f2 kg1 kf hM1 hBw1
              have HRel2 : Hid (RelWM l x k w g #[.string (strB x.name), .string (strB x.super), .slice Af nf cf, .slice (some ⟨fb, fo, none⟩) nm cm] nm (.int .i64 ((j : Int) + 1)) W2) := Lib.hid ⟨j + 1, hjl, by simp, hM2, kg2, hBw2⟩
              clear hM2 kg2 hBw2
              go_wp2
              go_roundw
              case rel => exact HRel2.out
              case measure => simp [intOf]; omega
            · have hM3 : WM w.heap.size wr (clsP (l.take (k + 1))) (fldP (l.take (k + 1))) (mthP (l.take (k + 1))) := by
                rw [mthP_snoc HX.out]
                rw [show x.meths.take j = x.meths from List.take_of_length_le (by rw [HME.out.1]; omega)] at hM
                exact hM
              clear hM
              have HRel4 : Hid (RelW l n w (.int .i64 ((k : Int) + 1)) wr) := Lib.hid ⟨k + 1, hlt, by simp, hM3, hBw, by have := hM3.blk.lt; omega⟩
              clear hM3 kg hBw
              go_wp2
              go_roundw
              case rel => exact HRel4.out
              case measure => simp [intOf]; omega
    · have e1 : l.take k = l := List.take_of_length_le (by rw [HL.out]; omega)
      rw [e1] at hM
      clear e1
      go_wp2
      go_ret
      exact ⟨rfl, hM, hBw⟩

end Go.Proofs.YtdkkpcbebhgbiaaGreatDoor

/- A world that worldOf makes of units of which no two have one name. -/
namespace Go.Proofs.YtdkkpcbebhgbiaaGreatDoor
set_option maxRecDepth 100000
open Go.RowKit

theorem lastA_append {κ ν : Type} [DecidableEq κ] (A B : List (κ × ν)) (q : κ) : lastA (A ++ B) q = (lastA B q).or (lastA A q) := by
  unfold lastA
  rw [List.reverse_append, List.find?_append]
  cases h : B.reverse.find? (fun p => decide (p.1 = q)) <;> simp
theorem lastA_no {κ ν : Type} [DecidableEq κ] {A : List (κ × ν)} {q : κ} (h : ∀ p ∈ A, p.1 ≠ q) : lastA A q = none := by
  unfold lastA
  rw [List.find?_eq_none.2 (fun p hp => by simpa using h p (by simpa using hp))]
  rfl
theorem find_map_rev {α κ ν : Type} [DecidableEq κ] (f : α → κ × ν) (l : List α) (q : κ) : lastA (l.map f) q = (l.reverse.find? (fun x => (f x).1 = q)).map (fun x => (f x).2) := by
  unfold lastA
  rw [← List.map_reverse, List.find?_map]
  simp
  rfl
section
variable {L : List UnD}
theorem cls_last (hn : (L.map (·.name)).Nodup) (c : Bs) : lastA (clsP L) c = (findU L c).map (·.super) := by
  induction L with
  | nil => rfl
  | cons u r ih =>
    rw [List.map_cons, List.nodup_cons] at hn
    show lastA ([(u.name, u.super)] ++ clsP r) c = _
    rw [lastA_append, ih hn.2]
    unfold findU
    rw [List.find?_cons]
    by_cases h : u.name = c
    · rw [show (u.name == c) = true by simpa using h]
      have : r.find? (fun u => u.name == c) = none := List.find?_eq_none.2 (fun x hx e => hn.1 (by
        simp at e
        rw [h, ← e]
        exact List.mem_map_of_mem hx))
      rw [this]
      subst h
      simp [lastA]
    · rw [show (u.name == c) = false by simpa using h]
      simp only
      rw [lastA_no (A := [(u.name, u.super)]) (fun p hp => by simp at hp; subst hp; exact h)]
      simp
theorem fldPs_last (c n d : Bs) (l : List FdD) : lastA (fldPs c l) (c, n, d) = (l.reverse.find? (fun m => m.name == n && m.desc == d)).map (fun m => (c, m.static)) := by
  unfold fldPs
  rw [find_map_rev]
  congr 2
  funext x
  simp
  rw [Bool.eq_iff_iff]
  simp
theorem mthPs_last (c n d : Bs) (l : List MeD) : lastA (mthPs c l) (c, n, d) = (l.reverse.find? (fun m => m.name == n && m.desc == d)).map (fun m => (c, m.static)) := by
  unfold mthPs
  rw [find_map_rev]
  congr 2
  funext x
  simp
  rw [Bool.eq_iff_iff]
  simp
theorem fld_last (hn : (L.map (·.name)).Nodup) (q : Key3) : lastA (fldP L) q = (findU L q.1).bind fun u => (lastF u q.2.1 q.2.2).map fun st => (q.1, st) := by
  induction L with
  | nil => rfl
  | cons u r ih =>
    obtain ⟨c, n, d⟩ := q
    rw [List.map_cons, List.nodup_cons] at hn
    show lastA (fldPs u.name u.fields ++ fldP r) (c, n, d) = _
    rw [lastA_append, ih hn.2]
    unfold findU
    rw [List.find?_cons]
    by_cases h : u.name = c
    · rw [show (u.name == c) = true by simpa using h]
      have : r.find? (fun u => u.name == c) = none := List.find?_eq_none.2 (fun x hx e => hn.1 (by
        simp at e
        rw [h, ← e]
        exact List.mem_map_of_mem hx))
      rw [this]
      subst h
      rw [fldPs_last]
      simp only [Option.bind_none, Option.none_or, Option.bind_some, lastF, Option.map_map]
      rfl
    · rw [show (u.name == c) = false by simpa using h]
      simp only
      rw [lastA_no (A := fldPs u.name u.fields) (fun p hp e => by
        unfold fldPs at hp
        obtain ⟨x, _, rfl⟩ := List.mem_map.1 hp
        simp at e
        exact h e.1)]
      simp
theorem mth_last (hn : (L.map (·.name)).Nodup) (q : Key3) : lastA (mthP L) q = (findU L q.1).bind fun u => (lastM u q.2.1 q.2.2).map fun st => (q.1, st) := by
  induction L with
  | nil => rfl
  | cons u r ih =>
    obtain ⟨c, n, d⟩ := q
    rw [List.map_cons, List.nodup_cons] at hn
    show lastA (mthPs u.name u.meths ++ mthP r) (c, n, d) = _
    rw [lastA_append, ih hn.2]
    unfold findU
    rw [List.find?_cons]
    by_cases h : u.name = c
    · rw [show (u.name == c) = true by simpa using h]
      have : r.find? (fun u => u.name == c) = none := List.find?_eq_none.2 (fun x hx e => hn.1 (by
        simp at e
        rw [h, ← e]
        exact List.mem_map_of_mem hx))
      rw [this]
      subst h
      rw [mthPs_last]
      simp only [Option.bind_none, Option.none_or, Option.bind_some, lastM, Option.map_map]
      rfl
    · rw [show (u.name == c) = false by simpa using h]
      simp only
      rw [lastA_no (A := mthPs u.name u.meths) (fun p hp e => by
        unfold mthPs at hp
        obtain ⟨x, _, rfl⟩ := List.mem_map.1 hp
        simp at e
        exact h e.1)]
      simp
theorem WM.at_ {B : Nat} {w : World} (h : WM B w (clsP L) (fldP L) (mthP L)) (hn : (L.map (·.name)).Nodup) (hs : ∀ u ∈ L, SmallUn u) (hl : L.length ≤ 1000000) : WAt w (B + 1 + 1 + 1) L := by
  refine ⟨hn, fun u hu => ⟨(hs u hu).name, (hs u hu).super⟩, hl, B, B + 1, B + 1 + 1, _, _, h.blk, ?_, h.m2.ext (fld_last hn), h.m3.ext (mth_last hn)⟩
  have e1 : cntA ((clsP L).map (·.1)) = L.length := by
    have : (clsP L).map (·.1) = L.map (·.name) := by unfold clsP; rw [List.map_map]; rfl
    rw [this, (cntA_eq _).2 hn, List.length_map]
  have := h.m1.ext (cls_last hn)
  rw [e1] at this
  exact this
end

end Go.Proofs.YtdkkpcbebhgbiaaGreatDoor

/- The walks over what hier asks of a unit: isLaid, followsOn, fieldMayBe, methodMayBe, mayBe; printed by gen/gen_zp.py. -/
namespace Go.Proofs.YtdkkpcbebhgbiaaGreatDoor
set_option maxRecDepth 100000
open Go.RowKit

theorem isB_any (L : List UnD) (c of : Bs) : isB L c of = (lineU L L.length c).any (·.name == of) := by
  unfold isB namesL
  rw [Bool.eq_iff_iff]
  simp
theorem below_one (w : World) (o : Obj) : Below w.heap.size w (w.alloc o) := (Below.refl _ _).alloc (Nat.le_refl _) _
abbrev untV (u : UnD) (Af : Option Addr) (nf cf : Nat) (Am : Option Addr) (nm cm : Nat) : Value := .agg #[.string (strB u.name), .string (strB u.super), .slice Af nf cf, .slice Am nm cm]
abbrev metV (x : MeD) (Ac : Option Addr) (nc cc : Nat) (At : Option Addr) (nt ct : Nat) (Ap : Option Addr) (np cp : Nat) : Value := .agg #[.bool x.static, .string (strB x.name), .string (strB x.desc), .int .i64 x.stack, .int .i64 x.locals, .slice Ac nc cc, .slice At nt ct, .slice Ap np cp]

set_option maxHeartbeats 2000000 in
theorem isLaid_any (p : Nat) (L : List UnD) (u : UnD) (Af : Option Addr) (nf cf : Nat) (Am : Option Addr) (nm cm : Nat) (w : World) (hW : WAt w p L) (hu : u.super.length ≤ 1000000) :
    Calls Tryz.prog 110 #[.pointer (some ⟨p, 0, none⟩), .agg #[.string (strB u.name), .string (strB u.super), .slice Af nf cf, .slice Am nm cm]] w fun e w' => e = .returned (.bool (isLaidP L u)) ∧ Below w.heap.size w w' := by
  unfold isLaidP
  rw [← isB_any]
  have HB0 : Hid (Below w.heap.size w (w.alloc (.cells #[.string (strB u.name), .string (strB u.super), .slice Af nf cf, .slice Am nm cm] 82))) := Lib.hid (below_one _ _)
  have k0 := Blk.new w 82 #[.string (strB u.name), .string (strB u.super), .slice Af nf cf, .slice Am nm cm]
  have C1 := Lib.hid (fun (W : World) (h : Below w.heap.size w W) => has_any p L u.super W (hW.below h) hu)
  have C2 := Lib.hid (fun (W : World) (h : Below w.heap.size w W) => is_any p L u.super u.name W (hW.below h) hu)
  have hsz : w.heap.size < (w.alloc (.cells #[.string (strB u.name), .string (strB u.super), .slice Af nf cf, .slice Am nm cm] 82)).heap.size := by simp
  have K1 : Hid (∀ W1 : World, Below (w.alloc (.cells #[.string (strB u.name), .string (strB u.super), .slice Af nf cf, .slice Am nm cm] 82)).heap.size (w.alloc (.cells #[.string (strB u.name), .string (strB u.super), .slice Af nf cf, .slice Am nm cm] 82)) W1 → W1.cell? ⟨w.heap.size, 0, none⟩ = some (.string (strB u.name)) ∧ W1.cell? ⟨w.heap.size, 1, none⟩ = some (.string (strB u.super))) := Lib.hid (fun W1 h => ⟨(k0.of (h.block _ hsz)).cell 0, (k0.of (h.block _ hsz)).cell 1⟩)
  clear hW k0 hsz
  cases h0 : (findU L u.super).isSome with
  | false =>
    rw [h0] at C1
    have HG : Hid (((findU L u.super).isSome && u.super != cSys && !(isB L u.super u.name)) = false) := Lib.hid (by rw [h0]; rfl)
    rw [h0] at HG
    clear h0
    go_enter Tryz.func110, Tryz.ntmps110
    go_wp2_with fail
    refine (C1.out _ HB0.out).mono ?_
    rintro e w1 ⟨rfl, hb⟩
    obtain ⟨q0, q1⟩ := K1.out _ hb
    have HB1 : Hid (Below w.heap.size w w1) := Lib.hid (HB0.out.trans (hb.mono HB0.out.size))
    clear hb
    go_wp2
    go_ret
    exact ⟨rfl, HB1.out⟩
  | true =>
    rw [h0] at C1
    clear h0
    cases h1 : (u.super != cSys) with
    | false =>
      have hs2 : (strB u.super).toList = [115, 121, 115] := by rw [strB_toList]; simpa [cSys] using h1
      clear h1
      go_enter Tryz.func110, Tryz.ntmps110
      go_wp2_with fail
      refine (C1.out _ HB0.out).mono ?_
      rintro e w1 ⟨rfl, hb⟩
      obtain ⟨q0, q1⟩ := K1.out _ hb
      have HB1 : Hid (Below w.heap.size w w1) := Lib.hid (HB0.out.trans (hb.mono HB0.out.size))
      clear hb
      go_wp2
      go_ret
      exact ⟨rfl, HB1.out⟩
    | true =>
      have hs2 : ¬ (strB u.super).toList = [115, 121, 115] := by rw [strB_toList]; simpa [cSys] using h1
      clear h1
      go_enter Tryz.func110, Tryz.ntmps110
      go_wp2_with fail
      refine (C1.out _ HB0.out).mono ?_
      rintro e w1 ⟨rfl, hb⟩
      obtain ⟨q0, q1⟩ := K1.out _ hb
      have HB1 : Hid (Below w.heap.size w w1) := Lib.hid (HB0.out.trans (hb.mono HB0.out.size))
      clear hb
      go_wp2_with fail
      refine (C2.out _ HB1.out).mono ?_
      rintro e w2 ⟨rfl, hb⟩
      have HB2 : Hid (Below w.heap.size w w2) := Lib.hid (HB1.out.trans (hb.mono HB1.out.size))
      clear hb
      go_wp2
      go_ret
      exact ⟨by simp [hs2], HB2.out⟩

set_option maxHeartbeats 2000000 in
theorem followsOn_any (p : Nat) (L : List UnD) (s : Bs) (x : MeD) (Ac : Option Addr) (nc cc : Nat) (At : Option Addr) (nt ct : Nat) (Ap : Option Addr) (np cp : Nat) (w : World) (hW : WAt w p L) (hs : s.length ≤ 1000000) (hn : x.name.length ≤ 1000000) (hd : x.desc.length ≤ 1000000) :
    Calls Tryz.prog 120 #[.pointer (some ⟨p, 0, none⟩), .string (strB s), metV x Ac nc cc At nt ct Ap np cp] w fun e w' => e = .returned (.bool (followsP L s x)) ∧ Below w.heap.size w w' := by
  have hb0 := below_one w (.cells #[.bool x.static, .string (strB x.name), .string (strB x.desc), .int .i64 x.stack, .int .i64 x.locals, .slice Ac nc cc, .slice At nt ct, .slice Ap np cp] 41)
  have k0 := Blk.new w 41 #[.bool x.static, .string (strB x.name), .string (strB x.desc), .int .i64 x.stack, .int .i64 x.locals, .slice Ac nc cc, .slice At nt ct, .slice Ap np cp]
  have C1 := Lib.hid (hmethod_any p L s x.name x.desc _ (hW.below hb0) hs hn hd)
  have HB0 := Lib.hid hb0
  have hg : followsP L s x = match mthF L s x.name x.desc with | none => true | some q => q.2 == x.static := rfl
  clear hW hb0
  cases hr : mthF L s x.name x.desc with
  | none =>
    rw [hr] at C1 hg
    have HG := Lib.hid hg
    clear hg hr
    go_enter Tryz.func120, Tryz.ntmps120
    go_wp2_with fail
    refine C1.out.mono ?_
    rintro e w1 ⟨rfl, hb⟩
    simp only [memR]
    go_wp2
    go_ret
    exact ⟨ret_bool (by rw [HG.out]), HB0.out.trans ((hb.mono HB0.out.size).alloc (Nat.le_trans HB0.out.size hb.size) _)⟩
  | some q =>
    rw [hr] at C1 hg
    have HG := Lib.hid hg
    clear hg hr
    go_enter Tryz.func120, Tryz.ntmps120
    go_wp2_with fail
    refine C1.out.mono ?_
    rintro e w1 ⟨rfl, hb⟩
    have k1 := k0.of (hb.block _ (by simp))
    have q0 : w1.cell? ⟨w.heap.size, 0, none⟩ = some (.bool x.static) := k1.cell 0
    have hlt := k1.lt
    simp only [memR]
    go_wp2
    go_ret
    exact ⟨ret_bool (by rw [HG.out]), HB0.out.trans ((hb.mono HB0.out.size).alloc (Nat.le_trans HB0.out.size hb.size) _)⟩

theorem fieldMayBe_any (p : Nat) (L : List UnD) (x : FdD) (w : World) (hW : WAt w p L) (hn : x.name.length ≤ 1000000) (hd : x.desc.length ≤ 1000000) :
    Calls Tryz.prog 116 #[.pointer (some ⟨p, 0, none⟩), .agg #[.bool x.static, .string (strB x.name), .string (strB x.desc)]] w fun e w' => e = .returned (.bool (fieldP L x)) ∧ Below w.heap.size w w' := by
  unfold fieldP
  have HB0 : Hid (Below w.heap.size w (w.alloc (.cells #[.bool x.static, .string (strB x.name), .string (strB x.desc)] 95))) := Lib.hid (below_one _ _)
  have k0 := Blk.new w 95 #[.bool x.static, .string (strB x.name), .string (strB x.desc)]
  have C1 := Lib.hid (fun (W : World) (h : Below w.heap.size w W) => aIsName_any x.name W hn)
  have C2 := Lib.hid (fun (W : World) (h : Below w.heap.size w W) => isType_any x.desc W hd)
  have C3 := Lib.hid (fun (W : World) (h : Below w.heap.size w W) => isThere_any p L x.desc W (hW.below h) hd)
  have hsz : w.heap.size < (w.alloc (.cells #[.bool x.static, .string (strB x.name), .string (strB x.desc)] 95)).heap.size := by simp
  have K1 : Hid (∀ W1 : World, Below (w.alloc (.cells #[.bool x.static, .string (strB x.name), .string (strB x.desc)] 95)).heap.size (w.alloc (.cells #[.bool x.static, .string (strB x.name), .string (strB x.desc)] 95)) W1 → W1.cell? ⟨w.heap.size, 2, none⟩ = some (.string (strB x.desc)) ∧ w.heap.size < W1.heap.size) := Lib.hid (fun W1 h => ⟨(k0.of (h.block _ hsz)).cell 2, Nat.lt_of_lt_of_le hsz h.size⟩)
  clear hW k0 hsz
  cases h0 : isNameB x.name with
  | false =>
    rw [h0] at C1
    clear h0
    go_enter Tryz.func116, Tryz.ntmps116
    go_wp2_with fail
    refine (C1.out _ HB0.out).mono ?_
    rintro e w1 ⟨rfl, hb⟩
    have HB1 : Hid (Below w.heap.size w w1) := Lib.hid (HB0.out.trans (hb.mono HB0.out.size))
    obtain ⟨q2, hlt⟩ := K1.out _ hb
    clear hb
    go_wp2
    go_ret
    exact ⟨rfl, HB1.out⟩
  | true =>
    rw [h0] at C1
    clear h0
    cases h1 : typeD 0 x.desc with
    | false =>
      rw [h1] at C2
      clear h1
      go_enter Tryz.func116, Tryz.ntmps116
      go_wp2_with fail
      refine (C1.out _ HB0.out).mono ?_
      rintro e w1 ⟨rfl, hb⟩
      have HB1 : Hid (Below w.heap.size w w1) := Lib.hid (HB0.out.trans (hb.mono HB0.out.size))
      obtain ⟨q2, hlt⟩ := K1.out _ hb
      clear hb
      go_wp2_with fail
      refine (C2.out _ HB1.out).mono ?_
      rintro e w2 ⟨rfl, hb⟩
      have q3 : w2.cell? ⟨w.heap.size, 2, none⟩ = some (.string (strB x.desc)) := (hb.cell (p := ⟨w.heap.size, 2, none⟩) hlt).trans q2
      have HB2 : Hid (Below w.heap.size w w2) := Lib.hid (HB1.out.trans (hb.mono HB1.out.size))
      clear hb
      go_wp2
      go_ret
      exact ⟨rfl, HB2.out⟩
    | true =>
      rw [h1] at C2
      clear h1
      go_enter Tryz.func116, Tryz.ntmps116
      go_wp2_with fail
      refine (C1.out _ HB0.out).mono ?_
      rintro e w1 ⟨rfl, hb⟩
      have HB1 : Hid (Below w.heap.size w w1) := Lib.hid (HB0.out.trans (hb.mono HB0.out.size))
      obtain ⟨q2, hlt⟩ := K1.out _ hb
      clear hb
      go_wp2_with fail
      refine (C2.out _ HB1.out).mono ?_
      rintro e w2 ⟨rfl, hb⟩
      have q3 : w2.cell? ⟨w.heap.size, 2, none⟩ = some (.string (strB x.desc)) := (hb.cell (p := ⟨w.heap.size, 2, none⟩) hlt).trans q2
      have HB2 : Hid (Below w.heap.size w w2) := Lib.hid (HB1.out.trans (hb.mono HB1.out.size))
      clear hb
      go_wp2_with fail
      refine (C3.out _ HB2.out).mono ?_
      rintro e w3 ⟨rfl, hb⟩
      have HB3 : Hid (Below w.heap.size w w3) := Lib.hid (HB2.out.trans (hb.mono HB2.out.size))
      clear hb
      go_wp2
      go_ret
      exact ⟨by simp, HB3.out⟩

theorem trapMayBe_any (p g : Nat) (L : List UnD) (x : TrD) (w : World) (hW : WAt w p L) (hg : w.cell? ⟨g, 0, none⟩ = some (.pointer (some ⟨p, 0, none⟩))) (hd : x.cls.length ≤ 1000000) :
    Calls Tryz.prog 173 #[.agg #[.int .i64 x.a, .int .i64 x.b, .int .i64 x.c, .string (strB x.cls)], .pointer (some ⟨g, 0, none⟩)] w fun e w' => e = .returned (.bool (x.cls.isEmpty || (findU L x.cls).isSome)) ∧ Below w.heap.size w w' := by
  have hb0 := below_one w (.cells #[.int .i64 x.a, .int .i64 x.b, .int .i64 x.c, .string (strB x.cls)] 133)
  have C1 := Lib.hid (has_any p L x.cls _ (hW.below hb0) hd)
  have HB0 := Lib.hid hb0
  have hgl := cell_lt hg
  clear hW hb0
  cases h0 : x.cls.isEmpty with
  | true =>
    have h1 : (strB x.cls).toList = [] := by rw [strB_toList]; simpa using h0
    have h2 : ((strB x.cls).toList == []) = true := by rw [h1]; rfl
    clear h0
    go_enter Tryz.func173, Tryz.ntmps173
    go_wp2
    go_ret
    exact ⟨by simp, HB0.out⟩
  | false =>
    have h1 : ¬ (strB x.cls).toList = [] := by rw [strB_toList]; simpa using h0
    have h2 : ((strB x.cls).toList.isEmpty) = false := by rw [strB_toList]; exact h0
    clear h0
    go_enter Tryz.func173, Tryz.ntmps173
    go_wp2_with fail
    refine C1.out.mono ?_
    rintro e w1 ⟨rfl, hb⟩
    go_wp2
    go_ret
    exact ⟨by simp, HB0.out.trans (hb.mono HB0.out.size)⟩

end Go.Proofs.YtdkkpcbebhgbiaaGreatDoor

/- The walks over hier's methodMayBe, mayBe; printed by gen/gen_zq.py. -/
namespace Go.Proofs.YtdkkpcbebhgbiaaGreatDoor
set_option maxRecDepth 100000
open Go.RowKit

theorem rowS_of_sl {w : World} {S : Nat → Prop} {A : Option Addr} {n c : Nat} {l : List Bs} (h : RowSl svC 1 w S A n c l) (hA : A = none → n = 0 ∧ c = 0) : RowS strT w S A n c l := by
  obtain ⟨h1, h2, h3, h4⟩ := h
  refine ⟨h1, h2, h3, hA, fun h0 => ?_⟩
  obtain ⟨b, o, e, hb, hs, hc⟩ := h4 h0
  refine ⟨b, o, e, hb, hs, fun i x hx => ⟨[.string (strB x)], fun j v hv => ?_, rfl⟩⟩
  have hj : j = 0 := by
    cases j with
    | zero => rfl
    | succ j => simp at hv
  subst hj
  simp at hv
  subst hv
  exact hc i x hx 0 (by omega)
theorem args_small {d : Bs} {q : List Bs × Bs} (h : methodF d = some q) : q.1.length ≤ 16 ∧ (∀ x ∈ q.1, x.length ≤ d.length) ∧ q.2.length ≤ d.length := by
  have hA : ∀ (k : Nat) (s : Bs), (∀ x ∈ (argsF k s).1, x.length ≤ s.length) ∧ (argsF k s).2.length ≤ s.length := by
    intro k
    induction k with
    | zero => intro s; exact ⟨fun x hx => (by cases hx), Nat.le_refl _⟩
    | succ k ih =>
      intro s
      unfold argsF
      split
      · exact ⟨fun x hx => (by cases hx), Nat.le_refl _⟩
      · obtain ⟨h1, h2⟩ := ih (s.drop (cutD 0 s))
        rw [List.length_drop] at h2
        refine ⟨fun x hx => ?_, by show (argsF k (s.drop (cutD 0 s))).2.length ≤ _; omega⟩
        rcases List.mem_cons.1 hx with rfl | hx
        · rw [List.length_take]; omega
        · have := h1 x hx
          rw [List.length_drop] at this
          omega
  cases d with
  | nil => cases h
  | cons x s =>
    unfold methodF at h
    simp only at h
    split at h
    · obtain ⟨h1, h2⟩ := hA 16 s
      cases hs : (argsF 16 s).2 with
      | nil => rw [hs] at h; cases h
      | cons y ret =>
        rw [hs] at h h2
        simp only at h
        split at h
        · cases h
          refine ⟨argsF_len 16 s, fun x hx => ?_, ?_⟩
          · have := h1 x hx; simp; omega
          · simp at h2 ⊢; omega
        · cases h
    · cases h

abbrev boxM (w : World) (p : Nat) (x : MeD) (Ac : Option Addr) (nc cc : Nat) (At : Option Addr) (nt ct : Nat) (Ap : Option Addr) (np cp : Nat) : World := (w.alloc (.cells #[.pointer (some ⟨p, 0, none⟩)] 24)).alloc (.cells #[.bool x.static, .string (strB x.name), .string (strB x.desc), .int .i64 x.stack, .int .i64 x.locals, .slice Ac nc cc, .slice At nt ct, .slice Ap np cp] 41)
set_option maxHeartbeats 4000000 in
theorem methodMayBe_any (p : Nat) (L : List UnD) (x : MeD) (Ac : Option Addr) (nc cc : Nat) (At : Option Addr) (nt ct : Nat) (Ap : Option Addr) (np cp : Nat) (w : World) (hW : WAt w p L) (hT : RowS trT w Empty At nt ct x.traps) (hn : x.name.length ≤ 1000000) (hd : x.desc.length ≤ 1000000) (ht : x.traps.length ≤ 1000000 ∧ ∀ t ∈ x.traps, t.cls.length ≤ 1000000) :
    Calls Tryz.prog 119 #[.pointer (some ⟨p, 0, none⟩), metV x Ac nc cc At nt ct Ap np cp] w fun e w' => e = .returned (.bool (methP L x)) ∧ Below w.heap.size w w' := by
  unfold methP trapsP
  obtain ⟨W1, hW1⟩ : ∃ W1, boxM w p x Ac nc cc At nt ct Ap np cp = W1 := ⟨_, rfl⟩
  have hbb : Below w.heap.size w W1 := by rw [← hW1]; exact ((Below.refl _ _).alloc (Nat.le_refl _) _).alloc (by simp) _
  have k0 : Blk W1 w.heap.size 24 #[.pointer (some ⟨p, 0, none⟩)] := by rw [← hW1]; exact (Blk.new w _ _).alloc _
  have k1 : Blk W1 (w.heap.size + 1) 41 #[.bool x.static, .string (strB x.name), .string (strB x.desc), .int .i64 x.stack, .int .i64 x.locals, .slice Ac nc cc, .slice At nt ct, .slice Ap np cp] := by
    rw [← hW1]
    have := Blk.new (w.alloc (.cells #[.pointer (some ⟨p, 0, none⟩)] 24)) 41 #[.bool x.static, .string (strB x.name), .string (strB x.desc), .int .i64 x.stack, .int .i64 x.locals, .slice Ac nc cc, .slice At nt ct, .slice Ap np cp]
    rwa [World.size_alloc] at this
  have hsz : W1.heap.size = w.heap.size + 1 + 1 := by rw [← hW1]; simp
  have hWB : WAt W1 p L := hW.below hbb
  have hTB := hT.below hbb
  have HB0 : Hid (Below W1.heap.size W1 W1) := Lib.hid (Below.refl _ _)
  have C1 := Lib.hid (method_any x.desc W1 hd)
  have C2 := Lib.hid (fun (W : World) (h : Below W1.heap.size W1 W) => aIsName_any x.name W hn)
  have C5 := Lib.hid (fun (W : World) (h : Below W1.heap.size W1 W) => allT_any w.heap.size W1.heap.size W1 W x.traps (fun t => t.cls.isEmpty || (findU L t.cls).isSome) (fun W' t hb ht' _ => trapMayBe_any p w.heap.size L t W' (hWB.below hb) ((k0.of (hb.block _ (by omega))).cell 0) (ht.2 t ht')) h (Nat.le_refl _) At nt ct (hTB.below h) (by rw [← hT.1]; exact ht.1))
  have K1 : Hid (∀ W : World, Below W1.heap.size W1 W → W.cell? ⟨w.heap.size, 0, none⟩ = some (.pointer (some ⟨p, 0, none⟩)) ∧ W.cell? ⟨w.heap.size + 1, 1, none⟩ = some (.string (strB x.name)) ∧ W.cell? ⟨w.heap.size + 1, 6, none⟩ = some (.slice At nt ct)) := Lib.hid (fun W h => ⟨(k0.of (h.block _ (by omega))).cell 0, (k1.of (h.block _ (by omega))).cell 1, (k1.of (h.block _ (by omega))).cell 6⟩)
  have c2 : W1.cell? ⟨w.heap.size + 1, 2, none⟩ = some (.string (strB x.desc)) := k1.cell 2
  have HBB := Lib.hid hbb
  unfold boxM at hW1
  have HW1 := Lib.hid hW1
  have HWB := Lib.hid hWB
  clear hW1 hbb k0 k1 hWB hTB hsz hW hT ht
  cases hm : methodF x.desc with
  | none =>
    have HMR : Hid (mRet (methodF x.desc) = []) := Lib.hid (by rw [hm]; rfl)
    have HME : Hid (mErr (methodF x.desc) = 8) := Lib.hid (by rw [hm]; rfl)
    have HG : Hid ((isNameB x.name && typesP L x.desc && x.traps.all (fun t => t.cls.isEmpty || (findU L t.cls).isSome)) = false) := Lib.hid (by unfold typesP; rw [hm]; simp)
    clear hm
    cases h0 : isNameB x.name with
    | false =>
      rw [h0] at C2 HG
      clear h0
      go_enter Tryz.func119, Tryz.ntmps119
      go_wp2_with fail
      rw [HW1.out]
      go_wp2_with fail
      refine C1.out.mono ?_
      rintro e w1 ⟨⟨A, n, c, rfl, hG⟩, hb⟩
      have HG1 := Lib.hid hG
      have HB1 : Hid (Below W1.heap.size W1 w1) := Lib.hid hb
      obtain ⟨q0, q1, q2⟩ := K1.out _ hb
      simp only [HMR.out, HME.out]
      clear hG hb
      go_wp2_with fail
      refine (C2.out _ HB1.out).mono ?_
      rintro e w2 ⟨rfl, hb⟩
      have HB2 : Hid (Below W1.heap.size W1 w2) := Lib.hid (HB1.out.trans (hb.mono HB1.out.size))
      clear hb
      go_wp2
      go_ret
      exact ⟨ret_bool (by rw [HG.out]), HBB.out.trans (HB2.out.mono HBB.out.size)⟩
    | true =>
      rw [h0] at C2 HG
      clear h0
      go_enter Tryz.func119, Tryz.ntmps119
      go_wp2_with fail
      rw [HW1.out]
      go_wp2_with fail
      refine C1.out.mono ?_
      rintro e w1 ⟨⟨A, n, c, rfl, hG⟩, hb⟩
      have HG1 := Lib.hid hG
      have HB1 : Hid (Below W1.heap.size W1 w1) := Lib.hid hb
      obtain ⟨q0, q1, q2⟩ := K1.out _ hb
      simp only [HMR.out, HME.out]
      clear hG hb
      go_wp2_with fail
      refine (C2.out _ HB1.out).mono ?_
      rintro e w2 ⟨rfl, hb⟩
      have HB2 : Hid (Below W1.heap.size W1 w2) := Lib.hid (HB1.out.trans (hb.mono HB1.out.size))
      clear hb
      go_wp2
      go_ret
      exact ⟨ret_bool (by rw [HG.out]), HBB.out.trans (HB2.out.mono HBB.out.size)⟩
  | some q =>
    have HMR : Hid (mRet (methodF x.desc) = q.2) := Lib.hid (by rw [hm]; rfl)
    have HME : Hid (mErr (methodF x.desc) = 0) := Lib.hid (by rw [hm]; rfl)
    have HMA : Hid (mArgs (methodF x.desc) = q.1) := Lib.hid (by rw [hm]; rfl)
    obtain ⟨hs1, hs2, hs3⟩ := args_small hm
    have C3 := Lib.hid (fun (W : World) (h : Below W1.heap.size W1 W) (A : Option Addr) (n c : Nat) (hR : RowS strT W Empty A n c q.1) => allS_any p W1.heap.size W1 W q.1 (thereU L) (fun W' t hb ht' _ => isThere_any p L t W' (HWB.out.below hb) (by have := hs2 t ht'; omega)) h (Nat.le_refl _) A n c hR (by rw [← hR.1]; omega))
    have C4 := Lib.hid (fun (W : World) (h : Below W1.heap.size W1 W) => isThere_any p L q.2 W (HWB.out.below h) (by omega))
    have hty : typesP L x.desc = (q.1.all (thereU L) && thereU L q.2) := by unfold typesP; rw [hm]
    rw [hty]
    clear hm hs1 hs2 hs3 hty
    cases h0 : isNameB x.name with
    | false =>
      rw [h0] at C2
      have HG : Hid ((false && (q.1.all (thereU L) && thereU L q.2) && x.traps.all (fun t => t.cls.isEmpty || (findU L t.cls).isSome)) = false) := Lib.hid (by simp)
      clear h0
      go_enter Tryz.func119, Tryz.ntmps119
      go_wp2_with fail
      rw [HW1.out]
      go_wp2_with fail
      refine C1.out.mono ?_
      rintro e w1 ⟨⟨A, n, c, rfl, hG⟩, hb⟩
      have HG1 := Lib.hid hG
      have HB1 : Hid (Below W1.heap.size W1 w1) := Lib.hid hb
      obtain ⟨q0, q1, q2⟩ := K1.out _ hb
      simp only [HMR.out, HME.out]
      clear hG hb
      go_wp2_with fail
      refine (C2.out _ HB1.out).mono ?_
      rintro e w2 ⟨rfl, hb⟩
      have HB2 : Hid (Below W1.heap.size W1 w2) := Lib.hid (HB1.out.trans (hb.mono HB1.out.size))
      clear hb
      go_wp2
      go_ret
      exact ⟨ret_bool (by rw [HG.out]), HBB.out.trans (HB2.out.mono HBB.out.size)⟩
    | true =>
      rw [h0] at C2
      clear h0
      cases h1 : q.1.all (thereU L) with
      | false =>
        rw [h1] at C3
        have HG : Hid ((true && (false && thereU L q.2) && x.traps.all (fun t => t.cls.isEmpty || (findU L t.cls).isSome)) = false) := Lib.hid (by simp)
        clear h1
        go_enter Tryz.func119, Tryz.ntmps119
        go_wp2_with fail
        rw [HW1.out]
        go_wp2_with fail
        refine C1.out.mono ?_
        rintro e w1 ⟨⟨A, n, c, rfl, hG⟩, hb⟩
        have HG1 := Lib.hid hG
        have HB1 : Hid (Below W1.heap.size W1 w1) := Lib.hid hb
        obtain ⟨q0, q1, q2⟩ := K1.out _ hb
        simp only [HMR.out, HME.out]
        clear hG hb
        go_wp2_with fail
        refine (C2.out _ HB1.out).mono ?_
        rintro e w2 ⟨rfl, hb2⟩
        have HB2 : Hid (Below W1.heap.size W1 w2) := Lib.hid (HB1.out.trans (hb2.mono HB1.out.size))
        have HR2 : Hid (RowS strT w2 Empty A n c q.1) := Lib.hid (by
          have h1 := rowS_of_sl HG1.out.row HG1.out.isNil
          rw [HMA.out] at h1
          exact h1.below hb2)
        obtain ⟨r0, r1, r2⟩ := K1.out _ HB2.out
        clear hb2
        go_wp2_with fail
        refine (C3.out _ HB2.out A n c HR2.out).mono ?_
        rintro e w3 ⟨rfl, hb⟩
        have HB3 : Hid (Below W1.heap.size W1 w3) := Lib.hid (HB2.out.trans (hb.mono HB2.out.size))
        obtain ⟨s0, s1, s2⟩ := K1.out _ HB3.out
        clear hb
        go_wp2
        go_ret
        exact ⟨ret_bool (by rw [HG.out]), HBB.out.trans (HB3.out.mono HBB.out.size)⟩
      | true =>
        rw [h1] at C3
        clear h1
        cases h2 : thereU L q.2 with
        | false =>
          rw [h2] at C4
          have HG : Hid ((true && (true && false) && x.traps.all (fun t => t.cls.isEmpty || (findU L t.cls).isSome)) = false) := Lib.hid (by simp)
          clear h2
          go_enter Tryz.func119, Tryz.ntmps119
          go_wp2_with fail
          rw [HW1.out]
          go_wp2_with fail
          refine C1.out.mono ?_
          rintro e w1 ⟨⟨A, n, c, rfl, hG⟩, hb⟩
          have HG1 := Lib.hid hG
          have HB1 : Hid (Below W1.heap.size W1 w1) := Lib.hid hb
          obtain ⟨q0, q1, q2⟩ := K1.out _ hb
          simp only [HMR.out, HME.out]
          clear hG hb
          go_wp2_with fail
          refine (C2.out _ HB1.out).mono ?_
          rintro e w2 ⟨rfl, hb2⟩
          have HB2 : Hid (Below W1.heap.size W1 w2) := Lib.hid (HB1.out.trans (hb2.mono HB1.out.size))
          have HR2 : Hid (RowS strT w2 Empty A n c q.1) := Lib.hid (by
            have h1 := rowS_of_sl HG1.out.row HG1.out.isNil
            rw [HMA.out] at h1
            exact h1.below hb2)
          obtain ⟨r0, r1, r2⟩ := K1.out _ HB2.out
          clear hb2
          go_wp2_with fail
          refine (C3.out _ HB2.out A n c HR2.out).mono ?_
          rintro e w3 ⟨rfl, hb⟩
          have HB3 : Hid (Below W1.heap.size W1 w3) := Lib.hid (HB2.out.trans (hb.mono HB2.out.size))
          obtain ⟨s0, s1, s2⟩ := K1.out _ HB3.out
          clear hb
          go_wp2_with fail
          refine (C4.out _ HB3.out).mono ?_
          rintro e w4 ⟨rfl, hb⟩
          have HB4 : Hid (Below W1.heap.size W1 w4) := Lib.hid (HB3.out.trans (hb.mono HB3.out.size))
          clear hb
          obtain ⟨t0, t1, t2⟩ := K1.out _ HB4.out
          go_wp2
          go_ret
          exact ⟨ret_bool (by rw [HG.out]), HBB.out.trans (HB4.out.mono HBB.out.size)⟩
        | true =>
          rw [h2] at C4
          clear h2
          have HG : Hid ((true && (true && true) && x.traps.all (fun t => t.cls.isEmpty || (findU L t.cls).isSome)) = x.traps.all (fun t => t.cls.isEmpty || (findU L t.cls).isSome)) := Lib.hid (by simp)
          go_enter Tryz.func119, Tryz.ntmps119
          go_wp2_with fail
          rw [HW1.out]
          go_wp2_with fail
          refine C1.out.mono ?_
          rintro e w1 ⟨⟨A, n, c, rfl, hG⟩, hb⟩
          have HG1 := Lib.hid hG
          have HB1 : Hid (Below W1.heap.size W1 w1) := Lib.hid hb
          obtain ⟨q0, q1, q2⟩ := K1.out _ hb
          simp only [HMR.out, HME.out]
          clear hG hb
          go_wp2_with fail
          refine (C2.out _ HB1.out).mono ?_
          rintro e w2 ⟨rfl, hb2⟩
          have HB2 : Hid (Below W1.heap.size W1 w2) := Lib.hid (HB1.out.trans (hb2.mono HB1.out.size))
          have HR2 : Hid (RowS strT w2 Empty A n c q.1) := Lib.hid (by
            have h1 := rowS_of_sl HG1.out.row HG1.out.isNil
            rw [HMA.out] at h1
            exact h1.below hb2)
          obtain ⟨r0, r1, r2⟩ := K1.out _ HB2.out
          clear hb2
          go_wp2_with fail
          refine (C3.out _ HB2.out A n c HR2.out).mono ?_
          rintro e w3 ⟨rfl, hb⟩
          have HB3 : Hid (Below W1.heap.size W1 w3) := Lib.hid (HB2.out.trans (hb.mono HB2.out.size))
          obtain ⟨s0, s1, s2⟩ := K1.out _ HB3.out
          clear hb
          go_wp2_with fail
          refine (C4.out _ HB3.out).mono ?_
          rintro e w4 ⟨rfl, hb⟩
          have HB4 : Hid (Below W1.heap.size W1 w4) := Lib.hid (HB3.out.trans (hb.mono HB3.out.size))
          clear hb
          obtain ⟨t0, t1, t2⟩ := K1.out _ HB4.out
          go_wp2_with fail
          refine (C5.out _ HB4.out).mono ?_
          rintro e w5 ⟨rfl, hb⟩
          have HB5 : Hid (Below W1.heap.size W1 w5) := Lib.hid (HB4.out.trans (hb.mono HB4.out.size))
          clear hb
          go_wp2
          go_ret
          exact ⟨ret_bool (by rw [HG.out]), HBB.out.trans (HB5.out.mono HBB.out.size)⟩

end Go.Proofs.YtdkkpcbebhgbiaaGreatDoor

/- The walk over hier's mayBe; printed by gen/gen_zr.py. -/
namespace Go.Proofs.YtdkkpcbebhgbiaaGreatDoor
set_option maxRecDepth 100000
open Go.RowKit

set_option maxHeartbeats 2000000 in
theorem mayBe3_any (p g1 g2 : Nat) (L : List UnD) (s : Bs) (x : MeD) (Ac : Option Addr) (nc cc : Nat) (At : Option Addr) (nt ct : Nat) (Ap : Option Addr) (np cp : Nat) (w : World) (hW : WAt w p L) (hT : RowS trT w Empty At nt ct x.traps) (hn : x.name.length ≤ 1000000) (hd : x.desc.length ≤ 1000000) (ht : x.traps.length ≤ 1000000 ∧ ∀ t ∈ x.traps, t.cls.length ≤ 1000000) (hs : s.length ≤ 1000000)
    (c1 : w.cell? ⟨g1, 0, none⟩ = some (.pointer (some ⟨p, 0, none⟩))) (c2 : w.cell? ⟨g2, 1, none⟩ = some (.string (strB s))) :
    Calls Tryz.prog 118 #[metV x Ac nc cc At nt ct Ap np cp, .pointer (some ⟨g1, 0, none⟩), .pointer (some ⟨g2, 0, none⟩)] w fun e w' => e = .returned (.bool (methP L x && followsP L s x)) ∧ Below w.heap.size w w' := by
  have hb0 := below_one w (.cells #[.bool x.static, .string (strB x.name), .string (strB x.desc), .int .i64 x.stack, .int .i64 x.locals, .slice Ac nc cc, .slice At nt ct, .slice Ap np cp] 41)
  have k0 := Blk.new w 41 #[.bool x.static, .string (strB x.name), .string (strB x.desc), .int .i64 x.stack, .int .i64 x.locals, .slice Ac nc cc, .slice At nt ct, .slice Ap np cp]
  have hl1 := cell_lt c1
  have hl2 := cell_lt c2
  have C1 := Lib.hid (methodMayBe_any p L x Ac nc cc At nt ct Ap np cp _ (hW.below hb0) (hT.below hb0) hn hd ht)
  have C2 := Lib.hid (fun (W : World) (h : Below w.heap.size w W) => followsOn_any p L s x Ac nc cc At nt ct Ap np cp W (hW.below h) hs hn hd)
  have HB0 := Lib.hid hb0
  have hsz : w.heap.size < (w.alloc (.cells #[.bool x.static, .string (strB x.name), .string (strB x.desc), .int .i64 x.stack, .int .i64 x.locals, .slice Ac nc cc, .slice At nt ct, .slice Ap np cp] 41)).heap.size := by simp
  have K1 : Hid (∀ W : World, Below (w.alloc (.cells #[.bool x.static, .string (strB x.name), .string (strB x.desc), .int .i64 x.stack, .int .i64 x.locals, .slice Ac nc cc, .slice At nt ct, .slice Ap np cp] 41)).heap.size (w.alloc (.cells #[.bool x.static, .string (strB x.name), .string (strB x.desc), .int .i64 x.stack, .int .i64 x.locals, .slice Ac nc cc, .slice At nt ct, .slice Ap np cp] 41)) W → W.cell? ⟨g1, 0, none⟩ = some (.pointer (some ⟨p, 0, none⟩)) ∧ W.cell? ⟨g2, 1, none⟩ = some (.string (strB s)) ∧ Blk W w.heap.size 41 #[.bool x.static, .string (strB x.name), .string (strB x.desc), .int .i64 x.stack, .int .i64 x.locals, .slice Ac nc cc, .slice At nt ct, .slice Ap np cp]) := Lib.hid (fun W h => ⟨((hb0.trans (h.mono hb0.size)).cell (p := ⟨g1, 0, none⟩) hl1).trans c1, ((hb0.trans (h.mono hb0.size)).cell (p := ⟨g2, 1, none⟩) hl2).trans c2, k0.of (h.block _ hsz)⟩)
  clear hW hT ht hb0 k0 hsz
  cases h0 : methP L x with
  | false =>
    rw [h0] at C1
    clear h0
    go_enter Tryz.func118, Tryz.ntmps118
    go_wp2_with fail
    refine C1.out.mono ?_
    rintro e w1 ⟨rfl, hb⟩
    obtain ⟨q0, q1, kb⟩ := K1.out _ hb
    have HB1 : Hid (Below w.heap.size w w1) := Lib.hid (HB0.out.trans (hb.mono HB0.out.size))
    have m0 : w1.cell? ⟨w.heap.size, 0, none⟩ = some (.bool x.static) := kb.cell 0
    have m1 : w1.cell? ⟨w.heap.size, 1, none⟩ = some (.string (strB x.name)) := kb.cell 1
    have m2 : w1.cell? ⟨w.heap.size, 2, none⟩ = some (.string (strB x.desc)) := kb.cell 2
    have m3 : w1.cell? ⟨w.heap.size, 3, none⟩ = some (.int .i64 x.stack) := kb.cell 3
    have m4 : w1.cell? ⟨w.heap.size, 4, none⟩ = some (.int .i64 x.locals) := kb.cell 4
    have m5 : w1.cell? ⟨w.heap.size, 5, none⟩ = some (.slice Ac nc cc) := kb.cell 5
    have m6 : w1.cell? ⟨w.heap.size, 6, none⟩ = some (.slice At nt ct) := kb.cell 6
    have m7 : w1.cell? ⟨w.heap.size, 7, none⟩ = some (.slice Ap np cp) := kb.cell 7
    clear hb kb
    go_wp2
    go_ret
    exact ⟨rfl, HB1.out⟩
  | true =>
    rw [h0] at C1
    clear h0
    go_enter Tryz.func118, Tryz.ntmps118
    go_wp2_with fail
    refine C1.out.mono ?_
    rintro e w1 ⟨rfl, hb⟩
    obtain ⟨q0, q1, kb⟩ := K1.out _ hb
    have HB1 : Hid (Below w.heap.size w w1) := Lib.hid (HB0.out.trans (hb.mono HB0.out.size))
    have m0 : w1.cell? ⟨w.heap.size, 0, none⟩ = some (.bool x.static) := kb.cell 0
    have m1 : w1.cell? ⟨w.heap.size, 1, none⟩ = some (.string (strB x.name)) := kb.cell 1
    have m2 : w1.cell? ⟨w.heap.size, 2, none⟩ = some (.string (strB x.desc)) := kb.cell 2
    have m3 : w1.cell? ⟨w.heap.size, 3, none⟩ = some (.int .i64 x.stack) := kb.cell 3
    have m4 : w1.cell? ⟨w.heap.size, 4, none⟩ = some (.int .i64 x.locals) := kb.cell 4
    have m5 : w1.cell? ⟨w.heap.size, 5, none⟩ = some (.slice Ac nc cc) := kb.cell 5
    have m6 : w1.cell? ⟨w.heap.size, 6, none⟩ = some (.slice At nt ct) := kb.cell 6
    have m7 : w1.cell? ⟨w.heap.size, 7, none⟩ = some (.slice Ap np cp) := kb.cell 7
    clear hb kb
    go_wp2_with fail
    refine (C2.out _ HB1.out).mono ?_
    rintro e w2 ⟨rfl, hb⟩
    go_wp2
    go_ret
    exact ⟨rfl, HB1.out.trans (hb.mono HB1.out.size)⟩

theorem own_key (l : List MeD) : decide ((l.map fun x => (([], x.name, x.desc) : Key3)).Nodup) = decide ((l.map fun m => (m.name, m.desc)).Nodup) := by
  refine decide_eq_decide.2 ?_
  have : (l.map fun x => (([], x.name, x.desc) : Key3)) = (l.map fun m => (m.name, m.desc)).map (fun q => (([], q.1, q.2) : Key3)) := by rw [List.map_map]; rfl
  rw [this]
  constructor
  · intro h
    exact h.of_map _ (fun a b hab e => hab (by rw [e]))
  · intro h
    exact List.Pairwise.map _ (fun a b hab e => hab (by simp at e; exact Prod.ext e.1 e.2)) h
abbrev boxU (w : World) (p : Nat) (u : UnD) (Af : Option Addr) (nf cf : Nat) (Am : Option Addr) (nm cm : Nat) : World := (w.alloc (.cells #[.pointer (some ⟨p, 0, none⟩)] 24)).alloc (.cells #[.string (strB u.name), .string (strB u.super), .slice Af nf cf, .slice Am nm cm] 82)
set_option maxHeartbeats 4000000 in
theorem mayBe_any (p : Nat) (L : List UnD) (u : UnD) (Af : Option Addr) (nf cf : Nat) (Am : Option Addr) (nm cm : Nat) (w : World) (hW : WAt w p L) (hF : RowS fdT w Empty Af nf cf u.fields) (hM : RowS meW w Empty Am nm cm u.meths) (hS : SmallUn u) :
    Calls Tryz.prog 55 #[.pointer (some ⟨p, 0, none⟩), .agg #[.string (strB u.name), .string (strB u.super), .slice Af nf cf, .slice Am nm cm]] w fun e w' => e = .returned (.bool (mayBeP L u)) ∧ Below w.heap.size w w' := by
  unfold mayBeP
  obtain ⟨W1, hW1⟩ : ∃ W1, boxU w p u Af nf cf Am nm cm = W1 := ⟨_, rfl⟩
  have hbb : Below w.heap.size w W1 := by rw [← hW1]; exact ((Below.refl _ _).alloc (Nat.le_refl _) _).alloc (by simp) _
  have k0 : Blk W1 w.heap.size 24 #[.pointer (some ⟨p, 0, none⟩)] := by rw [← hW1]; exact (Blk.new w _ _).alloc _
  have k1 : Blk W1 (w.heap.size + 1) 82 #[.string (strB u.name), .string (strB u.super), .slice Af nf cf, .slice Am nm cm] := by
    rw [← hW1]
    have := Blk.new (w.alloc (.cells #[.pointer (some ⟨p, 0, none⟩)] 24)) 82 #[.string (strB u.name), .string (strB u.super), .slice Af nf cf, .slice Am nm cm]
    rwa [World.size_alloc] at this
  have hsz : W1.heap.size = w.heap.size + 1 + 1 := by rw [← hW1]; simp
  have hWB : WAt W1 p L := hW.below hbb
  have hFB := hF.below hbb
  have hMB := hM.below hbb
  have hnf : nf ≤ 1000000 := by rw [← hF.1]; have := hS.fields; omega
  have hnm : nm ≤ 1000000 := by rw [← hM.1]; have := hS.meths; omega
  have HB0 : Hid (Below W1.heap.size W1 W1) := Lib.hid (Below.refl _ _)
  have C1 := Lib.hid (fun (W : World) (h : Below W1.heap.size W1 W) => isClass_any u.name W (by have := hS.name; omega))
  have C2 := Lib.hid (fun (W : World) (h : Below W1.heap.size W1 W) => isLaid_any p L u Af nf cf Am nm cm W (hWB.below h) hS.super)
  have C3 := Lib.hid (fun (W : World) (h : Below W1.heap.size W1 W) => ownF_any W u.fields Af nf cf (hFB.below h) hnf (fun x hx => (hS.fld x hx).1))
  have C4 := Lib.hid (fun (W : World) (h : Below W1.heap.size W1 W) => ownM_any W u.meths Am nm cm (hMB.below h) hnm (fun x hx => hS.mth x hx))
  have C5 := Lib.hid (fun (W : World) (h : Below W1.heap.size W1 W) => allF_any p W1.heap.size W1 W u.fields (fieldP L) (fun W' x hb hx _ => fieldMayBe_any p L x W' (hWB.below hb) (hS.fld x hx).1 (hS.fld x hx).2) h (Nat.le_refl _) Af nf cf (hFB.below h) hnf)
  have C6 := Lib.hid (fun (W : World) (h : Below W1.heap.size W1 W) => allM_any w.heap.size (w.heap.size + 1) W1.heap.size W1 W u.meths (fun m => methP L m && followsP L u.super m) (fun W' x Ac nc cc At nt ct Ap np cp hb hx hr => by
    obtain ⟨_, _, _, _, _, _, _, _, _, he, hT, _⟩ := hr
    simp only [List.cons.injEq, Value.slice.injEq, and_true, true_and] at he
    obtain ⟨_, ⟨rfl, rfl, rfl⟩, _⟩ := he
    exact mayBe3_any p w.heap.size (w.heap.size + 1) L u.super x Ac nc cc At nt ct Ap np cp W' (hWB.below hb) hT (hS.mth x hx).1 (hS.mth x hx).2 (hS.trap x hx) hS.super ((k0.of (hb.block _ (by omega))).cell 0) ((k1.of (hb.block _ (by omega))).cell 1)) h (Nat.le_refl _) Am nm cm (hMB.below h) hnm)
  rw [own_key] at C4
  have K1 : Hid (∀ W : World, Below W1.heap.size W1 W → Blk W w.heap.size 24 #[.pointer (some ⟨p, 0, none⟩)] ∧ Blk W (w.heap.size + 1) 82 #[.string (strB u.name), .string (strB u.super), .slice Af nf cf, .slice Am nm cm]) := Lib.hid (fun W h => ⟨k0.of (h.block _ (by omega)), k1.of (h.block _ (by omega))⟩)
  have c0 : W1.cell? ⟨w.heap.size + 1, 0, none⟩ = some (.string (strB u.name)) := k1.cell 0
  have HBB := Lib.hid hbb
  unfold boxU at hW1
  have HW1 := Lib.hid hW1
  clear hW1 hbb k0 k1 hWB hsz hW hF hM hFB hMB hS
  cases h0 : classB u.name with
  | false =>
    rw [h0] at C1
    have HG : Hid ((((((false && isLaidP L u) && decide ((u.fields.map (·.name)).Nodup)) && decide ((u.meths.map fun m => (m.name, m.desc)).Nodup)) && u.fields.all (fieldP L)) && u.meths.all (fun m => methP L m && followsP L u.super m)) = false) := Lib.hid (by simp)
    clear h0
    go_enter Tryz.func55, Tryz.ntmps55
    go_wp2_with fail
    rw [HW1.out]
    go_wp2_with fail
    refine (C1.out _ HB0.out).mono ?_
    rintro e w1 ⟨rfl, hb⟩
    have HB1 : Hid (Below W1.heap.size W1 w1) := Lib.hid (HB0.out.trans (hb.mono HB0.out.size))
    obtain ⟨ka, kb⟩ := K1.out _ HB1.out
    have p1 : w1.cell? ⟨w.heap.size, 0, none⟩ = some (.pointer (some ⟨p, 0, none⟩)) := ka.cell 0
    have u10 : w1.cell? ⟨w.heap.size + 1, 0, none⟩ = some (.string (strB u.name)) := kb.cell 0
    have u11 : w1.cell? ⟨w.heap.size + 1, 1, none⟩ = some (.string (strB u.super)) := kb.cell 1
    have u12 : w1.cell? ⟨w.heap.size + 1, 2, none⟩ = some (.slice Af nf cf) := kb.cell 2
    have u13 : w1.cell? ⟨w.heap.size + 1, 3, none⟩ = some (.slice Am nm cm) := kb.cell 3
    clear hb ka kb
    go_wp2
    go_ret
    exact ⟨ret_bool (by rw [HG.out]), HBB.out.trans (HB1.out.mono HBB.out.size)⟩
  | true =>
    rw [h0] at C1
    clear h0
    cases h1 : isLaidP L u with
    | false =>
      rw [h1] at C2
      have HG : Hid ((((((true && false) && decide ((u.fields.map (·.name)).Nodup)) && decide ((u.meths.map fun m => (m.name, m.desc)).Nodup)) && u.fields.all (fieldP L)) && u.meths.all (fun m => methP L m && followsP L u.super m)) = false) := Lib.hid (by simp)
      clear h1
      go_enter Tryz.func55, Tryz.ntmps55
      go_wp2_with fail
      rw [HW1.out]
      go_wp2_with fail
      refine (C1.out _ HB0.out).mono ?_
      rintro e w1 ⟨rfl, hb⟩
      have HB1 : Hid (Below W1.heap.size W1 w1) := Lib.hid (HB0.out.trans (hb.mono HB0.out.size))
      obtain ⟨ka, kb⟩ := K1.out _ HB1.out
      have p1 : w1.cell? ⟨w.heap.size, 0, none⟩ = some (.pointer (some ⟨p, 0, none⟩)) := ka.cell 0
      have u10 : w1.cell? ⟨w.heap.size + 1, 0, none⟩ = some (.string (strB u.name)) := kb.cell 0
      have u11 : w1.cell? ⟨w.heap.size + 1, 1, none⟩ = some (.string (strB u.super)) := kb.cell 1
      have u12 : w1.cell? ⟨w.heap.size + 1, 2, none⟩ = some (.slice Af nf cf) := kb.cell 2
      have u13 : w1.cell? ⟨w.heap.size + 1, 3, none⟩ = some (.slice Am nm cm) := kb.cell 3
      clear hb ka kb
      go_wp2_with fail
      refine (C2.out _ HB1.out).mono ?_
      rintro e w2 ⟨rfl, hb⟩
      have HB2 : Hid (Below W1.heap.size W1 w2) := Lib.hid (HB1.out.trans (hb.mono HB1.out.size))
      obtain ⟨ka, kb⟩ := K1.out _ HB2.out
      have p2 : w2.cell? ⟨w.heap.size, 0, none⟩ = some (.pointer (some ⟨p, 0, none⟩)) := ka.cell 0
      have u20 : w2.cell? ⟨w.heap.size + 1, 0, none⟩ = some (.string (strB u.name)) := kb.cell 0
      have u21 : w2.cell? ⟨w.heap.size + 1, 1, none⟩ = some (.string (strB u.super)) := kb.cell 1
      have u22 : w2.cell? ⟨w.heap.size + 1, 2, none⟩ = some (.slice Af nf cf) := kb.cell 2
      have u23 : w2.cell? ⟨w.heap.size + 1, 3, none⟩ = some (.slice Am nm cm) := kb.cell 3
      clear hb ka kb
      go_wp2
      go_ret
      exact ⟨ret_bool (by rw [HG.out]), HBB.out.trans (HB2.out.mono HBB.out.size)⟩
    | true =>
      rw [h1] at C2
      clear h1
      cases h2 : decide ((u.fields.map (·.name)).Nodup) with
      | false =>
        rw [h2] at C3
        have HG : Hid ((((((true && true) && false) && decide ((u.meths.map fun m => (m.name, m.desc)).Nodup)) && u.fields.all (fieldP L)) && u.meths.all (fun m => methP L m && followsP L u.super m)) = false) := Lib.hid (by simp)
        clear h2
        go_enter Tryz.func55, Tryz.ntmps55
        go_wp2_with fail
        rw [HW1.out]
        go_wp2_with fail
        refine (C1.out _ HB0.out).mono ?_
        rintro e w1 ⟨rfl, hb⟩
        have HB1 : Hid (Below W1.heap.size W1 w1) := Lib.hid (HB0.out.trans (hb.mono HB0.out.size))
        obtain ⟨ka, kb⟩ := K1.out _ HB1.out
        have p1 : w1.cell? ⟨w.heap.size, 0, none⟩ = some (.pointer (some ⟨p, 0, none⟩)) := ka.cell 0
        have u10 : w1.cell? ⟨w.heap.size + 1, 0, none⟩ = some (.string (strB u.name)) := kb.cell 0
        have u11 : w1.cell? ⟨w.heap.size + 1, 1, none⟩ = some (.string (strB u.super)) := kb.cell 1
        have u12 : w1.cell? ⟨w.heap.size + 1, 2, none⟩ = some (.slice Af nf cf) := kb.cell 2
        have u13 : w1.cell? ⟨w.heap.size + 1, 3, none⟩ = some (.slice Am nm cm) := kb.cell 3
        clear hb ka kb
        go_wp2_with fail
        refine (C2.out _ HB1.out).mono ?_
        rintro e w2 ⟨rfl, hb⟩
        have HB2 : Hid (Below W1.heap.size W1 w2) := Lib.hid (HB1.out.trans (hb.mono HB1.out.size))
        obtain ⟨ka, kb⟩ := K1.out _ HB2.out
        have p2 : w2.cell? ⟨w.heap.size, 0, none⟩ = some (.pointer (some ⟨p, 0, none⟩)) := ka.cell 0
        have u20 : w2.cell? ⟨w.heap.size + 1, 0, none⟩ = some (.string (strB u.name)) := kb.cell 0
        have u21 : w2.cell? ⟨w.heap.size + 1, 1, none⟩ = some (.string (strB u.super)) := kb.cell 1
        have u22 : w2.cell? ⟨w.heap.size + 1, 2, none⟩ = some (.slice Af nf cf) := kb.cell 2
        have u23 : w2.cell? ⟨w.heap.size + 1, 3, none⟩ = some (.slice Am nm cm) := kb.cell 3
        clear hb ka kb
        go_wp2_with fail
        refine (C3.out _ HB2.out).mono ?_
        rintro e w3 ⟨rfl, hb⟩
        have HB3 : Hid (Below W1.heap.size W1 w3) := Lib.hid (HB2.out.trans (hb.mono HB2.out.size))
        obtain ⟨ka, kb⟩ := K1.out _ HB3.out
        have p3 : w3.cell? ⟨w.heap.size, 0, none⟩ = some (.pointer (some ⟨p, 0, none⟩)) := ka.cell 0
        have u30 : w3.cell? ⟨w.heap.size + 1, 0, none⟩ = some (.string (strB u.name)) := kb.cell 0
        have u31 : w3.cell? ⟨w.heap.size + 1, 1, none⟩ = some (.string (strB u.super)) := kb.cell 1
        have u32 : w3.cell? ⟨w.heap.size + 1, 2, none⟩ = some (.slice Af nf cf) := kb.cell 2
        have u33 : w3.cell? ⟨w.heap.size + 1, 3, none⟩ = some (.slice Am nm cm) := kb.cell 3
        clear hb ka kb
        go_wp2
        go_ret
        exact ⟨ret_bool (by rw [HG.out]), HBB.out.trans (HB3.out.mono HBB.out.size)⟩
      | true =>
        rw [h2] at C3
        clear h2
        cases h3 : decide ((u.meths.map fun m => (m.name, m.desc)).Nodup) with
        | false =>
          rw [h3] at C4
          have HG : Hid ((((((true && true) && true) && false) && u.fields.all (fieldP L)) && u.meths.all (fun m => methP L m && followsP L u.super m)) = false) := Lib.hid (by simp)
          clear h3
          go_enter Tryz.func55, Tryz.ntmps55
          go_wp2_with fail
          rw [HW1.out]
          go_wp2_with fail
          refine (C1.out _ HB0.out).mono ?_
          rintro e w1 ⟨rfl, hb⟩
          have HB1 : Hid (Below W1.heap.size W1 w1) := Lib.hid (HB0.out.trans (hb.mono HB0.out.size))
          obtain ⟨ka, kb⟩ := K1.out _ HB1.out
          have p1 : w1.cell? ⟨w.heap.size, 0, none⟩ = some (.pointer (some ⟨p, 0, none⟩)) := ka.cell 0
          have u10 : w1.cell? ⟨w.heap.size + 1, 0, none⟩ = some (.string (strB u.name)) := kb.cell 0
          have u11 : w1.cell? ⟨w.heap.size + 1, 1, none⟩ = some (.string (strB u.super)) := kb.cell 1
          have u12 : w1.cell? ⟨w.heap.size + 1, 2, none⟩ = some (.slice Af nf cf) := kb.cell 2
          have u13 : w1.cell? ⟨w.heap.size + 1, 3, none⟩ = some (.slice Am nm cm) := kb.cell 3
          clear hb ka kb
          go_wp2_with fail
          refine (C2.out _ HB1.out).mono ?_
          rintro e w2 ⟨rfl, hb⟩
          have HB2 : Hid (Below W1.heap.size W1 w2) := Lib.hid (HB1.out.trans (hb.mono HB1.out.size))
          obtain ⟨ka, kb⟩ := K1.out _ HB2.out
          have p2 : w2.cell? ⟨w.heap.size, 0, none⟩ = some (.pointer (some ⟨p, 0, none⟩)) := ka.cell 0
          have u20 : w2.cell? ⟨w.heap.size + 1, 0, none⟩ = some (.string (strB u.name)) := kb.cell 0
          have u21 : w2.cell? ⟨w.heap.size + 1, 1, none⟩ = some (.string (strB u.super)) := kb.cell 1
          have u22 : w2.cell? ⟨w.heap.size + 1, 2, none⟩ = some (.slice Af nf cf) := kb.cell 2
          have u23 : w2.cell? ⟨w.heap.size + 1, 3, none⟩ = some (.slice Am nm cm) := kb.cell 3
          clear hb ka kb
          go_wp2_with fail
          refine (C3.out _ HB2.out).mono ?_
          rintro e w3 ⟨rfl, hb⟩
          have HB3 : Hid (Below W1.heap.size W1 w3) := Lib.hid (HB2.out.trans (hb.mono HB2.out.size))
          obtain ⟨ka, kb⟩ := K1.out _ HB3.out
          have p3 : w3.cell? ⟨w.heap.size, 0, none⟩ = some (.pointer (some ⟨p, 0, none⟩)) := ka.cell 0
          have u30 : w3.cell? ⟨w.heap.size + 1, 0, none⟩ = some (.string (strB u.name)) := kb.cell 0
          have u31 : w3.cell? ⟨w.heap.size + 1, 1, none⟩ = some (.string (strB u.super)) := kb.cell 1
          have u32 : w3.cell? ⟨w.heap.size + 1, 2, none⟩ = some (.slice Af nf cf) := kb.cell 2
          have u33 : w3.cell? ⟨w.heap.size + 1, 3, none⟩ = some (.slice Am nm cm) := kb.cell 3
          clear hb ka kb
          go_wp2_with fail
          refine (C4.out _ HB3.out).mono ?_
          rintro e w4 ⟨rfl, hb⟩
          have HB4 : Hid (Below W1.heap.size W1 w4) := Lib.hid (HB3.out.trans (hb.mono HB3.out.size))
          obtain ⟨ka, kb⟩ := K1.out _ HB4.out
          have p4 : w4.cell? ⟨w.heap.size, 0, none⟩ = some (.pointer (some ⟨p, 0, none⟩)) := ka.cell 0
          have u40 : w4.cell? ⟨w.heap.size + 1, 0, none⟩ = some (.string (strB u.name)) := kb.cell 0
          have u41 : w4.cell? ⟨w.heap.size + 1, 1, none⟩ = some (.string (strB u.super)) := kb.cell 1
          have u42 : w4.cell? ⟨w.heap.size + 1, 2, none⟩ = some (.slice Af nf cf) := kb.cell 2
          have u43 : w4.cell? ⟨w.heap.size + 1, 3, none⟩ = some (.slice Am nm cm) := kb.cell 3
          clear hb ka kb
          go_wp2
          go_ret
          exact ⟨ret_bool (by rw [HG.out]), HBB.out.trans (HB4.out.mono HBB.out.size)⟩
        | true =>
          rw [h3] at C4
          clear h3
          cases h4 : u.fields.all (fieldP L) with
          | false =>
            rw [h4] at C5
            have HG : Hid ((((((true && true) && true) && true) && false) && u.meths.all (fun m => methP L m && followsP L u.super m)) = false) := Lib.hid (by simp)
            clear h4
            go_enter Tryz.func55, Tryz.ntmps55
            go_wp2_with fail
            rw [HW1.out]
            go_wp2_with fail
            refine (C1.out _ HB0.out).mono ?_
            rintro e w1 ⟨rfl, hb⟩
            have HB1 : Hid (Below W1.heap.size W1 w1) := Lib.hid (HB0.out.trans (hb.mono HB0.out.size))
            obtain ⟨ka, kb⟩ := K1.out _ HB1.out
            have p1 : w1.cell? ⟨w.heap.size, 0, none⟩ = some (.pointer (some ⟨p, 0, none⟩)) := ka.cell 0
            have u10 : w1.cell? ⟨w.heap.size + 1, 0, none⟩ = some (.string (strB u.name)) := kb.cell 0
            have u11 : w1.cell? ⟨w.heap.size + 1, 1, none⟩ = some (.string (strB u.super)) := kb.cell 1
            have u12 : w1.cell? ⟨w.heap.size + 1, 2, none⟩ = some (.slice Af nf cf) := kb.cell 2
            have u13 : w1.cell? ⟨w.heap.size + 1, 3, none⟩ = some (.slice Am nm cm) := kb.cell 3
            clear hb ka kb
            go_wp2_with fail
            refine (C2.out _ HB1.out).mono ?_
            rintro e w2 ⟨rfl, hb⟩
            have HB2 : Hid (Below W1.heap.size W1 w2) := Lib.hid (HB1.out.trans (hb.mono HB1.out.size))
            obtain ⟨ka, kb⟩ := K1.out _ HB2.out
            have p2 : w2.cell? ⟨w.heap.size, 0, none⟩ = some (.pointer (some ⟨p, 0, none⟩)) := ka.cell 0
            have u20 : w2.cell? ⟨w.heap.size + 1, 0, none⟩ = some (.string (strB u.name)) := kb.cell 0
            have u21 : w2.cell? ⟨w.heap.size + 1, 1, none⟩ = some (.string (strB u.super)) := kb.cell 1
            have u22 : w2.cell? ⟨w.heap.size + 1, 2, none⟩ = some (.slice Af nf cf) := kb.cell 2
            have u23 : w2.cell? ⟨w.heap.size + 1, 3, none⟩ = some (.slice Am nm cm) := kb.cell 3
            clear hb ka kb
            go_wp2_with fail
            refine (C3.out _ HB2.out).mono ?_
            rintro e w3 ⟨rfl, hb⟩
            have HB3 : Hid (Below W1.heap.size W1 w3) := Lib.hid (HB2.out.trans (hb.mono HB2.out.size))
            obtain ⟨ka, kb⟩ := K1.out _ HB3.out
            have p3 : w3.cell? ⟨w.heap.size, 0, none⟩ = some (.pointer (some ⟨p, 0, none⟩)) := ka.cell 0
            have u30 : w3.cell? ⟨w.heap.size + 1, 0, none⟩ = some (.string (strB u.name)) := kb.cell 0
            have u31 : w3.cell? ⟨w.heap.size + 1, 1, none⟩ = some (.string (strB u.super)) := kb.cell 1
            have u32 : w3.cell? ⟨w.heap.size + 1, 2, none⟩ = some (.slice Af nf cf) := kb.cell 2
            have u33 : w3.cell? ⟨w.heap.size + 1, 3, none⟩ = some (.slice Am nm cm) := kb.cell 3
            clear hb ka kb
            go_wp2_with fail
            refine (C4.out _ HB3.out).mono ?_
            rintro e w4 ⟨rfl, hb⟩
            have HB4 : Hid (Below W1.heap.size W1 w4) := Lib.hid (HB3.out.trans (hb.mono HB3.out.size))
            obtain ⟨ka, kb⟩ := K1.out _ HB4.out
            have p4 : w4.cell? ⟨w.heap.size, 0, none⟩ = some (.pointer (some ⟨p, 0, none⟩)) := ka.cell 0
            have u40 : w4.cell? ⟨w.heap.size + 1, 0, none⟩ = some (.string (strB u.name)) := kb.cell 0
            have u41 : w4.cell? ⟨w.heap.size + 1, 1, none⟩ = some (.string (strB u.super)) := kb.cell 1
            have u42 : w4.cell? ⟨w.heap.size + 1, 2, none⟩ = some (.slice Af nf cf) := kb.cell 2
            have u43 : w4.cell? ⟨w.heap.size + 1, 3, none⟩ = some (.slice Am nm cm) := kb.cell 3
            clear hb ka kb
            go_wp2_with fail
            refine (C5.out _ HB4.out).mono ?_
            rintro e w5 ⟨rfl, hb⟩
            have HB5 : Hid (Below W1.heap.size W1 w5) := Lib.hid (HB4.out.trans (hb.mono HB4.out.size))
            obtain ⟨ka, kb⟩ := K1.out _ HB5.out
            have p5 : w5.cell? ⟨w.heap.size, 0, none⟩ = some (.pointer (some ⟨p, 0, none⟩)) := ka.cell 0
            have u50 : w5.cell? ⟨w.heap.size + 1, 0, none⟩ = some (.string (strB u.name)) := kb.cell 0
            have u51 : w5.cell? ⟨w.heap.size + 1, 1, none⟩ = some (.string (strB u.super)) := kb.cell 1
            have u52 : w5.cell? ⟨w.heap.size + 1, 2, none⟩ = some (.slice Af nf cf) := kb.cell 2
            have u53 : w5.cell? ⟨w.heap.size + 1, 3, none⟩ = some (.slice Am nm cm) := kb.cell 3
            clear hb ka kb
            go_wp2
            go_ret
            exact ⟨ret_bool (by rw [HG.out]), HBB.out.trans (HB5.out.mono HBB.out.size)⟩
          | true =>
            rw [h4] at C5
            clear h4
            have HG : Hid ((((((true && true) && true) && true) && true) && u.meths.all (fun m => methP L m && followsP L u.super m)) = u.meths.all (fun m => methP L m && followsP L u.super m)) := Lib.hid (by simp)
            go_enter Tryz.func55, Tryz.ntmps55
            go_wp2_with fail
            rw [HW1.out]
            go_wp2_with fail
            refine (C1.out _ HB0.out).mono ?_
            rintro e w1 ⟨rfl, hb⟩
            have HB1 : Hid (Below W1.heap.size W1 w1) := Lib.hid (HB0.out.trans (hb.mono HB0.out.size))
            obtain ⟨ka, kb⟩ := K1.out _ HB1.out
            have p1 : w1.cell? ⟨w.heap.size, 0, none⟩ = some (.pointer (some ⟨p, 0, none⟩)) := ka.cell 0
            have u10 : w1.cell? ⟨w.heap.size + 1, 0, none⟩ = some (.string (strB u.name)) := kb.cell 0
            have u11 : w1.cell? ⟨w.heap.size + 1, 1, none⟩ = some (.string (strB u.super)) := kb.cell 1
            have u12 : w1.cell? ⟨w.heap.size + 1, 2, none⟩ = some (.slice Af nf cf) := kb.cell 2
            have u13 : w1.cell? ⟨w.heap.size + 1, 3, none⟩ = some (.slice Am nm cm) := kb.cell 3
            clear hb ka kb
            go_wp2_with fail
            refine (C2.out _ HB1.out).mono ?_
            rintro e w2 ⟨rfl, hb⟩
            have HB2 : Hid (Below W1.heap.size W1 w2) := Lib.hid (HB1.out.trans (hb.mono HB1.out.size))
            obtain ⟨ka, kb⟩ := K1.out _ HB2.out
            have p2 : w2.cell? ⟨w.heap.size, 0, none⟩ = some (.pointer (some ⟨p, 0, none⟩)) := ka.cell 0
            have u20 : w2.cell? ⟨w.heap.size + 1, 0, none⟩ = some (.string (strB u.name)) := kb.cell 0
            have u21 : w2.cell? ⟨w.heap.size + 1, 1, none⟩ = some (.string (strB u.super)) := kb.cell 1
            have u22 : w2.cell? ⟨w.heap.size + 1, 2, none⟩ = some (.slice Af nf cf) := kb.cell 2
            have u23 : w2.cell? ⟨w.heap.size + 1, 3, none⟩ = some (.slice Am nm cm) := kb.cell 3
            clear hb ka kb
            go_wp2_with fail
            refine (C3.out _ HB2.out).mono ?_
            rintro e w3 ⟨rfl, hb⟩
            have HB3 : Hid (Below W1.heap.size W1 w3) := Lib.hid (HB2.out.trans (hb.mono HB2.out.size))
            obtain ⟨ka, kb⟩ := K1.out _ HB3.out
            have p3 : w3.cell? ⟨w.heap.size, 0, none⟩ = some (.pointer (some ⟨p, 0, none⟩)) := ka.cell 0
            have u30 : w3.cell? ⟨w.heap.size + 1, 0, none⟩ = some (.string (strB u.name)) := kb.cell 0
            have u31 : w3.cell? ⟨w.heap.size + 1, 1, none⟩ = some (.string (strB u.super)) := kb.cell 1
            have u32 : w3.cell? ⟨w.heap.size + 1, 2, none⟩ = some (.slice Af nf cf) := kb.cell 2
            have u33 : w3.cell? ⟨w.heap.size + 1, 3, none⟩ = some (.slice Am nm cm) := kb.cell 3
            clear hb ka kb
            go_wp2_with fail
            refine (C4.out _ HB3.out).mono ?_
            rintro e w4 ⟨rfl, hb⟩
            have HB4 : Hid (Below W1.heap.size W1 w4) := Lib.hid (HB3.out.trans (hb.mono HB3.out.size))
            obtain ⟨ka, kb⟩ := K1.out _ HB4.out
            have p4 : w4.cell? ⟨w.heap.size, 0, none⟩ = some (.pointer (some ⟨p, 0, none⟩)) := ka.cell 0
            have u40 : w4.cell? ⟨w.heap.size + 1, 0, none⟩ = some (.string (strB u.name)) := kb.cell 0
            have u41 : w4.cell? ⟨w.heap.size + 1, 1, none⟩ = some (.string (strB u.super)) := kb.cell 1
            have u42 : w4.cell? ⟨w.heap.size + 1, 2, none⟩ = some (.slice Af nf cf) := kb.cell 2
            have u43 : w4.cell? ⟨w.heap.size + 1, 3, none⟩ = some (.slice Am nm cm) := kb.cell 3
            clear hb ka kb
            go_wp2_with fail
            refine (C5.out _ HB4.out).mono ?_
            rintro e w5 ⟨rfl, hb⟩
            have HB5 : Hid (Below W1.heap.size W1 w5) := Lib.hid (HB4.out.trans (hb.mono HB4.out.size))
            obtain ⟨ka, kb⟩ := K1.out _ HB5.out
            have p5 : w5.cell? ⟨w.heap.size, 0, none⟩ = some (.pointer (some ⟨p, 0, none⟩)) := ka.cell 0
            have u50 : w5.cell? ⟨w.heap.size + 1, 0, none⟩ = some (.string (strB u.name)) := kb.cell 0
            have u51 : w5.cell? ⟨w.heap.size + 1, 1, none⟩ = some (.string (strB u.super)) := kb.cell 1
            have u52 : w5.cell? ⟨w.heap.size + 1, 2, none⟩ = some (.slice Af nf cf) := kb.cell 2
            have u53 : w5.cell? ⟨w.heap.size + 1, 3, none⟩ = some (.slice Am nm cm) := kb.cell 3
            clear hb ka kb
            go_wp2_with fail
            refine (C6.out _ HB5.out).mono ?_
            rintro e w6 ⟨rfl, hb⟩
            have HB6 : Hid (Below W1.heap.size W1 w6) := Lib.hid (HB5.out.trans (hb.mono HB5.out.size))
            obtain ⟨ka, kb⟩ := K1.out _ HB6.out
            have p6 : w6.cell? ⟨w.heap.size, 0, none⟩ = some (.pointer (some ⟨p, 0, none⟩)) := ka.cell 0
            have u60 : w6.cell? ⟨w.heap.size + 1, 0, none⟩ = some (.string (strB u.name)) := kb.cell 0
            have u61 : w6.cell? ⟨w.heap.size + 1, 1, none⟩ = some (.string (strB u.super)) := kb.cell 1
            have u62 : w6.cell? ⟨w.heap.size + 1, 2, none⟩ = some (.slice Af nf cf) := kb.cell 2
            have u63 : w6.cell? ⟨w.heap.size + 1, 3, none⟩ = some (.slice Am nm cm) := kb.cell 3
            clear hb ka kb
            go_wp2
            go_ret
            exact ⟨ret_bool (by rw [HG.out]), HBB.out.trans (HB6.out.mono HBB.out.size)⟩

end Go.Proofs.YtdkkpcbebhgbiaaGreatDoor
